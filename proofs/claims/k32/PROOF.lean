import PyProof.Rows.All
import Wide.All
import OpenK.AllK
import Wide.FinOn
import Lean
import PyProof.EqAt
import PyProof.EqKinds
import PyProof.TupleCall
import PyProof.ZipIter
import KE.KTryDeep
import KE.KIsAll
import KE.KIntText
import PyProof.ExcArgsOwn
import PySem.Challenge.RW_stackwarden_k32_records_only_come
abbrev av:=PySem.W.Frag
theorem R8:0<=PySem.sizeLine:=by decide
theorem FT:1<=PySem.sizeLine:=by decide
theorem By:2<=PySem.sizeLine:=by decide
theorem UY:3<=PySem.sizeLine:=by decide
theorem UZ:4<=PySem.sizeLine:=by decide
theorem sz6:6<=PySem.sizeLine:=by decide
theorem bJ{α:Type}{a b:α}(h:a∈[b]):a=b:=List.mem_singleton.mp h
theorem bN{α:Type}{l:List α}{i:Nat}{a:α}(h:l[i]?=some a):∃h:i < l.length,l[i]=a:=List.getElem?_eq_some_iff.mp h
theorem cV{α:Type}{l:List α}{i:Nat}(h:i < l.length):l[i]?=some l[i]:=List.getElem?_eq_getElem h
set_option Elab.async false
set_option compiler.extract_closed false
set_option linter.all false
set_option maxRecDepth 100000
namespace L2
open PySem PySem.Spec PyProof.Rows
abbrev Key:=Sum Int Str
def OA:Key->Value->Bool
 | .inl k,v=>Value.isInt k v
 | .inr x,v=>Value.isStrOf x v
def Vx(w:World):Key->Int
 | .inl k=>hashInt k
 | .inr x=>hashStr w x
theorem cb:∀{k:Key} {v:Value},OA k v=true->(∃i t,k=Sum.inl i/\v=Value.int i t)∨(∃x t,k=Sum.inr x/\v=Value.str x t)
 | .inl i,v,h=>by
  obtain⟨t,e⟩:=Value.isInt_shape (k:=i) (v:=v) h
  exact .inl ⟨i,t,rfl,e⟩
 | .inr x,v,h=>by
  obtain⟨t,e⟩:=Value.isStrOf_shape (x:=x) (v:=v) h
  exact .inr ⟨x,t,rfl,e⟩
theorem Pf(a b:Int):decide ((Sum.inl a:Key)=Sum.inl b)=(a == b):=by
 by_cases e:a=b
 ·subst e;simp
 ·have h:¬ (Sum.inl a:Key)=Sum.inl b:=λq=>e (Sum.inl.inj q)
  rw[decide_eq_false h]
  exact(beq_eq_false_iff_ne.mpr e).symm
theorem Pg(a b:Str):decide ((Sum.inr a:Key)=Sum.inr b)=decide (a=b):=by
 by_cases e:a=b
 ·subst e;simp
 ·have h:¬ (Sum.inr a:Key)=Sum.inr b:=λq=>e (Sum.inr.inj q)
  rw[decide_eq_false h,decide_eq_false e]
theorem Ph(a:Int)(b:Str):decide ((Sum.inl a:Key)=Sum.inr b)=false:=decide_eq_false (λq=>nomatch q)
theorem Pj(a:Str)(b:Int):decide ((Sum.inr a:Key)=Sum.inl b)=false:=decide_eq_false (λq=>nomatch q)
def C5(prog:Program)(w:World):PySem.KeyKind prog w Key where
 is:=OA
 hash:=Vx w
 inj:=λv a b ha hb=>by
  rcases cb ha with⟨i,t,rfl,rfl⟩ | ⟨x,t,rfl,rfl⟩
  ·rcases cb hb with⟨j,u,rfl,e⟩ | ⟨y,u,rfl,e⟩
   ·injection e with e1 _;rw[e1]
   ·exact nomatch e
  ·rcases cb hb with⟨j,u,rfl,e⟩ | ⟨y,u,rfl,e⟩
   ·exact nomatch e
   ·injection e with e1 _;rw[e1]
 byValue:=λk v h=>by
  rcases cb h with⟨i,t,rfl,rfl⟩ | ⟨x,t,rfl,rfl⟩<;>rfl
 pyHash:=λhv h=>by
  rcases cb hv with⟨i,t,rfl,rfl⟩ | ⟨x,t,rfl,rfl⟩
  ·exact wpAny_pyHash_int h
  ·exact wpAny_pyHash_str h
 eqBool:=λhu hv h=>by
  rcases cb hu with⟨i,t,rfl,rfl⟩ | ⟨x,t,rfl,rfl⟩
  ·rcases cb hv with⟨j,u,rfl,rfl⟩ | ⟨y,u,rfl,rfl⟩
   ·rw[Pf]at h;exact wpAny_eqBool_int h
   ·rw[Ph]at h;exact SeqAt.EqAt.int_str i t y u _ _ _ _ h
  ·rcases cb hv with⟨j,u,rfl,rfl⟩ | ⟨y,u,rfl,rfl⟩
   ·rw[Pj]at h;exact SeqAt.EqAt.str_int x t j u _ _ _ _ h
   ·rw[Pg]at h;exact wpAny_eqBool_str h
 «strs»:=λk x t v h=>by
  rcases cb h with⟨i,u,rfl,e⟩ | ⟨y,u,rfl,e⟩
  ·exact nomatch e
  ·injection e with e1 _
   subst e1
   cases v<;>rfl
end L2
namespace L2
open PySem PySem.Spec PyProof.Rows
inductive V where
 | non | bl (b:Bool) | int (i:Int) | str (x:Str) | byt (b:Array UInt8) | flt (b:UInt64) | ref (a:Addr) | ty (n:String)
 deriving DecidableEq
def RelV:V->Value->Prop
 | .non,u=>u=Value.none
 | .bl b,u=>u=Value.bool b
 | .int i,u=>∃t,u=Value.int i t
 | .str x,u=>∃t,u=Value.str x t
 | .byt b,u=>∃t,u=Value.bytes b t
 | .flt b,u=>∃t,u=Value.float b t
 | .ref a,u=>u=Value.ref a
 | .ty n,u=>u=Value.type n
abbrev Vals:List V->List Value->Prop:=Paired RelV
theorem Vals.length{xs:List V}{us:List Value}(r:Vals xs us):xs.length=us.length:=Paired.length r
theorem Vals.get:∀{xs:List V} {us:List Value} {i:Nat} {x:V},Vals xs us->xs[i]?=some x->∃u,us[i]?=some u/\RelV x u
 | _,_,_,_,.nil,e=>by simp at e
 | _,_,0,_,.cons r _,e=>by simp at e;subst e;exact⟨_,rfl,r⟩
 | _,_,i + 1,x,.cons _ t,e=>by
  obtain⟨u,h1,h2⟩:=Vals.get (i:=i) (x:=x) t (by simpa using e)
  exact⟨u,by simpa using h1,h2⟩
theorem Vals.set{x:V}{u:Value}(r:RelV x u):∀{xs:List V} {us:List Value} (i:Nat),Vals xs us->Vals (xs.set i x) (us.set i u)
 | _,_,_,.nil=>.nil
 | _,_,0,.cons _ t=>.cons r t
 | _,_,i + 1,.cons q t=>.cons q (Vals.set r i t)
theorem Vals.append:∀{xs ys:List V} {us ws:List Value},Vals xs us->Vals ys ws->Vals (xs++ys) (us++ws)
 | _,_,_,_,.nil,s=>s
 | _,_,_,_,.cons r t,s=>.cons r (Vals.append t s)
theorem Vals.take:∀{xs:List V} {us:List Value} (n:Nat),Vals xs us->Vals (xs.take n) (us.take n)
 | _,_,0,_=>.nil
 | _,_,_ + 1,.nil=>.nil
 | _,_,n + 1,.cons r t=>.cons r (Vals.take n t)
theorem Vals.drop:∀{xs:List V} {us:List Value} (n:Nat),Vals xs us->Vals (xs.drop n) (us.drop n)
 | _,_,0,r=>r
 | _,_,_ + 1,.nil=>.nil
 | _,_,n + 1,.cons _ t=>Vals.drop n t
def uR:Option V->Option Value->Prop
 | some v,some u=>RelV v u
 | none,none=>True
 | _,_=>False
def KV{κ:Type}:List (κ×V)->List (κ×Value)->Prop:=Paired λ(p:κ×V) (q:κ×Value)=>p.1=q.1/\RelV p.2 q.2
def kV:Key->V
 | .inl i=>.int i
 | .inr x=>.str x
inductive HO where
 | lst (xs:List V)
 | tup (xs:List V)
 | dK (kvs:List (Key×V)) | dT (kvs:List (List Key×V))
 | set (S:Int->Bool) (n:Nat)
 | ins (C dx:Addr) (fs:List (Str×V))
 | own (x:Addr)
 | xd (fs:List (Str×V))
 | met (f x:Addr)
 | rng (lo hi:Int)
 | uA (o:Obj) (u:HO)
 | tbl (ps:Array Value)
 | ext (φ:Heap->Prop)
abbrev Hp:=Addr->Option HO
def upd(H:Hp)(a:Addr)(o:HO):Hp:=λb=>if b=a then some o else H b
theorem uS{H:Hp}{a:Addr}{o:HO}:upd H a o a=some o:=by unfold upd;rw[if_pos rfl]
theorem uN{H:Hp}{a b:Addr}{o:HO}(h:b≠a):upd H a o b=H b:=by unfold upd;rw[if_neg h]
theorem FU{H:Hp}{a b:Addr}{o u:HO}(h:H a=some o)(h':H b=some u)(d:o≠u):a≠b:=by
 intro e;subst e;rw[h]at h';exact d (Option.some.inj h')
theorem nN{H:Hp}{a b:Addr}{o:HO}(h:H a=some o)(h':H b=none):a≠b:=by
 intro e;subst e;rw[h]at h';cases h'
section
variable (P:Program) (w:World)
def ip(H:Hp)(h:Heap)(a:Addr):HO->Prop
 | .lst xs=>xs.length<=sizeLine/\∃(its:List Value) (n:Nat),Vals xs its/\h.get? a=some {cls:=.type "list",data:=.seq its.toArray n}
 | .tup xs=>xs.length<=sizeLine/\∃its:List Value,Vals xs its/\IsTup h a its.toArray
 | .dK kvs=>kvs.length<=sizeLine/\(a == sysModules)=false/\∃vs,KV kvs vs/\h.DictOf (C5 P w) a vs
 | .dT kvs=>kvs.length<=sizeLine/\(a == sysModules)=false/\∃xs:List (List Key×Addr×Value),
   Paired (λ(p:List Key×V) (q:List Key×Addr×Value)=>p.1=q.1/\H q.2.1=some (.tup (p.1.map kV))/\RelV p.2 q.2.2) kvs xs /\
   ∃o es ep,h.get? a=some o/\o.ExactDict/\o.data=.dict es ep/\es.toList=xs.map (entryOfKey (tupleKind (C5 P w)))/\(xs.map (·.1)).Nodup
 | .set S n=>h.SetOf (intKind P w) a S n
 | .ins C dx fs=>H dx=some (.own a)/\fs.length<=1000/\dx≠a/\h.get? a=some (PySem.W.instObj C dx) /\
   ∃mA,h.Ns1 dx mA/\(∀f,uR (fs.lookup f) (mA f))/\PySem.Within mA (fs.map (·.1))
 | .own _=>∃o,h.get? a=some o
 | .xd fs=>∃mA,h.Ns1 a mA/\∀f,uR (fs.lookup f) (mA f)
 | .rng lo hi=>∃t u v,h.get? a=some {cls:=.type "range",data:=.fields #[.int lo t,.int hi u,.int 1 v]}
 | .uA o u=>h.get? a=some o/\ip H h a u
 | .tbl ps=>h.get? a=some {cls:=.none,data:=.fields ps}
 | .met f x=>h.get? a=some (PySem.W.methodObj (.ref f) (.ref x))
 | .ext φ=>φ h/\(∃o,h.get? a=some o)/\∀h1 h2:Heap,φ h1->(∀o,h1.get? a=some o->h2.get? a=some o)->φ h2
def ud(H:Hp)(h:Heap):Prop:=∀a o,H a=some o->ip P w H h a o
end
section
variable {P:Program} {w:World} {H H':Hp} {h h':Heap} {a:Addr} {o:HO}
theorem ip.lt(x:ip P w H h a o):a < h.objs.size:=by
 cases o with
 | lst xs=>obtain⟨_,_,_,_,e⟩:=x;exact Heap.lt_size e
 | tup xs=>obtain⟨_,_,_,p⟩:=x;exact p.lt
 | dK kvs=>obtain⟨_,_,_,_,o,_,_,e,_⟩:=x;exact Heap.lt_size e
 | dT kvs=>obtain⟨_,_,_,_,o,_,_,e,_⟩:=x;exact Heap.lt_size e
 | set S n=>obtain⟨o,_,_,_,e,_⟩:=x;exact Heap.lt_size e
 | ins C dx fs=>obtain⟨_,_,_,e,_⟩:=x;exact Heap.lt_size e
 | own y=>obtain⟨_,e⟩:=x;exact Heap.lt_size e
 | xd fs=>obtain⟨_,⟨_,_,_,e,_⟩,_⟩:=x;exact Heap.lt_size e
 | rng lo hi=>obtain⟨_,_,_,e⟩:=x;exact Heap.lt_size e
 | uA ob u=>obtain⟨e,_⟩:=x;exact Heap.lt_size e
 | tbl ps=>exact Heap.lt_size (show h.get? a=some _ from x)
 | met f y=>exact Heap.lt_size (show h.get? a=some _ from x)
 | ext φ=>obtain⟨_,⟨_,e⟩,_⟩:=x;exact Heap.lt_size e
theorem Paired.Sq{α β:Type}{F G:α->β->Prop}:∀{l₁:List α} {l₂:List β},Paired F l₁ l₂->(∀a b,F a b->G a b)->Paired G l₁ l₂
 | _,_,.nil,_=>.nil
 | _,_,.cons r t,f=>.cons (f _ _ r) (Paired.Sq t f)
theorem ip.BD(x:ip P w H h a o)(k:∀b u,(b=a∨H b=some (.own a))->h.get? b=some u->h'.get? b=some u)
  (ho:∀b,H b=some (.own a)->H' b=some (.own a)) (ht:∀b xs,H b=some (.tup xs)->H' b=some (.tup xs)):ip P w H' h' a o:=by
 induction o with
 | lst xs=>obtain⟨z,its,n,r,e⟩:=x;exact⟨z,its,n,r,k _ _ (.inl rfl) e⟩
 | tup xs=>obtain⟨z,its,r,ob,e,c⟩:=x;exact⟨z,its,r,ob,k _ _ (.inl rfl) e,c⟩
 | dK kvs=>obtain⟨z,y,vs,r,ob,es,ep,e,c⟩:=x;exact⟨z,y,vs,r,ob,es,ep,k _ _ (.inl rfl) e,c⟩
 | dT kvs =>
  obtain⟨z,y,xs,r,ob,es,ep,e,c⟩:=x
  exact⟨z,y,xs,Paired.Sq r λp q z=>⟨z.1,ht _ _ z.2.1,z.2.2⟩,ob,es,ep,k _ _ (.inl rfl) e,c⟩
 | set S n=>obtain⟨ob,es,ep,t,e,c⟩:=x;exact⟨ob,es,ep,t,k _ _ (.inl rfl) e,c⟩
 | ins C dx fs =>
  obtain⟨d,z,ne,e,mA,⟨od,es,ep,e2,c⟩,r⟩:=x
  exact⟨ho _ d,z,ne,k _ _ (.inl rfl) e,mA,⟨od,es,ep,k _ _ (.inr d) e2,c⟩,r⟩
 | own y=>obtain⟨ob,e⟩:=x;exact⟨ob,k _ _ (.inl rfl) e⟩
 | xd fs=>obtain⟨mA,⟨od,es,ep,e,c⟩,r⟩:=x;exact⟨mA,⟨od,es,ep,k _ _ (.inl rfl) e,c⟩,r⟩
 | rng lo hi=>obtain⟨t,u,v,e⟩:=x;exact⟨t,u,v,k _ _ (.inl rfl) e⟩
 | uA ob u ih=>obtain⟨e,q⟩:=x;exact⟨k _ _ (.inl rfl) e,ih q⟩
 | tbl ps =>
  have e:h.get? a=some {cls:=.none,data:=.fields ps}:=x
  show h'.get? a=some {cls:=.none,data:=.fields ps}
  exact k a _ (.inl rfl) e
 | met f y =>
  have e:h.get? a=some (PySem.W.methodObj (.ref f) (.ref y)):=x
  show h'.get? a=some (PySem.W.methodObj (.ref f) (.ref y))
  exact k a _ (.inl rfl) e
 | ext φ=>obtain⟨p,⟨o,e⟩,st⟩:=x;exact⟨st _ _ p λo q=>k _ _ (.inl rfl) q,⟨o,k _ _ (.inl rfl) e⟩,st⟩
theorem ud.lt(x:ud P w H h)(e:H a=some o):a < h.objs.size:=(x a o e).lt
theorem ud.fresh(x:ud P w H h)(e:h.objs.size<=a):H a=none:=by
 cases q:H a with
 | none=>rfl
 | some u=>exact absurd (Nat.lt_of_lt_of_le (x.lt q) e) (Nat.lt_irrefl _)
theorem ud.kept(x:ud P w H h)(k:∀b u,h.get? b=some u->h'.get? b=some u):ud P w H h':=λa o e =>
 (x a o e).BD (λb u _ q=>k b u q) (λ_ q=>q) λ_ _ q=>q
theorem ud.laid(x:ud P w H h)(k:∀b u,h.get? b=some u->h'.get? b=some u)(hp:h.objs.size<=a)(new:ip P w (upd H a o) h' a o):ud P w (upd H a o) h':=λb u e=>by
 have hn:=x.fresh hp
 by_cases hb:b=a
 ·subst hb;rw[uS]at e;cases e;exact new
 ·rw[uN hb]at e
  exact(x b u e).BD (λc v _ q=>k c v q) (λc q=>by rw[uN (nN q hn)];exact q) λc xs q=>by rw[uN (nN q hn)];exact q
end
def Rd(H:Hp)(a:Addr)(u:HO):Prop:=H a=some u∨∃o,H a=some (.uA o u)
theorem Rd.ok{P:Program}{w:World}{H:Hp}{h:Heap}{a:Addr}{u:HO}(r:Rd H a u)(x:ud P w H h):ip P w H h a u:=by
 rcases r with r | ⟨o,r⟩
 ·exact x a u r
 ·obtain⟨_,q⟩:=x a _ r
  exact q
def U0:Option HO->Prop
 | some (.lst _)=>True
 | some (.dK _)=>True
 | some (.dT _)=>True
 | some (.set _ _)=>True
 | some (.ins _ _ _)=>True
 | some (.ext _)=>True
 | _=>False
section
variable {P:Program} {w:World} {H:Hp} {h h':Heap} {x e:Addr} {o':HO}
theorem ud.write(ok:ud P w H h)(mu:U0 (H x))(he:e=x∨H e=some (.own x))(k:∀b u,b≠e->h.get? b=some u->h'.get? b=some u)(heo:∃u,h'.get? e=some u)
  (new:ip P w (upd H x o') h' x o'):ud P w (upd H x o') h':=λb u q=>by
 have nown:∀c y,H c=some (.own y)->c≠x:=λc y r z=>by subst z;rw[r]at mu;exact mu
 have ntup:∀c xs,H c=some (.tup xs)->c≠x:=λc xs r z=>by subst z;rw[r]at mu;exact mu
 by_cases hb:b=x
 ·subst hb;rw[uS]at q;cases q;exact new
 ·rw[uN hb]at q
  by_cases hbe:b=e
  ·have q':H b=some (.own x):=by
    rcases he with z | z
    ·exact absurd (hbe.trans z) hb
    ·rw[hbe];exact z
   rw[q]at q';cases q'
   obtain⟨v,hv⟩:=heo
   exact⟨v,by rw[hbe];exact hv⟩
  ·refine(ok b u q).BD (λc v hc r=>k c v ?_ r) (λc r=>by rw[uN (nown c b r)];exact r) λc xs r=>by rw[uN (ntup c xs r)];exact r
   rcases hc with rfl | hc
   ·exact hbe
   ·rintro rfl
    rcases he with z | z
    ·exact nown c b hc z
    ·rw[hc]at z;cases z;exact hb rfl
end
structure Un(fs ex:List Addr)(H H':Hp)(h h':Heap):Prop where
 keep:∀b o,h.get? b=some o->H b=none->b∉fs->b∉ex->h'.get? b=some o
 slot:∀b o,h.get? b=some o->H b=none->b∈fs->b∉ex->∃sl,h'.get? b=some {o with slots:=sl}
 free:∀b o,h.get? b=some o->H b=none->b∉ex->H' b=none
 there:∀b o,h.get? b=some o->b∉ex->∃o',h'.get? b=some o'
 tups:∀b xs,H b=some (.tup xs)->H' b=some (.tup xs)
 jD:∀b o u,H b=some (.uA o u)->H' b=some (.uA o u)
 tbls:∀b ps,H b=some (.tbl ps)->∃more,H' b=some (.tbl (ps++more))
section
variable {fs fs' ex ex':List Addr} {H H1 H2:Hp} {h h1 h2 h':Heap} {a x e:Addr} {o:HO}
theorem Un.any(u:Un fs ex H H1 h h1){b:Addr}{ob:Obj}(q:h.get? b=some ob)(n:H b=none)(hx:b∉ex):∃sl,h1.get? b=some {ob with slots:=sl}:=by
 by_cases hb:b∈fs
 ·exact u.slot b ob q n hb hx
 ·exact⟨ob.slots,u.keep b ob q n hb hx⟩
theorem Un.kept(k:∀b u,h.get? b=some u->h'.get? b=some u):Un fs ex H H h h' :=
 ⟨λb ob q _ _ _=>k b ob q,λb ob q _ _ _=>⟨ob.slots,k b ob q⟩,λ_ _ _ n _=>n,λb ob q _=>⟨ob,k b ob q⟩,λ_ _ q=>q,λ_ _ _ q=>q,λ_ ps q=>⟨#[],by rw[q];simp⟩⟩
theorem Un.refl:Un fs ex H H h h:=Un.kept λ_ _ q=>q
theorem Un.laid(k:∀b u,h.get? b=some u->h'.get? b=some u)(hp:h.objs.size<=a)(hn:H a=none):Un fs ex H (upd H a o) h h' where
 keep:=λb u q _ _ _=>k b u q
 slot:=λb u q _ _ _=>⟨u.slots,k b u q⟩
 free:=λb u q n _=>by rw[uN (Nat.ne_of_lt (Nat.lt_of_lt_of_le (Heap.lt_size q) hp))];exact n
 there:=λb u q _=>⟨u,k b u q⟩
 tups:=λb xs q=>by rw[uN (nN q hn)];exact q
 jD:=λb u xs q=>by rw[uN (nN q hn)];exact q
 tbls:=λb ps q=>⟨#[],by rw[uN (nN q hn),q];simp⟩
theorem Un.write(mu:U0 (H x))(he:e=x∨H e=some (.own x))(k:∀b u,b≠e->h.get? b=some u->h'.get? b=some u)(heo:∃u,h'.get? e=some u):Un fs ex H (upd H x o) h h':=by
 have hx:∀b,H b=none->b≠x:=λb n z=>by subst z;rw[n]at mu;exact mu
 have hb:∀b,H b=none->b≠e:=λb n z=>by
  subst z
  rcases he with r | r
  ·exact hx b n r
  ·rw[n]at r;cases r
 have hm:∀b u,H b=some u->¬ U0 (some u)->b≠x:=λb u q nm z=>by subst z;rw[q]at mu;exact nm mu
 refine⟨λb u q n _ _=>k b u (hb b n) q,λb u q n _ _=>⟨u.slots,k b u (hb b n) q⟩,λb u q n _=>by rw[uN (hx b n)];exact n,λb u q _=>?_,
  λb xs q=>by rw[uN (hm b _ q λz=>z)];exact q,λb u xs q=>by rw[uN (hm b _ q λz=>z)];exact q,λb ps q=>⟨#[],by rw[uN (hm b _ q λz=>z),q];simp⟩⟩
 by_cases hbe:b=e
 ·subst hbe;exact heo
 ·exact⟨u,k b u hbe q⟩
end
def U1(h:Heap)(H:Hp):List Addr:=(List.range h.objs.size).filter λa=>(H a).isSome
def yg(h:Heap)(H:Hp):Heap:=PySem.W.hideAll h (U1 h H)
theorem DM(h:Heap)(H:Hp):(yg h H).objs.size=h.objs.size:=PySem.W.hideAll_size _ _
theorem FV{h:Heap}{H:Hp}{b:Addr}{o:Obj}(e:h.get? b=some o)(n:H b=none):(yg h H).get? b=some o :=
 PySem.W.hideAll_get _ e λhm=>by
  have q:(H b).isSome=true:=(List.mem_filter.mp hm).2
  rw[n]at q;simp at q
theorem Lm{h:Heap}{H:Hp}{b:Addr}{o:Obj}(e:(yg h H).get? b=some o):h.get? b=some o/\H b=none:=by
 have e':h.get? b=some o:=PySem.W.of_hideAll (U1 h H) e
 refine⟨e',?_⟩
 cases q:H b with
 | none=>rfl
 | some x =>
  have hm:b∈U1 h H:=List.mem_filter.mpr ⟨List.mem_range.mpr (Heap.lt_size e'),by simp[q]⟩
  have z:(yg h H).get? b=none:=PySem.W.hideAll_none (U1 h H) hm
  rw[z]at e;cases e
def Ln(g h:Heap)(L:Addr):List (Addr×Obj):=(List.range h.objs.size).filterMap λa=>if a=L∨(g.get? a).isSome=true then none else(h.get? a).map λo=>(a,o)
def rest(g h:Heap)(L d:Addr):List (Addr×Obj):=(Ln g h L).filter λp=>decide (p.1≠d)
end L2
namespace L2
open PySem PySem.Spec PyProof.Rows
structure Mod(K:av)(mg:Str->Option Value)(base:Heap):Prop where
 kin:K.In base
 glob:base.Ns mainGlobals mg
 blt:∃mb,base.Ns builtinsNs mb/\∀x:Str,x≠"__name__"->mb x=bootBuiltins x
 nolimit:base.NoLimit
structure Cx where
 prog:Program
 w:World
 K:av
 mg:Str->Option Value
 base:Heap
 A:Around
 N:List Str
 s₀:Shared
 H₀:Hp
 env:Env
 outer:List Env
 stack:List Env
 ex:List Addr
 fn:Str->Bool
 calm:Bool
 pn:List (Addr×Obj)
 xe:Value->Shared->Prop
def aV(l:List Env):List Addr:=l.filterMap (·.frame)
abbrev Cx.fs(X:Cx):List Addr:=aV X.outer
def U4(sc:Scope)(x:Str):Prop:=sc.names.lookup x=some .local∨sc.names.lookup x=some .cell∨sc.names.lookup x=some .free
def Loc(sc:Scope)(x:Str):Prop:=sc.names.lookup x=some .local∨sc.names.lookup x=some .cell
def Look(env:Env)(h:Heap)(m:Str->Option Value)(x:Str)(u:Value):Prop :=
 (env.kindOf x=some .local/\m x=some u)∨((env.kindOf x=some .cell∨env.kindOf x=some .free)/\∃c,env.cells.lookup x=some c/\h.IsCell c (some u))
structure Cx.Ok(X:Cx):Prop where
 mod:Mod X.K X.mg X.base
 kind:X.env.scope.kind=.function
 glob:X.env.globals=mainGlobals
 blt:X.env.builtins=builtinsNs
 above:X.s₀.heap.objs.size<=X.env.locals
 inj:∀x y c,X.env.cells.lookup x=some c->X.env.cells.lookup y=some c->x=y
 has:∀x,(X.env.kindOf x=some .cell∨X.env.kindOf x=some .free)->∃c,X.env.cells.lookup x=some c
 cab:∀x c,X.fn x=true->X.env.cells.lookup x=some c->X.s₀.heap.objs.size<=c
 hd:X.calm=true->X.A.handled=none
 frames:X.A.frames=some X.stack
 stk:X.stack=X.outer∨(X.stack=X.env::X.outer/\X.env.frame=some X.env.locals)
 exf:∀b∈X.ex,b≠X.env.locals/\∀x c,X.env.cells.lookup x=some c->c≠b
 bs:∀b o,X.base.get? b=some o->X.s₀.heap.get? b=some o/\X.H₀ b=none
 bsz:X.base.objs.size<=X.s₀.heap.objs.size
 noex:∀b o,X.base.get? b=some o->b∉X.ex
 exfs:∀b∈X.ex,b∉X.fs
 ue:X.s₀.heap.FunFrames X.base X.outer
 frf:∀b∈X.fs,X.H₀ b=none
structure Inv(X:Cx)(pins:List (Addr×Obj))(σ:List (Option V))(H:Hp)(s:Shared):Prop where
 ok:X.Ok
 os:s.os=X.s₀.os
 bare:AllBare s.gens
 base:Un X.fs X.ex X.H₀ H X.s₀.heap s.heap
 loc:∃m,s.heap.Ns X.env.locals m/\∀(i:Nat) (x:Str) (v:V),X.N[i]?=some x->σ[i]?=some (some v)->U4 X.env.scope x->∃u,RelV v u/\Look X.env s.heap m x u
 cell:∀x c,X.env.cells.lookup x=some c->∃v,s.heap.IsCell c v
 free:H X.env.locals=none
 freeC:∀x c,X.env.cells.lookup x=some c->H c=none
 pin:∀p∈X.pn++pins,s.heap.get? p.1=some p.2/\H p.1=none/\p.1≠X.env.locals/\p.1∉X.fs/\∀v,p.2.data≠.cell v
 hok:ud X.prog X.w H s.heap
 len:σ.length=X.N.length
section
variable {X:Cx} {pins:List (Addr×Obj)} {σ:List (Option V)} {H H':Hp} {s:Shared} {h':Heap}
theorem Cx.Ok.Vy(ok:X.Ok){b:Addr}{o:Obj}(e:X.base.get? b=some o):b∉X.fs:=λhb=>by
 have:=(ok.ue.mem hb).1
 rw[e]at this;cases this
theorem Inv.bs(I:Inv X pins σ H s):∀b o,X.base.get? b=some o->s.heap.get? b=some o/\H b=none:=λb o e =>
 ⟨I.base.keep b o (I.ok.bs b o e).1 (I.ok.bs b o e).2 (I.ok.Vy e) (I.ok.noex b o e),I.base.free b o (I.ok.bs b o e).1 (I.ok.bs b o e).2 (I.ok.noex b o e)⟩
theorem Inv.bk(I:Inv X pins σ H s):∀b o,X.base.get? b=some o->s.heap.get? b=some o:=λb o e=>(I.bs b o e).1
theorem Inv.mod(I:Inv X pins σ H s):Mod X.K X.mg X.base:=I.ok.mod
theorem Inv.wA(I:Inv X pins σ H s):X.K.In s.heap:=I.ok.mod.kin.keeps I.bk
theorem Inv.lt(I:Inv X pins σ H s):X.env.locals < s.heap.objs.size:=let ⟨_,hn,_⟩:=I.loc;hn.lt
theorem Inv.sz(I:Inv X pins σ H s):X.s₀.heap.objs.size<=s.heap.objs.size:=Nat.le_trans I.ok.above (Nat.le_of_lt I.lt)
theorem Inv.Vz(I:Inv X pins σ H s){a:Addr}(h:s.heap.objs.size<=a):a∉X.fs:=λhb=>by
 obtain⟨_,o,ho,_⟩:=I.ok.ue.mem hb
 exact absurd (Nat.lt_of_lt_of_le (Heap.lt_size ho) (Nat.le_trans I.sz h)) (Nat.lt_irrefl _)
theorem Inv.Pk(I:Inv X pins σ H s):∀x c,X.env.cells.lookup x=some c->c≠X.env.locals:=λx c e z=>by
 obtain⟨v,o,ho,hd⟩:=I.cell x c e
 obtain⟨m,⟨o',es,ep,ho',hd',_⟩,_⟩:=I.loc
 rw[z,ho']at ho;cases ho;rw[hd']at hd;cases hd
theorem Inv.ue(I:Inv X pins σ H s):s.heap.FunFrames X.base X.outer:=by
 have all:∀(l:List Env),(∀b∈aV l,b∈X.fs)->X.s₀.heap.FunFrames X.base l->s.heap.FunFrames X.base l:=by
  intro l
  induction l with
  | nil=>intro _ _;trivial
  | cons env r ih =>
   intro hs hl
   obtain⟨hk,⟨L,o,hf,hn,ho,hd⟩,hr⟩:=hl
   have hL:L∈X.fs:=hs L (by unfold aV;rw[List.filterMap_cons,hf];exact List.mem_cons_self)
   obtain⟨sl,e⟩:=I.base.slot L o ho (I.ok.frf L hL) hL λz=>I.ok.exfs L z hL
   exact⟨hk,⟨L,_,hf,hn,e,hd⟩,ih (λb hb=>hs b (by unfold aV;rw[List.filterMap_cons,hf];exact List.mem_cons_of_mem _ hb)) hr⟩
 exact all X.outer (λ_ hb=>hb) I.ok.ue
theorem Inv.stack(I:Inv X pins σ H s):s.heap.FunFrames X.base X.stack:=by
 rcases I.ok.stk with e | ⟨e,hf⟩
 ·rw[e];exact I.ue
 ·rw[e]
  obtain⟨m,hn,_⟩:=I.loc
  refine .cons (by rw[I.ok.kind];decide) hf hn ?_ I.ue
  exact Heap.get?_none_of_le (Nat.le_trans I.ok.bsz I.ok.above)
theorem Inv.BE(I:Inv X pins σ H s):∀b∈aV X.stack,b∈X.env.locals::X.fs:=λb hb=>by
 rcases I.ok.stk with e | ⟨e,hf⟩
 ·rw[e]at hb;exact List.mem_cons_of_mem _ hb
 ·rw[e]at hb
  unfold aV at hb
  rw[List.filterMap_cons,hf]at hb
  exact hb
theorem Inv.C6(I:Inv X pins σ H s):∀b∈aV X.stack,H b=none:=λb hb=>by
 rcases List.mem_cons.mp (I.BE b hb)with e | hb
 ·rw[e];exact I.free
 ·obtain⟨_,o,ho,_⟩:=I.ok.ue.mem hb
  exact I.base.free b o ho (I.ok.frf b hb) λz=>I.ok.exfs b z hb
theorem Inv.step{g':Array GenState}{t':Nat}{d':Drawn}{ch:List Addr}(I:Inv X pins σ H s)
  (hch:∀b∈ch,(b∈X.ex∨X.s₀.heap.objs.size<=b)/\b≠X.env.locals/\(∀x c,X.env.cells.lookup x=some c->c≠b)/\∀p∈X.pn++pins,p.1≠b)
  (keep:∀b o,b≠X.env.locals->b∉X.fs->b∉ch->s.heap.get? b=some o->H b=none->h'.get? b=some o)
  (slot:∀b o,b≠X.env.locals->b∈X.fs->b∉ch->s.heap.get? b=some o->H b=none->∃sl,h'.get? b=some {o with slots:=sl}) (free:∀b o,b∉ch->s.heap.get? b=some o->H b=none->H' b=none)
  (there:∀b o,b∉ch->s.heap.get? b=some o->∃o',h'.get? b=some o')
  (tups:∀b xs,H b=some (.tup xs)->H' b=some (.tup xs)) (jD:∀b o u,H b=some (.uA o u)->H' b=some (.uA o u)) (tbls:∀b ps,H b=some (.tbl ps)->∃more,H' b=some (.tbl (ps++more)))
  (ns:∀m,s.heap.Ns X.env.locals m->h'.Ns X.env.locals m) (hok:ud X.prog X.w H' h') (hg:AllBare g') :
  Inv X pins σ H' {s with heap:=h',gens:=g',drawn:=d',toks:=t'}:=by
 have neL:∀b o,X.s₀.heap.get? b=some o->b≠X.env.locals:=λb o e=>Nat.ne_of_lt (Nat.lt_of_lt_of_le (Heap.lt_size e) I.ok.above)
 have neC:∀b o,X.s₀.heap.get? b=some o->b∉X.ex->b∉ch:=λb o e hx hb=>by
  rcases (hch b hb).1 with z | z
  ·exact hx z
  ·exact absurd (Nat.lt_of_lt_of_le (Heap.lt_size e) z) (Nat.lt_irrefl _)
 have cellK:∀x c,X.env.cells.lookup x=some c->∀v,s.heap.IsCell c v->h'.IsCell c v:=λx c e v ⟨o,ho,hd⟩=>by
  have nch:c∉ch:=λz=>(hch c z).2.2.1 x c e rfl
  by_cases hc:c∈X.fs
  ·obtain⟨sl,q⟩:=slot c o (I.Pk x c e) hc nch ho (I.freeC x c e)
   exact⟨_,q,hd⟩
  ·exact⟨o,keep c o (I.Pk x c e) hc nch ho (I.freeC x c e),hd⟩
 refine⟨I.ok,I.os,hg,⟨λb o e n hb hx=>?_,λb o e n hb hx=>?_,λb o e n hx=>?_,λb o e hx=>?_,λb xs e=>tups b xs (I.base.tups b xs e),λb o xs e=>jD b o xs (I.base.jD b o xs e),λb ps e=>?_⟩,?_,λx c e=>?_,?_,λx c e=>?_,λp hp=>?_,hok,I.len⟩
 ·exact keep b o (neL b o e) hb (neC b o e hx) (I.base.keep b o e n hb hx) (I.base.free b o e n hx)
 ·obtain⟨sl,e1⟩:=I.base.slot b o e n hb hx
  obtain⟨sl',e2⟩:=slot b _ (neL b o e) hb (neC b o e hx) e1 (I.base.free b o e n hx)
  exact⟨sl',e2⟩
 ·obtain⟨o',e1⟩:=I.base.there b o e hx
  exact free b o' (neC b o e hx) e1 (I.base.free b o e n hx)
 ·obtain⟨o',e1⟩:=I.base.there b o e hx
  exact there b o' (neC b o e hx) e1
 ·obtain⟨m1,e1⟩:=I.base.tbls b ps e
  obtain⟨m2,e2⟩:=tbls b _ e1
  exact⟨m1++m2,by rw[e2,Array.append_assoc]⟩
 ·obtain⟨m,hn,hl⟩:=I.loc
  refine⟨m,ns m hn,λi x v e1 e2 e3=>?_⟩
  obtain⟨u,r,l⟩:=hl i x v e1 e2 e3
  refine⟨u,r,?_⟩
  rcases l with l | ⟨k,c,e,z⟩
  ·exact .inl l
  ·exact .inr ⟨k,c,e,cellK x c e _ z⟩
 ·obtain⟨v,z⟩:=I.cell x c e
  exact⟨v,cellK x c e v z⟩
 ·obtain⟨m,⟨o,_,_,ho,_⟩,_⟩:=I.loc
  exact free _ o (λz=>(hch _ z).2.1 rfl) ho I.free
 ·obtain⟨v,o,ho,hd⟩:=I.cell x c e
  exact free c o (λz=>(hch c z).2.2.1 x c e rfl) ho (I.freeC x c e)
 ·obtain⟨e,n,ne,nf,d⟩:=I.pin p hp
  have nch:p.1∉ch:=λz=>(hch p.1 z).2.2.2 p hp rfl
  exact⟨keep p.1 p.2 ne nf nch e n,free p.1 p.2 nch e n,ne,nf,d⟩
theorem Inv.un{t':Nat}(I:Inv X pins σ H s)(u:Un X.fs [] H H' s.heap h')(hok:ud X.prog X.w H' h'):Inv X pins σ H' {s with heap:=h',toks:=t'}:=by
 obtain⟨m,⟨o,es,ep,ho,r⟩,_⟩:=id I.loc
 obtain⟨sl,hL⟩:=u.any ho I.free (by simp)
 exact I.step (g':=s.gens) (d':=s.drawn) (ch:=[]) (λ_ z=>nomatch z) (λb o _ hb _ e n=>u.keep b o e n hb (by simp)) (λb o _ hb _ e n=>u.slot b o e n hb (by simp)) (λb o _ e n=>u.free b o e n (by simp)) (λb o _ e=>u.there b o e (by simp)) u.tups u.jD u.tbls (λm' hm=>by
  obtain⟨o',es',ep',ho',r'⟩:=hm
  rw[ho]at ho';cases ho'
  exact⟨_,es',ep',hL,r'⟩) hok I.bare
theorem Inv.call{g':Array GenState}{t':Nat}{d':Drawn}{ch:List Addr}(I:Inv X pins σ H s)(u:Un (aV X.stack) ch H H' s.heap h')(hok:ud X.prog X.w H' h')(hg:AllBare g')
  (hch:∀b∈ch,(b∈X.ex∨X.s₀.heap.objs.size<=b)/\b≠X.env.locals/\(∀x c,X.env.cells.lookup x=some c->c≠b)/\∀p∈X.pn++pins,p.1≠b) :
  Inv X pins σ H' {s with heap:=h',gens:=g',drawn:=d',toks:=t'}:=by
 obtain⟨m,⟨o,es,ep,ho,r⟩,_⟩:=id I.loc
 obtain⟨sl,hL⟩:=u.any ho I.free λz=>(hch _ z).2.1 rfl
 exact I.step (ch:=ch) hch (λb o hL hb hc e n=>u.keep b o e n (λz=>(List.mem_cons.mp (I.BE b z)).elim hL hb) hc) (λb o _ _ hc e n=>u.any e n hc) (λb o hc e n=>u.free b o e n hc) (λb o hc e=>u.there b o e hc) u.tups u.jD u.tbls (λm' hm=>by
  obtain⟨o',es',ep',ho',r'⟩:=hm
  rw[ho]at ho';cases ho'
  exact⟨_,es',ep',hL,r'⟩) hok hg
theorem Inv.turned{t':Nat}{it:Addr}(I:Inv X pins σ H s)(k:∀b o,b≠it->s.heap.get? b=some o->h'.get? b=some o)(hn:H it=none)(hL:it≠X.env.locals)
  (h1:it∈X.ex∨X.s₀.heap.objs.size<=it) (h2:∀x c,X.env.cells.lookup x=some c->c≠it) (h3:∀p∈X.pn++pins,p.1≠it):Inv X pins σ H {s with heap:=h',toks:=t'}:=by
 have nit:∀b u,H b=some u->b≠it:=λb u e z=>by rw[z,hn]at e;cases e
 refine I.step (g':=s.gens) (d':=s.drawn) (ch:=[it]) (λb hb=>?_) (λb o _ _ hc e _=>k b o (λz=>hc (by simp[z])) e) (λb o _ _ hc e _=>⟨o.slots,k b o (λz=>hc (by simp[z])) e⟩) (λ_ _ _ _ n=>n)
  (λb o hc e=>⟨o,k b o (λz=>hc (by simp[z])) e⟩) (λ_ _ e=>e) (λ_ _ _ e=>e) (λb ps e=>⟨#[],by rw[e];simp⟩) (λm hm=>?_) (λb u e=>?_) I.bare
 ·have e:b=it:=by simpa using hb
  subst e
  exact⟨h1,hL,h2,h3⟩
 ·obtain⟨o,es,ep,ho,r⟩:=hm
  exact⟨o,es,ep,k _ o (Ne.symm hL) ho,r⟩
 ·refine(I.hok b u e).BD (λc v hc q=>k c v ?_ q) (λ_ q=>q) λ_ _ q=>q
  rcases hc with z | z
  ·rw[z];exact nit b u e
  ·exact nit c _ z
theorem Inv.tok(I:Inv X pins σ H s)(t:Nat):Inv X pins σ H {s with toks:=t}:=I.un (h':=s.heap) (t':=t) Un.refl I.hok
theorem Inv.kept{t':Nat}(I:Inv X pins σ H s)(k:∀b u,s.heap.get? b=some u->h'.get? b=some u):Inv X pins σ H {s with heap:=h',toks:=t'}:=I.un (Un.kept k) (I.hok.kept k)
theorem Inv.laid{a:Addr}{o:HO}{t':Nat}(I:Inv X pins σ H s)(k:∀b u,s.heap.get? b=some u->h'.get? b=some u)(hp:s.heap.objs.size<=a)(new:ip X.prog X.w (upd H a o) h' a o):
  Inv X pins σ (upd H a o) {s with heap:=h',toks:=t'}:=I.un (Un.laid k hp (I.hok.fresh hp)) (I.hok.laid k hp new)
theorem Inv.write{x e:Addr}{o:HO}{t':Nat}(I:Inv X pins σ H s)(mu:U0 (H x))(he:e=x∨H e=some (.own x))(k:∀b u,b≠e->s.heap.get? b=some u->h'.get? b=some u)(heo:∃u,h'.get? e=some u)
  (new:ip X.prog X.w (upd H x o) h' x o):Inv X pins σ (upd H x o) {s with heap:=h',toks:=t'}:=I.un (Un.write mu he k heo) (I.hok.write mu he k heo new)
theorem Inv.weak{σ':List (Option V)}(I:Inv X pins σ H s)(hl:σ'.length=σ.length)(w:∀(i:Nat) v,σ'[i]?=some (some v)->σ[i]?=some (some v)):Inv X pins σ' H s :=
 ⟨I.ok,I.os,I.bare,I.base,let ⟨m,hn,hl'⟩:=I.loc;⟨m,hn,λi x v e1 e2 e3=>hl' i x v e1 (w i v e2) e3⟩,I.cell,I.free,I.freeC,I.pin,I.hok,hl.trans I.len⟩
theorem Inv.C7{pins':List (Addr×Obj)}(I:Inv X pins σ H s)(h:∀p∈pins',s.heap.get? p.1=some p.2/\H p.1=none/\p.1≠X.env.locals/\p.1∉X.fs/\∀v,p.2.data≠.cell v):Inv X pins' σ H s :=
 ⟨I.ok,I.os,I.bare,I.base,I.loc,I.cell,I.free,I.freeC,λp hp=>(List.mem_append.mp hp).elim (λz=>I.pin p (List.mem_append_left _ z)) (h p),I.hok,I.len⟩
theorem zS{N:List Str}(hN:N.Nodup){i j:Nat}{x:Str}(a:N[i]?=some x)(b:N[j]?=some x):i=j:=by
 obtain⟨h1,e1⟩:=bN a
 obtain⟨h2,e2⟩:=bN b
 exact(List.getElem_inj hN).mp (e1.trans e2.symm)
theorem xn{M:Model}{A:Around}{E:Value->Shared->Prop}{i:Nat}{x:Str}{v:V}{u:Value}{Q:Unit->Shared->Prop}(I:Inv X pins σ H s)(hN:X.N.Nodup)(hi:X.N[i]?=some x)(hx:Loc X.env.scope x)(r:RelV v u)
  (h:∀s',Inv X pins (σ.set i (some v)) H s'->(∃a,Heap.SameBut a s.heap s'.heap/\(a=X.env.locals∨X.env.cells.lookup x=some a))->Q () s') (hf:X.fn x=true∨X.env.scope.names.lookup x=some .local:=by first | exact .inl rfl | exact .inr rfl | assumption):wpAny M A (storeName X.env x u) Q E s:=by
 obtain⟨m,hn,hl⟩:=id I.loc
 have hcls:(X.env.scope.kind == .class||(X.env.scope.kind == .module&&X.env.locals != X.env.globals))=false:=by rw[I.ok.kind];rfl
 have hiσ:i < σ.length:=by rw[I.len];exact(bN hi).1
 have Pk:=I.Pk
 have tracked:∀{a:Addr} {h':Heap},(∃o,s.heap.get? a=some o/\H a=none)->Heap.SameBut a s.heap h'->ud X.prog X.w H h':=λ{a h'} ha hs b ob e=>by
  obtain⟨_,_,hfree⟩:=ha
  refine(I.hok b ob e).BD (λc w' hc q=>(hs.2 c ?_).trans q) (λ_ q=>q) λ_ _ q=>q
  rintro rfl
  rcases hc with rfl | hc
  ·rw[hfree]at e;cases e
  ·rw[hfree]at hc;cases hc
 rcases hx with hk | hk
 ·refine wpAny_storeName_local hk hn (λh' hn' hs=>?_) hcls
  obtain⟨oL,_,_,hoL,_⟩:=id hn
  refine h _ ⟨I.ok,I.os,I.bare,⟨λb o e n hb hx=>?_,λb o e n hb hx=>?_,I.base.free,λb o e hx=>?_,I.base.tups,I.base.jD,I.base.tbls⟩,⟨_,hn',λj y v' e1 e2 e3=>?_⟩,λy c e=>?_,I.free,I.freeC,λp hp=>?_,tracked ⟨oL,hoL,I.free⟩ hs,by simpa using I.len⟩ ⟨_,hs,.inl rfl⟩
  ·exact(hs.2 b (Nat.ne_of_lt (Nat.lt_of_lt_of_le (Heap.lt_size e) I.ok.above))).trans (I.base.keep b o e n hb hx)
  ·obtain⟨sl,e1⟩:=I.base.slot b o e n hb hx
   exact⟨sl,(hs.2 b (Nat.ne_of_lt (Nat.lt_of_lt_of_le (Heap.lt_size e) I.ok.above))).trans e1⟩
  ·obtain⟨o',e1⟩:=I.base.there b o e hx
   exact⟨o',(hs.2 b (Nat.ne_of_lt (Nat.lt_of_lt_of_le (Heap.lt_size e) I.ok.above))).trans e1⟩
  ·by_cases hj:j=i
   ·subst hj
    rw[hi]at e1;cases e1
    rw[List.getElem?_set_self hiσ]at e2
    cases e2
    exact⟨u,r,.inl ⟨hk,by simp⟩⟩
   ·rw[List.getElem?_set_ne (Ne.symm hj)]at e2
    obtain⟨u',r',q⟩:=hl j y v' e1 e2 e3
    refine⟨u',r',?_⟩
    rcases q with⟨k,e⟩ | ⟨k,c,e,z⟩
    ·refine .inl ⟨k,?_⟩
     have:y≠x:=λe=>hj (zS hN e1 (e ▸ hi))
     simp[this,e]
    ·exact .inr ⟨k,c,e,z.sameBut hs (Pk y c e)⟩
  ·obtain⟨w',z⟩:=I.cell y c e
   exact⟨w',z.sameBut hs (Pk y c e)⟩
  ·obtain⟨e,n,ne,nf,d⟩:=I.pin p hp
   exact⟨(hs.2 p.1 ne).trans e,n,ne,nf,d⟩
 ·have hfn:X.fn x=true:=by
   rcases hf with z | z
   ·exact z
   ·rw[z]at hk;cases hk
  obtain⟨c,hc⟩:=I.ok.has x (.inl hk)
  obtain⟨w',z⟩:=I.cell x c hc
  refine wpAny_storeName_cell I.ok.kind hk hc z (λh' hc' hs=>?_)
  obtain⟨oc,hoc,hocd⟩:=id z
  refine h {s with heap:=h'} ⟨I.ok,I.os,I.bare,⟨λb o e n hb hx=>?_,λb o e n hb hx=>?_,I.base.free,λb o e hx=>?_,I.base.tups,I.base.jD,I.base.tbls⟩,⟨m,hn.sameBut hs (Ne.symm (Pk x c hc)),λj y v' e1 e2 e3=>?_⟩,λy c' e=>?_,I.free,I.freeC,λp hp=>?_,tracked ⟨oc,hoc,I.freeC x c hc⟩ hs,by simpa using I.len⟩ ⟨c,hs,.inr hc⟩
  ·exact(hs.2 b (Nat.ne_of_lt (Nat.lt_of_lt_of_le (Heap.lt_size e) (I.ok.cab x c hfn hc)))).trans (I.base.keep b o e n hb hx)
  ·obtain⟨sl,e1⟩:=I.base.slot b o e n hb hx
   exact⟨sl,(hs.2 b (Nat.ne_of_lt (Nat.lt_of_lt_of_le (Heap.lt_size e) (I.ok.cab x c hfn hc)))).trans e1⟩
  ·obtain⟨o',e1⟩:=I.base.there b o e hx
   exact⟨o',(hs.2 b (Nat.ne_of_lt (Nat.lt_of_lt_of_le (Heap.lt_size e) (I.ok.cab x c hfn hc)))).trans e1⟩
  ·by_cases hj:j=i
   ·subst hj
    rw[hi]at e1;cases e1
    rw[List.getElem?_set_self hiσ]at e2
    cases e2
    exact⟨u,r,.inr ⟨.inl hk,c,hc,hc'⟩⟩
   ·rw[List.getElem?_set_ne (Ne.symm hj)]at e2
    obtain⟨u',r',q⟩:=hl j y v' e1 e2 e3
    refine⟨u',r',?_⟩
    rcases q with q | ⟨k,c',e,z'⟩
    ·exact .inl q
    ·refine .inr ⟨k,c',e,z'.sameBut hs ?_⟩
     rintro rfl
     exact hj (zS hN e1 (I.ok.inj _ _ _ e hc ▸ hi))
  ·by_cases hcc:c'=c
   ·subst hcc;exact⟨_,hc'⟩
   ·obtain⟨w2,z2⟩:=I.cell y c' e
    exact⟨w2,z2.sameBut hs hcc⟩
  ·obtain⟨e,n,ne,nf,d⟩:=I.pin p hp
   refine⟨(hs.2 p.1 ?_).trans e,n,ne,nf,d⟩
   intro q
   rw[q,hoc]at e
   have q':oc=p.2:=Option.some.inj e
   exact d w' (by rw[← q'];exact hocd)
theorem zT{M:Model}{A:Around}{E:Value->Shared->Prop}{i:Nat}{x:Str}{v:V}{u:Value}{Q:Unit->Shared->Prop}(I:Inv X pins σ H s)(hN:X.N.Nodup)(hi:X.N[i]?=some x)(hx:Loc X.env.scope x)(r:RelV v u)
  (h:∀s',Inv X pins (σ.set i (some v)) H s'->Q () s') (hf:X.fn x=true∨X.env.scope.names.lookup x=some .local:=by first | exact .inl rfl | exact .inr rfl | assumption):wpAny M A (storeName X.env x u) Q E s :=
 xn I hN hi hx r (λs' I' _=>h s' I') hf
theorem Inv.Sr{s':Shared}{ch:List Addr}(I:Inv X pins σ H s)(ho:s'.os=s.os)(u:Un (aV X.stack) ch H H' s.heap s'.heap)(hok:ud X.prog X.w H' s'.heap)(hg:AllBare s'.gens)
  (hch:∀b∈ch,(b∈X.ex∨X.s₀.heap.objs.size<=b)/\b≠X.env.locals/\(∀x c,X.env.cells.lookup x=some c->c≠b)/\∀p∈X.pn++pins,p.1≠b):Inv X pins σ H' s':=by
 obtain⟨h',g',d',t',o'⟩:=s'
 have e:o'=s.os:=ho
 subst e
 exact I.call (g':=g') (t':=t') (d':=d') u hok hg hch
end
abbrev XK:=Value->Option Addr->Hp->Prop
abbrev St:=List (Option V)
abbrev VK:=V->Hp->Prop
abbrev TE:=St->Hp->VK->Prop
abbrev TT:=St->Hp->(Bool->Hp->Prop)->Prop
abbrev TA:=St->Hp->(List V->Hp->Prop)->Prop
structure Ends where
 nx:St->Hp->Prop
 rt:VK
 bk:St->Hp->Prop:=λ_ _=>False
 ct:St->Hp->Prop:=λ_ _=>False
abbrev TS:=Ends->St->Hp->Prop
def EP(X:Cx)(pins:List (Addr×Obj))(σ:St)(Q:VK)(u:Value)(s':Shared):Prop:=∃v H',Inv X pins σ H' s'/\RelV v u/\Q v H'
def TP(X:Cx)(pins:List (Addr×Obj))(σ:St)(Q:Bool->Hp->Prop)(b:Bool)(s':Shared):Prop:=∃H',Inv X pins σ H' s'/\Q b H'
def AP(X:Cx)(pins:List (Addr×Obj))(σ:St)(Q:List V->Hp->Prop)(us:List Value)(s':Shared):Prop:=∃vs H',Inv X pins σ H' s'/\Vals vs us/\Q vs H'
def SP(X:Cx)(pins:List (Addr×Obj))(D:Ends)(f:Flow)(s':Shared):Prop :=
 match f with
 | .next=>∃σ' H',Inv X pins σ' H' s'/\D.nx σ' H'
 | .brk=>∃σ' H',Inv X pins σ' H' s'/\D.bk σ' H'
 | .cont=>∃σ' H',Inv X pins σ' H' s'/\D.ct σ' H'
 | .ret u=>∃v σ' H',Inv X pins σ' H' s'/\RelV v u/\D.rt v H'
def PE(X:Cx)(e:Expr)(t:TE):Prop :=
 ∀(pins:List (Addr×Obj)) (s:Shared) (σ:St) (H:Hp) (Q:VK),Inv X pins σ H s->t σ H Q->wpAny (model X.prog X.w) X.A (eval e X.env) (EP X pins σ Q) X.xe s
def PT(X:Cx)(e:Expr)(t:TT):Prop :=
 ∀(pins:List (Addr×Obj)) (s:Shared) (σ:St) (H:Hp) (Q:Bool->Hp->Prop),Inv X pins σ H s->t σ H Q->wpAny (model X.prog X.w) X.A (isTrue e X.env (eval e X.env)) (TP X pins σ Q) X.xe s
def PW(X:Cx)(e:Expr)(t:TT):Prop :=
 ∀(whole:Sem Value) (pins:List (Addr×Obj)) (s:Shared) (σ:St) (H:Hp) (Q:Bool->Hp->Prop),Inv X pins σ H s->t σ H Q->wpAny (model X.prog X.w) X.A (isTrue e X.env whole) (TP X pins σ Q) X.xe s
theorem PW.pt{X:Cx}{e:Expr}{t:TT}(h:PW X e t):PT X e t:=h _
def PA(X:Cx)(es:List Expr)(t:TA):Prop :=
 ∀(pos:Pos) (pins:List (Addr×Obj)) (s:Shared) (σ:St) (H:Hp) (Q:List V->Hp->Prop),Inv X pins σ H s->t σ H Q->wpAny (model X.prog X.w) X.A (spliced (backTo pos (starEach es X.env))) (AP X pins σ Q) X.xe s
def PS(X:Cx)(st:Stmt)(t:TS):Prop :=
 ∀(pins:List (Addr×Obj)) (s:Shared) (σ:St) (H:Hp) (D:Ends),Inv X pins σ H s->t D σ H->wpAny (model X.prog X.w) X.A (exec st X.env) (SP X pins D) X.xe s
def wF(X:Cx)(st:List Stmt)(t:TS):Prop :=
 ∀(pins:List (Addr×Obj)) (s:Shared) (σ:St) (H:Hp) (D:Ends),Inv X pins σ H s->t D σ H->wpAny (model X.prog X.w) X.A (execs st X.env) (SP X pins D) X.xe s
theorem cK{α:Type}{t:Sem α}{Q Q':α->Shared->Prop}{M:Model}{A:Around}{E:Value->Shared->Prop}{s:Shared}(h:wpAny M A t Q E s)(hQ:∀a s,Q a s->Q' a s):wpAny M A t Q' E s:=wpAny_mono h hQ λ_ _ x=>x
end L2
namespace L2
open PySem PySem.Spec PyProof.Rows
section
variable {X:Cx}
def Pl(i:Nat):TE:=λσ H Q=>∃v,σ[i]?=some (some v)/\Q v H
def tC(v:V):TE:=λ_ H Q=>Q v H
theorem FW{i:Nat}{x:Str}{pos:Pos}(hN:X.N[i]?=some x)(hv:U4 X.env.scope x)(hd:(x == ("__debug__" : Str))=false:=by decide)(hcd:(x == ("__classdict__" : Str))=false:=by decide):PE X (.Name x pos) (Pl i):=by
 intro pins s σ H Q I h
 obtain⟨v,e,h⟩:=h
 obtain⟨m,hn,hl⟩:=I.loc
 obtain⟨u,r,l⟩:=hl i x v hN e hv
 have fin:EP X pins σ Q u s:=⟨v,H,I,r,h⟩
 rcases l with⟨hk,hm⟩ | ⟨hk,c,hc,hcell⟩
 ·exact wpAny_Name (wpAny_loadName_local I.ok.kind hk hn hm fin) hd
 ·rcases hk with hk | hk
  ·exact wpAny_Name (wpAny_loadName_cell I.ok.kind hk hc hcell fin) hd
  ·exact wpAny_Name (wpAny_loadName_free I.ok.kind hk hc hcell fin hcd) hd
theorem pI{i j pos}:PE X (.Constant (.int i) j pos) (tC (.int i)):=λ_ _ _ H _ I h=>wpAny_Constant_int ⟨.int i,H,I.tok _,⟨_,rfl⟩,h⟩
theorem sO{b j pos}:PE X (.Constant (.bool b) j pos) (tC (.bl b)):=λ_ _ _ H _ I h=>Constant_bool ⟨.bl b,H,I,rfl,h⟩
theorem eP{j pos}:PE X (.Constant .none j pos) (tC .non):=λ_ _ _ H _ I h=>Constant_none ⟨.non,H,I,rfl,h⟩
theorem aH{x j pos}:PE X (.Constant (.str x) j pos) (tC (.str x)):=λ_ _ _ H _ I h=>Calls.Constant_str ⟨.str x,H,I.tok _,⟨_,rfl⟩,h⟩
def Gl(X:Cx)(x:Str):Prop:=X.env.kindOf x=some .globalImplicit
theorem yh{E:Value->Shared->Prop}{pins:List (Addr×Obj)}{s:Shared}{σ:St}{H:Hp}{x:Str}{u:Value}{pos:Pos}{Q:Value->Shared->Prop}(I:Inv X pins σ H s)(hg:Gl X x)(hm:X.mg x=some u)(h:Q u s)
  (hd:(x == ("__debug__" : Str))=false:=by decide):wpAny (model X.prog X.w) X.A (eval (.Name x pos) X.env) Q E s :=
 Calls.Name_function_global I.ok.kind hg (Calls.loadGlobal_global (by rw[I.ok.glob];exact I.mod.glob.keeps I.bk) hm h) hd
theorem rH{E:Value->Shared->Prop}{pins:List (Addr×Obj)}{s:Shared}{σ:St}{H:Hp}{x:Str}{u:Value}{pos:Pos}{Q:Value->Shared->Prop}(I:Inv X pins σ H s)(hg:Gl X x)(hm:X.mg x=none)(hv:bootBuiltins x=some u)(h:Q u s)
  (hn:x≠"__name__":=by decide) (hd:(x == ("__debug__" : Str))=false:=by decide):wpAny (model X.prog X.w) X.A (eval (.Name x pos) X.env) Q E s:=by
 obtain⟨mb,h1,h2⟩:=I.mod.blt
 exact Calls.Name_function_global I.ok.kind hg (Calls.loadGlobal_builtin (by rw[I.ok.glob];exact I.mod.glob.keeps I.bk) hm (by rw[I.ok.blt];exact h1.keeps I.bk) ((h2 x hn).trans hv) h) hd
theorem eQ{x:Str}{v:V}{u:Value}{pos:Pos}(hg:Gl X x)(hm:X.mg x=some u)(r:RelV v u)(hd:(x == ("__debug__" : Str))=false:=by decide):PE X (.Name x pos) (tC v) :=
 λ_ _ _ H _ I h=>yh I hg hm ⟨v,H,I,r,h⟩ hd
theorem Lo{x:Str}{v:V}{u:Value}{pos:Pos}(hg:Gl X x)(hm:X.mg x=none)(hv:bootBuiltins x=some u)(r:RelV v u)(hn:x≠"__name__":=by decide)(hd:(x == ("__debug__" : Str))=false:=by decide):PE X (.Name x pos) (tC v) :=
 λ_ _ _ H _ I h=>rH I hg hm hv ⟨v,H,I,r,h⟩ hn hd
variable {a b:Expr} {ta tb:TE} {pos:Pos}
def tB(t:TE):TT:=λσ H Q=>t σ H λx H1=>∃c,x=.bl c/\Q c H1
theorem rJ{e:Expr}{t:TE}(h:PE X e t)(he:∀whole,isTrue e X.env whole=(do let v ← whole;standAt e.pos;holding [v] (truthy v)):=by intro _;rfl):PT X e (tB t):=by
 intro pins s σ H Q I hw
 refine isTrue_plain (cK (h pins s σ H _ I hw) λv s1 ⟨x,H1,I1,r1,q1⟩=>?_) (he _)
 obtain⟨d,rfl,q⟩:=q1
 cases r1
 exact wpAny_truthy_bool ⟨H1,I1,q⟩
variable {tA tB':TT} {rest:List Expr}
def Ss(t u:TT):TT:=λσ H Q=>t σ H λc H1=>if c=true then u σ H1 Q else Q false H1
def ZH(t u:TT):TT:=λσ H Q=>t σ H λc H1=>if c=true then Q true H1 else u σ H1 Q
def VA(t:TT):TT:=λσ H Q=>t σ H λc H1=>Q (!c) H1
theorem pw_and1(ha:PT X a tA):PW X (.BoolOp .And [a] pos) tA:=by
 intro wh pins s σ H Q I h
 refine isTrue_and (cK (ha pins s σ H Q I h) λc s1 e=>?_)
 cases c with
 | true=>exact isTrue_and_nil e
 | false=>exact e
theorem pw_or1(ha:PT X a tA):PW X (.BoolOp .Or [a] pos) tA:=by
 intro wh pins s σ H Q I h
 refine isTrue_or (cK (ha pins s σ H Q I h) λc s1 e=>?_)
 cases c with
 | false=>exact isTrue_or_nil e
 | true=>exact e
theorem pw_and(ha:PT X a tA)(hb:PW X (.BoolOp .And (b::rest) pos) tB'):PW X (.BoolOp .And (a::b::rest) pos) (Ss tA tB'):=by
 intro wh pins s σ H Q I h
 refine isTrue_and (cK (ha pins s σ H _ I h) λc s1 ⟨H1,I1,q1⟩=>?_)
 cases c with
 | true=>exact hb wh pins s1 σ H1 Q I1 q1
 | false=>exact⟨H1,I1,q1⟩
theorem pw_or(ha:PT X a tA)(hb:PW X (.BoolOp .Or (b::rest) pos) tB'):PW X (.BoolOp .Or (a::b::rest) pos) (ZH tA tB'):=by
 intro wh pins s σ H Q I h
 refine isTrue_or (cK (ha pins s σ H _ I h) λc s1 ⟨H1,I1,q1⟩=>?_)
 cases c with
 | true=>exact⟨H1,I1,q1⟩
 | false=>exact hb wh pins s1 σ H1 Q I1 q1
theorem uT(ha:PT X a tA):PT X (.UnaryOp .Not a pos) (VA tA):=by
 intro pins s σ H Q I h
 exact isTrue_not (ha pins s σ H (λc H1=>Q (!c) H1) I h)
def Su(ta tb:TE):TE:=λσ H Q=>ta σ H λx H1=>∃c,x=.bl c/\if c=true then tb σ H1 Q else Q (.bl false) H1
theorem FX{op}{t:TE}(h:PE X a t):PE X (.BoolOp op [a] pos) t:=λpins s σ H Q I hw=>BoolOp_one (h pins s σ H Q I hw)
theorem FY(ha:PE X a ta)(hb:PE X (.BoolOp .And (b::rest) pos) tb):PE X (.BoolOp .And (a::b::rest) pos) (Su ta tb):=by
 intro pins s σ H Q I h
 refine BoolOp_and (cK (ha pins s σ H _ I h) λv s1 ⟨x,H1,I1,r1,q1⟩=>?_)
 obtain⟨c,rfl,q1⟩:=q1
 cases r1
 refine wpAny_truthy_bool ?_
 cases c with
 | true=>exact hb pins s1 σ H1 Q I1 q1
 | false=>exact⟨.bl false,H1,I1,rfl,q1⟩
def tIf(t:TT)(ta tb:TE):TE:=λσ H Q=>t σ H λc H1=>if c=true then ta σ H1 Q else tb σ H1 Q
theorem zU{c:Expr}(hc:PT X c tA)(ha:PE X a ta)(hb:PE X b tb):PE X (.IfExp c a b pos) (tIf tA ta tb):=by
 intro pins s σ H Q I h
 refine wpAny_IfExp (cK (hc pins s σ H _ I h) λd s1 ⟨H1,I1,q1⟩=>?_)
 cases d with
 | true=>exact ha pins s1 σ H1 Q I1 q1
 | false=>exact hb pins s1 σ H1 Q I1 q1
end
end L2
namespace L2
open PySem PySem.Spec PyProof.Rows
def bc(K:av)(H:Hp)(a:Addr)(xs:List V):Prop :=
 Rd H a (.lst xs) ∨
  ∃(o:Obj) (its:Array Value) (n:Nat),K.lookup a=some o/\o.cls=.type "list"/\o.dict=none/\o.data=.seq its n/\its.size<=sizeLine/\Vals xs its.toList
def ba(K:av)(H:Hp)(a:Addr)(xs:List V):Prop :=
 Rd H a (.tup xs) ∨
  ∃(o:Obj) (its:Array Value) (n:Nat),K.lookup a=some o/\o.cls=.type "tuple"/\o.data=.seq its n/\its.size<=sizeLine/\Vals xs its.toList
def VB:Value->Option V
 | .none=>some .non
 | .bool b=>some (.bl b)
 | .int i _=>some (.int i)
 | .str x _=>some (.str x)
 | .bytes b _=>some (.byt b)
 | .float b _=>some (.flt b)
 | .ref a=>some (.ref a)
 | .type n=>some (.ty n)
 | _=>none
theorem RelV.abs{x:V}{u:Value}(r:RelV x u):VB u=some x:=by
 cases x with
 | non=>cases r;rfl
 | bl _=>cases r;rfl
 | int _=>obtain⟨t,rfl⟩:=r;rfl
 | str _=>obtain⟨t,rfl⟩:=r;rfl
 | byt _=>obtain⟨t,rfl⟩:=r;rfl
 | flt _=>obtain⟨t,rfl⟩:=r;rfl
 | ref _=>cases r;rfl
 | ty _=>cases r;rfl
theorem RelV.inj{x y:V}{u:Value}(r:RelV x u)(q:RelV y u):x=y:=Option.some.inj (r.abs.symm.trans q.abs)
theorem Vals.inj:∀{xs ys:List V} {us:List Value},Vals xs us->Vals ys us->xs=ys
 | _,_,_,.nil,.nil=>rfl
 | _,_,_,.cons r t,.cons r' t'=>by rw[r.inj r',Vals.inj t t']
section
variable {X:Cx} {pins:List (Addr×Obj)} {σ:St} {H:Hp} {s:Shared} {a:Addr} {xs ys:List V}
theorem bc.of{K:av}(h:H a=some (.lst xs)):bc K H a xs:=.inl (.inl h)
theorem ba.of{K:av}(h:H a=some (.tup xs)):ba K H a xs:=.inl (.inl h)
theorem Inv.list(I:Inv X pins σ H s)(h:bc X.K H a xs):∃its:List Value,Vals xs its/\PlainL s.heap a its.toArray/\xs.length<=sizeLine:=by
 rcases h with h | ⟨o,its,n,hk,hc,hd,hs,hz,r⟩
 ·obtain⟨z,its,n,r,e⟩:=h.ok I.hok
  exact⟨its,r,⟨_,n,e,rfl,rfl,rfl⟩,z⟩
 ·refine⟨its.toList,r,⟨o,n,I.wA a o hk,hc,hd,by simpa using hs⟩,?_⟩
  have e:=r.length
  simp only[Array.length_toList]at e
  omega
theorem Inv.tuple(I:Inv X pins σ H s)(h:ba X.K H a xs):∃its:List Value,Vals xs its/\IsTup s.heap a its.toArray/\xs.length<=sizeLine:=by
 rcases h with h | ⟨o,its,n,hk,hc,hs,hz,r⟩
 ·obtain⟨z,its,r,p⟩:=h.ok I.hok
  exact⟨its,r,p,z⟩
 ·refine⟨its.toList,r,⟨o,I.wA a o hk,hc,n,by simpa using hs⟩,?_⟩
  have e:=r.length
  simp only[Array.length_toList]at e
  omega
theorem Inv.FZ(I:Inv X pins σ H s)(h:bc X.K H a xs)(h':bc X.K H a ys):xs=ys:=by
 obtain⟨its,r,⟨o,n,e,_,_,d⟩,_⟩:=I.list h
 obtain⟨its',r',⟨o',n',e',_,_,d'⟩,_⟩:=I.list h'
 rw[e]at e';cases e'
 rw[d]at d'
 injection d' with d1 _
 have:its=its':=by simpa using congrArg Array.toList d1
 subst this
 exact r.inj r'
theorem Inv.DN(I:Inv X pins σ H s)(h:ba X.K H a xs)(h':ba X.K H a ys):xs=ys:=by
 obtain⟨its,r,⟨o,e,_,n,d⟩,_⟩:=I.tuple h
 obtain⟨its',r',⟨o',e',_,n',d'⟩,_⟩:=I.tuple h'
 rw[e]at e';cases e'
 rw[d]at d'
 injection d' with d1 _
 have:its=its':=by simpa using congrArg Array.toList d1
 subst this
 exact r.inj r'
end
abbrev Cx.uf(X:Cx)(E:Value->Shared->Prop):Cx:={X with xe:=E}
abbrev Cx.U5(X:Cx):Cx:=X.uf λ_ _=>False
theorem Cx.Ok.uf{X:Cx}(ok:X.Ok)(E:Value->Shared->Prop):(X.uf E).Ok :=
 ⟨ok.mod,ok.kind,ok.glob,ok.blt,ok.above,ok.inj,ok.has,ok.cab,ok.hd,ok.frames,ok.stk,ok.exf,ok.bs,ok.bsz,ok.noex,ok.exfs,ok.ue,ok.frf⟩
theorem Cx.Ok.gu{X:Cx}{E:Value->Shared->Prop}(ok:(X.uf E).Ok):X.Ok :=
 ⟨ok.mod,ok.kind,ok.glob,ok.blt,ok.above,ok.inj,ok.has,ok.cab,ok.hd,ok.frames,ok.stk,ok.exf,ok.bs,ok.bsz,ok.noex,ok.exfs,ok.ue,ok.frf⟩
section
variable {X:Cx} {pins:List (Addr×Obj)} {σ:St} {H:Hp} {s:Shared} {E:Value->Shared->Prop}
theorem Inv.uf(I:Inv X pins σ H s)(E:Value->Shared->Prop):Inv (X.uf E) pins σ H s:=⟨I.ok.uf E,I.os,I.bare,I.base,I.loc,I.cell,I.free,I.freeC,I.pin,I.hok,I.len⟩
theorem Inv.gu(I:Inv (X.uf E) pins σ H s):Inv X pins σ H s:=⟨I.ok.gu,I.os,I.bare,I.base,I.loc,I.cell,I.free,I.freeC,I.pin,I.hok,I.len⟩
theorem SP.gu{D:Ends}{f:Flow}{s':Shared}(h:SP (X.uf E) pins D f s'):SP X pins D f s':=by
 cases f with
 | next=>obtain⟨σ',H',I,q⟩:=h;exact⟨σ',H',I.gu,q⟩
 | brk=>obtain⟨σ',H',I,q⟩:=h;exact⟨σ',H',I.gu,q⟩
 | cont=>obtain⟨σ',H',I,q⟩:=h;exact⟨σ',H',I.gu,q⟩
 | ret u=>obtain⟨v,σ',H',I,r,q⟩:=h;exact⟨v,σ',H',I.gu,r,q⟩
theorem wF.U5{st:List Stmt}{t:TS}(h:wF X.U5 st t):wF X st t:=λpins s σ H D I hw =>
 wpAny_mono (h pins s σ H D (I.uf _) hw) (λ_ _ q=>q.gu) λ_ _ z=>False.elim z
end
section
variable {X:Cx} {st:Stmt} {rest:List Stmt} {t u:TS} {e:Expr} {te:TE} {pos:Pos}
def dR:TS:=λD σ H=>D.nx σ H
def Ga(t u:TS):TS:=λD σ H=>t {D with nx:=u D} σ H
theorem aK:wF X [] dR:=λ_ _ σ H _ I h=>wpAny_execs_nil ⟨σ,H,I,h⟩
theorem qK(h1:PS X st t)(h2:wF X rest u):wF X (st::rest) (Ga t u):=by
 intro pins s σ H D I h
 refine wpAny_execs_cons (cK (h1 pins s σ H {D with nx:=u D} I h) λf s1 q=>?_)
 cases f with
 | next =>
  obtain⟨σ',H',I',q⟩:=q
  exact h2 pins s1 σ' H' D I' q
 | ret v=>exact q
 | brk=>exact q
 | cont=>exact q
theorem qO(h1:PS X st t):wF X [st] t:=by
 intro pins s σ H D I h
 refine wpAny_execs_cons (cK (h1 pins s σ H D I h) λf s1 q=>?_)
 cases f with
 | next=>exact wpAny_execs_nil q
 | ret v=>exact q
 | brk=>exact q
 | cont=>exact q
theorem Inv.quiet{pins:List (Addr×Obj)}{σ:St}{H:Hp}{s:Shared}(I:Inv X pins σ H s):interactive X.env=false:=by simp[interactive,I.ok.kind]
def Sv(te:TE):TS:=λD σ H=>te σ H λ_ H1=>D.nx σ H1
theorem aW(he:PE X e te)(hs:swapsWith e none pos.line X.env=pure false:=by rfl):PS X (.Expr e pos) (Sv te):=by
 intro pins s σ H D I h
 exact wpAny_Expr_any (cK (he pins s σ H _ I h) λv s1 ⟨x,H1,I1,r1,q1⟩=>⟨σ,H1,I1,q1⟩) I.quiet hs
def VC(te:TE):TS:=λD σ H=>te σ H D.rt
theorem aE(he:PE X e te):PS X (.Return (some e) pos) (VC te):=by
 intro pins s σ H D I h
 exact wpAny_Return_some (cK (he pins s σ H _ I h) λv s1 ⟨x,H1,I1,r1,q1⟩=>⟨x,σ,H1,I1,r1,q1⟩)
def Sw:TS:=λD _ H=>D.rt .non H
theorem qh:PS X (.Return none pos) Sw:=λ_ _ σ H _ I h=>wpAny_Return_none ⟨.non,σ,H,I,rfl,h⟩
def VD(c:TT)(t u:TS):TS:=λD σ H=>c σ H λb H1=>if b=true then t D σ H1 else u D σ H1
theorem aY{c:Expr}{a b:List Stmt}{tc:TT}(hc:PT X c tc)(ha:wF X a t)(hb:wF X b u):PS X (.If c a b pos) (VD tc t u):=by
 intro pins s σ H D I h
 refine wpAny_If (cK (hc pins s σ H _ I h) λd s1 ⟨H1,I1,q1⟩=>?_)
 cases d with
 | true=>exact ha pins s1 σ H1 D I1 q1
 | false=>exact hb pins s1 σ H1 D I1 q1
def Pm:TS:=λ_ _ _=>False
theorem uU:PS X st Pm:=λ_ _ _ _ _ _ h=>h.elim
end
abbrev TG:=V->St->Hp->(St->Hp->Prop)->Prop
abbrev Kv:=List V->St->Hp->(St->Hp->Prop)->Prop
def PG(X:Cx)(target:Expr)(t:TG):Prop :=
 ∀(pins:List (Addr×Obj)) (s:Shared) (σ:St) (H:Hp) (v:V) (u:Value) (Q:St->Hp->Prop),Inv X pins σ H s->RelV v u->t v σ H Q ->
  wpAny (model X.prog X.w) X.A (assign target X.env u) (λ_ s'=>∃σ' H',Inv X pins σ' H' s'/\Q σ' H') X.xe s
def Sx(X:Cx)(ts:List Expr)(t:Kv):Prop :=
 ∀(pins:List (Addr×Obj)) (s:Shared) (σ:St) (H:Hp) (vs:List V) (us:List Value) (Q:St->Hp->Prop),Inv X pins σ H s->Vals vs us->t vs σ H Q ->
  wpAny (model X.prog X.w) X.A (assignInOrder ((assignEach ts X.env).map (·.2)) us) (λ_ s'=>∃σ' H',Inv X pins σ' H' s'/\Q σ' H') X.xe s
abbrev Pn:=V->V->V->Hp->(Hp->Prop)->Prop
def Sy(X:Cx)(t:Pn):Prop :=
 ∀(pins:List (Addr×Obj)) (s:Shared) (σ:St) (H:Hp) (o i v:V) (ov iv u:Value) (Q:Hp->Prop),Inv X pins σ H s->RelV o ov->RelV i iv->RelV v u->t o i v H Q ->
  wpAny (model X.prog X.w) X.A (setItem ov iv u) (λ_ s'=>∃H',Inv X pins σ H' s'/\Q H') X.xe s
section
variable {X:Cx} {pos:Pos}
def sP(i:Nat):TG:=λv σ H Q=>Q (σ.set i (some v)) H
theorem c9{i:Nat}{x:Str}(hN:X.N.Nodup)(hi:X.N[i]?=some x)(hx:Loc X.env.scope x)(hf:X.fn x=true∨X.env.scope.names.lookup x=some .local:=by first | exact .inl rfl | exact .inr rfl | assumption):PG X (.Name x pos) (sP i):=by
 intro pins s σ H v u Q I r h
 exact wpAny_assign_Name (zT I hN hi hx r (λs' I'=>⟨_,H,I',h⟩) hf)
def VE:Kv:=λvs σ H Q=>vs=[]/\Q σ H
def OB(t:TG)(u:Kv):Kv:=λvs σ H Q=>∃v r,vs=v::r/\t v σ H λσ' H'=>u r σ' H' Q
theorem C8:Sx X [] VE:=by
 intro pins s σ H vs us Q I r h
 obtain⟨e,h⟩:=h
 subst e
 cases r
 exact assignInOrder_nil ⟨σ,H,I,h⟩
theorem uV{e:Expr}{es:List Expr}{t:TG}{u:Kv}(h1:PG X e t)(h2:Sx X es u)
  (hs:(assignEach (e::es) X.env).map (·.2)=assign e X.env::(assignEach es X.env).map (·.2):=by rfl):Sx X (e::es) (OB t u):=by
 intro pins s σ H vs us Q I r h
 obtain⟨v,vr,e1,h⟩:=h
 subst e1
 cases r with
 | cons r rr =>
  rw[hs]
  refine assignInOrder_cons (cK (h1 pins s σ H _ _ _ I r h) λ_ s1 ⟨σ1,H1,I1,q1⟩=>?_)
  exact h2 pins s1 σ1 H1 _ _ Q I1 rr q1
def Sz(K:av)(n:Nat)(t:Kv):TG:=λv σ H Q=>∃a xs,v=.ref a/\ba K H a xs/\xs.length=n/\t xs σ H Q
theorem Gb{es:List Expr}{k:Nat}{t:Kv}{n:Nat}(hc:X.calm=true)(h:Sx X es t)
  (hn:(assignEach es X.env).length=n:=by rfl) (hst:(assignEach es X.env).findIdx? (·.1)=none:=by rfl):PG X (.Tuple es k pos) (Sz X.K n t):=by
 intro pins s σ H v u Q I r hw
 obtain⟨a,xs,e1,hq,hl,hw⟩:=hw
 subst e1
 cases r
 obtain⟨its,rv,ht,hz⟩:=I.tuple hq
 refine assign_Tuple_tuple (I.ok.hd hc) ht (by simp[hn,← hl,rv.length]) hst λh' hx=>?_
 have I1:Inv X pins σ H {s with heap:=h'}:=I.kept (t':=s.toks) λb o e=>hx b o (Nat.ne_of_lt (Heap.lt_size e)) e
 exact h pins _ σ H xs _ Q I1 (by simpa using rv) hw
def VF(to ti:TE)(t:Pn):TG:=λv σ H Q=>to σ H λo H1=>ti σ H1 λi H2=>t o i v H2 λH3=>Q σ H3
theorem BG{o i:Expr}{to ti:TE}{t:Pn}(ho:PE X o to)(hi:PE X i ti)(hs:Sy X t)
  (ha:∀v,assign (.Subscript o i pos) X.env v=(do
   let ov ← holding [v] (eval o X.env)
   let iv ← holding [v,ov] (eval i X.env)
   standAt pos
   holding [v,ov,iv] (setItem ov iv v)
   release [v,ov,iv] []):=by intro _;rfl):PG X (.Subscript o i pos) (VF to ti t):=by
 intro pins s σ H v u Q I r h
 rw[ha]
 refine wpAny_bind (wpAny_holding (cK (ho pins s σ H _ I h) λov s1 ⟨x,H1,I1,r1,q1⟩=>?_))
 refine wpAny_bind (wpAny_holding (cK (hi pins s1 σ H1 _ I1 q1) λiv s2 ⟨y,H2,I2,r2,q2⟩=>?_))
 refine wpAny_bind (wpAny_standAt (wpAny_bind (wpAny_holding (cK (hs pins s2 σ H2 x y v ov iv u _ I2 r1 r2 r q2) λ_ s3 ⟨H3,I3,q3⟩=>?_))))
 exact wpAny_release ⟨σ,H3,I3,q3⟩
def Gd(te:TE)(g:TG):TS:=λD σ H=>te σ H λx H1=>g x σ H1 D.nx
theorem BH{tg e:Expr}{te:TE}{g:TG}(he:PE X e te)(hg:PG X tg g)(hs:swapsWithSole [tg] e pos.line X.env=pure false:=by rfl)(hw:swappedStores [tg] e X.env=pure none:=by rfl)
  (h1:(assignEach [tg] X.env).map (·.2)=[assign tg X.env]:=by rfl):PS X (.Assign [tg] e pos) (Gd te g):=by
 intro pins s σ H D I h
 refine wpAny_Assign_stores (cK (he pins s σ H _ I h) λv s1 ⟨x,H1,I1,r1,q1⟩=>?_) hs hw
 rw[h1]
 exact cK (hg pins s1 σ H1 x v _ I1 r1 q1) λ_ s2 q=>q
theorem bf{i:Nat}{x:Str}{e:Expr}{te:TE}{pos':Pos}(hN:X.N.Nodup)(hi:X.N[i]?=some x)(hx:Loc X.env.scope x)(he:PE X e te)(hs:swapsWith e (some (.Name x pos')) pos.line X.env=pure false:=by rfl)(hf:X.fn x=true∨X.env.scope.names.lookup x=some .local:=by first | exact .inl rfl | exact .inr rfl | assumption):
  PS X (.Assign [.Name x pos'] e pos) (Gd te (sP i)):=by
 intro pins s σ H D I h
 refine wpAny_Assign_Name (cK (he pins s σ H _ I h) λv s1 ⟨y,H1,I1,r1,q1⟩=>?_) hs
 exact zT I1 hN hi hx r1 (λs2 I2=>⟨_,H1,I2,q1⟩) hf
end
section
variable {X:Cx} {pos:Pos}
def Ge(c:TT)(tb:TS):TS:=λD σ H=>∃W:Nat->St->Hp->Prop,(∃m,W m σ H)/\∀m σ H,W m σ H ->
 c σ H λb H1=>if b=true then ∃N:St->Hp->Prop,(∀σ' H',N σ' H'->∃m',m' < m/\W m' σ' H')/\tb {D with nx:=N,ct:=N,bk:=D.nx} σ H1 else D.nx σ H1
theorem uW{c:Expr}{body:List Stmt}{tc:TT}{tb:TS}(hp:PassesOwn (model X.prog X.w) X.A X.env X.xe)(hc:PT X c tc)(hb:wF X body tb):PS X (.While c body [] pos) (Ge tc tb):=by
 intro pins s σ H D I h
 obtain⟨W,⟨m0,w0⟩,turn⟩:=h
 refine wpAny_While (codeAny_whileLoop (λn s'=>∃σ' H',Inv X pins σ' H' s'/\W n σ' H') ?_ m0 ⟨σ,H,I,w0⟩)
 rintro n s1 ⟨σ1,H1,I1,w1⟩
 refine wpAny_passesOwn hp (cK (hc pins s1 σ1 H1 _ I1 (turn n σ1 H1 w1)) λb s2 ⟨H2,I2,q2⟩=>?_)
 cases b with
 | true =>
  obtain⟨N,hN,q2⟩:=q2
  rw[if_pos rfl]
  refine wpAny_passesOwn hp (cK (hb pins s2 σ1 H2 _ I2 q2) λf s3 q3=>?_)
  cases f with
  | next =>
   obtain⟨σ3,H3,I3,n3⟩:=q3
   obtain⟨m',hm,w3⟩:=hN σ3 H3 n3
   exact⟨m',hm,σ3,H3,I3,w3⟩
  | cont =>
   obtain⟨σ3,H3,I3,n3⟩:=q3
   obtain⟨m',hm,w3⟩:=hN σ3 H3 n3
   exact⟨m',hm,σ3,H3,I3,w3⟩
  | brk=>exact q3
  | ret v=>exact q3
 | false =>
  rw[if_neg Bool.false_ne_true]
  exact wpAny_execs_nil ⟨σ1,H2,I2,q2⟩
end
structure It where
 go:Nat->Hp->Prop
 yld:Nat->Hp->V->Hp->Prop
 stop:Nat->Hp->Prop
def qi(X:Cx)(pins:List (Addr×Obj))(H:Hp)(b:Addr):Prop :=
 H b=none/\b≠X.env.locals/\b∉X.fs/\(b∈X.ex∨X.s₀.heap.objs.size<=b)/\(∀x c,X.env.cells.lookup x=some c->c≠b)/\∀p∈X.pn++pins,p.1≠b
theorem Inv.Gf{X:Cx}{pins:List (Addr×Obj)}{σ:St}{H H':Hp}{s:Shared}{b:Addr}(I:Inv X pins σ H s)(hb:s.heap.objs.size<=b)(hn:H' b=none):qi X pins H' b:=by
 refine⟨hn,Nat.ne_of_gt (Nat.lt_of_lt_of_le I.lt hb),I.Vz hb,.inr (Nat.le_trans I.sz hb),λx c e z=>?_,λp hp z=>?_⟩
 ·obtain⟨v,q⟩:=I.cell x c e
  exact absurd (Nat.lt_of_lt_of_le q.lt (by rw[z];exact hb)) (Nat.lt_irrefl _)
 ·exact absurd (Nat.lt_of_lt_of_le (Heap.lt_size (I.pin p hp).1) (by rw[z];exact hb)) (Nat.lt_irrefl _)
structure Turn(P:Program)(w:World)(K:av)(tg:Expr)(J:It)(fp:List Addr)(it:Addr)(tn:Nat->Heap->Prop):Prop where
 mem:it∈fp
 obj:∀i h,tn i h->∀b∈fp,∃o,h.get? b=some o/\∀v,o.data≠.cell v
 keep:∀i h h',tn i h->(∀b∈fp,∀o,h.get? b=some o->h'.get? b=some o)->tn i h'
 item:∀(X:Cx),X.prog=P->X.w=w->X.K=K->X.calm=true->∀(i:Nat) (pins:List (Addr×Obj)) (s:Shared) (σ:St) (H:Hp) (E:Value->Shared->Prop),Inv X pins σ H s->(∀b∈fp,qi X pins H b)->tn i s.heap->J.go i H ->
  wpAny (model P w) X.A (pyNext (.ref it)) (λr s1=>∃u,r=some u /\
   wpAny (model P w) X.A (letOwnedTupleGo tg (.ref it) u) (λ_ s2=>∃x H',Inv X pins σ H' s2/\RelV x u/\J.yld i H x H'/\tn (i + 1) s2.heap/\∀b∈fp,H' b=none) E s1) E s
 done:∀(X:Cx),X.prog=P->X.w=w->X.K=K->X.calm=true->∀(i:Nat) (pins:List (Addr×Obj)) (s:Shared) (σ:St) (H:Hp) (E:Value->Shared->Prop),Inv X pins σ H s->(∀b∈fp,qi X pins H b)->tn i s.heap->J.stop i H ->
  wpAny (model P w) X.A (pyNext (.ref it)) (λr s1=>r=none/\Inv X pins σ H s1) E s
 self:∀(A:Around) (i:Nat) (s:Shared) (Q:Value->Shared->Prop) (E:Value->Shared->Prop),tn i s.heap->Q (.ref it) s->wpAny (model P w) A (pyIter (.ref it)) Q E s
abbrev TI:=St->Hp->(It->Hp->Prop)->Prop
def ZI(X:Cx)(pins:List (Addr×Obj))(σ:St)(tg:Expr)(R:It->Hp->Prop)(itv:Value)(s2:Shared):Prop :=
 ∃(it:Addr) (fp:List Addr) (tn:Nat->Heap->Prop) (J:It) (H':Hp),itv=.ref it/\Inv X pins σ H' s2/\Turn X.prog X.w X.K tg J fp it tn/\tn 0 s2.heap/\(∀b∈fp,qi X pins H' b)/\R J H'
def PI(X:Cx)(tg iter:Expr)(wi:TI):Prop :=
 ∀(pins:List (Addr×Obj)) (s:Shared) (σ:St) (H:Hp) (R:It->Hp->Prop),Inv X pins σ H s->wi σ H R ->
  wpAny (model X.prog X.w) X.A (eval iter X.env) (λv s1=>wpAny (model X.prog X.w) X.A (pyIter v) (ZI X pins σ tg R) X.xe s1) X.xe s
theorem Gg{M:Model}{A:Around}{E:Value->Shared->Prop}{s:Shared}{tg:Expr}{it:Addr}{u:Value}{o:Obj}{n:String}{vs:Array Value}{Q:Unit->Shared->Prop}(ho:s.heap.get? it=some o)(hc:o.cls=.type n)(hd:o.data=.fields vs)
  (hn:["enumerate","zip","dict_itemiterator","dict_reverseitemiterator","odict_iterator","itertools.zip_longest","itertools.pairwise"].contains n=false) (hQ:Q () s):wpAny M A (letOwnedTupleGo tg (.ref it) u) Q E s:=by
 unfold letOwnedTupleGo
 cases tg<;>first
  | exact wpAny_pure hQ
  | (cases u<;>first
    | exact wpAny_pure hQ
    | (refine wpAny_bind (wpAny_load ho ?_)
       rw[hc,hd]
       show wpAny M A (if (["enumerate","zip","dict_itemiterator","dict_reverseitemiterator","odict_iterator","itertools.zip_longest","itertools.pairwise"].contains n&&vs[0]? == some (rawInt _))=true then _ else _) Q E s
       rw[if_neg (by intro h;rw[hn,Bool.false_and]at h;cases h)]
       exact wpAny_pure hQ))
def OC(K:av)(a:Addr):It :=
 ⟨λi H=>∃xs x,bc K H a xs/\xs[i]?=some x,λi H x H'=>H'=H/\∀xs,bc K H a xs->xs[i]?=some x,λi H=>∃xs,bc K H a xs/\xs.length<=i⟩
def VG(K:av)(a:Addr):It :=
 ⟨λi H=>∃xs x,ba K H a xs/\xs[i]?=some x,λi H x H'=>H'=H/\∀xs,ba K H a xs->xs[i]?=some x,λi H=>∃xs,ba K H a xs/\xs.length<=i⟩
def OD(lo:Int)(n:Nat):It:=⟨λi _=>i < n,λi H x H'=>H'=H/\x=.int (lo + i),λi _=>n<=i⟩
theorem xo{P:Program}{w:World}{K:av}{tg:Expr}(a it:Addr):Turn P w K tg (OC K a) [it] it (λi h=>h.IsListIter it a i) where
 mem:=by simp
 obj:=λi h st b hb=>by
  have e:b=it:=by simpa using hb
  subst e
  obtain⟨o,e,c,d⟩:=st
  exact⟨o,e,λv z=>by rw[d]at z;cases z⟩
 keep:=λi h h' st k=>st.at λo e=>k it (by simp) o e
 item:=by
  intro X hP hw hK hc i pins s σ H E I hf st hg
  subst hP hw hK
  obtain⟨xs,x,hq,hx⟩:=hg
  obtain⟨its,rv,p,hz⟩:=I.list hq
  obtain⟨u,hu,ru⟩:=rv.get hx
  obtain⟨f0,f1,f2,f3,f4,f5⟩:=hf it (by simp)
  refine wpAny_pyNext_list_item st p.isList (x:=u) (by simpa using hu) λh' st' sb=>?_
  have I1:Inv X pins σ H {s with heap:=h'}:=I.turned (t':=s.toks) (λb o hb e=>(sb.2 b hb).trans e) f0 f1 f3 f4 f5
  obtain⟨o,e,c,d⟩:=id st'
  exact⟨u,rfl,Gg (s:={s with heap:=h'}) e c d (by decide) ⟨x,H,I1,ru,⟨rfl,λys hy=>by rw[I.FZ hy hq];exact hx⟩,st',λb hb=>(hf b hb).1⟩⟩
 done:=by
  intro X hP hw hK hc i pins s σ H E I hf st hg
  subst hP hw hK
  obtain⟨xs,hq,hx⟩:=hg
  obtain⟨its,rv,p,hz⟩:=I.list hq
  obtain⟨f0,f1,f2,f3,f4,f5⟩:=hf it (by simp)
  have hl:=rv.length
  exact wpAny_pyNext_list_end (I.ok.hd hc) st p.isList (by simp;omega) λh' eb=>⟨rfl,I.turned (t':=s.toks) (λb o hb e=>eb b o hb e) f0 f1 f3 f4 f5⟩
 self:=λ_ _ _ _ _ st h=>wpAny_pyIter_listiter st h
theorem BI{P:Program}{w:World}{K:av}{tg:Expr}(a it:Addr):Turn P w K tg (VG K a) [it] it (λi h=>h.IsTupleIter it a i) where
 mem:=by simp
 obj:=λi h st b hb=>by
  have e:b=it:=by simpa using hb
  subst e
  obtain⟨o,e,c,d⟩:=st
  exact⟨o,e,λv z=>by rw[d]at z;cases z⟩
 keep:=λi h h' st k=>st.at λo e=>k it (by simp) o e
 item:=by
  intro X hP hw hK hc i pins s σ H E I hf st hg
  subst hP hw hK
  obtain⟨xs,x,hq,hx⟩:=hg
  obtain⟨its,rv,p,hz⟩:=I.tuple hq
  obtain⟨u,hu,ru⟩:=rv.get hx
  obtain⟨f0,f1,f2,f3,f4,f5⟩:=hf it (by simp)
  refine wpAny_pyNext_tuple_item st (show s.heap.IsTuple a its.toArray from p) (x:=u) (by simpa using hu) λh' st' sb=>?_
  have I1:Inv X pins σ H {s with heap:=h'}:=I.turned (t':=s.toks) (λb o hb e=>(sb.2 b hb).trans e) f0 f1 f3 f4 f5
  obtain⟨o,e,c,d⟩:=id st'
  exact⟨u,rfl,Gg (s:={s with heap:=h'}) e c d (by decide) ⟨x,H,I1,ru,⟨rfl,λys hy=>by rw[I.DN hy hq];exact hx⟩,st',λb hb=>(hf b hb).1⟩⟩
 done:=by
  intro X hP hw hK hc i pins s σ H E I hf st hg
  subst hP hw hK
  obtain⟨xs,hq,hx⟩:=hg
  obtain⟨its,rv,p,hz⟩:=I.tuple hq
  obtain⟨f0,f1,f2,f3,f4,f5⟩:=hf it (by simp)
  have hl:=rv.length
  exact wpAny_pyNext_tuple_end (I.ok.hd hc) st (show s.heap.IsTuple a its.toArray from p) (by simp;omega) λh' eb=>⟨rfl,I.turned (t':=s.toks) (λb o hb e=>eb b o hb e) f0 f1 f3 f4 f5⟩
 self:=λ_ _ _ _ _ st h=>wpAny_pyIter_tupleiter st h
theorem BJ{P:Program}{w:World}{K:av}{tg:Expr}(it:Addr)(lo:Int)(n:Nat):Turn P w K tg (OD lo n) [it] it (λi h=>IsRangeIter h it (lo + (i:Nat) * 1) ((n:Int) - (i:Nat)) 1) where
 mem:=by simp
 obj:=λi h st b hb=>by
  have e:b=it:=by simpa using hb
  subst e
  exact⟨_,st,λv z=>by
   have z':Data.fields _=Data.cell v:=z
   cases z'⟩
 keep:=λi h h' st k=>k it (by simp) _ st
 item:=by
  intro X hP hw hK hc i pins s σ H E I hf st hg
  subst hP hw hK
  obtain⟨f0,f1,f2,f3,f4,f5⟩:=hf it (by simp)
  have W:=Walks.range (prog:=X.prog) (w:=X.w) (I.ok.hd hc) it lo 1 n
  refine W.item i s _ _ hg st λv h' tk hv st' kk=>?_
  obtain⟨t,rfl⟩:=hv
  have I1:Inv X pins σ H {s with heap:=h',toks:=tk}:=I.turned (λb o hb e=>kk b o (by simpa using hb) e) f0 f1 f3 f4 f5
  refine⟨_,rfl,Gg (s:={s with heap:=h',toks:=tk}) (n:="range_iterator") st' rfl rfl (by decide) ⟨.int (lo + i),H,I1,⟨t,?_⟩,⟨rfl,rfl⟩,st',λb hb=>(hf b hb).1⟩⟩
  rw[Int.mul_one]
 done:=by
  intro X hP hw hK hc i pins s σ H E I hf st hg
  subst hP hw hK
  obtain⟨f0,f1,f2,f3,f4,f5⟩:=hf it (by simp)
  exact wpAny_pyNext_range_end (I.ok.hd hc) st (by have:n<=i:=hg;omega) λh' eb=>⟨rfl,I.turned (t':=s.toks) (λb o hb e=>eb b o hb e) f0 f1 f3 f4 f5⟩
 self:=λ_ _ _ _ _ st h=>wpAny_pyIter_rangeiter st h
end L2
namespace L2
open PySem PySem.Spec PyProof.Rows
section
variable {X:Cx} {tg:Expr}
def SA(K:av)(tl:TE):TI:=λσ H R=>tl σ H λx H1=>∃a,x=.ref a/\(∃xs,bc K H1 a xs)/\R (OC K a) H1
theorem iQ{l:Expr}{tl:TE}(hl:PE X l tl):PI X tg l (SA X.K tl):=by
 intro pins s σ H R I h
 refine cK (hl pins s σ H _ I h) λv s1 ⟨x,H1,I1,r1,q1⟩=>?_
 obtain⟨a,e,⟨xs,hq⟩,q⟩:=q1
 subst e
 cases r1
 obtain⟨its,rv,p,hz⟩:=I1.list hq
 refine wpAny_pyIter_list p.isList ?_
 refine⟨s1.heap.objs.size,[s1.heap.objs.size],_,_,H1,rfl,I1.kept (t':=s1.toks) λb o e=>Heap.get?_push_of_some _ e,xo a _,⟨_,Heap.get?_push_size _ rfl,rfl,rfl⟩,λb hb=>?_,q⟩
 have e:b=s1.heap.objs.size:=by simpa using hb
 subst e
 exact I1.Gf (Nat.le_refl _) (I1.hok.fresh (Nat.le_refl _))
theorem Gh{pins:List (Addr×Obj)}{σ:St}{H:Hp}{s:Shared}{R:It->Hp->Prop}{E:Value->Shared->Prop}{lo hi:Int}{t u v:Tok}{tk:Nat}(I:Inv X pins σ H s)(h1:-(2 ^ 62)<=lo)(h2:lo < 2 ^ 62)(h3:-(2 ^ 62)<=hi)(h4:hi < 2 ^ 62)
  (q:R (OD lo (hi - lo).toNat) H):wpAny (model X.prog X.w) X.A (pyIter (.ref s.heap.objs.size)) (ZI X pins σ tg R) E {s with heap:=s.heap.push {cls:=.type "range",data:=.fields #[.int lo t,.int hi u,.int 1 v]},toks:=tk}:=by
 refine wpAny_pyIter_range (IsRange.new ..) (small_one h1 h2 h3 h4) ?_
 have I1:Inv X pins σ H {s with heap:=s.heap.push {cls:=.type "range",data:=.fields #[.int lo t,.int hi u,.int 1 v]},toks:=tk}:=I.kept λb o e=>Heap.get?_push_of_some _ e
 refine⟨(s.heap.push {cls:=.type "range",data:=.fields #[.int lo t,.int hi u,.int 1 v]}).objs.size,[(s.heap.push {cls:=.type "range",data:=.fields #[.int lo t,.int hi u,.int 1 v]}).objs.size],_,_,H,rfl,
  I1.kept (t':=tk) λb o e=>Heap.get?_push_of_some _ e,BJ _ lo (hi - lo).toNat,?_,λb hb=>?_,q⟩
 ·have e1:lo + ((0:Nat):Int) * 1=lo:=by simp
  have e2:(((hi - lo).toNat:Nat):Int) - ((0:Nat):Int)=Builtin.Range.rangeSize lo hi 1:=by rw[rangeSize_one];split<;>omega
  show IsRangeIter _ _ (lo + ((0:Nat):Int) * 1) ((((hi - lo).toNat:Nat):Int) - ((0:Nat):Int)) 1
  rw[e1,e2]
  exact Heap.get?_push_size _ rfl
 ·have e:b=(s.heap.push {cls:=.type "range",data:=.fields #[.int lo t,.int hi u,.int 1 v]}).objs.size:=by simpa using hb
  subst e
  exact I1.Gf (Nat.le_refl _) (I1.hok.fresh (Nat.le_refl _))
def SD(ta:TA):TI:=λσ H R=>ta σ H λvs H1=>∃j:Int,vs=[.int j]/\-(2 ^ 62)<=j/\j < 2 ^ 62/\R (OD 0 j.toNat) H1
theorem rK{a:Expr}{ta:TA}{p pos:Pos}(hg:Gl X "range")(hm:X.mg "range"=none)(ha:PA X [a] ta)(hs:starEach [a] X.env=[(false,eval a X.env)]:=by rfl):PI X tg (.Call (.Name "range" p) [a] [] pos) (SD ta):=by
 intro pins s σ H R I h
 refine Call_ (rH I hg hm boot_range (PyProof.Rows.callWith_type1 (cK (ha pos pins s σ H _ I h) λus s1 ⟨vs,H1,I1,r1,q1⟩=>?_) hs rfl))
 obtain⟨j,e,q1,q2,q⟩:=q1
 subst e
 cases r1 with
 | cons r rr =>
  cases rr
  obtain⟨t,rfl⟩:=r
  exact call_range_1 (Gh I1 (by omega) (by omega) q1 q2 (by simpa using q))
def VH(wi:TI)(g:TG)(tb:TS):TS:=λD σ H=>wi σ H λJ H1=>∃W:Nat->Nat->St->Hp->Prop,(∃m,W 0 m σ H1)/\∀i m σ H,W i m σ H ->
 (J.stop i H/\D.nx σ H)∨(J.go i H/\∃N:St->Hp->Prop,(∀σ' H',N σ' H'->∃m',m' < m/\W (i + 1) m' σ' H')/\∀x H',J.yld i H x H'->g x σ H' λσ2 H2=>tb {D with nx:=N,ct:=N,bk:=D.nx} σ2 H2)
def uX(fp:List Addr)(h:Heap):List (Addr×Obj):=fp.filterMap λb=>(h.get? b).map λo=>(b,o)
theorem jE{fp:List Addr}{h:Heap}{b:Addr}{o:Obj}(hb:b∈fp)(e:h.get? b=some o):(b,o)∈uX fp h:=List.mem_filterMap.mpr ⟨b,hb,by rw[e];rfl⟩
theorem DP{fp:List Addr}{h:Heap}{p:Addr×Obj}(hp:p∈uX fp h):p.1∈fp/\h.get? p.1=some p.2:=by
 obtain⟨b,hb,e⟩:=List.mem_filterMap.mp hp
 cases q:h.get? b with
 | none=>rw[q]at e;cases e
 | some o =>
  rw[q]at e
  have e':(b,o)=p:=Option.some.inj e
  subst e'
  exact⟨hb,q⟩
theorem Inv.pinned{pins:List (Addr×Obj)}{σ:St}{H:Hp}{s:Shared}{fp:List Addr}(I:Inv X pins σ H s)(hf:∀b∈fp,qi X pins H b)(ho:∀b∈fp,∃o,s.heap.get? b=some o/\∀v,o.data≠.cell v):Inv X (pins++uX fp s.heap) σ H s :=
 I.C7 λp hp=>(List.mem_append.mp hp).elim (λz=>I.pin p (List.mem_append_right _ z)) λz=>by
  obtain⟨hb,e⟩:=DP z
  obtain⟨f0,f1,f2,_⟩:=hf p.1 hb
  obtain⟨o,e',d⟩:=ho p.1 hb
  rw[e]at e';cases e'
  exact⟨e,f0,f1,f2,d⟩
theorem Inv.qj{pins pl:List (Addr×Obj)}{σ:St}{H:Hp}{s:Shared}(I:Inv X (pins++pl) σ H s):Inv X pins σ H s:=I.C7 λp hp=>I.pin p (List.mem_append_right _ (List.mem_append_left _ hp))
theorem rL{iter:Expr}{body:List Stmt}{wi:TI}{g:TG}{tb:TS}{pos:Pos}(hp:PassesOwn (model X.prog X.w) X.A X.env X.xe)(hc:X.calm=true)(hi:PI X tg iter wi)(hg:PG X tg g)(hb:wF X body tb)
  (hs:∀x,foldedSetIterable iter X.env x=pure x:=by intro _;rfl):PS X (.For tg iter body [] pos) (VH wi g tb):=by
 intro pins s σ H D I h
 refine wpAny_For (cK (hi pins s σ H _ I h) λv s1 h1=>cK h1 λitv s2 h2=>?_) hs
 obtain⟨it,fp,tn,J,H2,e,I2,T,dQ,f2,W,⟨m0,w0⟩,turn⟩:=h2
 subst e
 have stat:∀{H':Hp},(∀b∈fp,H' b=none)->∀b∈fp,qi X pins H' b:=λhn b hb=>⟨hn b hb,(f2 b hb).2⟩
 refine codeAny_forLoop_any (λn s'=>∃i σ' H',Inv X pins σ' H' s'/\tn i s'.heap/\(∀b∈fp,H' b=none)/\W i n σ' H') ?_ m0 ⟨0,σ,H2,I2,dQ,λb hb=>(f2 b hb).1,w0⟩
 rintro n s3 ⟨i,σ3,H3,I3,uY,ZJ,w3⟩
 rcases turn i n σ3 H3 w3 with⟨stop,qn⟩ | ⟨go,N,hN,step⟩
 ·refine wpAny_passesOwn hp (cK (T.done X rfl rfl rfl hc i pins s3 σ3 H3 X.xe I3 (stat ZJ) uY stop) λr s4 ⟨hr,I4⟩=>?_)
  subst hr
  exact wpAny_execs_nil ⟨σ3,H3,I4,qn⟩
 ·refine wpAny_passesOwn hp (cK (T.item X rfl rfl rfl hc i pins s3 σ3 H3 X.xe I3 (stat ZJ) uY go) λr s4 ⟨u,hr,h4⟩=>?_)
  subst hr
  refine wpAny_passesOwn hp (cK h4 λ_ s5 ⟨x,H5,I5,r5,y5,Gi,U6⟩=>?_)
  have I5':=I5.pinned (stat U6) (T.obj _ _ Gi)
  refine wpAny_passesOwn hp (cK (hg _ s5 σ3 H5 x u _ I5' r5 (step x H5 y5)) λ_ s6 ⟨σ6,H6,I6,q6⟩=>?_)
  refine wpAny_passesOwn hp (cK (hb _ s6 σ6 H6 _ I6 q6) λf s7 q7=>?_)
  have again:∀{σ7:St} {H7:Hp},Inv X (pins++uX fp s5.heap) σ7 H7 s7->N σ7 H7->∃m,m < n/\∃i σ' H',Inv X pins σ' H' s7/\tn i s7.heap/\(∀b∈fp,H' b=none)/\W i m σ' H':=λ{σ7 H7} I7 n7=>by
   obtain⟨m',hm,w7⟩:=hN σ7 H7 n7
   refine⟨m',hm,i + 1,σ7,H7,I7.qj,T.keep _ _ _ Gi λb hb o e=>(I7.pin (b,o) (List.mem_append_right _ (List.mem_append_right _ (jE hb e)))).1,λb hb=>?_,w7⟩
   obtain⟨o,e,d⟩:=T.obj _ _ Gi b hb
   exact(I7.pin (b,o) (List.mem_append_right _ (List.mem_append_right _ (jE hb e)))).2.1
  cases f with
  | next=>obtain⟨σ7,H7,I7,n7⟩:=q7;exact again I7 n7
  | cont=>obtain⟨σ7,H7,I7,n7⟩:=q7;exact again I7 n7
  | brk=>obtain⟨σ7,H7,I7,q7⟩:=q7;exact⟨σ7,H7,I7.qj,q7⟩
  | ret v=>obtain⟨x7,σ7,H7,I7,r7,q7⟩:=q7;exact⟨x7,σ7,H7,I7.qj,r7,q7⟩
end
theorem uZ{K:av}{a:Addr}{xs:List V}{g:TG}{tb:TS}{D:Ends}{σ:St}{H:Hp}(Pv:Nat->St->Hp->Prop)(h0:Pv 0 σ H)(hl:∀i σ H,i<=xs.length->Pv i σ H->bc K H a xs)
  (hs:∀i x σ H,xs[i]?=some x->Pv i σ H->g x σ H λσ2 H2=>tb {D with nx:=Pv (i + 1),ct:=Pv (i + 1),bk:=D.nx} σ2 H2) (hd:∀σ H,Pv xs.length σ H->D.nx σ H) :
  ∃W:Nat->Nat->St->Hp->Prop,(∃m,W 0 m σ H)/\∀i m σ H,W i m σ H ->
   ((OC K a).stop i H/\D.nx σ H)∨((OC K a).go i H/\∃N:St->Hp->Prop,(∀σ' H',N σ' H'->∃m',m' < m/\W (i + 1) m' σ' H')/\∀x H',(OC K a).yld i H x H'->g x σ H' λσ2 H2=>tb {D with nx:=N,ct:=N,bk:=D.nx} σ2 H2):=by
 refine⟨λi m σ H=>m=xs.length - i/\i<=xs.length/\Pv i σ H,⟨xs.length,by simp,Nat.zero_le _,h0⟩,?_⟩
 rintro i m σ H ⟨rfl,hi,p⟩
 have q:=hl i σ H hi p
 by_cases hlt:i < xs.length
 ·refine .inr ⟨⟨xs,xs[i],q,by simp[hlt]⟩,Pv (i + 1),λσ' H' p'=>⟨xs.length - (i + 1),by omega,rfl,hlt,p'⟩,λx H' y=>?_⟩
  obtain⟨e,y⟩:=y
  subst e
  exact hs i x σ _ (y xs q) p
 ·have e:i=xs.length:=by omega
  subst e
  exact .inl ⟨⟨xs,q,Nat.le_refl _⟩,hd σ H p⟩
theorem DQ{lo:Int}{n:Nat}{g:TG}{tb:TS}{D:Ends}{σ:St}{H:Hp}(Pv:Nat->St->Hp->Prop)(h0:Pv 0 σ H)
  (hs:∀i σ H,i < n->Pv i σ H->g (.int (lo + i)) σ H λσ2 H2=>tb {D with nx:=Pv (i + 1),ct:=Pv (i + 1),bk:=D.nx} σ2 H2) (hd:∀σ H,Pv n σ H->D.nx σ H) :
  ∃W:Nat->Nat->St->Hp->Prop,(∃m,W 0 m σ H)/\∀i m σ H,W i m σ H ->
   ((OD lo n).stop i H/\D.nx σ H)∨((OD lo n).go i H/\∃N:St->Hp->Prop,(∀σ' H',N σ' H'->∃m',m' < m/\W (i + 1) m' σ' H')/\∀x H',(OD lo n).yld i H x H'->g x σ H' λσ2 H2=>tb {D with nx:=N,ct:=N,bk:=D.nx} σ2 H2):=by
 refine⟨λi m σ H=>m=n - i/\i<=n/\Pv i σ H,⟨n,by simp,Nat.zero_le _,h0⟩,?_⟩
 rintro i m σ H ⟨rfl,hi,p⟩
 by_cases hlt:i < n
 ·refine .inr ⟨hlt,Pv (i + 1),λσ' H' p'=>⟨n - (i + 1),by omega,rfl,hlt,p'⟩,λx H' y=>?_⟩
  obtain⟨e,y⟩:=y
  subst e y
  exact hs i σ _ hlt p
 ·have e:i=n:=by omega
  subst e
  exact .inl ⟨Nat.le_refl _,hd σ H p⟩
theorem va{c:TT}{tb:TS}{D:Ends}{σ:St}{H:Hp}(Pv:St->Hp->Prop)(μ:St->Hp->Nat)(h0:Pv σ H)
  (hs:∀σ H,Pv σ H->c σ H λb H1=>if b=true then tb {D with nx:=λσ' H'=>Pv σ' H'/\μ σ' H' < μ σ H,ct:=λσ' H'=>Pv σ' H'/\μ σ' H' < μ σ H,bk:=D.nx} σ H1 else D.nx σ H1)
  (mono:∀σ H Q Q',(∀b H1,Q b H1->Q' b H1)->c σ H Q->c σ H Q'):Ge c tb D σ H:=by
 refine⟨λm σ H=>m=μ σ H/\Pv σ H,⟨_,rfl,h0⟩,?_⟩
 rintro m σ H ⟨rfl,p⟩
 refine mono σ H _ _ (λb H1 q=>?_) (hs σ H p)
 cases b with
 | true=>exact⟨_,λσ' H' ⟨p',l⟩=>⟨_,l,rfl,p'⟩,q⟩
 | false=>exact q
end L2
namespace L2
open PySem PySem.Spec PyProof.Rows
abbrev R2:=V->V->Hp->VK->Prop
def iq(X:Cx)(f:Value->Value->Sem Value)(r:R2):Prop :=
 ∀(pins:List (Addr×Obj)) (s:Shared) (σ:St) (H:Hp) (x y:V) (v u:Value) (Q:VK),Inv X pins σ H s->RelV x v->RelV y u->r x y H Q ->
  wpAny (model X.prog X.w) X.A (f v u) (EP X pins σ Q) X.xe s
def VI(X:Cx)(f:Value->Sem Value)(r:V->Hp->VK->Prop):Prop :=
 ∀(pins:List (Addr×Obj)) (s:Shared) (σ:St) (H:Hp) (x:V) (v:Value) (Q:VK),Inv X pins σ H s->RelV x v->r x H Q ->
  wpAny (model X.prog X.w) X.A (f v) (EP X pins σ Q) X.xe s
def jo(X:Cx)(f:Value)(r:List V->Hp->VK->Prop):Prop :=
 ∀(pins:List (Addr×Obj)) (s:Shared) (σ:St) (H:Hp) (xs:List V) (us:List Value) (Q:VK),Inv X pins σ H s->Vals xs us->r xs H Q ->
  wpAny (model X.prog X.w) X.A (call f us) (EP X pins σ Q) X.xe s
def SE(r:R2)(ta tb:TE):TE:=λσ H Q=>ta σ H λx H1=>tb σ H1 λy H2=>r x y H2 Q
def tUn(r:V->Hp->VK->Prop)(ta:TE):TE:=λσ H Q=>ta σ H λx H1=>r x H1 Q
def rI(C:Int->Int->Prop)(g:Int->Int->V):R2:=λx y H Q=>∃i j,x=.int i/\y=.int j/\C i j/\Q (g i j) H
def Fv(g:Int->Int->V):R2:=λx y H Q=>∃i j,x=.int i/\y=.int j/\Q (g i j) H
def rU(g:Int->V):V->Hp->VK->Prop:=λx H Q=>∃i,x=.int i/\Q (g i) H
section
variable {X:Cx} {a b c:Expr} {ta tb tc:TE} {pos:Pos}
theorem Po(ha:PE X a ta)(hb:PE X b tb){pins:List (Addr×Obj)}{s:Shared}{σ:St}{H:Hp}{R:V->V->Hp->Prop}(I:Inv X pins σ H s)
  (h:ta σ H λx H1=>tb σ H1 λy H2=>R x y H2) {Q:Value->Shared->Prop} {f:Value->Value->Sem Value}
  (hf:∀v u s2 x y H2,Inv X pins σ H2 s2->RelV x v->RelV y u->R x y H2->wpAny (model X.prog X.w) X.A (f v u) Q X.xe s2) :
  wpAny (model X.prog X.w) X.A (eval a X.env) (λv s₁=>wpAny (model X.prog X.w) X.A (eval b X.env) (λu s₂=>wpAny (model X.prog X.w) X.A (f v u) Q X.xe s₂) X.xe s₁) X.xe s:=by
 refine cK (ha pins s σ H _ I h) λv s1 ⟨x,H1,I1,r1,q1⟩=>?_
 refine cK (hb pins s1 σ H1 _ I1 q1) λu s2 ⟨y,H2,I2,r2,q2⟩=>?_
 exact hf v u s2 x y H2 I2 r1 r2 q2
theorem bh{op:Operator}{r:R2}(ho:iq X (binaryOp op) r)(ha:PE X a ta)(hb:PE X b tb):PE X (.BinOp a op b pos) (SE r ta tb):=by
 intro pins s σ H Q I h
 exact wpAny_BinOp (Po ha hb I h λv u s2 x y H2 I2 rx ry q=>ho pins s2 σ H2 x y v u Q I2 rx ry q)
theorem kQ{op:UnaryOp}{r:V->Hp->VK->Prop}(ho:VI X (unaryOp op) r)(ha:PE X a ta):PE X (.UnaryOp op a pos) (tUn r ta):=by
 intro pins s σ H Q I h
 exact UnaryOp_ (cK (ha pins s σ H _ I h) λv s1 ⟨x,H1,I1,r1,q1⟩=>ho pins s1 σ H1 x v Q I1 r1 q1)
theorem Lp{f:Value->Value->Sem Value}{C:Int->Int->Prop}{g:Int->Int->Int}
  (rule:∀(i j:Int) (t u:Tok) (s:Shared) (Q:Value->Shared->Prop) (E:Value->Shared->Prop),C i j->Q (.int (g i j) s.toks) {s with toks:=s.toks + 1}->wpAny (model X.prog X.w) X.A (f (.int i t) (.int j u)) Q E s) :
  iq X f (rI C λi j=>.int (g i j)):=by
 intro pins s σ H x y v u Q I rx ry h
 obtain⟨i,j,rfl,rfl,hc,q⟩:=h
 obtain⟨t,rfl⟩:=rx
 obtain⟨t',rfl⟩:=ry
 exact rule i j t t' s _ _ hc ⟨.int (g i j),H,I.tok _,⟨_,rfl⟩,q⟩
theorem Lq{f:Value->Value->Sem Value}{g:Int->Int->Int}
  (rule:∀(i j:Int) (t u:Tok) (s:Shared) (Q:Value->Shared->Prop) (E:Value->Shared->Prop),Q (.int (g i j) s.toks) {s with toks:=s.toks + 1}->wpAny (model X.prog X.w) X.A (f (.int i t) (.int j u)) Q E s) :
  iq X f (Fv λi j=>.int (g i j)):=by
 intro pins s σ H x y v u Q I rx ry h
 obtain⟨i,j,rfl,rfl,q⟩:=h
 obtain⟨t,rfl⟩:=rx
 obtain⟨t',rfl⟩:=ry
 exact rule i j t t' s _ _ ⟨.int (g i j),H,I.tok _,⟨_,rfl⟩,q⟩
theorem Lr{f:Value->Value->Sem Value}{g:Int->Int->Bool}
  (rule:∀(i j:Int) (t u:Tok) (s:Shared) (Q:Value->Shared->Prop) (E:Value->Shared->Prop),Q (.bool (g i j)) s->wpAny (model X.prog X.w) X.A (f (.int i t) (.int j u)) Q E s) :
  iq X f (Fv λi j=>.bl (g i j)):=by
 intro pins s σ H x y v u Q I rx ry h
 obtain⟨i,j,rfl,rfl,q⟩:=h
 obtain⟨t,rfl⟩:=rx
 obtain⟨t',rfl⟩:=ry
 exact rule i j t t' s _ _ ⟨.bl (g i j),H,I,rfl,q⟩
def VJ(i j:Int):Prop:=0 < j/\j < 1073741824
def SF(i j:Int):Prop:=0<=j/\j<=1000000/\i.natAbs < 2 ^ 64
def Ls(i j:Int):Prop:=(-(2 ^ 64) < i/\i < 2 ^ 64)∨(-(2 ^ 64) < j/\j < 2 ^ 64)
theorem Ls.ok{i j:Int}(h:Ls i j):IntMulOk i j:=by
 rcases h with⟨h1,h2⟩ | ⟨h1,h2⟩
 ·exact .of_left (intBits_le_64 h1 h2)
 ·exact .of_right (intBits_le_64 h1 h2)
theorem BK(k:Nat):(0:Int)<=2 ^ k:=by
 rw[two_pow_cast]
 exact Int.natCast_nonneg _
theorem ey:iq X (binaryOp .Add) (Fv λi j=>.int (i + j)):=Lq λ_ _ _ _ _ _ _ q=>add_int q
theorem oQ:iq X (binaryOp .Sub) (Fv λi j=>.int (i - j)):=Lq λ_ _ _ _ _ _ _ q=>sub_int q
theorem BL:iq X (binaryOp .Mult) (rI Ls λi j=>.int (i * j)):=Lp λ_ _ _ _ _ _ _ hc q=>mul_int q hc.ok
theorem uB:iq X (binaryOp .FloorDiv) (rI VJ λi j=>.int (i / j)):=Lp λi j _ _ _ _ _ hc q=>by
 have h1:(0:Int) < j:=hc.1
 have h2:j < 1073741824:=hc.2
 exact floordiv_int (by omega) (by rw[Int.fdiv_eq_ediv_of_nonneg i (by omega)];exact q) (.inl (PyProof.noPylong_small (by omega)))
theorem i5:iq X (binaryOp .Mod) (rI (λ_ j=>0 < j) λi j=>.int (i % j)):=Lp λi j _ _ _ _ _ hc q=>by
 have h1:(0:Int) < j:=hc
 exact mod_int' (by omega) (by rw[Int.fmod_eq_emod_of_nonneg i (by omega)];exact q)
theorem Lu:iq X (binaryOp .Mod) (rI (λ_ j=>j≠0) λi j=>.int (i.fmod j)):=Lp λ_ _ _ _ _ _ _ hc q=>mod_int' hc q
theorem BM:iq X (binaryOp .LShift) (rI SF λi j=>.int (i * 2 ^ j.toNat)):=Lp λ_ _ _ _ _ _ _ hc q=>lshift_int_small hc.1 hc.2.1 hc.2.2 q
theorem Pp:iq X (binaryOp .RShift) (rI (λ_ j=>0<=j) λi j=>.int (i / 2 ^ j.toNat)):=Lp λi j _ _ _ _ _ hc q =>
 rshift_int hc (by rw[Int.fdiv_eq_ediv_of_nonneg i (BK _)];exact q)
theorem Gj:iq X (binaryOp .BitAnd) (Fv λi j=>.int (Builtin.bitAnd i j)):=Lq λ_ _ _ _ _ _ _ q=>and_int q
theorem SG:iq X (binaryOp .BitOr) (Fv λi j=>.int (Builtin.bitOr i j)):=Lq λ_ _ _ _ _ _ _ q=>or_int q
theorem unI{f:Value->Sem Value}{g:Int->Int}
  (rule:∀(i:Int) (t:Tok) (s:Shared) (Q:Value->Shared->Prop) (E:Value->Shared->Prop),Q (.int (g i) s.toks) {s with toks:=s.toks + 1}->wpAny (model X.prog X.w) X.A (f (.int i t)) Q E s) :
  VI X f (rU λi=>.int (g i)):=by
 intro pins s σ H x v Q I rx h
 obtain⟨i,rfl,q⟩:=h
 obtain⟨t,rfl⟩:=rx
 exact rule i t s _ _ ⟨.int (g i),H,I.tok _,⟨_,rfl⟩,q⟩
theorem iu:VI X (unaryOp .USub) (rU λi=>.int (-i)):=unI λ_ _ _ _ _ q=>neg_int q
end
def SI:V->V->Bool
 | .non,.non=>true | .non,.int _=>true | .int _,.non=>true | .non,.bl _=>true | .bl _,.non=>true | .non,.str _=>true | .str _,.non=>true
 | .int _,.int _=>true | .bl _,.bl _=>true | .str _,.str _=>true | .byt _,.byt _=>true
 | .int _,.str _=>true | .str _,.int _=>true | .bl _,.str _=>true | .str _,.bl _=>true
 | _,_=>false
def ZK:R2:=λx y H Q=>SI x y=true/\Q (.bl (decide (x=y))) H
def ZL:R2:=λx y H Q=>SI x y=true/\Q (.bl (!decide (x=y))) H
theorem C9{i j:Int}:decide (V.int i=V.int j)=(i == j):=by
 rw[Bool.eq_iff_iff]
 simp
theorem Gk{i j:Bool}:decide (V.bl i=V.bl j)=(i == j):=by
 rw[Bool.eq_iff_iff]
 simp
theorem Dc{i j:Str}:decide (V.str i=V.str j)=(i == j):=by
 rw[Bool.eq_iff_iff]
 simp
theorem Dd{i j:Array UInt8}:decide (V.byt i=V.byt j)=(i.toList == j.toList):=by
 rw[Bool.eq_iff_iff]
 cases i
 cases j
 simp
section
variable {X:Cx} {a b c:Expr} {ta tb tc:TE} {pos:Pos}
theorem bB{pins:List (Addr×Obj)}{σ:St}{H:Hp}{s:Shared}{Q:VK}{k k':Bool}(I:Inv X pins σ H s)(q:Q (.bl k) H)(e:k=k'):EP X pins σ Q (.bool k') s:=by
 subst e
 exact⟨.bl k,H,I,rfl,q⟩
theorem bD:iq X (compareOp .Eq) ZK:=by
 intro pins s σ H x y v u Q I rx ry h
 obtain⟨hs,q⟩:=h
 cases x with
 | non =>
  cases rx
  cases y with
  | non=>cases ry;exact PySem.EqNone.eq_none_none (bB I q (by simp))
  | bl j=>cases ry;exact PySem.EqNone.eq_none_bool (bB I q (by simp))
  | int j=>obtain⟨t',rfl⟩:=ry;exact PySem.EqNone.eq_none_int (bB I q (by simp))
  | str j=>obtain⟨t',rfl⟩:=ry;exact PySem.EqNone.eq_none_str (bB I q (by simp))
  | _=>exact absurd (show false=true from hs) Bool.false_ne_true
 | bl i =>
  cases rx
  cases y with
  | non=>cases ry;exact PySem.EqNone.eq_bool_none (bB I q (by simp))
  | bl j=>cases ry;exact eq_bool (bB I q Gk)
  | str j=>obtain⟨t',rfl⟩:=ry;exact PySem.EqMixed.eq_bool_str (bB I q (by simp))
  | _=>exact absurd (show false=true from hs) Bool.false_ne_true
 | int i =>
  obtain⟨t,rfl⟩:=rx
  cases y with
  | non=>cases ry;exact PySem.EqNone.eq_int_none (bB I q (by simp))
  | int j=>obtain⟨t',rfl⟩:=ry;exact eq_int (bB I q C9)
  | str j=>obtain⟨t',rfl⟩:=ry;exact PySem.EqMixed.eq_int_str (bB I q (by simp))
  | _=>exact absurd (show false=true from hs) Bool.false_ne_true
 | str i =>
  obtain⟨t,rfl⟩:=rx
  cases y with
  | non=>cases ry;exact PySem.EqNone.eq_str_none (bB I q (by simp))
  | bl j=>cases ry;exact PySem.EqMixed.eq_str_bool (bB I q (by simp))
  | int j=>obtain⟨t',rfl⟩:=ry;exact PySem.EqMixed.eq_str_int (bB I q (by simp))
  | str j=>obtain⟨t',rfl⟩:=ry;exact eq_str (bB I q Dc)
  | _=>exact absurd (show false=true from hs) Bool.false_ne_true
 | byt i =>
  obtain⟨t,rfl⟩:=rx
  cases y with
  | byt j=>obtain⟨t',rfl⟩:=ry;exact PySem.W.eq_bytes (bB I q Dd)
  | _=>exact absurd (show false=true from hs) Bool.false_ne_true
 | _=>cases y<;>exact absurd (show false=true from hs) Bool.false_ne_true
theorem OE:iq X (compareOp .NotEq) ZL:=by
 intro pins s σ H x y v u Q I rx ry h
 obtain⟨hs,q⟩:=h
 cases x with
 | non =>
  cases rx
  cases y with
  | non=>cases ry;exact PySem.EqNone.ne_none_none (bB I q (by simp))
  | bl j=>cases ry;exact PySem.EqNone.ne_none_bool (bB I q (by simp))
  | int j=>obtain⟨t',rfl⟩:=ry;exact PySem.EqNone.ne_none_int (bB I q (by simp))
  | str j=>obtain⟨t',rfl⟩:=ry;exact PySem.EqNone.ne_none_str (bB I q (by simp))
  | _=>exact absurd (show false=true from hs) Bool.false_ne_true
 | bl i =>
  cases rx
  cases y with
  | non=>cases ry;exact PySem.EqNone.ne_bool_none (bB I q (by simp))
  | bl j=>cases ry;exact ne_bool (bB I q (congrArg not Gk))
  | str j=>obtain⟨t',rfl⟩:=ry;exact PySem.EqMixed.ne_bool_str (bB I q (by simp))
  | _=>exact absurd (show false=true from hs) Bool.false_ne_true
 | int i =>
  obtain⟨t,rfl⟩:=rx
  cases y with
  | non=>cases ry;exact PySem.EqNone.ne_int_none (bB I q (by simp))
  | int j=>obtain⟨t',rfl⟩:=ry;exact ne_int (bB I q (congrArg not C9))
  | str j=>obtain⟨t',rfl⟩:=ry;exact PySem.EqMixed.ne_int_str (bB I q (by simp))
  | _=>exact absurd (show false=true from hs) Bool.false_ne_true
 | str i =>
  obtain⟨t,rfl⟩:=rx
  cases y with
  | non=>cases ry;exact PySem.EqNone.ne_str_none (bB I q (by simp))
  | bl j=>cases ry;exact PySem.EqMixed.ne_str_bool (bB I q (by simp))
  | int j=>obtain⟨t',rfl⟩:=ry;exact PySem.EqMixed.ne_str_int (bB I q (by simp))
  | str j=>obtain⟨t',rfl⟩:=ry;exact ne_str (bB I q (congrArg not Dc))
  | _=>exact absurd (show false=true from hs) Bool.false_ne_true
 | byt i =>
  obtain⟨t,rfl⟩:=rx
  cases y with
  | byt j=>obtain⟨t',rfl⟩:=ry;exact PySem.W.ne_bytes (bB I q (congrArg not Dd))
  | _=>exact absurd (show false=true from hs) Bool.false_ne_true
 | _=>cases y<;>exact absurd (show false=true from hs) Bool.false_ne_true
theorem xp:iq X (compareOp .Lt) (Fv λi j=>.bl (decide (i < j))):=Lr λ_ _ _ _ _ _ _ q=>lt_int q
theorem Gm:iq X (compareOp .LtE) (Fv λi j=>.bl (decide (i<=j))):=Lr λ_ _ _ _ _ _ _ q=>le_int q
theorem xq:iq X (compareOp .Gt) (Fv λi j=>.bl (decide (j < i))):=Lr λ_ _ _ _ _ _ _ q=>gt_int q
theorem SJ:iq X (compareOp .GtE) (Fv λi j=>.bl (decide (j<=i))):=Lr λ_ _ _ _ _ _ _ q=>ge_int q
theorem BN:iq X (compareOp .Is) (λx y H Q=>y=.non/\Q (.bl (decide (x=.non))) H):=by
 intro pins s σ H x y v u Q I rx ry h
 obtain⟨rfl,q⟩:=h
 cases ry
 refine is_none_gen (bB I q ?_)
 cases x<;>first
  | (cases rx;rfl)
  | (obtain⟨t,rfl⟩:=rx;rfl)
theorem qk:iq X (compareOp .IsNot) (λx y H Q=>y=.non/\Q (.bl (!decide (x=.non))) H):=by
 intro pins s σ H x y v u Q I rx ry h
 obtain⟨rfl,q⟩:=h
 cases ry
 refine isnot_none_gen (bB I q ?_)
 cases x<;>first
  | (cases rx;rfl)
  | (obtain⟨t,rfl⟩:=rx;rfl)
theorem aC(b:Expr){op:CmpOp}(h:op≠.In:=by decide)(h2:op≠.NotIn:=by decide):behindInMarks op b=false:=by
 have e1:(op == CmpOp.In)=false:=by cases op<;>first | rfl | exact absurd rfl h
 have e2:(op == CmpOp.NotIn)=false:=by cases op<;>first | rfl | exact absurd rfl h2
 cases b<;>simp[behindInMarks,e1,e2]
theorem jF{op:CmpOp}{r:R2}(ho:iq X (compareOp op) r)(ha:PE X a ta)(hb:PE X b tb)(hm:behindInMarks op b=false):PE X (.Compare a [op] [b] pos) (SE r ta tb):=by
 intro pins s σ H Q I h
 exact wpAny_Compare1 (Po ha hb I h λv u s2 x y H2 I2 rx ry q=>ho pins s2 σ H2 x y v u Q I2 rx ry q) hm
def Gn(t:TE):TT:=λσ H Q=>t σ H λx H'=>∃k,x=.bl k/\Q k H'
theorem tR{op:CmpOp}{r:R2}(ho:iq X (compareOp op) r)(ha:PE X a ta)(hb:PE X b tb)(hm:behindInMarks op b=false):PT X (.Compare a [op] [b] pos) (Gn (SE r ta tb)):=by
 intro pins s σ H Q I h
 refine wpAny_isTrue_Compare1 (cK (ha pins s σ H _ I h) λv s1 ⟨x,H1,I1,r1,q1⟩=>cK (hb pins s1 σ H1 _ I1 q1) λu s2 ⟨y,H2,I2,r2,q2⟩ =>
  cK (ho pins s2 σ H2 x y v u _ I2 r1 r2 q2) λc s3 ⟨z,H3,I3,r3,k,e,q3⟩=>?_) hm
 subst e
 cases r3
 exact wpAny_truthy_bool ⟨H3,I3,q3⟩
def Pq(r r':R2)(ta tb tc:TE):TE:=λσ H Q=>ta σ H λx H1=>tb σ H1 λy H2=>r x y H2 λz H3=>∃k,z=.bl k /\
 (if k=true then tc σ H3 λw' H4=>r' y w' H4 Q else Q (.bl false) H3)
theorem zV{op op':CmpOp}{r r':R2}(ho:iq X (compareOp op) r)(ho':iq X (compareOp op') r')(ha:PE X a ta)(hb:PE X b tb)(hc:PE X c tc)
  (hm:lastMarks [op,op'] [b,c]=false:=by with_unfolding_all rfl):PT X (.Compare a [op,op'] [b,c] pos) (Gn (Pq r r' ta tb tc)):=by
 intro pins s σ H Q I h
 refine isTrue_chain (cK (ha pins s σ H _ I h) λv s1 ⟨x,H1,I1,r1,q1⟩=>test_link (cK (hb pins s1 σ H1 _ I1 q1) λu s2 ⟨y,H2,I2,r2,q2⟩ =>
  cK (ho pins s2 σ H2 x y v u _ I2 r1 r2 q2) λd s3 ⟨z,H3,I3,r3,k,e,q3⟩=>?_)) hm
 subst e
 cases r3
 refine wpAny_truthy_bool ?_
 cases k with
 | false =>
  obtain⟨k',e',q'⟩:=q3
  cases e'
  exact ite_ff ⟨H3,I3,q'⟩
 | true =>
  refine ite_tt (test_last (cK (hc pins s3 σ H3 _ I3 q3) λw' s4 ⟨z',H4,I4,r4,q4⟩=>cK (ho' pins s4 σ H4 y z' u w' _ I4 r2 r4 q4) λd' s5 ⟨z2,H5,I5,r5,k2,e2,q5⟩=>?_))
  subst e2
  cases r5
  exact wpAny_truthy_bool ⟨H5,I5,q5⟩
theorem rM:(sizeLine:Nat) < 2 ^ 63:=by rw[sizeLine_eq];decide
theorem BO:iq X (binaryOp .Add) (λx y H Q=>∃i j,x=.str i/\y=.str j/\i.length + j.length<=sizeLine/\Q (.str (i++j)) H):=by
 intro pins s σ H x y v u Q I rx ry h
 obtain⟨i,j,rfl,rfl,hz,q⟩:=h
 obtain⟨t,rfl⟩:=rx
 obtain⟨t',rfl⟩:=ry
 exact add_str (λt' tk=>⟨.str (i++j),H,I.tok _,⟨_,rfl⟩,q⟩) hz
theorem vals1{x:V}{us:List Value}(r:Vals [x] us):∃u,us=[u]/\RelV x u:=by
 cases r with
 | cons r1 r2=>cases r2;exact⟨_,rfl,r1⟩
theorem vals2{x y:V}{us:List Value}(r:Vals [x,y] us):∃u w',us=[u,w']/\RelV x u/\RelV y w':=by
 cases r with
 | cons r1 r2 =>
  cases r2 with
  | cons r3 r4=>cases r4;exact⟨_,_,rfl,r1,r3⟩
theorem DR(hc:X.calm=true):jo X (.builtin "min") (λxs H Q=>∃i j,xs=[.int i,.int j]/\Q (.int (if j < i then j else i)) H):=by
 intro pins s σ H xs us Q I r h
 obtain⟨i,j,rfl,q⟩:=h
 obtain⟨u,w',rfl,⟨t,rfl⟩,⟨t',rfl⟩⟩:=vals2 r
 refine min_two_ints (I.ok.hd hc) λh' tk k=>⟨_,H,I.kept k,?_,q⟩
 by_cases hj:j < i
 ·rw[if_pos hj,if_pos hj];exact⟨_,rfl⟩
 ·rw[if_neg hj,if_neg hj];exact⟨_,rfl⟩
end
end L2
namespace L2
open PySem PySem.Spec PyProof.Rows
structure BP(h:Heap)(x dx C:Addr)(mA:Str->Option Value):Prop where
 obj:h.get? x=some (PySem.W.instObj C dx)
 ns:h.Ns1 dx mA
 ne:dx≠x
theorem DU{h:Heap}{dx:Addr}{mA:Str->Option Value}(n:h.Ns1 dx mA):∃od,h.get? dx=some od/\∀name,PySem.W.lookIn name od=some (mA name):=by
 obtain⟨o,es,ep,ho,hd,hk,_,hm⟩:=n
 refine⟨o,ho,λname=>?_⟩
 have e:=hm name
 unfold nsFind findBy at e
 rw[← Array.find?_toList]at e
 unfold PySem.W.lookIn
 rw[hd]
 dsimp only
 split
 ·rename_i y q
  rw[q]at e
  exact congrArg some e
 ·rename_i q
  rw[q]at e
  have a:es.toList.any (·.refKey)=false:=by
   rw[List.any_eq_false]
   intro y hy
   obtain⟨z,t,hkey⟩:=hk y (Array.mem_toList_iff.mp hy)
   simp[DictEntry.refKey,hkey]
  have a':¬ es.toList.any (·.refKey)=true:=by rw[a];exact Bool.false_ne_true
  rw[if_neg a']
  exact congrArg some e
theorem BP.look{h:Heap}{x dx C:Addr}{mA:Str->Option Value}(I:BP h x dx C mA):∃od,PySem.W.InstAt h x (PySem.W.instObj C dx) C (some od)/\∀name,PySem.W.lookIn name od=some (mA name) :=
 let ⟨od,ho,hl⟩:=DU I.ns
 ⟨od,⟨I.obj,rfl,rfl,ho⟩,hl⟩
section
variable {prog:Program} {w:World} {A:Around} {E:Value->Shared->Prop} {s:Shared} {K:av} {x dx C f:Addr} {mA:Str->Option Value} {name:Str} {v:Value}
theorem get_map{expr:Bool}{Q:Value->Shared->Prop}(X:K.In s.heap)(I:BP s.heap x dx C mA)(hg:PySem.W.plainGet K C name=true)(hh:PySem.W.hasDictIn K C=true)
  (ha:PySem.W.findIn K (.ref C) name=some none) (hv:mA name=some v) (hv':PySem.W.handedIn v=true) (h:Q v {s with toks:=s.toks + 1}) :
  wpAny (model prog w) A (getAttr (.ref x) name expr) Q E s:=by
 obtain⟨od,J,hl⟩:=I.look
 exact PySem.W.get_value X J (PySem.W.plainGet_of hg).1 (PySem.W.findObj_own hh ha rfl (by rw[hl,hv])) hv' h
theorem Gp{pl:Sem Bool}{Q:Value×List Value->Shared->Prop}(X:K.In s.heap)(I:BP s.heap x dx C mA)(hg:PySem.W.plainGet K C name=true)
  (hf:PySem.W.findIn K (.ref C) name=some (some (.ref f))) (ht:PySem.W.isFn K (.ref f)=true) (hv:mA name=none) (h:Q (.ref f,[.ref x]) s) :
  wpAny (model prog w) A (getMethod (.ref x) name pl) Q E s:=by
 obtain⟨od,J,hl⟩:=I.look
 exact PySem.W.method_fn X J (PySem.W.plainGet_of hg).1 (PySem.W.plainGet_of hg).2 hf (beq_iff_eq.mp ht) (by show(PySem.W.lookIn name od).map (·.isSome)=some false;rw[hl,hv];rfl) h
theorem Lw{ns:List Str}{Q:Unit->Shared->Prop}(X:K.In s.heap)(I:BP s.heap x dx C mA)
  (hs:PySem.W.findIn K (.ref C) "__setattr__"=some (some (.builtin "object.__setattr__"))) (hp:PySem.W.plainOver K C=true) (ht:PySem.W.takerIn K C name=some none) (hh:PySem.W.hasDictIn K C=true)
  (hw:PySem.Within mA ns) (hsz:ns.length<=sizeLine)
  (h:∀h',BP h' x dx C (λy=>if y=name then some v else mA y)->Heap.SameBut dx s.heap h'->Q () {s with heap:=h',toks:=s.toks + 2}) :
  wpAny (model prog w) A (setAttr (.ref x) name v) Q E s:=by
 obtain⟨od,J,hl⟩:=I.look
 refine PySem.W.set_plain X J hs (PySem.W.osa_open (s:={s with toks:=s.toks + 1}) (r:=none) X J hp ht λb=>?_)
 obtain⟨cd,hc,hd'⟩:=PySem.W.any_some hh
 have hx:s.heap.get? x=some ⟨.ref C,some dx,.plain,#[]⟩:=I.obj
 refine wpAny_bind (wpAny_pure (wpAny_bind (wpAny_bind (wpAny_loadPart hx (wpAny_bind (PySem.W.Looks.here (s:={s with toks:=s.toks + 1}) (PySem.W.looks_clsIn X hc) ?_))))))
 rw[hd']
 refine wpAny_pure (a:=some dx) (wpAny_bind (wpAny_pure (wpAny_bind ?_)))
 refine wpAny_nsSet1 (s:={s with toks:=s.toks + 1}) I.ns λh' U7 BQ=>?_
 obtain⟨oD,esD,epD,hoD,hdD,hcD⟩:=U7.count (PySem.Within.cons name v hw)
 refine wpAny_bind (wpAny_lookBehind hoD (by rw[hdD];exact pastItsLine_dict (Nat.le_trans hcD (by rw[List.length_cons];omega))) ?_)
 exact wpAny_pure (h _ ⟨(BQ.2 _ (Ne.symm I.ne)).trans I.obj,U7,I.ne⟩ BQ)
theorem Gq{R:Result->Shared->Prop}{vs:List Value}{kw:List (Str×Value)}(X:K.In s.heap)(hm:PySem.W.makesIn K C=true)
  (hi:PySem.W.findIn K (.ref C) "__init__"=some (some (.ref f))) (hf:PySem.W.typeIn K (.ref f)=some (.type "function"))
  (h:codeAny (model prog w) (A.under (.builtin "type.__call__" ⟨.ref C::vs,kw⟩)) (.call (.ref f) ⟨.ref (s.heap.objs.size + 1)::vs,kw⟩) (PySem.W.InitBack (s.heap.objs.size + 1) R)
   {s with heap:=(s.heap.push PySem.W.emptyDict).push (PySem.W.instObj C s.heap.objs.size)}) :
  codeAny (model prog w) A (.call (.ref C) ⟨vs,kw⟩) R s:=by
 obtain⟨hh,g,d,t,os⟩:=s
 exact PySem.W.make_core (PySem.W.makes_of X hm) (PySem.W.looks_findIn X hi) (λself=>PySem.W.bind_fn X self hf) (.inl rfl) h
end
def br(f:Str)(v:V):List (Str×V)->List (Str×V)
 | []=>[(f,v)]
 | (g,x)::r=>if g=f then(g,v)::r else(g,x)::br f v r
theorem sQ(f g:Str)(v:V):∀fs:List (Str×V),(br f v fs).lookup g=if g=f then some v else fs.lookup g
 | []=>by
  show List.lookup g [(f,v)]=_
  by_cases h:g=f
  ·have hb:(g == f)=true:=beq_iff_eq.mpr h
   simp only[List.lookup,hb,if_pos h]
  ·have hb:(g == f)=false:=beq_eq_false_iff_ne.mpr h
   simp only[List.lookup,hb,if_neg h]
 | (k,x)::r=>by
  have ih:=sQ f g v r
  rw[show br f v ((k,x)::r)=(if k=f then(k,v)::r else(k,x)::br f v r)from rfl]
  by_cases hk:k=f
  ·rw[if_pos hk]
   by_cases h:g=k
   ·have hb:(g == k)=true:=beq_iff_eq.mpr h
    simp only[List.lookup,hb,if_pos (h.trans hk)]
   ·have hb:(g == k)=false:=beq_eq_false_iff_ne.mpr h
    simp only[List.lookup,hb,if_neg (λe:g=f=>h (e.trans hk.symm))]
  ·rw[if_neg hk]
   by_cases h:g=k
   ·have hb:(g == k)=true:=beq_iff_eq.mpr h
    simp only[List.lookup,hb,if_neg (λe:g=f=>hk (h.symm.trans e))]
   ·have hb:(g == k)=false:=beq_eq_false_iff_ne.mpr h
    simp only[List.lookup,hb]
    exact ih
theorem rN(f:Str)(v:V):∀fs:List (Str×V),f∈(br f v fs).map (·.1)/\∀g,g∈fs.map (·.1)->g∈(br f v fs).map (·.1)
 | []=>⟨by simp[br],λg h=>by simp at h⟩
 | (k,x)::r=>by
  obtain⟨i1,i2⟩:=rN f v r
  rw[show br f v ((k,x)::r)=(if k=f then(k,v)::r else(k,x)::br f v r)from rfl]
  by_cases hk:k=f
  ·rw[if_pos hk]
   subst hk
   exact⟨by simp,λg h=>by simpa using h⟩
  ·rw[if_neg hk]
   refine⟨?_,λg h=>?_⟩
   ·rw[List.map_cons]
    exact List.mem_cons_of_mem _ i1
   ·rw[List.map_cons]at h ⊢
    rcases List.mem_cons.mp h with e | e
    ·exact List.mem_cons.mpr (.inl e)
    ·exact List.mem_cons_of_mem _ (i2 g e)
theorem eL(f:Str)(v:V):∀fs:List (Str×V),(br f v fs).length<=fs.length + 1
 | []=>by simp[br]
 | (k,x)::r=>by
  have ih:=eL f v r
  rw[show br f v ((k,x)::r)=(if k=f then(k,v)::r else(k,x)::br f v r)from rfl]
  by_cases hk:k=f
  ·rw[if_pos hk,List.length_cons,List.length_cons];omega
  ·rw[if_neg hk,List.length_cons,List.length_cons];omega
theorem uR.some_of{v:V}{o:Option Value}(r:uR (some v) o):∃u,o=some u/\RelV v u:=by
 cases o with
 | none=>exact(show False from r).elim
 | some u=>exact⟨u,rfl,r⟩
theorem uR.none_of{o:Option Value}(r:uR none o):o=none:=by
 cases o with
 | none=>rfl
 | some u=>exact(show False from r).elim
theorem DW{v:V}{u:Value}(r:RelV v u):PySem.W.handedIn u=true:=by
 cases v with
 | non=>cases (show u=Value.none from r);rfl
 | bl b=>cases (show u=Value.bool b from r);rfl
 | int i=>obtain⟨t,e⟩:=(show ∃t,u=Value.int i t from r);cases e;rfl
 | str x=>obtain⟨t,e⟩:=(show ∃t,u=Value.str x t from r);cases e;rfl
 | byt b=>obtain⟨t,e⟩:=(show ∃t,u=Value.bytes b t from r);cases e;rfl
 | flt b=>obtain⟨t,e⟩:=(show ∃t,u=Value.float b t from r);cases e;rfl
 | ref a=>cases (show u=Value.ref a from r);rfl
 | ty n=>cases (show u=Value.type n from r);rfl
section
variable {P:Program} {w:World} {H H':Hp} {h h':Heap} {a C dx:Addr} {fs fs':List (Str×V)}
theorem yi(hok:ud P w H h)(e:H a=some (.ins C dx fs)):∃mA,BP h a dx C mA/\(∀f,uR (fs.lookup f) (mA f))/\PySem.Within mA (fs.map (·.1))/\fs.length<=1000/\H dx=some (.own a):=by
 obtain⟨d,z,ne,ob,mA,n,r,q⟩:=(show ip P w H h a (.ins C dx fs)from hok a _ e)
 exact⟨mA,⟨ob,n,ne⟩,r,q,z,d⟩
end
structure DY(K:av)(C:Addr):Prop where
 pg:PySem.W.plainGet K C Str.empty=true
 hd:PySem.W.hasDictIn K C=true
 po:PySem.W.plainOver K C=true
 sa:PySem.W.findIn K (.ref C) "__setattr__"=some (some (.builtin "object.__setattr__"))
theorem DY.get{K:av}{C:Addr}(c:DY K C)(f:Str):PySem.W.plainGet K C f=true:=c.pg
def cW(K:av)(C:Addr)(f:Str):Prop:=PySem.W.findIn K (.ref C) f=some none
theorem cW.SK{K:av}{C:Addr}{f:Str}(n:cW K C f):PySem.W.takerIn K C f=some none:=by
 unfold PySem.W.takerIn
 rw[show PySem.W.findIn K (.ref C) f=some none from n]
 rfl
structure Con(K:av)(C:Addr)(f:Str)(v:V)(u:Value):Prop where
 at_:PySem.W.findIn K (.ref C) f=some (some u)
 rel:RelV v u
 get:PySem.W.specialIn K u "__get__"=some none
 cp:PySem.W.copiedNames.contains f=false
structure Meth(K:av)(C:Addr)(m:Str)(f:Addr):Prop where
 at_:PySem.W.findIn K (.ref C) m=some (some (.ref f))
 fn:PySem.W.isFn K (.ref f)=true
 kp:PySem.W.keepIn K (.ref f)=true
section
variable {X:Cx} {pins:List (Addr×Obj)} {σ:St} {H:Hp} {s:Shared} {a C dx:Addr} {fs:List (Str×V)} {f:Str} {v:V} {A:Around} {E:Value->Shared->Prop}
theorem BR{b:Bool}{Q:Value->Shared->Prop}(I:Inv X pins σ H s)(e:H a=some (.ins C dx fs))(c:DY X.K C)(n:cW X.K C f)(l:fs.lookup f=some v)
  (h:∀u s',Inv X pins σ H s'->RelV v u->Q u s'):wpAny (model X.prog X.w) A (getAttr (.ref a) f b) Q E s:=by
 obtain⟨mA,O,r,_,_,_⟩:=yi I.hok e
 obtain⟨u,hu,ru⟩:=uR.some_of (v:=v) (o:=mA f) (by rw[← l];exact r f)
 exact get_map I.wA O (c.get f) c.hd n hu (DW ru) (h u _ (I.tok _) ru)
theorem vb{m:Str}{g:Addr}{pl:Sem Bool}{Q:Value×List Value->Shared->Prop}(I:Inv X pins σ H s)(e:H a=some (.ins C dx fs))(c:DY X.K C)(k:Meth X.K C m g)(l:fs.lookup m=none)
  (h:Q (.ref g,[.ref a]) s):wpAny (model X.prog X.w) A (getMethod (.ref a) m pl) Q E s:=by
 obtain⟨mA,O,r,_,_,_⟩:=yi I.hok e
 have hn:mA m=none:=uR.none_of (by rw[← l];exact r m)
 exact Gp I.wA O (c.get m) k.at_ k.fn hn h
theorem BS{y:V}{u:Value}{Q:Unit->Shared->Prop}(I:Inv X pins σ H s)(e:H a=some (.ins C dx fs))(c:DY X.K C)(n:cW X.K C f)(hl:fs.length < 1000)(ry:RelV y u)
  (h:∀s',Inv X pins σ (upd H a (.ins C dx (br f y fs))) s'->Q () s'):wpAny (model X.prog X.w) A (setAttr (.ref a) f u) Q E s:=by
 obtain⟨mA,O,r,wi,_,ho⟩:=yi I.hok e
 have hz:(fs.map (·.1)).length<=sizeLine:=by rw[List.length_map,sizeLine_eq];omega
 refine Lw I.wA O c.sa c.po n.SK c.hd wi hz λh' O' sb=>h _ ?_
 have hd:∃o,h'.get? dx=some o:=let ⟨o,_,_,e',_⟩:=O'.ns;⟨o,e'⟩
 refine I.write (x:=a) (e:=dx) (by rw[e];exact True.intro) (.inr ho) (λb q hb z=>(sb.2 b hb).trans z) hd ?_
 refine⟨by rw[uN O.ne];exact ho,?_,O.ne,O'.obj,_,O'.ns,λg=>?_,λg hg=>?_⟩
 ·have:=eL f y fs;omega
 ·show uR ((br f y fs).lookup g) (if g=f then some u else mA g)
  rw[sQ]
  by_cases q:g=f
  ·rw[if_pos q,if_pos q];exact ry
  ·rw[if_neg q,if_neg q];exact r g
 ·by_cases q:g=f
  ·rw[q];exact(rN f y fs).1
  ·refine(rN f y fs).2 g (wi g λz=>hg ?_)
   show(if g=f then some u else mA g)=none
   rw[if_neg q];exact z
theorem Inv.made(I:Inv X pins σ H s):Inv X pins σ (upd (upd H s.heap.objs.size (.own (s.heap.objs.size + 1))) (s.heap.objs.size + 1) (.ins C s.heap.objs.size []))
  {s with heap:=(s.heap.push PySem.W.emptyDict).push (PySem.W.instObj C s.heap.objs.size)}:=by
 have e1:(s.heap.push PySem.W.emptyDict).get? s.heap.objs.size=some PySem.W.emptyDict:=Heap.get?_push_size s.heap rfl
 have e2:((s.heap.push PySem.W.emptyDict).push (PySem.W.instObj C s.heap.objs.size)).get? (s.heap.objs.size + 1)=some (PySem.W.instObj C s.heap.objs.size):=by
  have:=Heap.get?_push_size (s.heap.push PySem.W.emptyDict) (o:=PySem.W.instObj C s.heap.objs.size) rfl
  rwa [Heap.size_push]at this
 have e3:(s.heap.push PySem.W.emptyDict).Ns s.heap.objs.size (λ_=>none):=⟨PySem.W.emptyDict,#[],_,e1,rfl,(λe he=>absurd he (by simp)),λ_=>rfl⟩
 have I1:=I.laid (a:=s.heap.objs.size) (o:=.own (s.heap.objs.size + 1)) (h':=s.heap.push PySem.W.emptyDict) (t':=s.toks) (λb u q=>Heap.get?_push_of_some _ q) (Nat.le_refl _) ⟨_,e1⟩
 refine I1.laid (a:=s.heap.objs.size + 1) (o:=.ins C s.heap.objs.size []) (t':=s.toks) (λb u q=>Heap.get?_push_of_some _ q) (Nat.le_of_eq (Heap.size_push _ _)) ?_
 have ne:s.heap.objs.size≠s.heap.objs.size + 1:=Nat.ne_of_lt (Nat.lt_succ_self _)
 refine⟨by rw[uN ne,uS],Nat.zero_le _,ne,e2,λ_=>none,(Heap.Ns1.of_empty e3).at λo q=>Heap.get?_push_of_some _ q,λ_=>True.intro,λy hy=>absurd rfl hy⟩
theorem Lx{prog:Program}{w:World}{env:Env}{e:Expr}{f:Str}{pos:Pos}{s:Shared}{Q:Value->Shared->Prop}(hb:attributeBase e f env (eval e env)=eval e env)
  (h:wpAny (model prog w) A (eval e env) (λo s₁=>wpAny (model prog w) A (getAttr o f true) Q E s₁) E s):wpAny (model prog w) A (eval (.Attribute e f pos) env) Q E s :=
 Attribute_any_ h (by rw[arm_eval_Attribute,hb])
end
def VL(K:av)(ta:TE)(f:Str):TE:=λσ H Q=>ta σ H λx H1=>∃a C dx fs v,x=.ref a/\H1 a=some (.ins C dx fs)/\DY K C/\cW K C f/\fs.lookup f=some v/\Q v H1
def VM(K:av)(ta tv:TE)(f:Str):TS:=λD σ H=>tv σ H λy H1=>ta σ H1 λx H2=>∃a C dx fs,x=.ref a/\H2 a=some (.ins C dx fs)/\DY K C/\cW K C f/\fs.length < 1000 /\
 D.nx σ (upd H2 a (.ins C dx (br f y fs)))
section
variable {X:Cx} {o e value:Expr} {f:Str} {pos pos' tpos:Pos} {ta tv:TE}
theorem aD(he:PE X e ta)(hb:attributeBase e f X.env (eval e X.env)=eval e X.env):PE X (.Attribute e f pos) (VL X.K ta f):=by
 intro pins s σ H Q I h
 refine Lx hb (cK (he pins s σ H _ I h) λu s1 ⟨x,H1,I1,rx,a,C,dx,fs,v,ex,ea,c,n,l,q⟩=>?_)
 subst ex
 obtain rfl:u=Value.ref a:=rx
 exact BR I1 ea c n l λu' s2 I2 ru=>⟨v,H1,I2,ru,q⟩
theorem bW(ha:PE X o ta)(hv:PE X value tv)(hs:swapsWith value (some (.Attribute o f pos')) pos.line X.env=pure false):PS X (.Assign [.Attribute o f pos'] value pos) (VM X.K ta tv f):=by
 intro pins s σ H D I h
 refine plainObj_wpAny_Assign_Attribute (cK (hv pins s σ H _ I h) λu s1 ⟨y,H1,I1,ry,q⟩=>cK (ha pins s1 σ H1 _ I1 q) λov s2 ⟨x,H2,I2,rx,a,C,dx,fs,ex,ea,c,n,l,q2⟩=>?_) hs
 subst ex
 obtain rfl:ov=Value.ref a:=rx
 exact BS I2 ea c n l ry λs3 I3=>⟨σ,_,I3,q2⟩
end
section
variable {X:Cx} {pins:List (Addr×Obj)} {σ:St} {H:Hp} {s:Shared} {A:Around} {E:Value->Shared->Prop} {Q:Value->Shared->Prop} {c:Value} {b:Bool}
inductive vc(K:av)(H:Hp):V->Value->Prop where
 | non:vc K H .non (.type "NoneType")
 | bl (x:Bool):vc K H (.bl x) (.type "bool")
 | int (i:Int):vc K H (.int i) (.type "int")
 | str (x:Str):vc K H (.str x) (.type "str")
 | flt (x:UInt64):vc K H (.flt x) (.type "float")
 | lst {a:Addr} {xs:List V} (e:H a=some (.lst xs)):vc K H (.ref a) (.type "list")
 | uA {a:Addr} {o:Obj} {xs:List V} (e:H a=some (.uA o (.lst xs))):vc K H (.ref a) (.type "list")
 | tup {a:Addr} {xs:List V} (e:H a=some (.tup xs)):vc K H (.ref a) (.type "tuple")
 | dK {a:Addr} {kvs:List (Key×V)} (e:H a=some (.dK kvs)):vc K H (.ref a) (.type "dict")
 | dT {a:Addr} {kvs:List (List Key×V)} (e:H a=some (.dT kvs)):vc K H (.ref a) (.type "dict")
 | ins {a C dx:Addr} {fs:List (Str×V)} (e:H a=some (.ins C dx fs)) (cl:DY K C) (ha:PySem.W.findIn K (.ref C) "__class__"=some (some (.builtin "object.__class__")))
   (hn:PySem.W.specialIn K (.builtin "object.__class__") "__get__"=some (some (.builtin "getset_descriptor.__get__"))) (htk:PySem.W.takesIn K (.builtin "object.__class__")=some true)
   (hm:PySem.W.mroIn K C (.type "object")=some true):vc K H (.ref a) (.ref C)
end
end L2
namespace L2
open PySem PySem.Spec PyProof.Rows
structure dU(k:Nat)(A:Around):Prop where
 hd:A.handled=none
 dp:A.depth + 3 * k + 5 < recursionLimit
 un:A.units + 16 * k + 200 < cLine
 gd:A.guards=some []
theorem dU.mono{j k:Nat}{A:Around}(r:dU k A)(h:j<=k):dU j A:=⟨r.hd,by have:=r.dp;omega,by have:=r.un;omega,r.gd⟩
theorem dU.deeper{k:Nat}{A:Around}(r:dU (k + 1) A)(env:Env):dU k (A.deeper env) :=
 ⟨r.hd,by have:=r.dp;show A.depth + 1 + 3 * k + 5 < _;omega,by have:=r.un;show A.units + 3 + 16 * k + 200 < _;omega,r.gd⟩
theorem BU{A:Around}{C:Addr}{us:List Value}{kw:List (Str×Value)}:(A.under (.builtin "type.__call__" ⟨.ref C::us,kw⟩)).depth=A.depth + 1:=by
 first | rfl | simp[Around.under,Code.weight,Code.isCreation,Code.isGuard,Code.isCaller,Code.frames,Code.isFrame,guardIds]
theorem BV{A:Around}{C:Addr}{us:List Value}{kw:List (Str×Value)}:(A.under (.builtin "type.__call__" ⟨.ref C::us,kw⟩)).units=A.units + 1:=by
 first | rfl | simp[Around.under,Code.cUnits,Code.frames,Code.isFrame]
theorem dU.make{k:Nat}{A:Around}(r:dU (k + 1) A)(C:Addr)(us:List Value)(kw:List (Str×Value)):dU k (A.under (.builtin "type.__call__" ⟨.ref C::us,kw⟩)) :=
 ⟨r.hd,by have:=r.dp;rw[BU];omega,by have:=r.un;rw[BV];omega,r.gd⟩
theorem dU.depth{k:Nat}{A:Around}(r:dU k A):A.depth < recursionLimit:=by have:=r.dp;omega
theorem dU.units{k:Nat}{A:Around}(r:dU k A):A.units + 64 < cLine:=by have:=r.un;omega
def Ly:TA:=λ_ H Q=>Q [] H
def OG(ta:TE)(tr:TA):TA:=λσ H Q=>ta σ H λx H1=>tr σ H1 λxs H2=>Q (x::xs) H2
section
variable {X:Cx} {e:Expr} {es:List Expr} {te:TE} {t:TA} {pos:Pos}
theorem pN:PA X [] Ly:=λ_ _ _ _ H Q I h=>Calls.spliced_nil ⟨[],H,I,.nil,h⟩
theorem pK(ha:PE X e te)(hr:PA X es t)(hs:starEach (e::es) X.env=(false,eval e X.env)::starEach es X.env:=by rfl):PA X (e::es) (OG te t):=by
 intro pos pins s σ H Q I h
 rw[hs]
 show wpAny _ _ (spliced ((false,eval e X.env)::backTo pos (starEach es X.env))) _ _ s
 refine Calls.spliced_cons (cK (ha pins s σ H _ I h) λu s1 ⟨x,H1,I1,r1,q1⟩=>?_)
 exact cK (hr pos pins s1 σ H1 _ I1 q1) λus s2 ⟨xs,H2,I2,r2,q2⟩=>⟨x::xs,H2,I2,.cons r1 r2,q2⟩
def SM(t:TA):TE:=λσ H Q=>t σ H λxs H1=>xs.length<=sizeLine/\∀p,H1 p=none->Q (.ref p) (upd H1 p (.tup xs))
def Pr(t:TA):TE:=λσ H Q=>t σ H λxs H1=>xs.length<=sizeLine/\∀p,H1 p=none->Q (.ref p) (upd H1 p (.lst xs))
theorem bP{x1}(h:PA X es t):PE X (.Tuple es x1 pos) (SM t):=by
 intro pins s σ H Q I hq
 refine wpAny_Tuple_spliced (cK (h pos pins s σ H _ I hq) λus s1 ⟨xs,H1,I1,r,z,q⟩=>⟨by rw[← r.length];exact z,?_⟩)
 have hf:H1 s1.heap.objs.size=none:=I1.hok.fresh (Nat.le_refl _)
 refine⟨.ref s1.heap.objs.size,upd H1 s1.heap.objs.size (.tup xs),I1.laid (t':=s1.toks) (λb u e=>Heap.get?_push_of_some _ e) (Nat.le_refl _) ?_,rfl,q _ hf⟩
 exact⟨z,us,r,⟨_,Heap.get?_push_size _ rfl,rfl,_,rfl⟩⟩
theorem cL(h:PA X es t):PE X (.List es pos) (Pr t):=by
 intro pins s σ H Q I hq
 refine wpAny_List_spliced (cK (h pos pins s σ H _ I hq) λus s1 ⟨xs,H1,I1,r,z,q⟩=>⟨by rw[← r.length];exact z,?_⟩)
 have hf:H1 s1.heap.objs.size=none:=I1.hok.fresh (Nat.le_refl _)
 refine⟨.ref s1.heap.objs.size,upd H1 s1.heap.objs.size (.lst xs),I1.laid (t':=s1.toks) (λb u e=>Heap.get?_push_of_some _ e) (Nat.le_refl _) ?_,rfl,q _ hf⟩
 exact⟨z,us,0,r,Heap.get?_push_size _ rfl⟩
end
abbrev Sp:=List V->Hp->VK->XK->Prop
abbrev Bz:=List Env->Hp->Shared->XK->Value->Shared->Prop
structure BW(P:Program)(w:World)(K:av)(mg:Str->Option Value)(base:Heap)(A:Around)(outer:List Env)(s:Shared)(H:Hp):Prop where
 frames:A.frames=some outer
 mod:Mod K mg base
 bs:∀b o,base.get? b=some o->s.heap.get? b=some o/\H b=none
 bsz:base.objs.size<=s.heap.objs.size
 ue:s.heap.FunFrames base outer
 frf:∀b∈aV outer,H b=none
 hok:ud P w H s.heap
 bare:AllBare s.gens
def CE(outer:List Env)(P:Program)(w:World)(H:Hp)(s:Shared)(Q:VK)(u:Value)(s':Shared):Prop :=
 ∃v H',s'.os=s.os/\AllBare s'.gens/\Un (aV outer) [] H H' s.heap s'.heap/\ud P w H' s'.heap/\RelV v u/\Q v H'
def CR(CX:Bz)(outer:List Env)(P:Program)(w:World)(H:Hp)(s:Shared)(Q:VK)(E:XK)(r:Result)(s':Shared):Prop :=
 match r with
 | .ok (.ret u)=>CE outer P w H s Q u s'
 | .ok _=>False
 | .error e=>CX outer H s E e s'
structure bw(P:Program)(w:World)(K:av)(mg:Str->Option Value)(base:Heap)(CX:Bz)(k:Nat)(f:Addr)(fd:FuncData)(ps:List Str)(sp:Sp):Prop where
 len:∀vs H Q E,sp vs H Q E->vs.length=ps.length
 run:∀(A:Around) (outer:List Env) (s:Shared) (H:Hp) (args:Args) (us:List Value) (vs:List V) (Q:VK) (E:XK),dU k A->BW P w K mg base A outer s H->BindsTo s fd args (ps.zip us)->Vals vs us->sp vs H Q E ->
  codeAny (model P w) A (.call (.ref f) args) (CR CX outer P w H s Q E) s
theorem BW.make{P:Program}{w:World}{K:av}{mg:Str->Option Value}{base:Heap}{A:Around}{outer:List Env}{s:Shared}{H:Hp}(e:BW P w K mg base A outer s H)(C:Addr)(us:List Value)(kw:List (Str×Value)):
  BW P w K mg base (A.under (.builtin "type.__call__" ⟨.ref C::us,kw⟩)) outer s H:=⟨by first | exact e.frames | (simpa [Around.under,Code.envs,Code.isFrame,pushEnvs]using e.frames),e.mod,e.bs,e.bsz,e.ue,e.frf,e.hok,e.bare⟩
section
variable {X:Cx} {pins:List (Addr×Obj)} {σ:St} {H:Hp} {s s':Shared}
theorem Inv.SN(I:Inv X pins σ H s):BW X.prog X.w X.K X.mg X.base X.A X.stack s H :=
 ⟨I.ok.frames,I.ok.mod,I.bs,Nat.le_trans I.ok.bsz I.sz,I.stack,I.C6,I.hok,I.bare⟩
theorem Inv.after{Q:VK}{u:Value}(I:Inv X pins σ H s)(h:CE X.stack X.prog X.w H s Q u s'):EP X pins σ Q u s':=by
 obtain⟨v,H',os,bare,un,hok,r,q⟩:=h
 obtain⟨hh,g,d,t,os'⟩:=s'
 obtain rfl:os'=s.os:=os
 exact⟨v,H',I.call (h':=hh) (g':=g) (d':=d) (t':=t) (ch:=[]) un hok bare (λb z=>absurd z (by simp)),r,q⟩
end
def Gr(sp:Sp)(dvs:List V)(E:XK)(t:TA):TE:=λσ H Q=>t σ H λvs H1=>sp (vs++dvs) H1 Q E
def xr(C:Addr)(m:Str)(sp:Sp)(dvs:List V)(E:XK)(ta:TE)(t:TA):TE:=λσ H Q=>ta σ H λx H1=>∃a dx fs,x=.ref a/\H1 a=some (.ins C dx fs)/\fs.lookup m=none /\
 t σ H1 λvs H2=>sp (x::(vs++dvs)) H2 Q E
def OH(C:Addr)(sp:Sp)(dvs:List V)(E:XK)(t:TA):TE:=λσ H Q=>t σ H λvs H1=>∀x dx,H1 x=none->H1 dx=none->dx≠x ->
 sp (.ref x::(vs++dvs)) (upd (upd H1 dx (.own x)) x (.ins C dx [])) (λv H2=>v=.non/\Q (.ref x) H2) E
def Binds(K:av)(fd:FuncData)(ps:List Str)(ds:List Value):Prop :=
 ∀(s:Shared) (us:List Value),K.In s.heap->(us++ds).length=ps.length->BindsTo s fd ⟨us,[]⟩ (ps.zip (us++ds))
theorem Binds.all{K:av}{fd:FuncData}{ps:List Str}(h:∀us:List Value,us.length=ps.length->bindArgs fd ⟨us,[]⟩=pure (ps.zip us)):Binds K fd ps []:=λs us _ hl=>by
 rw[List.append_nil]at hl ⊢
 exact .of_eq (h us hl)
def Passes(CX:Bz)(X:Cx)(E:XK):Prop:=∀(pins:List (Addr×Obj)) (σ:St) (H:Hp) (s:Shared) (e:Value) (s':Shared),Inv X pins σ H s->CX X.stack H s E e s'->X.xe e s'
section
variable {X:Cx} {CX:Bz} {k:Nat} {f C:Addr} {fd:FuncData} {ps:List Str} {sp:Sp} {dvs:List V} {ds:List Value} {E:XK} {x m:Str} {p pos apos:Pos} {e o:Expr} {es:List Expr} {ta:TE} {t:TA}
theorem BX{pins:List (Addr×Obj)}{σ:St}{H:Hp}{s:Shared}{Q:VK}{us:List Value}{vs:List V}(F:bw X.prog X.w X.K X.mg X.base CX k f fd ps sp)(hr:dU k X.A)(hb:Binds X.K fd ps ds)(hd:Vals dvs ds)(hx:Passes CX X E)
  (I:Inv X pins σ H s) (r:Vals vs us) (h:sp (vs++dvs) H Q E):wpAny (model X.prog X.w) X.A (call (.ref f) us) (EP X pins σ Q) X.xe s:=by
 have r2:Vals (vs++dvs) (us++ds):=r.append hd
 have hl:(us++ds).length=ps.length:=by rw[← r2.length];exact F.len _ _ _ _ h
 refine wpAny_call (codeAny_mono (F.run X.A X.stack s H ⟨us,[]⟩ (us++ds) (vs++dvs) Q E hr I.SN (hb s us I.wA hl) r2 h) λr s' hq=>?_)
 cases r with
 | error e=>exact hx pins σ H s e s' I hq
 | ok fl =>
  cases fl with
  | ret u=>exact I.after hq
  | next=>exact False.elim hq
  | brk=>exact False.elim hq
  | cont=>exact False.elim hq
theorem Lz(F:bw X.prog X.w X.K X.mg X.base CX k f fd ps sp)(hr:dU k X.A)(hg:Gl X x)(hm:X.mg x=some (.ref f))(hk:PySem.W.keepIn X.K (.ref f)=true)(hb:Binds X.K fd ps ds)(hd:Vals dvs ds)(hx:Passes CX X E)
  (ha:PA X (e::es) t) (hdb:(x == ("__debug__" : Str))=false:=by decide) (he:starEach (e::es) X.env=(false,eval e X.env)::starEach es X.env:=by rfl) (hpl:(backTo pos (starEach es X.env)).any (·.1)=false:=by rfl) :
  PE X (.Call (.Name x p) (e::es) [] pos) (Gr sp dvs E t):=by
 intro pins s σ H Q I h
 refine wpAny_Call_Name_kw (yh I hg hm ?_ hdb)
 refine PySem.W.callWith_K (h₀:=X.base) I.ok.mod.kin hk (cK (ha pos pins s σ H _ I h) λus s1 ⟨vs,H1,I1,r,q⟩=>⟨I1.wA,?_⟩) he hpl
 exact BX F hr hb hd hx I1 r q
theorem LA{pl:Sem Bool}(he:PE X o ta)(c:DY X.K C)(hm:Meth X.K C m f)(F:bw X.prog X.w X.K X.mg X.base CX k f fd ps sp)(hr:dU k X.A)(hb:Binds X.K fd ps ds)(hd:Vals dvs ds)(hx:Passes CX X E)(ha:PA X (e::es) t)
  (hst:starEach (e::es) X.env=(false,eval e X.env)::starEach es X.env:=by rfl) (hpl:(backTo pos (starEach es X.env)).any (·.1)=false:=by rfl)
  (ht:eval (.Call (.Attribute o m apos) (e::es) [] pos) X.env=(do
   let ov ← eval o X.env
   standAt apos.atName
   let (f,first) ← holding [ov] (getMethod ov m pl)
   callWith pos f first (backTo pos (starEach (e::es) X.env)) (backToKw pos (keywordEach [] X.env))):=by rfl) :
  PE X (.Call (.Attribute o m apos) (e::es) [] pos) (xr C m sp dvs E ta t):=by
 intro pins s σ H Q I h
 refine PySem.W.methodCall_KW (pl:=pl) (cK (he pins s σ H _ I h) λu s1 ⟨x,H1,I1,rx,a,dx,fs,ex,ea,l,q⟩=>?_) ht
 subst ex
 obtain rfl:u=Value.ref a:=rx
 refine vb I1 ea c hm l ?_
 refine PySem.W.callWith_K (first:=[.ref a]) (h₀:=X.base) I.ok.mod.kin hm.kp (cK (ha pos pins s1 σ H1 _ I1 q) λus s2 ⟨vs,H2,I2,r,q2⟩=>⟨I2.wA,?_⟩) hst hpl
 exact BX (us:=.ref a::us) (vs:=.ref a::vs) F hr hb hd hx I2 (.cons rfl r) q2
theorem Gs{pl:Sem Bool}(he:PE X o ta)(c:DY X.K C)(hm:Meth X.K C m f)(F:bw X.prog X.w X.K X.mg X.base CX k f fd ps sp)(hr:dU k X.A)(hb:Binds X.K fd ps ds)(hd:Vals dvs ds)(hx:Passes CX X E)
  (ht:eval (.Call (.Attribute o m apos) [] [] pos) X.env=(do
   let ov ← eval o X.env
   standAt apos.atName
   let (f,first) ← holding [ov] (getMethod ov m pl)
   callWith pos f first (backTo pos (starEach [] X.env)) (backToKw pos (keywordEach [] X.env))):=by rfl) :
  PE X (.Call (.Attribute o m apos) [] [] pos) (xr C m sp dvs E ta Ly):=by
 intro pins s σ H Q I h
 refine PySem.W.methodCall_KW (pl:=pl) (cK (he pins s σ H _ I h) λu s1 ⟨x,H1,I1,rx,a,dx,fs,ex,ea,l,q⟩=>?_) ht
 subst ex
 obtain rfl:u=Value.ref a:=rx
 refine vb I1 ea c hm l ?_
 exact PySem.W.callWith_K0 (first:=[.ref a]) I1.wA hm.kp (BX (us:=[.ref a]) (vs:=[.ref a]) F hr hb hd hx I1 (.cons rfl .nil) q)
structure Mk(K:av)(C f:Addr):Prop where
 makes:PySem.W.makesIn K C=true
 init:PySem.W.findIn K (.ref C) "__init__"=some (some (.ref f))
 fn:PySem.W.isFn K (.ref f)=true
 kp:PySem.W.keepIn K (.ref C)=true
theorem Gu{pins:List (Addr×Obj)}{σ:St}{H:Hp}{s:Shared}{Q:VK}{us:List Value}{vs:List V}(M:Mk X.K C f)(F:bw X.prog X.w X.K X.mg X.base CX k f fd ps sp)(hr:dU (k + 1) X.A)(hb:Binds X.K fd ps ds)(hd:Vals dvs ds)
  (hx:Passes CX X E) (I:Inv X pins σ H s) (r:Vals vs us)
  (h:∀x dx,H x=none->H dx=none->dx≠x->sp (.ref x::(vs++dvs)) (upd (upd H dx (.own x)) x (.ins C dx [])) (λv H2=>v=.non/\Q (.ref x) H2) E) :
  wpAny (model X.prog X.w) X.A (call (.ref C) us) (EP X pins σ Q) X.xe s:=by
 have hq:=h (s.heap.objs.size + 1) s.heap.objs.size (I.hok.fresh (Nat.le_succ _)) (I.hok.fresh (Nat.le_refl _)) (Nat.ne_of_lt (Nat.lt_succ_self _))
 have I2:=Inv.made (C:=C) I
 have r2:Vals (V.ref (s.heap.objs.size + 1)::(vs++dvs)) (Value.ref (s.heap.objs.size + 1)::(us++ds)):=.cons rfl (r.append hd)
 have hl:(Value.ref (s.heap.objs.size + 1)::us++ds).length=ps.length:=by
  have e:=r2.length
  rw[F.len _ _ _ _ hq]at e
  exact e.symm
 refine wpAny_call (Gq (f:=f) I.wA M.makes M.init (beq_iff_eq.mp M.fn) (codeAny_mono (F.run _ X.stack _ _ ⟨Value.ref (s.heap.objs.size + 1)::us,[]⟩ (Value.ref (s.heap.objs.size + 1)::(us++ds)) _ _ E (hr.make C us [])
  (I2.SN.make C us []) (hb _ (Value.ref (s.heap.objs.size + 1)::us) I2.wA hl) r2 hq) λr s' hq'=>?_))
 cases r with
 | error e=>exact hx pins σ _ _ e s' I2 hq'
 | ok fl =>
  cases fl with
  | ret u =>
   obtain⟨v,H',I3,rv,ev,q3⟩:=I2.after hq'
   subst ev
   exact⟨rv,⟨V.ref (s.heap.objs.size + 1),H',I3,rfl,q3⟩⟩
  | next=>exact False.elim hq'
  | brk=>exact False.elim hq'
  | cont=>exact False.elim hq'
theorem LB(M:Mk X.K C f)(F:bw X.prog X.w X.K X.mg X.base CX k f fd ps sp)(hr:dU (k + 1) X.A)(hg:Gl X x)(hm:X.mg x=some (.ref C))(hb:Binds X.K fd ps ds)(hd:Vals dvs ds)(hx:Passes CX X E)
  (ha:PA X (e::es) t) (hdb:(x == ("__debug__" : Str))=false:=by decide) (he:starEach (e::es) X.env=(false,eval e X.env)::starEach es X.env:=by rfl) (hpl:(backTo pos (starEach es X.env)).any (·.1)=false:=by rfl) :
  PE X (.Call (.Name x p) (e::es) [] pos) (OH C sp dvs E t):=by
 intro pins s σ H Q I h
 refine wpAny_Call_Name_kw (yh I hg hm ?_ hdb)
 refine PySem.W.callWith_K (h₀:=X.base) I.ok.mod.kin M.kp (cK (ha pos pins s σ H _ I h) λus s1 ⟨vs,H1,I1,r,q⟩=>⟨I1.wA,?_⟩) he hpl
 exact Gu M F hr hb hd hx I1 r q
end
section
variable {X:Cx} {CX:Bz} {k:Nat} {f C:Addr} {fd:FuncData} {ps ks:List Str} {sp:Sp} {E:XK} {x m:Str} {p pos apos kpos:Pos} {e o:Expr} {es:List Expr} {kws:List Keyword} {te ta:TE} {t tk:TA} {nm:Option Str}
structure VN(K:av)(fd:FuncData)(ps ks:List Str)(g:List Value->List Value->List Value)(gV:List V->List V->List V):Prop where
 to:∀(s:Shared) (us ws:List Value),K.In s.heap->(g us ws).length=ps.length->BindsTo s fd ⟨us,ks.zip ws⟩ (ps.zip (g us ws))
 rel:∀{vs:List V} {us:List Value} {zs:List V} {ws:List Value},Vals vs us->Vals zs ws->Vals (gV vs zs) (g us ws)
variable {g:List Value->List Value->List Value} {gV:List V->List V->List V}
end
structure az(N P:List Str)(sc:Scope):Prop where
 kind:sc.kind=.function
 co:sc.isCoroutine=false
 gen:sc.isGenerator=false
 nd:N.Nodup
 pre:N.take P.length=P
 par:∀x∈P,sc.names.lookup x=some .local∨sc.names.lookup x=some .cell
 nofree:∀y∈sc.names,y.2≠.free
theorem xt{kindOf:Str->Option NameKind}{x:Str}:∀{binds:List (Str×Value)} {m:Str->Option Value},(∀v,(x,v)∉binds)->bindL kindOf binds m x=m x
 | [],_,_=>rfl
 | (n,v)::r,m,h=>by
  unfold bindL
  rw[xt λw hw=>h w (List.mem_cons_of_mem _ hw)]
  split
  ·have:x≠n:=by rintro rfl;exact h v List.mem_cons_self
   simp[this]
  ·rfl
theorem xu{kindOf:Str->Option NameKind}{x:Str}:∀{binds:List (Str×Value)} {m:Str->Option Value},(∀v,(x,v)∉binds)->bindC kindOf binds m x=m x
 | [],_,_=>rfl
 | (n,v)::r,m,h=>by
  unfold bindC
  rw[xu λw hw=>h w (List.mem_cons_of_mem _ hw)]
  split
  ·rfl
  ·have:x≠n:=by rintro rfl;exact h v List.mem_cons_self
   simp[this]
theorem xv{kindOf:Str->Option NameKind}{x:Str}{v:Value}:∀{P:List Str} {vs:List Value} {i:Nat} {m:Str->Option Value},P.Nodup->P[i]?=some x->vs[i]?=some v->kindOf x=some .local ->
  bindL kindOf (P.zip vs) m x=some v
 | [],_,_,_,_,h,_,_=>by simp at h
 | _::_,[],_,_,_,_,h,_=>by simp at h
 | p::P,w::vs,0,m,nd,h1,h2,hk=>by
  simp at h1 h2;subst h1;subst h2
  show bindL kindOf ((p,w)::P.zip vs) m p=_
  unfold bindL
  rw[xt λv hv=>(List.nodup_cons.mp nd).1 (List.of_mem_zip hv).1,if_pos hk]
  simp
 | p::P,w::vs,i + 1,m,nd,h1,h2,hk=>by
  show bindL kindOf ((p,w)::P.zip vs) m x=_
  unfold bindL
  exact xv (i:=i) (List.nodup_cons.mp nd).2 (by simpa using h1) (by simpa using h2) hk
theorem xw{kindOf:Str->Option NameKind}{x:Str}{v:Value}:∀{P:List Str} {vs:List Value} {i:Nat} {m:Str->Option Value},P.Nodup->P[i]?=some x->vs[i]?=some v->kindOf x≠some .local ->
  bindC kindOf (P.zip vs) m x=some v
 | [],_,_,_,_,h,_,_=>by simp at h
 | _::_,[],_,_,_,_,h,_=>by simp at h
 | p::P,w::vs,0,m,nd,h1,h2,hk=>by
  simp at h1 h2;subst h1;subst h2
  show bindC kindOf ((p,w)::P.zip vs) m p=_
  unfold bindC
  rw[xu λv hv=>(List.nodup_cons.mp nd).1 (List.of_mem_zip hv).1,if_neg hk]
  simp
 | p::P,w::vs,i + 1,m,nd,h1,h2,hk=>by
  show bindC kindOf ((p,w)::P.zip vs) m x=_
  unfold bindC
  exact xw (i:=i) (List.nodup_cons.mp nd).2 (by simpa using h1) (by simpa using h2) hk
def start(N:List Str)(vs:List V):St:=vs.map some++List.replicate (N.length - vs.length) none
def DZ(CX:Bz)(P:Program)(w:World)(K:av)(mg:Str->Option Value)(base:Heap)(N:List Str)(qual:Str)(scope:Scope)(f:Addr)(cd:Value)(A:Around)(outer:List Env)(s:Shared)(H:Hp)(E:XK):Cx where
 prog:=P
 w:=w
 K:=K
 mg:=mg
 base:=base
 A:=A.deeper (envOfC qual scope s.heap.objs.size f cd)
 N:=N
 s₀:=s
 H₀:=H
 env:=envOfC qual scope s.heap.objs.size f cd
 outer:=outer
 stack:=envOfC qual scope s.heap.objs.size f cd::outer
 ex:=[]
 calm:=true
 fn:=λ_=>true
 pn:=[]
 xe:=λe s'=>wpAny (model P w) (A.deeper (envOfC qual scope s.heap.objs.size f cd)) (leaving (envOfC qual scope s.heap.objs.size f cd) e) (λ_ s''=>CX outer H s E e s'') (λe' s''=>CX outer H s E e' s'') s'
theorem zW{sc:Scope}{n:Nat}{x:Str}(h:sc.names.lookup x=some .cell):∃c,(cellsFrom n sc.names []).lookup x=some c:=by
 have q:=PySem.W.cellsFrom_some sc.names n [] (.inl h)
 exact Option.isSome_iff_exists.mp q
theorem D1{CX:Bz}{P:Program}{w:World}{K:av}{mg:Str->Option Value}{base:Heap}{N ps:List Str}{qual:Str}{scope:Scope}{f:Addr}{cd:Value}{A:Around}{outer:List Env}{s s1:Shared}{H:Hp}{E:XK}{us:List Value}{vs:List V}
  (S:az N ps scope) (hd:A.handled=none) (e0:BW P w K mg base A outer s H) (hl:vs.length=ps.length) (r:Vals vs us)
  (x:InCallC s s.heap.objs.size (bindL (envOfC qual scope s.heap.objs.size f cd).kindOf (ps.zip us) λ_=>none) (cellsFrom (s.heap.objs.size + 1) scope.names []) (bindC (envOfC qual scope s.heap.objs.size f cd).kindOf (ps.zip us) λ_=>none) s1) :
  Inv (DZ CX P w K mg base N qual scope f cd A outer s H E) [] (start N vs) H s1:=by
 have hpl:ps.length<=N.length:=by have:=congrArg List.length S.pre;rw[List.length_take]at this;omega
 obtain⟨h1,tk,rfl,hk⟩:=x.done
 have noA:∀b:Addr,b∉(DZ CX P w K mg base N qual scope f cd A outer s H E).ex:=λb z=>absurd (show b∈([]:List Addr)from z) (by simp)
 refine⟨⟨e0.mod,S.kind,rfl,rfl,Nat.le_refl _,λy z c h1 h2=>?_,λy hy=>?_,λy c _ h=>?_,λ_=>hd,Around.frames_deeper e0.frames,.inr ⟨rfl,rfl⟩,λb z=>absurd z (noA b),e0.bs,e0.bsz,λb _ _=>noA b,λb z=>absurd z (noA b),e0.ue,e0.frf⟩,
  rfl,e0.bare,Un.kept hk,⟨_,x.toInCall.ns,λi y v h1 h2 h3=>?_⟩,λy c h=>⟨_,x.cell y c h⟩,e0.hok.fresh (Nat.le_refl _),λy c h=>?_,λp hp=>absurd (show p∈([]:List (Addr×Obj))from hp) (by simp),e0.hok.kept hk,?_⟩
 ·exact name_of_addr x.apart (PySem.mem_of_lookup h1) (PySem.mem_of_lookup h2)
 ·have hy:scope.names.lookup y=some .cell∨scope.names.lookup y=some .free:=hy
  rcases hy with hy | hy
  ·exact zW hy
  ·exact absurd rfl (S.nofree _ (PySem.mem_of_lookup hy))
 ·exact Nat.le_of_lt (x.above y c (PySem.mem_of_lookup h))
 ·have hi:i < vs.length:=by
   unfold start at h2
   by_cases hi:i < vs.length
   ·exact hi
   ·rw[List.getElem?_append_right (by simpa using hi)]at h2
    rw[List.getElem?_replicate]at h2
    split at h2<;>cases h2
  have ha:vs[i]?=some v:=by
   unfold start at h2
   rw[List.getElem?_append_left (by simpa using hi),List.getElem?_map]at h2
   cases e:vs[i]? with
   | none=>rw[e]at h2;cases h2
   | some a=>rw[e]at h2;cases h2;rfl
  obtain⟨u,hu,rv⟩:=r.get ha
  have hp:ps[i]?=some y:=by
   rw[← S.pre,List.getElem?_take_of_lt (by omega)];exact h1
  have ndP:ps.Nodup:=by rw[← S.pre];exact S.nd.sublist (List.take_sublist _ _)
  refine⟨u,rv,?_⟩
  rcases S.par y (List.mem_of_getElem? hp)with k | k
  ·exact .inl ⟨k,xv ndP hp hu k⟩
  ·obtain⟨c,e⟩:=zW (n:=s.heap.objs.size + 1) k
   refine .inr ⟨.inl k,c,e,?_⟩
   have q:=x.cell y c e
   rw[xw ndP hp hu (by show scope.names.lookup y≠_;rw[k];decide)]at q
   exact q
 ·exact e0.hok.fresh (Nat.le_of_lt (x.above y c (PySem.mem_of_lookup h)))
 ·unfold start
  show _=N.length
  rw[List.length_append,List.length_map,List.length_replicate]
  omega
theorem SO{CX:Bz}{P:Program}{w:World}{K:av}{mg:Str->Option Value}{base:Heap}{k:Nat}{f:Addr}{name qual:Str}{params:Arguments}{body:List Stmt}{scope:Scope}{dV kV doc pm cdv ct oc:Value}{an od:Option Addr}
  {osl:Array (Option Value)} {N ps:List Str} {sp:Sp} (lk:K.lookup f=some ⟨oc,od,.func (PySem.W.fnOf name qual params body scope dV kV doc pm an cdv ct),osl⟩) (hcd:PySem.W.codeIn K cdv qual=true) (S:az N ps scope)
  (len:∀vs H Q E,sp vs H Q E->vs.length=ps.length)
  (hbody:∀(A:Around) (outer:List Env) (s:Shared) (H:Hp) (vs:List V) (Q:VK) (E:XK),dU k (A.deeper (envOfC qual scope s.heap.objs.size f cdv))->sp vs H Q E ->
   ∃t,wF (DZ CX P w K mg base N qual scope f cdv A outer s H E) body t/\t {nx:=λ_ H'=>Q .non H',rt:=Q} (start N vs) H) :
  bw P w K mg base CX (k + 1) f (PySem.W.fnOf name qual params body scope dV kV doc pm an cdv ct) ps sp:=by
 refine⟨len,λA outer s H args us vs Q E hr e0 hb r hsp=>?_⟩
 have hl:=len _ _ _ _ hsp
 have KX:K.In s.heap:=e0.mod.kin.keeps λb o e=>(e0.bs b o e).1
 have lim:s.heap.NoLimit:=e0.mod.nolimit.keeps λb o e=>(e0.bs b o e).1
 have hkind:∀y∈ps.zip us,scope.names.lookup y.1=some .local∨(scope.names.lookup y.1=some .cell/\((cellsFrom (s.heap.objs.size + 1) scope.names []).lookup y.1).isSome=true):=λ⟨n,v⟩ hy=>by
  rcases S.par n (List.of_mem_zip hy).1 with q | q
  ·exact .inl q
  ·exact .inr ⟨q,PySem.W.cellsFrom_some _ _ _ (.inl q)⟩
 refine codeAny_call_function hr.depth (KX _ _ lk) rfl S.co S.gen rfl (PySem.W.codeRec_of KX hcd) (hb _ _ _ _ ?_)
 refine wpAny_newFunctionEnv_cells S.kind hkind λenv he s1 x=>?_
 subst he
 refine⟨lim.keeps x.toInCall.keep,codeAny_func ?_⟩
 obtain⟨t,ht,hq⟩:=hbody A outer s H vs Q E (hr.deeper _) hsp
 have I:Inv (DZ CX P w K mg base N qual scope f cdv A outer s H E) [] (start N vs) H s1:=D1 S hr.hd e0 hl r x
 refine wpAny_mono (ht [] s1 (start N vs) H _ I hq) (λfl s' hs=>?_) λe s' hs=>hs
 have fin:∀{σ':St} {H':Hp} {v:V} {u:Value},Inv (DZ CX P w K mg base N qual scope f cdv A outer s H E) [] σ' H' s'->RelV v u->Q v H'->CE outer P w H s Q u s' :=
  λ{σ' H' v u} J rv q=>⟨v,H',J.os,J.bare,J.base,J.hok,rv,q⟩
 cases fl with
 | ret u =>
  obtain⟨v,σ',H',J,rv,q⟩:=hs
  exact fin J rv q
 | next =>
  obtain⟨σ',H',J,q⟩:=hs
  exact fin (v:=V.non) (u:=Value.none) J rfl q
 | brk =>
  obtain⟨_,_,_,q⟩:=hs
  exact False.elim q
 | cont =>
  obtain⟨_,_,_,q⟩:=hs
  exact False.elim q
end L2
namespace L2
open PySem PySem.Spec PyProof.Rows
section
variable {X:Cx} {x:Str} {p pos:Pos} {e:Expr} {es:List Expr} {t:TA} {id T:String} {r:List V->Hp->VK->Prop}
def VO(r:List V->Hp->VK->Prop)(t:TA):TE:=λσ H Q=>t σ H λvs H1=>r vs H1 Q
theorem bH(hc:jo X (.builtin id) r)(hg:Gl X x)(hm:X.mg x=none)(hv:bootBuiltins x=some (.builtin id))(ha:PA X (e::es) t)(hn:x≠"__name__":=by decide)(hdb:(x == ("__debug__" : Str))=false:=by decide)
  (he:starEach (e::es) X.env=(false,eval e X.env)::starEach es X.env:=by rfl) (hpl:(backTo pos (starEach es X.env)).any (·.1)=false:=by rfl):PE X (.Call (.Name x p) (e::es) [] pos) (VO r t):=by
 intro pins s σ H Q I h
 refine wpAny_Call_Name_kw (rH I hg hm hv ?_ hn hdb)
 exact PyProof.Rows.callWith_builtin1 (cK (ha pos pins s σ H _ I h) λus s1 ⟨vs,H1,I1,r1,q1⟩=>hc pins s1 σ H1 vs us Q I1 r1 q1) he hpl
theorem cR(hc:jo X (.type T) r)(hg:Gl X x)(hm:X.mg x=none)(hv:bootBuiltins x=some (.type T))(ha:PA X (e::es) t)(hn:x≠"__name__":=by decide)(hdb:(x == ("__debug__" : Str))=false:=by decide)
  (he:starEach (e::es) X.env=(false,eval e X.env)::starEach es X.env:=by rfl) (hpl:(backTo pos (starEach es X.env)).any (·.1)=false:=by rfl):PE X (.Call (.Name x p) (e::es) [] pos) (VO r t):=by
 intro pins s σ H Q I h
 refine wpAny_Call_Name_kw (rH I hg hm hv ?_ hn hdb)
 exact PyProof.Rows.callWith_type1 (cK (ha pos pins s σ H _ I h) λus s1 ⟨vs,H1,I1,r1,q1⟩=>hc pins s1 σ H1 vs us Q I1 r1 q1) he hpl
end
end L2
namespace HT
open PySem PyProof.Rows
section
open PySem.SeqAt
open PySem.AutoSeq1 (wpAny_loadPart')
open PySem.MeetsSeq PySem.MeetsSeq2 PySem.MeetsSeq3
end
section
variable {prog:Program} {w:World} {A:Around} {E:Value->Shared->Prop} {s:Shared}
theorem LC{t b:Addr}{vs ws:List Value}{Q:Value->Shared->Prop}(ht:IsTup s.heap t vs.toArray)(hb:IsTup s.heap b ws.toArray)(hv:vs≠[])
  (h1:ws=[]->Q (.ref t) s) (h2:ws≠[]->Q (.ref s.heap.objs.size) {s with heap:=s.heap.push {cls:=.type "tuple",data:=.seq (vs++ws).toArray}})
  (hsz:vs.length + ws.length<=sizeLine):wpAny (model prog w) A (binaryOp .Add (.ref t) (.ref b)) Q E s:=by
 obtain⟨⟨cls,dd,data,sl⟩,ho,hc,n,hd⟩:=id ht
 obtain⟨⟨aa5,ZM,data2,R9⟩,Pu,SQ,n2,hd2⟩:=id hb
 simp only at hc hd SQ hd2
 subst hc hd SQ hd2
 have e:vs.toArray++ws.toArray=(vs++ws).toArray:=by simp
 by_cases hw:ws=[]
 ·exact concat_meets ⟨_,ho,rfl⟩ ⟨_,Pu,rfl⟩ noFill_tuple_add seq_tuple_add PySem.F.slot_tuple_add PySem.F.entry_tuple_add (PySem.F.args_tuple_add_2 _ _)
   (tuple_addW1 t b vs.toArray ws.toArray n n2 dd ZM sl R9 (by simpa using hv) (by simp[hw])) ⟨ho,Pu,h1 hw⟩
 ·refine concat_meets ⟨_,ho,rfl⟩ ⟨_,Pu,rfl⟩ noFill_tuple_add seq_tuple_add PySem.F.slot_tuple_add PySem.F.entry_tuple_add (PySem.F.args_tuple_add_2 _ _)
   (tuple_addW2 t b vs.toArray ws.toArray n n2 dd ZM sl R9 (by simpa using hv) (by simpa using hw) (by rw[List.size_toArray,List.size_toArray];exact hsz)) ⟨ho,Pu,?_⟩
  rw[e]
  exact h2 hw
def eA(n d:Nat):Option Int->Nat
 | none=>d
 | some v=>if v < 0 then(v + (n:Int)).toNat else min v.toNat n
theorem kR(n d:Nat):eA n d none=d:=rfl
theorem ql(n d k:Nat):eA n d (some (k:Int))=min k n:=by
 show(if (k:Int) < 0 then((k:Int) + (n:Int)).toNat else min (k:Int).toNat n)=min k n
 rw[if_neg (by omega),Int.toNat_natCast]
theorem Pw(n d:Nat)(hd:d<=n)(o:Option Int):eA n d o<=n:=by
 cases o with
 | none=>exact hd
 | some v =>
  show(if v < 0 then(v + (n:Int)).toNat else min v.toNat n)<=n
  by_cases hv:v < 0
  ·rw[if_pos hv];omega
  ·rw[if_neg hv];exact Nat.min_le_right _ _
theorem De(v:Int)(n d:Nat):(if v < 0 then max (v + (n:Int)) 0 else min v (n:Int))=((eA n d (some v):Nat):Int):=by
 show(if v < 0 then max (v + (n:Int)) 0 else min v (n:Int))=(((if v < 0 then(v + (n:Int)).toNat else min v.toNat n):Nat):Int)
 by_cases hv:v < 0
 ·simp only[if_pos hv];omega
 ·simp only[if_neg hv];omega
theorem BY(lo hi:Option Int)(n:Nat):Builtin.Slice.sliceAdjust lo hi 1 (n:Int)=(((eA n 0 lo:Nat):Int),((eA n n hi:Nat):Int)):=by
 have h1:¬ ((1:Int) < 0):=by omega
 unfold Builtin.Slice.sliceAdjust
 simp only[h1,if_false]
 refine Prod.ext ?_ ?_
 ·cases lo with
  | none=>rfl
  | some v=>exact De v n 0
 ·cases hi with
  | none=>rfl
  | some v=>exact De v n n
theorem BZ(i j:Nat):Builtin.Slice.slicePlaces (i:Int) (j:Int) 1=j - i:=by
 unfold Builtin.Slice.slicePlaces
 have h1:(1:Int) > 0:=by omega
 simp only[h1,if_true,Int.ediv_one]
 split<;>omega
theorem vd{v:Value}{o:Option Int}{Q:Option Int->Shared->Prop}(p:IsPart v o)(h:Q o s):wpAny (model prog w) A (Builtin.Slice.slicePartIndex v) Q E s:=by
 cases p with
 | none=>exact slicePart_none h
 | int i t=>exact slicePart_int h
theorem jq{sl:Addr}{vl vu:Value}{lo hi:Option Int}{n:Nat}{Q:Int×Int×Nat->Shared->Prop}(hs:s.heap.IsSliceOf sl vl vu .none)(pl:IsPart vl lo)(pu:IsPart vu hi)
  (h:Q (((eA n 0 lo:Nat):Int),1,eA n n hi - eA n 0 lo) s):wpAny (model prog w) A (Builtin.Slice.sliceApplied (.ref sl) (pure (n:Int))) Q E s:=by
 obtain⟨os,hos,hcs,hds⟩:=id hs
 unfold Builtin.Slice.sliceApplied Builtin.Slice.sliceFields
 refine wpAny_bind (wpAny_bind (wpAny_field hos hds (x:=vl) rfl (wpAny_bind (wpAny_field hos hds (x:=vu) rfl (wpAny_bind (wpAny_field hos hds (x:=.none) rfl (wpAny_pure ?_)))))))
 refine wpAny_bind (slicePart_none ?_)
 show wpAny _ _ (if ((1:Int) == 0)=true then _ else _) _ _ s
 rw[if_neg (by decide)]
 refine wpAny_bind (vd pl (wpAny_bind (vd pu (wpAny_bind (wpAny_pure ?_)))))
 show wpAny _ _ (match Builtin.Slice.sliceAdjust lo hi 1 (n:Int)with | (lo,hi)=>pure (lo,(1:Int),Builtin.Slice.slicePlaces lo hi 1)) _ _ s
 rw[BY lo hi n]
 show wpAny _ _ (pure (((eA n 0 lo:Nat):Int),(1:Int),Builtin.Slice.slicePlaces ((eA n 0 lo:Nat):Int) ((eA n n hi:Nat):Int) 1)) _ _ s
 rw[BZ]
 exact wpAny_pure h
theorem Gv(xs:Array Value)(i k:Nat):((List.range k).filterMap λ(m:Nat)=>xs[((i:Int) + (m:Int) * 1).toNat]?).toArray=((xs.toList.drop i).take k).toArray:=by
 have e:(λ(m:Nat)=>xs[((i:Int) + (m:Int) * 1).toNat]?)=λm=>xs[i + m]?:=by
  funext m
  have:((i:Int) + (m:Int) * 1).toNat=i + m:=by omega
  rw[this]
 rw[e]
 have:=pick_run xs i k
 rw[List.filterMap_map]at this
 have e2:((λx=>xs[x]?) ∘ λx=>i + x)=λm=>xs[i + m]?:=rfl
 rw[e2]at this
 rw[this]
theorem qm{t sl:Addr}{items:Array Value}{vl vu:Value}{lo hi:Option Int}{Q:Value->Shared->Prop}(ht:IsTup s.heap t items)(hs:s.heap.IsSliceOf sl vl vu .none)(pl:IsPart vl lo)(pu:IsPart vu hi)
  (hw:¬ (eA items.size 0 lo=0/\eA items.size items.size hi=items.size))
  (h:Q (.ref s.heap.objs.size) {s with heap:=s.heap.push {cls:=.type "tuple",data:=.seq ((items.toList.drop (eA items.size 0 lo)).take (eA items.size items.size hi - eA items.size 0 lo)).toArray}})
  (hsz:items.size<=sizeLine):wpAny (model prog w) A (getItem (.ref t) (.ref sl)) Q E s:=by
 have htake:sizeOk (.seq ((items.toList.drop (eA items.size 0 lo)).take (eA items.size items.size hi - eA items.size 0 lo)).toArray):=by
  show((items.toList.drop (eA items.size 0 lo)).take (eA items.size items.size hi - eA items.size 0 lo)).toArray.size<=sizeLine
  rw[List.size_toArray,List.length_take,List.length_drop,Array.length_toList]
  omega
 have hj:eA items.size items.size hi<=items.size:=Pw _ _ (Nat.le_refl _) hi
 obtain⟨os,hos,hcs,hds⟩:=id hs
 have hTs:s.TypeIs (.ref sl) "slice":=⟨os,hos,hcs⟩
 unfold getItem
 try with_reducible refine wpAny_holding ?_
 first | refine wpAny_bind (wpAny_pure ?_) | skip
 refine wpAny_bind (wpAny_sequenceKey ht.typeIs (by decide) ?_)
 refine wpAny_bind (wpAny_callSpecial?_slot (name:=Str.ofString "__getitem__") ht.typeIs PyProof.Rows.slot_tuple_getitem
  (wpAny_call_entry PyProof.Rows.slot_tuple_getitem ht.typeIs entry_tuple_getitem ?_ (args_tuple_getitem _ _)))
 show wpAny _ _ (Builtin.Tuple.tupleItemsOf (.ref t) >>= _) _ _ s
 refine wpAny_bind (tupleItemsOf_ ht ?_)
 refine wpAny_bind (wpAny_typeOf hTs ?_)
 rw[if_pos (by decide)]
 refine wpAny_bind (jq hs pl pu ?_)
 have hno:¬ ((((eA items.size 0 lo:Nat):Int) == 0&&(1:Int) == 1&&(eA items.size items.size hi - eA items.size 0 lo) == items.size)=true):=by
  intro q
  rw[Bool.and_eq_true,Bool.and_eq_true]at q
  have q1:((eA items.size 0 lo:Nat):Int)=0:=eq_of_beq q.1.1
  have q2:eA items.size items.size hi - eA items.size 0 lo=items.size:=eq_of_beq q.2
  exact hw ⟨by omega,by omega⟩
 show wpAny _ _ (if (((eA items.size 0 lo:Nat):Int) == 0&&(1:Int) == 1&&(eA items.size items.size hi - eA items.size 0 lo) == items.size)=true then _ else _) _ _ s
 rw[if_neg hno,Gv]
 first
  | exact wpAny_bind (m:=Builtin.Tuple.tupleExact _) (wpAny_newObj_type (wpAny_pure ⟨_,rfl,wpAny_pure h⟩) htake)
  | exact wpAny_bind (m:=Builtin.Tuple.tupleExact _) (wpAny_newObj_type (wpAny_bind (wpAny_pure (wpAny_pure ⟨_,rfl,wpAny_pure h⟩))) htake)
  | exact wpAny_bind (wpAny_bind (m:=Builtin.Tuple.tupleExact _) (wpAny_newObj_type (wpAny_pure (wpAny_pure ⟨_,rfl,wpAny_pure h⟩)) htake))
  | exact wpAny_bind (wpAny_bind (m:=Builtin.Tuple.tupleExact _) (wpAny_newObj_type (wpAny_pure ⟨_,rfl,wpAny_pure h⟩) htake))
end
end HT
namespace L2
open PySem PySem.Spec PyProof.Rows
abbrev TO:=St->Hp->(Option Int->Hp->Prop)->Prop
def PO(X:Cx)(e:Option Expr)(t:TO):Prop :=
 ∀(pins:List (Addr×Obj)) (s:Shared) (σ:St) (H:Hp) (Q:Option Int->Hp->Prop),Inv X pins σ H s->t σ H Q ->
  wpAny (model X.prog X.w) X.A (evalPart e X.env) (λu s'=>∃o H',Inv X pins σ H' s'/\IsPart u o/\Q o H') X.xe s
def LD:TO:=λ_ H Q=>Q none H
def SR(t:TE):TO:=λσ H Q=>t σ H λx H1=>∃i,x=.int i/\Q (some i) H1
section
variable {X:Cx} {e:Expr} {te:TE} {lo hi:Option Expr} {tl th:TO} {pos p2:Pos}
theorem qo:PO X none LD:=by
 intro pins s σ H Q I h
 rw[evalPart_none]
 exact wpAny_pure ⟨none,H,I,.none,h⟩
theorem qp(h:PE X e te):PO X (some e) (SR te):=by
 intro pins s σ H Q I hw
 rw[evalPart_some]
 refine cK (h pins s σ H _ I hw) λu s1 ⟨x,H1,I1,r1,q1⟩=>?_
 obtain⟨i,rfl,q⟩:=q1
 obtain⟨t,rfl⟩:=r1
 exact⟨some i,H1,I1,.int i t,q⟩
def Kw(X:Cx)(r:V->Option Int->Option Int->Hp->VK->Prop):Prop :=
 ∀(pins:List (Addr×Obj)) (s:Shared) (σ:St) (H:Hp) (x:V) (v vl vu:Value) (lo hi:Option Int) (sl:Addr) (Q:VK),Inv X pins σ H s->RelV x v->s.heap.IsSliceOf sl vl vu .none->IsPart vl lo->IsPart vu hi->r x lo hi H Q ->
  ∃T id,typeLookup (.type T) "__getitem__"=pure (some (.builtin id))/\s.TypeIs v T/\wpAny (model X.prog X.w) X.A (getItem v (.ref sl)) (EP X pins σ Q) X.xe s
def tSl(r:V->Option Int->Option Int->Hp->VK->Prop)(te:TE)(tl th:TO):TE:=λσ H Q=>te σ H λx H1=>tl σ H1 λl H2=>th σ H2 λu H3=>r x l u H3 Q
theorem kS{r:V->Option Int->Option Int->Hp->VK->Prop}(hr:Kw X r)(he:PE X e te)(hl:PO X lo tl)(hu:PO X hi th):PE X (.Subscript e (.Slice lo hi none p2) pos) (tSl r te tl th):=by
 intro pins s σ H Q I h
 refine Subscript_ (cK (he pins s σ H _ I h) λv s1 ⟨x,H1,I1,r1,q1⟩=>?_)
 refine wpAny_Slice (cK (hl pins s1 σ H1 _ I1 q1) λvl s2 ⟨l,H2,I2,pl,q2⟩=>cK (hu pins s2 σ H2 _ I2 q2) λvu s3 ⟨u,H3,I3,pu,q3⟩=>?_)
 rw[evalPart_none]
 refine wpAny_pure ?_
 have I4:Inv X pins σ H3 {s3 with heap:=s3.heap.push {cls:=.type "slice",data:=.fields #[vl,vu,.none]}}:=I3.kept (t':=s3.toks) λb ob q=>Heap.get?_push_of_some _ q
 obtain⟨T,id,hT,ht,hg⟩:=hr pins {s3 with heap:=s3.heap.push {cls:=.type "slice",data:=.fields #[vl,vu,.none]}} σ H3 x v vl vu l u s3.heap.objs.size Q I4 r1 (Heap.IsSliceOf.new ..) pl pu q3
 show wpAny (model X.prog X.w) X.A (subscriptTail e (.Slice lo hi none p2) v (.ref s3.heap.objs.size)) (EP X pins σ Q) X.xe {s3 with heap:=s3.heap.push {cls:=.type "slice",data:=.fields #[vl,vu,.none]}}
 exact tail_any (ops:=[.ref s3.heap.objs.size,v]) ht hT hg (by with_unfolding_all rfl)
def jr(xs:List V)(lo hi:Option Int):List V:=(xs.drop (HT.eA xs.length 0 lo)).take (HT.eA xs.length xs.length hi - HT.eA xs.length 0 lo)
theorem sR(xs:List V)(lo hi:Option Int):(jr xs lo hi).length<=xs.length:=by
 unfold jr
 rw[List.length_take,List.length_drop]
 omega
def VP(K:av):V->Option Int->Option Int->Hp->VK->Prop:=λx lo hi H Q=>∃a xs,x=.ref a/\ba K H a xs /\
 ¬ (HT.eA xs.length 0 lo=0/\HT.eA xs.length xs.length hi=xs.length)/\∀p,H p=none->Q (.ref p) (upd H p (.tup (jr xs lo hi)))
theorem Px:Kw X (VP X.K):=by
 intro pins s σ H x v vl vu lo hi sl Q I rx hs pl pu h
 obtain⟨a,xs,rfl,hx,hw,q⟩:=h
 cases rx
 obtain⟨its,r,ht,hz⟩:=I.tuple hx
 have hlen:its.toArray.size=xs.length:=by rw[List.size_toArray];exact r.length.symm
 refine⟨"tuple",_,PyProof.Rows.slot_tuple_getitem.lookup,ht.typeIs,?_⟩
 refine HT.qm ht hs pl pu (by rw[hlen];exact hw) ?_ (by rw[hlen];exact hz)
 rw[hlen]
 refine⟨.ref s.heap.objs.size,_,I.laid (t':=s.toks) (o:=.tup (jr xs lo hi)) (λb ob q=>Heap.get?_push_of_some _ q) (Nat.le_refl _) ?_,rfl,q _ (I.hok.fresh (Nat.le_refl _))⟩
 exact⟨Nat.le_trans (sR xs lo hi) hz,_,(r.drop (HT.eA xs.length 0 lo)).take (HT.eA xs.length xs.length hi - HT.eA xs.length 0 lo),IsTup.new _ _⟩
def SS(K:av):R2:=λx y H Q=>∃a b xs ys,x=.ref a/\y=.ref b/\ba K H a xs/\ba K H b ys/\xs≠[]/\xs.length + ys.length<=sizeLine /\
 (ys=[]->Q (.ref a) H)/\(ys≠[]->∀p,H p=none->Q (.ref p) (upd H p (.tup (xs++ys))))
theorem Vals.yj{xs:List V}{us:List Value}(r:Vals xs us):us=[]↔xs=[]:=by
 cases r with
 | nil=>simp
 | cons _ _=>simp
theorem LF:iq X (binaryOp .Add) (SS X.K):=by
 intro pins s σ H x y v u Q I rx ry h
 obtain⟨a,b,xs,ys,rfl,rfl,ha,hb,hx,hz,q1,q2⟩:=h
 cases rx
 cases ry
 obtain⟨its,r1,p1,_⟩:=I.tuple ha
 obtain⟨qr,r2,p2,_⟩:=I.tuple hb
 refine HT.LC p1 p2 (λz=>hx (r1.yj.mp z)) (λz=>⟨.ref a,H,I,rfl,q1 (r2.yj.mp z)⟩) (λz=>?_) (by rw[← r1.length,← r2.length];exact hz)
 refine⟨.ref s.heap.objs.size,_,I.laid (t':=s.toks) (o:=.tup (xs++ys)) (λb ob q=>Heap.get?_push_of_some _ q) (Nat.le_refl _) ?_,rfl,q2 (λw=>z (r2.yj.mpr w)) _ (I.hok.fresh (Nat.le_refl _))⟩
 exact⟨by rw[List.length_append];exact hz,_,r1.append r2,IsTup.new _ _⟩
end
end L2
namespace L2
open PySem PySem.Spec PyProof.Rows
def Fw(n:Nat)(i:Int):Option Nat:=if 0<=i then(if i < n then some i.toNat else none)else if -(n:Int)<=i then some (i + n).toNat else none
def rO{α:Type}(xs:List α)(i:Int):Option α:=(Fw xs.length i).bind λj=>xs[j]?
theorem Df{n:Nat}{i:Int}{j:Nat}(h:Fw n i=some j):seqIndex? i n=some j/\j < n/\-(n:Int)<=i/\i < n:=by
 unfold Fw at h
 by_cases h0:0<=i
 ·rw[if_pos h0]at h
  by_cases h1:i < n
  ·rw[if_pos h1]at h
   have e:i.toNat=j:=Option.some.inj h
   exact⟨by rw[seqIndex_of h0 h1,e],by omega,by omega,h1⟩
  ·rw[if_neg h1]at h;cases h
 ·rw[if_neg h0]at h
  by_cases h1:-(n:Int)<=i
  ·rw[if_pos h1]at h
   have e:(i + n).toNat=j:=Option.some.inj h
   exact⟨by rw[seqIndex_neg (by omega) h1,e],by omega,h1,by omega⟩
  ·rw[if_neg h1]at h;cases h
theorem yk{α:Type}{xs:List α}{i:Int}{v:α}(h:rO xs i=some v):∃j,seqIndex? i xs.length=some j/\xs[j]?=some v/\j < xs.length/\-(xs.length:Int)<=i/\i < xs.length:=by
 unfold rO at h
 cases e:Fw xs.length i with
 | none=>rw[e]at h;cases h
 | some j =>
  rw[e]at h
  obtain⟨h1,h2,h3,h4⟩:=Df e
  exact⟨j,h1,h,h2,h3,h4⟩
theorem aN{α:Type}{xs:List α}{j:Nat}{v:α}(h:xs[j]?=some v):rO xs (j:Int)=some v:=by
 have hj:j < xs.length:=(bN h).1
 have e:Fw xs.length (j:Int)=some j:=by
  unfold Fw
  rw[if_pos (by omega),if_pos (by omega)];simp
 unfold rO;rw[e];exact h
def ym(b:Expr):Prop:=∀o i,subscripted b false o i=operate [o,i] (getItem o i)
def Kx(X:Cx)(r:R2):Prop :=
 ∀(value slice:Expr) (pins:List (Addr×Obj)) (s:Shared) (σ:St) (H:Hp) (x y:V) (v u:Value) (Q:VK),Inv X pins σ H s->RelV x v->RelV y u->r x y H Q ->
  subscripted slice false v u=operate [v,u] (getItem v u)->wpAny (model X.prog X.w) X.A (subscriptTail value slice v u) (EP X pins σ Q) X.xe s
def ZN(X:Cx)(id:String)(r:V->List V->Hp->VK->Prop):Prop :=
 ∀(pins:List (Addr×Obj)) (s:Shared) (σ:St) (H:Hp) (x:V) (xs:List V) (v:Value) (us:List Value) (Q:VK),Inv X pins σ H s->RelV x v->Vals xs us->r x xs H Q ->
  wpAny (model X.prog X.w) X.A (call (.builtin id) (v::us)) (EP X pins σ Q) X.xe s
section
variable {X:Cx} {a b:Expr} {ta tb:TE} {pos:Pos}
theorem Kx.or{r r':R2}(h:Kx X r)(h':Kx X r'):Kx X (λx y H Q=>r x y H Q∨r' x y H Q):=by
 intro value slice pins s σ H x y v u Q I rx ry q hs
 rcases q with q | q
 ·exact h value slice pins s σ H x y v u Q I rx ry q hs
 ·exact h' value slice pins s σ H x y v u Q I rx ry q hs
theorem au{r:R2}(hr:Kx X r)(ha:PE X a ta)(hb:PE X b tb)(hs:ym b):PE X (.Subscript a b pos) (SE r ta tb):=by
 intro pins s σ H Q I h
 exact Subscript_ (Po ha hb I h λv u s2 x y H2 I2 rx ry q=>hr a b pins s2 σ H2 x y v u Q I2 rx ry q (hs _ _))
def LG(K:av):R2:=λx y H Q=>∃p xs i v,x=.ref p/\y=.int i/\bc K H p xs/\rO xs i=some v/\Q v H
def wG(K:av):R2:=λx y H Q=>∃p xs i v,x=.ref p/\y=.int i/\ba K H p xs/\rO xs i=some v/\Q v H
def SU:R2:=λx y H Q=>∃z i c,x=.str z/\y=.int i/\z.length<=sizeLine/\rO z.cps.toList i=some c/\Q (.str ⟨#[c]⟩) H
theorem aR:Kx X (LG X.K):=by
 intro value slice pins s σ H x y v u Q I rx ry h hs
 obtain⟨p,xs,i,z,rfl,rfl,hq,he,q⟩:=h
 cases rx
 obtain⟨t,rfl⟩:=ry
 obtain⟨its,r,pl,hz⟩:=I.list hq
 obtain⟨j,h1,h2,h3,h4,h5⟩:=yk he
 obtain⟨w,ew,rw'⟩:=r.get h2
 have hl:=r.length
 have hn:=rM
 have fin:EP X pins σ Q w s:=⟨z,H,I,rw',q⟩
 by_cases h0:0<=i
 ·have hj:i.toNat=j:=by
   rw[seqIndex_of h0 h5]at h1
   exact Option.some.inj h1
  exact item_listR pl.isList h0 (by omega) (by rw[hj];simpa using ew) fin hs
 ·have hj:(i + (its.toArray.size:Int)).toNat=j:=by
   rw[seqIndex_neg (by omega) h4]at h1
   rw[List.size_toArray,← hl]
   exact Option.some.inj h1
  exact subscriptTail_builtinR (x:=w) pl.isList.typeIs slot_list_getitem.lookup
   (wpAny_getItem_list_neg (Q:=λr s'=>r=w/\EP X pins σ Q r s') pl.isList (by omega) (by rw[List.size_toArray]<;>omega) (by omega) (by rw[hj];simpa using ew) ⟨rfl,fin⟩) hs
theorem aw:Kx X (wG X.K):=by
 intro value slice pins s σ H x y v u Q I rx ry h hs
 obtain⟨p,xs,i,z,rfl,rfl,hq,he,q⟩:=h
 cases rx
 obtain⟨t,rfl⟩:=ry
 obtain⟨its,r,pl,hz⟩:=I.tuple hq
 obtain⟨j,h1,h2,h3,h4,h5⟩:=yk he
 obtain⟨w,ew,rw'⟩:=r.get h2
 have hl:=r.length
 have hn:=rM
 have fin:EP X pins σ Q w s:=⟨z,H,I,rw',q⟩
 exact subscriptTail_builtinR (x:=w) pl.typeIs slot_tuple_getitem.lookup
  (getItem_tuple (j:=j) (Q:=λr s'=>r=w/\EP X pins σ Q r s') pl (by omega) (by omega) (by rw[List.size_toArray,← hl];exact h1) (by simpa using ew) ⟨rfl,fin⟩) hs
theorem Py:Kx X SU:=by
 intro value slice pins s σ H x y v u Q I rx ry h hs
 obtain⟨z,i,c,rfl,rfl,hz,he,q⟩:=h
 obtain⟨t,rfl⟩:=rx
 obtain⟨t',rfl⟩:=ry
 obtain⟨j,h1,h2,h3,h4,h5⟩:=yk he
 have hl:z.cps.toList.length=z.length:=by simp[Str.length]
 rw[hl]at h1 h4 h5
 have hn:=rM
 exact tail_any (typeIs_str s z t) slot_str_getitem.lookup (getItem_str (c:=c) (by
  have e1:decide (i < -(2 ^ 63:Int))=false:=decide_eq_false (by omega)
  have e2:decide (i ≥ 2 ^ 63)=false:=decide_eq_false (by omega)
  rw[e1,e2,Bool.or_false]) (by rw[h1];simpa using h2) ⟨.str ⟨#[c]⟩,H,I.tok _,⟨_,rfl⟩,q⟩) hs
def ZO(K:av):R2:=λx y H Q=>LG K x y H Q∨wG K x y H Q∨SU x y H Q
theorem Gw:Kx X (ZO X.K):=aR.or (aw.or Py)
theorem B0(its:List Value)(n j:Nat)(u:Value):Obj.mapSeq (·.setIfInBounds j u) {cls:=.type "list",data:=.seq its.toArray n}={cls:=.type "list",data:=.seq (its.set j u).toArray n}:=by
 simp[Obj.mapSeq]
theorem Inv.lst{pins:List (Addr×Obj)}{σ:St}{H:Hp}{s:Shared}{p:Addr}{xs:List V}(I:Inv X pins σ H s)(h:H p=some (.lst xs)):
  ∃(its:List Value) (n:Nat),Vals xs its/\s.heap.get? p=some {cls:=.type "list",data:=.seq its.toArray n}/\xs.length<=sizeLine:=by
 obtain⟨z,its,n,r,e⟩:=I.hok p _ h
 exact⟨its,n,r,e,z⟩
theorem Inv.Pz{pins:List (Addr×Obj)}{σ:St}{H:Hp}{s:Shared}{p:Addr}{xs ys:List V}{its its':List Value}{n n':Nat}{f:Obj->Obj}(I:Inv X pins σ H s)(h:H p=some (.lst xs))
  (ho:s.heap.get? p=some {cls:=.type "list",data:=.seq its.toArray n}) (hf:f {cls:=.type "list",data:=.seq its.toArray n}={cls:=.type "list",data:=.seq its'.toArray n'}) (r:Vals ys its') (hz:ys.length<=sizeLine) (t:Nat) :
  Inv X pins σ (upd H p (.lst ys)) {s with heap:=s.heap.update p f,toks:=t}:=by
 have e:(s.heap.update p f).get? p=some {cls:=.type "list",data:=.seq its'.toArray n'}:=by
  rw[Heap.get?_update_self f ho (by rw[hf]<;>rfl),hf]
 refine I.write (x:=p) (e:=p) (by rw[h];trivial) (.inl rfl) (λb u hb q=>(Heap.get?_update_other _ _ (Ne.symm hb)).trans q) ⟨_,e⟩ ?_
 exact⟨hz,its',n',r,e⟩
def SV:V->V->V->Hp->(Hp->Prop)->Prop:=λo i v H Q=>∃p xs k j,o=.ref p/\i=.int k/\H p=some (.lst xs)/\Fw xs.length k=some j/\Q (upd H p (.lst (xs.set j v)))
theorem set_list:Sy X SV:=by
 intro pins s σ H o i v ov iv u Q I ro ri rv h
 obtain⟨p,xs,k,j,rfl,rfl,hp,hj,q⟩:=h
 cases ro
 obtain⟨t,rfl⟩:=ri
 obtain⟨its,n,r,ho,hz⟩:=I.lst hp
 obtain⟨h1,h2,h3,h4⟩:=Df hj
 have hl:=r.length
 have hn:=rM
 have I':Inv X pins σ (upd H p (.lst (xs.set j v))) {s with heap:=s.heap.update p (Obj.mapSeq (·.setIfInBounds j u))} :=
  I.Pz hp ho (B0 its n j u) (r.set rv j) (by rw[List.length_set];exact hz) s.toks
 by_cases h0:0<=k
 ·have hk:k.toNat=j:=by
   rw[seqIndex_of h0 h4]at h1
   exact Option.some.inj h1
  exact PySem.W.ki_setAt ho h0 (by omega) (by rw[List.size_toArray,← hl];exact h4) (by rw[hk];exact⟨_,I',q⟩)
 ·have hk:(k + (its.toArray.size:Int)).toNat=j:=by
   rw[seqIndex_neg (by omega) h3]at h1
   rw[List.size_toArray,← hl]
   exact Option.some.inj h1
  exact PySem.W.ki_setBack ho (by omega) (by rw[List.size_toArray,← hl];exact h3) (by omega) (by rw[hk];exact⟨_,I',q⟩)
theorem yn(lo hi:Option Int)(n:Nat):(sliceBounds lo hi none n).1=((HT.eA n 0 lo:Nat):Int)/\(sliceBounds lo hi none n).2.1=((HT.eA n n hi:Nat):Int)/\(sliceBounds lo hi none n).2.2=1:=by
 refine⟨?_,?_,rfl⟩
 ·cases lo with
  | none=>simp[sliceBounds,HT.eA]
  | some i =>
   simp only[sliceBounds,HT.eA,Option.getD_none,show(1:Int) > 0 by decide,if_true]
   by_cases h:i < 0
   ·simp only[h,if_true]<;>omega
   ·simp only[h,if_false]<;>omega
 ·cases hi with
  | none=>simp[sliceBounds,HT.eA]
  | some i =>
   simp only[sliceBounds,HT.eA,Option.getD_none,show(1:Int) > 0 by decide,if_true]
   by_cases h:i < 0
   ·simp only[h,if_true]<;>omega
   ·simp only[h,if_false]<;>omega
theorem wH(its:List Value)(lo hi:Option Int):slicePick its.toArray lo hi none=((its.drop (HT.eA its.length 0 lo)).take (HT.eA its.length its.length hi - HT.eA its.length 0 lo)).toArray:=by
 obtain⟨h1,h2,h3⟩:=yn lo hi its.toArray.size
 unfold slicePick
 rw[h1,h2,h3]
 simp only[sliceRange_one,pick_run,List.size_toArray]<;>rfl
def SW(K:av):V->Option Int->Option Int->Hp->VK->Prop:=λx lo hi H Q=>∃a xs,x=.ref a/\bc K H a xs/\∀p,H p=none->Q (.ref p) (upd H p (.lst (jr xs lo hi)))
theorem yo:Kw X (SW X.K):=by
 intro pins s σ H x v vl vu lo hi sl Q I rx hs pl pu h
 obtain⟨a,xs,rfl,hx,q⟩:=h
 cases rx
 obtain⟨its,r,ht,hz⟩:=I.list hx
 have hlen:=r.length
 refine⟨"list",_,slot_list_getitem.lookup,ht.isList.typeIs,?_⟩
 refine wpAny_getItem_list_slice ht.isList hs pl pu .none (by simp) ?_ (by rw[List.size_toArray]<;>omega)
 rw[wH,← hlen]
 refine⟨.ref s.heap.objs.size,_,I.laid (t':=s.toks) (o:=.lst (jr xs lo hi)) (λb ob q=>Heap.get?_push_of_some _ q) (Nat.le_refl _) ?_,rfl,q _ (I.hok.fresh (Nat.le_refl _))⟩
 exact⟨Nat.le_trans (sR xs lo hi) hz,_,0,(r.drop (HT.eA xs.length 0 lo)).take (HT.eA xs.length xs.length hi - HT.eA xs.length 0 lo),Heap.get?_push_size _ rfl⟩
def iw:V->Bool
 | .non=>true
 | .bl _=>true
 | .int _=>true
 | .str _=>true
 | _=>false
def D3:V->V->Bool
 | .non,.non=>true
 | .bl a,.bl b=>a == b
 | .bl a,.int b=>(if a then 1 else 0) == b
 | .int a,.bl b=>a == (if b then 1 else 0)
 | .int a,.int b=>a == b
 | .str a,.str b=>a == b
 | _,_=>false
theorem PB{A:Around}{s:Shared}{y x:V}{u v:Value}(ry:RelV y u)(rx:RelV x v)(fy:iw y=true)(fx:iw x=true):SeqAt.EqAt A s u v (D3 y x):=by
 cases y with
 | non =>
  cases ry
  cases x with
  | non=>cases rx;exact SeqAt.EqAt.same _
  | bl b=>cases rx;exact SeqAt.EqAt.none_bool b
  | int b=>obtain⟨t,rfl⟩:=rx;exact SeqAt.EqAt.none_int b t
  | str b=>obtain⟨t,rfl⟩:=rx;exact SeqAt.EqAt.none_str b t
  | _=>exact absurd (show false=true from fx) Bool.false_ne_true
 | bl a =>
  cases ry
  cases x with
  | non=>cases rx;exact SeqAt.EqAt.bool_none a
  | bl b=>cases rx;exact SeqAt.EqAt.bool_bool a b
  | int b=>obtain⟨t,rfl⟩:=rx;exact SeqAt.EqAt.bool_int a b t
  | str b=>obtain⟨t,rfl⟩:=rx;exact SeqAt.EqAt.bool_str a b t
  | _=>exact absurd (show false=true from fx) Bool.false_ne_true
 | int a =>
  obtain⟨t',rfl⟩:=ry
  cases x with
  | non=>cases rx;exact SeqAt.EqAt.int_none a t'
  | bl b=>cases rx;exact SeqAt.EqAt.int_bool a t' b
  | int b=>obtain⟨t,rfl⟩:=rx;exact SeqAt.EqAt.int_int a t' b t
  | str b=>obtain⟨t,rfl⟩:=rx;exact SeqAt.EqAt.int_str a t' b t
  | _=>exact absurd (show false=true from fx) Bool.false_ne_true
 | str a =>
  obtain⟨t',rfl⟩:=ry
  cases x with
  | non=>cases rx;exact SeqAt.EqAt.str_none a t'
  | bl b=>cases rx;exact SeqAt.EqAt.str_bool a t' b
  | int b=>obtain⟨t,rfl⟩:=rx;exact SeqAt.EqAt.str_int a t' b t
  | str b=>obtain⟨t,rfl⟩:=rx;exact SeqAt.EqAt.str_str a t' b t
  | _=>exact absurd (show false=true from fx) Bool.false_ne_true
 | _=>exact absurd (show false=true from fy) Bool.false_ne_true
def LH(x:V)(u:Value):Bool:=match u with
 | .none=>D3 .non x
 | .bool b=>D3 (.bl b) x
 | .int i _=>D3 (.int i) x
 | .str z _=>D3 (.str z) x
 | _=>false
theorem Gx{x y:V}{u:Value}(r:RelV y u)(f:iw y=true):LH x u=D3 y x:=by
 cases y with
 | non=>cases r;rfl
 | bl b=>cases r;rfl
 | int i=>obtain⟨t,rfl⟩:=r;rfl
 | str z=>obtain⟨t,rfl⟩:=r;rfl
 | _=>exact absurd (show false=true from f) Bool.false_ne_true
theorem yp{x:V}:∀{xs:List V} {us:List Value},Vals xs us->xs.all iw=true->us.any (LH x)=xs.any λy=>D3 y x
 | _,_,.nil,_=>rfl
 | y::xs,u::us,.cons r t,f=>by
  rw[List.all_cons,Bool.and_eq_true]at f
  rw[List.any_cons,List.any_cons,Gx r f.1,yp t f.2]
theorem ve{A:Around}{s:Shared}{x:V}{v:Value}(rx:RelV x v)(fx:iw x=true):∀{xs:List V} {us:List Value},Vals xs us->xs.all iw=true->∀u∈us,SeqAt.EqAt A s u v (LH x u)
 | _,_,.nil,_=>λu hu=>by cases hu
 | y::xs,u::us,.cons r t,f=>λu' hu=>by
  rw[List.all_cons,Bool.and_eq_true]at f
  rcases List.mem_cons.mp hu with rfl | hu
  ·rw[Gx r f.1];exact PB r rx f.1 fx
  ·exact ve rx fx t f.2 u' hu
def Gy(x:V)(xs:List V):Bool:=xs.any λy=>D3 y x
def ZP(K:av)(neg:Bool):R2:=λx y H Q=>∃p xs,y=.ref p/\(bc K H p xs∨ba K H p xs)/\iw x=true/\xs.all iw=true/\Q (.bl (if neg then !Gy x xs else Gy x xs)) H
theorem js:iq X (compareOp .In) (ZP X.K false):=by
 intro pins s σ H x y v u Q I rx ry h
 obtain⟨p,xs,rfl,hq,fx,fs,q⟩:=h
 cases ry
 rcases hq with hq | hq
 ·obtain⟨its,r,pl,hz⟩:=I.list hq
  refine SeqAt.in_listAt (LH x) pl.isList (λw hw=>ve rx fx r fs w (by simpa using hw)) ⟨.bl _,H,I,rfl,?_⟩
  rw[show its.toArray.any (LH x)=its.any (LH x)by simp,yp r fs]
  exact q
 ·obtain⟨its,r,pl,hz⟩:=I.tuple hq
  refine SeqAt.in_tupleAt (LH x) pl (λw hw=>ve rx fx r fs w (by simpa using hw)) ⟨.bl _,H,I,rfl,?_⟩
  rw[show its.toArray.any (LH x)=its.any (LH x)by simp,yp r fs]
  exact q
theorem aT:jo X (.builtin "len") (λxs H Q=>∃p ys,xs=[.ref p]/\(bc X.K H p ys∨ba X.K H p ys)/\Q (.int ys.length) H):=by
 intro pins s σ H xs us Q I r h
 obtain⟨p,ys,rfl,hq,q⟩:=h
 obtain⟨u,rfl,rx⟩:=vals1 r
 cases rx
 have hn:=rM
 rcases hq with hq | hq
 ·obtain⟨its,r',pl,hz⟩:=I.list hq
  have hlen:=r'.length
  exact Calls.call_len_list pl.isList (by simp only[List.size_toArray]<;>omega) ⟨.int ys.length,H,I.tok _,⟨s.toks + 1,by rw[List.size_toArray,hlen]⟩,q⟩
 ·obtain⟨its,r',pl,hz⟩:=I.tuple hq
  have hlen:=r'.length
  exact len_tuple pl (by simp only[List.size_toArray]<;>omega) ⟨.int ys.length,H,I.tok _,⟨s.toks + 1,by rw[List.size_toArray,hlen]⟩,q⟩
theorem yq:jo X (.builtin "len") (λxs H Q=>∃z,xs=[.str z]/\z.length<=sizeLine/\Q (.int z.length) H):=by
 intro pins s σ H xs us Q I r h
 obtain⟨z,rfl,hz,q⟩:=h
 obtain⟨u,rfl,t,rfl⟩:=vals1 r
 have hn:=rM
 exact len_str (by omega) ⟨.int z.length,H,I.tok _,⟨_,rfl⟩,q⟩
theorem bL:jo X (.type "list") (λxs H Q=>∃p ys,xs=[.ref p]/\(bc X.K H p ys∨ba X.K H p ys)/\∀l,H l=none->Q (.ref l) (upd H l (.lst ys))):=by
 intro pins s σ H xs us Q I r h
 obtain⟨p,ys,rfl,hq,q⟩:=h
 obtain⟨u,rfl,rx⟩:=vals1 r
 cases rx
 have fin:∀(its:List Value),Vals ys its->ys.length<=sizeLine->∀(h':Heap) (c':Nat),(∀b o',s.heap.get? b=some o'->h'.get? b=some o') ->
   h'.get? s.heap.objs.size=some {cls:=.type "list",dict:=none,data:=.seq its.toArray c',slots:=#[]}->EP X pins σ Q (.ref s.heap.objs.size) {s with heap:=h'}:=λits r' hz h' c' kp e =>
  ⟨.ref s.heap.objs.size,_,I.laid (t':=s.toks) kp (Nat.le_refl _) (show ip X.prog X.w _ h' _ (.lst ys)from ⟨hz,its,c',r',e⟩),rfl,q _ (I.hok.fresh (Nat.le_refl _))⟩
 rcases hq with hq | hq
 ·obtain⟨its,r',pl,hz⟩:=I.list hq
  have hlen:=r'.length
  obtain⟨o,ho,hc,n,hd⟩:=pl.isList
  exact call_list_seq p (.inl rfl) ho hc hd (λh' c' kp e=>fin its r' hz h' c' kp e) (by simp only[List.size_toArray]<;>omega)
 ·obtain⟨its,r',pl,hz⟩:=I.tuple hq
  have hlen:=r'.length
  obtain⟨o,ho,hc,n,hd⟩:=pl
  exact call_list_seq p (.inr rfl) ho hc hd (λh' c' kp e=>fin its r' hz h' c' kp e) (by simp only[List.size_toArray]<;>omega)
def U8(K:av)(T:String)(x:V)(H:Hp):Prop:=match x with
 | .str _=>T="str"
 | .int _=>T="int"
 | .ref p=>(T="list"/\∃xs,bc K H p xs)∨(T="tuple"/\∃o,K.lookup p=some o/\o.cls=.type "tuple"/\o.dict=none) ∨
   (T="dict"/\((∃kvs,H p=some (.dK kvs))∨∃kvs,H p=some (.dT kvs)))∨(T="set"/\∃S n,H p=some (.set S n))
 | _=>False
theorem Gz{pins:List (Addr×Obj)}{σ:St}{H:Hp}{s:Shared}{T:String}{x:V}{v:Value}(I:Inv X pins σ H s)(r:RelV x v)(ty:U8 X.K T x H):
  s.TypeIs v T/\∀a,v=.ref a->∃ob,s.heap.get? a=some ob/\ob.dict=none:=by
 cases x with
 | str z =>
  obtain⟨t,rfl⟩:=r
  cases (show T="str" from ty)
  exact⟨typeIs_str s z t,λ_ e=>nomatch e⟩
 | int i =>
  obtain⟨t,rfl⟩:=r
  cases (show T="int" from ty)
  exact⟨typeIs_int s i t,λ_ e=>nomatch e⟩
 | ref p =>
  cases r
  rcases ty with⟨rfl,xs,hq⟩ | ⟨rfl,o,hk,hc,hd⟩ | ⟨rfl,hk⟩ | ⟨rfl,S,n,hk⟩
  ·obtain⟨its,_,pl,_⟩:=I.list hq
   refine⟨pl.isList.typeIs,λa e=>?_⟩
   cases e
   obtain⟨o,n,e,c,hd,_⟩:=pl
   exact⟨o,e,hd⟩
  ·refine⟨⟨o,I.wA p o hk,hc⟩,λa e=>?_⟩
   cases e
   exact⟨o,I.wA _ o hk,hd⟩
  ·have z:∃o,s.heap.get? p=some o/\o.ExactDict:=by
    rcases hk with⟨kvs,hk⟩ | ⟨kvs,hk⟩
    ·obtain⟨_,_,_,_,o,_,_,e,ex,_⟩:=I.hok p _ hk
     exact⟨o,e,ex⟩
    ·obtain⟨_,_,_,_,o,_,_,e,ex,_⟩:=I.hok p _ hk
     exact⟨o,e,ex⟩
   obtain⟨o,e,ex⟩:=z
   refine⟨⟨o,e,ex.1⟩,λa e2=>?_⟩
   cases e2
   exact⟨o,e,ex.2.1⟩
  ·obtain⟨o,_,_,_,e,ex,_⟩:=I.hok p _ hk
   refine⟨⟨o,e,ex.1⟩,λa e2=>?_⟩
   cases e2
   exact⟨o,e,ex.2.1⟩
 | _=>exact False.elim ty
def SX(K:av)(T:String)(r:V->List V->Hp->VK->Prop)(to:TE):TE:=λσ H Q=>to σ H λx H1=>U8 K T x H1/\r x [] H1 Q
def tBM(K:av)(T:String)(r:V->List V->Hp->VK->Prop)(to:TE)(t:TA):TE:=λσ H Q=>to σ H λx H1=>U8 K T x H1/\t σ H1 λxs H2=>r x xs H2 Q
variable {o e:Expr} {es:List Expr} {to:TE} {t:TA} {name:Str} {apos cpos:Pos} {T id:String} {r:V->List V->Hp->VK->Prop}
theorem fF(pa:PlainAttrs T)(slot:Slot T name id)(hty:typeOf (.builtin id)=pure (.type "method_descriptor"))(hm:ZN X id r)(ho:PE X o to)
  (hbase:attributeBase o name X.env (eval o X.env)=eval o X.env:=by rfl) (hline:(apos.endLine == cpos.line)=true:=by rfl):PE X (.Call (.Attribute o name apos) [] [] cpos) (SX X.K T r to):=by
 intro pins s σ H Q I h
 refine wpAny_Call_method0_late hbase hline (cK (ho pins s σ H _ I h) λv s1 ⟨x,H1,I1,r1,ty,q1⟩=>?_)
 obtain⟨h1,h2⟩:=Gz I1 r1 ty
 exact⟨T,id,pa,slot,hty,h1,h2,Calls.callWith_builtin rfl (PySem.evalArgs_none (hm pins s1 σ H1 x [] v [] Q I1 r1 .nil q1))⟩
theorem iy(pa:PlainAttrs T)(slot:Slot T name id)(hty:typeOf (.builtin id)=pure (.type "method_descriptor"))(hm:ZN X id r)(ho:PE X o to)(ha:PA X (e::es) t)
  (hbase:attributeBase o name X.env (eval o X.env)=eval o X.env:=by rfl)
  (hfew:((backTo cpos (starEach (e::es) X.env)).all (λx=>!x.1)&&(backToKw cpos (keywordEach [] X.env)).all (λx=>x.1.isSome)
   && decide ((e::es).length + ([]:List Keyword).length + (if ([]:List Keyword).isEmpty then 0 else 1) < 30))=true:=by rfl)
  (hline:(apos.endLine == cpos.line)=true:=by rfl) (hs:starEach (e::es) X.env=(false,eval e X.env)::starEach es X.env:=by rfl) (hplain:(backTo cpos (starEach es X.env)).any (·.1)=false:=by rfl) :
  PE X (.Call (.Attribute o name apos) (e::es) [] cpos) (tBM X.K T r to t):=by
 intro pins s σ H Q I h
 refine wpAny_Call_method_late hbase hfew hline rfl (cK (ho pins s σ H _ I h) λv s1 ⟨x,H1,I1,r1,ty,q1⟩=>?_)
 obtain⟨h1,h2⟩:=Gz I1 r1 ty
 refine⟨T,id,pa,slot,hty,h1,h2,?_⟩
 have hA:=ha cpos pins s1 σ H1 _ I1 q1
 rw[hs]at hA ⊢
 refine Calls.callWith_builtin (by show(false||(backTo cpos (starEach es X.env)).any (·.1))=false;rw[hplain]<;>rfl) (Calls.evalArgs_plain ?_)
 exact cK hA λus s2 ⟨vs,H2,I2,r2,q2⟩=>hm pins s2 σ H2 x vs v us Q I2 r1 r2 q2
end
end L2
namespace L2
open PySem PySem.Spec PyProof.Rows
def U9(X:Cx)(id:String)(r:V->List V->Hp->VK->Prop):Prop :=
 ∀(pins:List (Addr×Obj)) (s:Shared) (σ:St) (H:Hp) (x:V) (xs:List V) (v:Value) (us:List Value) (Q:VK),Inv X pins σ H s->RelV x v->Vals xs us->r x xs H Q ->
  wpAny (model X.prog X.w) X.A (call (.builtin id) (v::us)) (EP X pins σ Q) X.xe s
theorem Vals.one:∀{x:V} {us:List Value},Vals [x] us->∃u,us=[u]/\RelV x u
 | _,_,.cons r .nil=>⟨_,rfl,r⟩
theorem Vals.zero:∀{us:List Value},Vals [] us->us=[]
 | _,.nil=>rfl
theorem Vals.dropLast{xs:List V}{us:List Value}(h:Vals xs us):Vals xs.dropLast us.dropLast:=by
 induction h with
 | nil=>exact .nil
 | cons r t ih =>
  cases t with
  | nil=>exact .nil
  | cons q t'=>exact .cons r ih
theorem Vals.reverse{xs:List V}{us:List Value}(h:Vals xs us):Vals xs.reverse us.reverse:=by
 induction h with
 | nil=>exact .nil
 | cons r t ih=>rw[List.reverse_cons,List.reverse_cons];exact Vals.append ih (.cons r .nil)
theorem Vals.rep{xs:List V}{us:List Value}(h:Vals xs us):∀k:Nat,Vals (List.replicate k xs).flatten (List.replicate k us).flatten
 | 0=>.nil
 | k + 1=>by
  rw[List.replicate_succ,List.replicate_succ,List.flatten_cons,List.flatten_cons]
  exact Vals.append h (Vals.rep h k)
theorem B1{α:Type}(l:List α):l.eraseIdx (l.length - 1)=l.dropLast:=by
 induction l with
 | nil=>rfl
 | cons a r ih =>
  cases r with
  | nil=>rfl
  | cons b r =>
   have e:(a::b::r).length - 1=((b::r).length - 1) + 1:=by
    have h1:(a::b::r).length=r.length + 2:=rfl
    have h2:(b::r).length=r.length + 1:=rfl
    omega
   rw[e,List.eraseIdx_cons_succ,ih]
   all_goals rfl
theorem foldl_rep(its:List Value):∀(k:Nat) (acc:List Value),
  List.foldl (λx1 x2=>x1++x2) acc.toArray (List.replicate k its.toArray)=(acc++(List.replicate k its).flatten).toArray
 | 0,acc=>by simp
 | k + 1,acc=>by
  have e:acc.toArray++its.toArray=(acc++its).toArray:=by simp
  have e2:(acc++its)++(List.replicate k its).flatten=acc++(List.replicate (k + 1) its).flatten:=by
   rw[List.replicate_succ,List.flatten_cons,List.append_assoc]
  rw[← e2,← foldl_rep its k (acc++its),← e,List.replicate_succ,List.foldl_cons]
section
variable {X:Cx} {pins:List (Addr×Obj)} {σ:St} {H:Hp} {s:Shared} {l b:Addr} {xs ys zs:List V}
theorem Inv.LI{its its':List Value}{n:Nat}{f:Array Value->Array Value}{t':Nat}(I:Inv X pins σ H s)(hH:H l=some (.lst xs))
  (e:s.heap.get? l=some {cls:=.type "list",data:=.seq its.toArray n}) (hf:f its.toArray=its'.toArray) (hv:Vals ys its') (hz:ys.length<=sizeLine) :
  Inv X pins σ (upd H l (.lst ys)) {s with heap:=s.heap.update l (Obj.mapSeq f),toks:=t'}:=by
 have q:=PySem.IsL.update e f
 rw[hf]at q
 refine I.write (x:=l) (e:=l) (by rw[hH];exact trivial) (.inl rfl) (λb' u hb hu=>(Heap.get?_update_other s.heap (Obj.mapSeq f) (Ne.symm hb)).trans hu) ⟨_,q⟩ ?_
 exact⟨hz,its',_,hv,q⟩
theorem Inv.LJ{its:List Value}{t':Nat}(I:Inv X pins σ H s)(hv:Vals ys its)(hz:ys.length<=sizeLine):
  Inv X pins σ (upd H s.heap.objs.size (.lst ys)) {s with heap:=s.heap.push {cls:=.type "list",data:=.seq its.toArray},toks:=t'} :=
 I.laid (λ_ _ q=>Heap.get?_push_of_some _ q) (Nat.le_refl _) ⟨hz,its,0,hv,Heap.get?_push_size _ rfl⟩
theorem Inv.fresh(I:Inv X pins σ H s):H s.heap.objs.size=none:=I.hok.fresh (Nat.le_refl _)
theorem Inv.zX(I:Inv X pins σ H s)(hH:H l=some (.lst xs)):xs.length<=sizeLine/\∃(its:List Value) (n:Nat),Vals xs its/\xs.length=its.length/\s.heap.get? l=some {cls:=.type "list",data:=.seq its.toArray n}:=by
 obtain⟨z,its,n,r,e⟩:=I.hok l _ hH
 exact⟨z,its,n,r,r.length,e⟩
theorem zY{n:Nat}(h:n<=sizeLine):Builtin.List.listTooLong n=false:=by
 unfold Builtin.List.listTooLong
 exact decide_eq_false (by omega)
end
section
variable {X:Cx}
def LK:V->List V->Hp->VK->Prop:=λx vs H Q=>∃l xs y,x=.ref l/\vs=[y]/\H l=some (.lst xs)/\xs.length < sizeLine/\Q .non (upd H l (.lst (xs++[y])))
theorem bK:U9 X "list.append" LK:=by
 intro pins s σ H x vs v us Q I rx rv h
 obtain⟨l,xs,y,rfl,rfl,hH,hz,q⟩:=h
 cases rx
 obtain⟨u,rfl,ru⟩:=rv.one
 obtain⟨z,its,n,r,hl,e⟩:=I.zX hH
 refine call_meets F.slot_list_append ⟨_,e,rfl⟩ F.entry_list_append (F.args_list_append_2 _ _) (PySem.list_append l its.toArray n u (by rw[List.size_toArray];omega)) ⟨e,?_⟩
 refine⟨.non,_,I.LI (its':=its++[u]) hH e (by simp) (r.append (.cons ru .nil)) ?_,rfl,q⟩
 rw[List.length_append,List.length_singleton]
 omega
def LL:V->List V->Hp->VK->Prop:=λx vs H Q=>∃l b xs zs,x=.ref l/\vs=[.ref b]/\H l=some (.lst xs)/\H b=some (.lst zs)/\xs.length + zs.length<=sizeLine/\Q .non (upd H l (.lst (xs++zs)))
theorem D4:U9 X "list.extend" LL:=by
 intro pins s σ H x vs v us Q I rx rv h
 obtain⟨l,b,xs,zs,rfl,rfl,hH,hB,hz,q⟩:=h
 cases rx
 obtain⟨u,rfl,ru⟩:=rv.one
 cases ru
 obtain⟨z,its,n,r,hl,e⟩:=I.zX hH
 obtain⟨z2,qr,n2,r2,zZ,e2⟩:=I.zX hB
 have hsz:its.toArray.size + qr.toArray.size<=sizeLine:=by rw[List.size_toArray,List.size_toArray];omega
 have hlong:¬ (!its.toArray.isEmpty&&Builtin.List.listTooLong (its.toArray.size + qr.toArray.size))=true:=by
  rw[zY hsz,Bool.and_false]
  exact Bool.false_ne_true
 refine call_meets F.slot_list_extend ⟨_,e,rfl⟩ F.entry_list_extend (F.args_list_extend_2 _ _)
  (AutoSeq1.list_extend_list_list_0 l its.toArray n b qr.toArray n2 hlong (by rw[List.size_toArray];omega) (by omega)) ⟨e,e2,?_⟩
 refine⟨.non,_,I.LI (its':=its++qr) hH e (by simp) (r.append r2) ?_,rfl,q⟩
 rw[List.length_append]
 omega
def VQ:V->List V->Hp->VK->Prop:=λx vs H Q=>∃l xs y,x=.ref l/\vs=[]/\H l=some (.lst xs)/\xs[xs.length - 1]?=some y/\Q y (upd H l (.lst xs.dropLast))
theorem gw:U9 X "list.pop" VQ:=by
 intro pins s σ H x vs v us Q I rx rv h
 obtain⟨l,xs,y,rfl,rfl,hH,hy,q⟩:=h
 cases rx
 have hus:=rv.zero
 subst hus
 obtain⟨z,its,n,r,hl,e⟩:=I.zX hH
 obtain⟨u,hu,ru⟩:=r.get hy
 have hy':its.toArray[its.toArray.size - 1]?=some u:=by
  show its.toArray[its.length - 1]?=some u
  rw[← Array.getElem?_toList,← hl]
  exact hu
 refine call_meets F.slot_list_pop ⟨_,e,rfl⟩ F.entry_list_pop (F.args_list_pop_1 _) (MeetsSeq.list_pop_last l its.toArray n u hy' (by rw[List.size_toArray];omega)) ⟨e,?_⟩
 refine⟨y,_,I.LI (its':=its.dropLast) hH e ?_ r.dropLast ?_,ru,q⟩
 ·show its.toArray.eraseIdxIfInBounds (its.toArray.size - 1)=its.dropLast.toArray
  rw[List.size_toArray,List.eraseIdxIfInBounds_toArray,B1]
 ·rw[List.length_dropLast]
  omega
def GA:V->List V->Hp->VK->Prop:=λx vs H Q=>∃l xs,x=.ref l/\vs=[]/\H l=some (.lst xs)/\Q .non (upd H l (.lst xs.reverse))
theorem B2:U9 X "list.reverse" GA:=by
 intro pins s σ H x vs v us Q I rx rv h
 obtain⟨l,xs,rfl,rfl,hH,q⟩:=h
 cases rx
 have hus:=rv.zero
 subst hus
 obtain⟨z,its,n,r,hl,e⟩:=I.zX hH
 refine call_meets F.slot_list_reverse ⟨_,e,rfl⟩ F.entry_list_reverse (F.args_list_reverse_1 _) (AutoSeq1.list_reverse_list_0 l its.toArray n (by rw[List.size_toArray];omega)) ⟨e,?_⟩
 refine⟨.non,_,I.LI (its':=its.reverse) hH e (by simp) r.reverse ?_,rfl,q⟩
 rw[List.length_reverse]
 omega
def VR:R2:=λx y H Q=>∃l b xs zs,x=.ref l/\y=.ref b/\H l=some (.lst xs)/\H b=some (.lst zs)/\xs.length + zs.length<=sizeLine/\∀p,H p=none->Q (.ref p) (upd H p (.lst (xs++zs)))
theorem PC:iq X (binaryOp .Add) VR:=by
 intro pins s σ H x y v u Q I rx ry h
 obtain⟨l,b,xs,zs,rfl,rfl,hH,hB,hz,q⟩:=h
 cases rx
 cases ry
 obtain⟨z,its,n,r,hl,e⟩:=I.zX hH
 obtain⟨z2,qr,n2,r2,zZ,e2⟩:=I.zX hB
 refine PySem.P.add_list e e2 ?_ (by rw[List.size_toArray,List.size_toArray];omega)
 have ea:its.toArray++qr.toArray=(its++qr).toArray:=by simp
 rw[ea]
 exact⟨.ref _,_,I.LJ (t':=s.toks) (r.append r2) (by rw[List.length_append];omega),rfl,q _ I.fresh⟩
def VS:R2:=λx y H Q=>∃l k xs,x=.ref l/\y=.int k/\H l=some (.lst xs)/\-(2 ^ 63)<=k/\k < 2 ^ 63/\xs.length * k.toNat<=sizeLine /\
 ∀p,H p=none->Q (.ref p) (upd H p (.lst (List.replicate k.toNat xs).flatten))
theorem len_rep{α:Type}(xs:List α)(k:Nat):(List.replicate k xs).flatten.length=k * xs.length:=by
 induction k with
 | zero=>simp
 | succ k ih=>rw[List.replicate_succ,List.flatten_cons,List.length_append,ih,Nat.succ_mul,Nat.add_comm]
theorem PD:iq X (binaryOp .Mult) VS:=by
 intro pins s σ H x y v u Q I rx ry h
 obtain⟨l,k,xs,rfl,rfl,hH,h1,h2,hz,q⟩:=h
 cases rx
 obtain⟨t,rfl⟩:=ry
 obtain⟨z,its,n,r,hl,e⟩:=I.zX hH
 have hlen:its.toArray.size * k.toNat<=sizeLine:=by rw[List.size_toArray,← hl];exact hz
 have hcap:¬ its.toArray.size * k.toNat > (2 ^ 63 - 1) / 8:=by
  have:(sizeLine:Nat)<=(2 ^ 63 - 1) / 8:=by decide
  omega
 have hfit:¬ (!Builtin.List.listFitsIndex k)=true:=by
  rw[fitsIndex_both h1 h2]
  exact Bool.false_ne_true
 have hlong:¬ Builtin.List.listTooLong (its.toArray.size * k.toNat)=true:=by
  rw[zY hlen]
  exact Bool.false_ne_true
 have hnew:List.foldl (λx1 x2=>x1++x2) #[] (List.replicate (if its.toArray.isEmpty=true then 0 else k.toNat) its.toArray)=(List.replicate k.toNat its).flatten.toArray:=by
  have f0:∀m:Nat,List.foldl (λx1 x2=>x1++x2) #[] (List.replicate m its.toArray)=(List.replicate m its).flatten.toArray:=λm=>by
   have:=foldl_rep its m []
   rw[List.nil_append]at this
   exact this
  rw[f0]
  cases its with
  | nil=>simp
  | cons a r'=>rw[if_neg (by simp)]
 refine wpAny_binaryOp_repeat_ref (T:="list") (U:="int") (by decide) ⟨_,e,rfl⟩ (λs'=>typeIs_int s' k t) noFill_list_mul F.fills_int_mul F.slot_int_rmul repeat_list F.slot_int_index.lookup
  (call_meets F.slot_int_rmul (typeIs_int s k t) F.entry_int_rmul (F.args_int_rmul_2 _ _) (int___rmul___int_list k t l its.toArray n)
   ⟨e,rfl,⟨_,e,rfl⟩,call_meets F.slot_list_mul ⟨_,e,rfl⟩ F.entry_list_mul (F.args_list_mul_2 _ _) (AutoListH.list___mul___list_int_3 l its.toArray n k t hfit hcap hlong) ⟨e,?_⟩⟩)
 rw[hnew]
 exact⟨.ref _,_,I.LJ (t':=s.toks) (r.rep k.toNat) (by rw[len_rep,Nat.mul_comm];exact hz),rfl,q _ I.fresh⟩
end
section
variable {prog:Program} {w:World} {A:Around} {E:Value->Shared->Prop} {s:Shared}
set_option maxRecDepth 100000 in
end
section
variable {X:Cx}
end
end L2
namespace Att
open PySem PySem.W PySem.Calls PyProof.Rows
theorem ug{P:Params}{h:Heap}:∀(ns:List Int) (vs:List Value),WellAll P h vs (ns.map WData.int)->IntsAre vs ns:=by
 intro ns
 induction ns with
 | nil =>
  intro vs w
  rw[List.map_nil]at w
  cases w
  exact .nil
 | cons n ns ih =>
  intro vs w
  rw[List.map_cons]at w
  cases w with
  | cons a b =>
   cases a
   exact .cons _ _ (ih _ b)
theorem D5{l:OpenLaw}{n:Nat}(hn:l.most=some n){P:Params}{h:Heap}{args:List WData}{vals:List Value}
  (hpre:l.row.toRowW.claim.pre args=true) (hwl:WellAll P h vals args) :
  ∃a vs ns,vals=[Value.ref a]/\args=[WData.list (ns.map WData.int)]/\h.get? a=some {cls:=.type "list",data:=.seq vs.toArray}/\IntsAre vs ns/\ns.length<=n:=by
 have hsh:WShape.hasAll [] args [.list .int]=true:=(pre_splitW hpre).1
 have hc:l.pre.holds [] {args:=args}=true:=(pre_splitW hpre).2
 obtain⟨d,r,rfl,h1,h2⟩:=hasAllW_cons hsh
 obtain rfl:=hasAllW_nil h2
 obtain⟨xs,rfl,h3⟩:=hasW_list h1
 obtain⟨ns,rfl⟩:=items_int h3
 have hlen:ns.length<=n:=by
  unfold OpenLaw.pre at hc
  have h4:(WTm.not (.lt (.lit (.int (n:Int))) (.len (.arg 0)))).holds [] {args:=[.list (ns.map .int)]}=true:=by
   have h4:=(holds_andW hc).1
   rw[hn]at h4
   exact h4
  have h5:=condW_of h4 (w_not (w_lt w_lit (w_len_list (w_arg rfl))))
  rw[List.length_map]at h5
  refine Nat.le_of_not_lt λq=>?_
  have q':(n:Int) < ((ns.length:Nat):Int):=by omega
  first
   | (rw[decide_eq_true q']at h5;exact absurd h5 (by decide))
   | (simp at h5;omega)
 cases hwl with
 | cons w1 w2 =>
  cases w2
  cases w1 with
  | list ho hall=>exact⟨_,_,ns,rfl,rfl,ho,ug ns _ hall,hlen⟩
theorem D6(l:OpenLaw)(args:List WData):l.row.toRowW.claim.post args (.bool true) args=true :=
 postW_of (r:=l.row.toRowW) (X:=(true == true))
  (show WShape.has [] (.bool true) .bool=true by first | rfl | decide | simp[WShape.has,WShape.arms,WShape.armsAll])
  (show(WTm.eq .res (.lit (.bool true))).value [] {args:=args,res:=some (.bool true),after:=args}=some (.bool (true == true))from w_eq_bool (w_res rfl) w_lit) rfl
theorem z7{l:OpenLaw}{n:Nat}{q:Program}{loose:List Str}{XP:(Str->Option Value)->Heap->Prop}{YP:World->Heap->Prop}{d:DefRec}
  (hn:l.most=some n) (hdf:d.params.defaults=[])
  (call:∀(w:World) (s₀ s₁:Shared) (mg mb:Str->Option Value) (fa:Addr) (o:Obj) (pm cd doc:Value) (a:Addr) (vs:List Value) (ns:List Int),
   Ground q loose [] XP w s₀ mg mb s₁.heap->YP w s₁.heap ->
   s₁.heap.get? fa=some o->o.data=.func (docDef d.name d.params d.body d.scope pm cd doc)->s₁.heap.CodeRec cd d.name->mg d.name=some (.ref fa) ->
   s₁.heap.get? a=some {cls:=.type "list",data:=.seq vs.toArray}->IntsAre vs ns->ns.length<=n->s₁.gens=#[] ->
   codeAny (model l.prog w) callerA (.call (.ref fa) ⟨[.ref a],[]⟩) (λr s'=>r=.ok (.ret (.bool true))/\OldK s₁.heap s'.heap/\s'.os=s₁.os/\AllBare s'.gens) s₁) :
  WalkO q loose XP YP l.row.toRowW d [] (λf vs=>PySem.call f vs):=by
 intro w s₀ s₁ mg mb G Y fa o pm cd doc dV kV ho hd hcd hD hmg hg args vals as hpre hlay hrd hwl hlo
 obtain rfl:dV=.none:=Dflts.none hD hdf
 obtain rfl:kV=.none:=Dflts.noKw hD
 obtain⟨a,vs,ns,rfl,rfl,hobj,hints,hlen⟩:=D5 hn hpre hwl
 refine enter_call (codeAny_mono (call w s₀ s₁ mg mb fa o pm cd doc a vs ns G Y ho (fd_plain hd) hcd hmg hobj hints hlen hg) λr s' hq=>?_)
 obtain⟨rfl,h2,h3,h4⟩:=hq
 exact⟨.inl ⟨.bool true,.bool true,[],rfl,λ_=>rfl,.bool true,D6 l _,λ_=>⟨List.Pairwise.nil,λ_ hm=>(nomatch hm)⟩⟩,h2,h3,h4⟩
section
variable {prog:Program} {w:World} {A:Around} {E:Value->Shared->Prop} {s:Shared} {K:Frag}
end
end Att
namespace L2
open PySem PySem.Spec PyProof.Rows
theorem xx:∀{vs:List Value} {ns:List Int},IntsAre vs ns->Vals (ns.map V.int) vs
 | _,_,.nil=>.nil
 | _,_,.cons n t h=>.cons ⟨t,rfl⟩ (xx h)
def PH(H:Hp):Prop:=∀b,H b=none∨∃o xs,H b=some (.uA o (.lst xs))
theorem GC{P:Program}{w:World}{K:av}{mg mb:Str->Option Value}{CX:Bz}{k:Nat}{fa a:Addr}{fd:FuncData}{x:Str}{sp:Sp}{s₁:Shared}{vs:List Value}{ns:List Int}
  (KX:K.In s₁.heap) (hns:s₁.heap.Ns mainGlobals mg) (hb:s₁.heap.Ns builtinsNs mb) (hbb:∀x:Str,x≠"__name__"->mb x=bootBuiltins x) (hlim:s₁.heap.NoLimit) (hg:s₁.gens=#[])
  (ha:s₁.heap.get? a=some {cls:=.type "list",data:=.seq vs.toArray}) (hi:IntsAre vs ns) (hl:ns.length<=sizeLine) (hr:dU k callerA)
  (F:∀base:Heap,K.In base->base.Ns mainGlobals mg->bw P w K mg base CX k fa fd [x] sp) (hbind:∀(s:Shared) (u:Value),BindsTo s fd ⟨[u],[]⟩ [(x,u)])
  (hsp:∀H:Hp,PH H->bc K H a (ns.map V.int)->sp [.ref a] H (λv _=>v=.bl true) λ_ _ _=>False)
  (hCX:∀H e s',CX [] H s₁ (λ_ _ _=>False) e s'->False) :
  codeAny (model P w) callerA (.call (.ref fa) ⟨[.ref a],[]⟩) (λr s'=>r=.ok (.ret (.bool true))/\OldK s₁.heap s'.heap/\s'.os=s₁.os/\AllBare s'.gens) s₁:=by
 have rv:=xx hi
 have lenV:=hi.length
 have core:∀H:Hp,PH H->bc K H a (ns.map V.int)->ud P w H s₁.heap->(∀b,H b≠none->b=a)->(H a≠none->K.lookup a=none) ->
   codeAny (model P w) callerA (.call (.ref fa) ⟨[.ref a],[]⟩) (λr s'=>r=.ok (.ret (.bool true))/\OldK s₁.heap s'.heap/\s'.os=s₁.os/\AllBare s'.gens) s₁:=by
  intro H hO hS hok hA hK
  have base_of:∀{b:Addr} {o:Obj},s₁.heap.get? b=some o->H b=none->(yg s₁.heap H).get? b=some o:=λe n=>FV e n
  have noA:∀{b:Addr} {o:Obj} {es:Array DictEntry} {ep:Nat},s₁.heap.get? b=some o->o.data=.dict es ep->H b=none:=λ{b o es ep} e d=>by
   cases q:H b with
   | none=>rfl
   | some u =>
    have e':b=a:=hA b (by rw[q];simp)
    subst e'
    rw[ha]at e;cases e
    have d':Data.seq vs.toArray _=Data.dict es ep:=d
    cases d'
  have nsK:∀{b:Addr} {m:Str->Option Value},s₁.heap.Ns b m->(yg s₁.heap H).Ns b m:=λ{b m} ⟨o,es,ep,e,d,r⟩=>⟨o,es,ep,base_of e (noA e d),d,r⟩
  have hKb:K.In (yg s₁.heap H):=λb o e=>base_of (KX b o e) (by
   cases q:H b with
   | none=>rfl
   | some u =>
    have e':b=a:=hA b (by rw[q];simp)
    subst e'
    rw[hK (by rw[q];simp)]at e;cases e)
  have hM:Mod K mg (yg s₁.heap H):=⟨hKb,nsK hns,⟨mb,nsK hb,hbb⟩,let ⟨mc,h1,h2⟩:=hlim;⟨mc,nsK h1,h2⟩⟩
  have e0:BW P w K mg (yg s₁.heap H) callerA [] s₁ H:=⟨rfl,hM,λb o e=>Lm e,Nat.le_of_eq (DM _ _),trivial,λb hb=>absurd (show b∈([]:List Addr)from hb) (by simp),hok,.of_eq hg⟩
  refine codeAny_mono ((F _ hKb (nsK hns)).run callerA [] s₁ H ⟨[.ref a],[]⟩ [.ref a] [.ref a] _ _ hr e0 (hbind s₁ (.ref a)) (.cons rfl .nil) (hsp H hO hS)) λr s' h=>?_
  cases r with
  | error e=>exact(hCX H e s' h).elim
  | ok fl =>
   cases fl with
   | next=>exact False.elim h
   | brk=>exact False.elim h
   | cont=>exact False.elim h
   | ret u =>
    obtain⟨v,H',os,bare,un,hok',r',q⟩:=h
    have q':v=.bl true:=q
    subst q'
    obtain rfl:u=Value.bool true:=r'
    refine⟨rfl,OldK.of_keep λb o e=>?_,os,bare⟩
    cases q:H b with
    | none=>exact un.keep b o e q (by intro z;exact absurd (show b∈([]:List Addr)from z) (by simp)) (by simp)
    | some u =>
     rcases hO b with z | ⟨ob,xs,z⟩
     ·rw[q]at z;cases z
     ·have z2:=un.jD b ob _ z
      obtain⟨e1,_⟩:=hok b _ z
      obtain⟨e2,_⟩:=hok' b _ z2
      rw[e]at e1;cases e1
      exact e2
 cases hk:K.lookup a with
 | some o =>
  have e:=KX a o hk
  rw[ha]at e
  cases e
  refine core (λ_=>none) (λ_=>.inl rfl) (.inr ⟨_,vs.toArray,_,hk,rfl,rfl,rfl,by rw[List.size_toArray,lenV];exact hl,by simpa using rv⟩) (λb u z=>by have z':(none:Option HO)=some u:=z;cases z') (λb z=>absurd rfl z) λz=>absurd rfl z
 | none =>
  refine core (λb=>if b=a then some (.uA {cls:=.type "list",data:=.seq vs.toArray} (.lst (ns.map V.int)))else none) (λb=>?_) (.inl (.inr ⟨{cls:=.type "list",data:=.seq vs.toArray},if_pos rfl⟩)) (λb u z=>?_) (λb z=>?_) λ_=>hk
  ·by_cases hb:b=a
   ·exact .inr ⟨_,_,if_pos hb⟩
   ·exact .inl (if_neg hb)
  ·by_cases hb:b=a
   ·have z':=(if_pos hb).symm.trans z
    cases z'
    subst hb
    exact⟨ha,by rw[List.length_map];exact hl,vs,_,rv,ha⟩
   ·have z':=(if_neg hb).symm.trans z
    cases z'
  ·by_cases hb:b=a
   ·exact hb
   ·exact absurd (if_neg hb) z
end L2
namespace L2
open PySem PySem.Spec PyProof.Rows
theorem LM{l:PySem.W.OpenLaw}{n k:Nat}{q:Program}{loose:List Str}{XP:(Str->Option Value)->Heap->Prop}{YP:World->Heap->Prop}{d:DefRec}{K:Params->av}{CX:World->Bz}{sp:World->Sp}{x:Str}
  (hn:l.most=some n) (U7:n<=sizeLine) (hdf:d.params.defaults=[]) (hr:dU k callerA)
  (hY:∀(w:World) (h:Heap),YP w h->(K w.params).In h)
  (F:∀(w:World) (mg:Str->Option Value) (fa:Addr) (h:Heap),(K w.params).In h->h.Ns mainGlobals mg->mg d.name=some (.ref fa) ->
   ∃fd:FuncData,(∀(s:Shared) (u:Value),BindsTo s fd ⟨[u],[]⟩ [(x,u)]) /\
    ∀base:Heap,(K w.params).In base->base.Ns mainGlobals mg->bw l.prog w (K w.params) mg base (CX w) k fa fd [x] (sp w))
  (hsp:∀(w:World) (H:Hp) (a:Addr) (ns:List Int),ns.length<=n->PH H->bc (K w.params) H a (ns.map V.int)->sp w [.ref a] H (λv _=>v=.bl true) λ_ _ _=>False)
  (hCX:∀(w:World) (H:Hp) (s:Shared) (e:Value) (s':Shared),CX w [] H s (λ_ _ _=>False) e s'->False) :
  PySem.W.WalkO q loose XP YP l.row.toRowW d [] (λf vs=>PySem.call f vs):=by
 refine Att.z7 hn hdf λw s₀ s₁ mg mb fa o pm cd doc a vs ns G Y ho hd hcd hmg hobj hints hlen hg=>?_
 have KX:=hY w _ Y
 obtain⟨fd,hb,hF⟩:=F w mg fa _ KX G.T.g hmg
 exact GC KX G.T.g G.T.b G.T.builtins G.T.nolimit hg hobj hints (Nat.le_trans hlen U7) hr hF hb (λH hO hS=>hsp w H a ns hlen hO hS) λH e s'=>hCX w H s₁ e s'
end L2
namespace L2
open PySem PySem.Spec PyProof.Rows
def iC(s:Stmt)(j:Nat):Stmt:=match s with
 | .ClassDef _ _ _ body _ _ _ _ _ _ _=>body.getD j (.Pass ⟨0,0,0,0⟩)
 | _=>.Pass ⟨0,0,0,0⟩
def dA(s:Stmt):Arguments:=match s with
 | .FunctionDef _ a _ _ _ _ _ _ _ _=>a
 | _=>{posonlyargs:=[],args:=[],vararg:=none,kwonlyargs:=[],kw_defaults:=[],kwarg:=none,defaults:=[]}
def dB(s:Stmt):List Stmt:=match s with
 | .FunctionDef _ _ b _ _ _ _ _ _ _=>b
 | _=>[]
def dS(s:Stmt):Scope:=match s with
 | .FunctionDef _ _ _ _ _ _ sc _ _ _=>sc
 | _=>{kind:=.function,names:=[],isGenerator:=false,isCoroutine:=false}
abbrev aL:Bz:=λ_ _ _ _ _ _=>False
abbrev E0:XK:=λ_ _ _=>False
theorem bI{X:Cx}:Passes aL X E0:=λ_ _ _ _ _ _ _ h=>h.elim
structure eO(K:av)(x qual:Str)(st:Stmt)(f:Addr)(fd:FuncData):Prop where
 ex:∃(oc:Value) (od:Option Addr) (kV doc pm:Value) (an:Option Addr) (cdv ct:Value) (osl:Array (Option Value)),
  fd=PySem.W.fnOf x qual (dA st) (dB st) (dS st) .none kV doc pm an cdv ct/\K.lookup f=some ⟨oc,od,.func fd,osl⟩/\PySem.W.codeIn K cdv qual=true
 kp:PySem.W.keepIn K (.ref f)=true
section
variable {P:Program} {w:World} {K:av} {mg:Str->Option Value} {base:Heap}
theorem eO.ok{x qual:Str}{st:Stmt}{f:Addr}{fd:FuncData}{N ps:List Str}{k:Nat}{sp:Sp}(F:eO K x qual st f fd)(S:az N ps (dS st))(len:∀vs H Q E,sp vs H Q E->vs.length=ps.length)
  (hbody:∀(cdv:Value) (A:Around) (outer:List Env) (s:Shared) (H:Hp) (vs:List V) (Q:VK) (E:XK),dU k (A.deeper (envOfC qual (dS st) s.heap.objs.size f cdv))->sp vs H Q E ->
   ∃t,wF (DZ aL P w K mg base N qual (dS st) f cdv A outer s H E).U5 (dB st) t/\t {nx:=λ_ H'=>Q .non H',rt:=Q} (start N vs) H):bw P w K mg base aL (k + 1) f fd ps sp:=by
 obtain⟨oc,od,kV,doc,pm,an,cdv,ct,osl,rfl,lk,hcd⟩:=F.ex
 refine SO lk hcd S len λA outer s H vs Q E hr hsp=>?_
 obtain⟨t,h,q⟩:=hbody cdv A outer s H vs Q E hr hsp
 exact⟨t,h.U5,q⟩
theorem eO.binds{x qual:Str}{st:Stmt}{f:Addr}{fd:FuncData}{ps:List Str}(F:eO K x qual st f fd)
  (h:∀(kV doc pm:Value) (an:Option Addr) (cdv ct:Value) (us:List Value),us.length=ps.length->bindArgs (PySem.W.fnOf x qual (dA st) (dB st) (dS st) .none kV doc pm an cdv ct) ⟨us,[]⟩=pure (ps.zip us)):Binds K fd ps []:=by
 obtain⟨oc,od,kV,doc,pm,an,cdv,ct,osl,rfl,lk,hcd⟩:=F.ex
 exact .all (h kV doc pm an cdv ct)
theorem B3{x qual:Str}{st:Stmt}{f:Addr}{oc:Value}{od an:Option Addr}{osl:Array (Option Value)}{kV doc pm cdv ct:Value}(l:K.lookup f=some ⟨oc,od,.func (PySem.W.fnOf x qual (dA st) (dB st) (dS st) .none kV doc pm an cdv ct),osl⟩)
  (c:PySem.W.codeIn K cdv qual=true) (k:PySem.W.keepIn K (.ref f)=true):eO K x qual st f (PySem.W.fnOf x qual (dA st) (dB st) (dS st) .none kV doc pm an cdv ct):=⟨⟨oc,od,kV,doc,pm,an,cdv,ct,osl,rfl,l,c⟩,k⟩
end
theorem sK{n:Nat}(h:n<=1000):n < sizeLine:=Nat.lt_of_le_of_lt h (by decide)
section
variable {X:Cx}
theorem pv(i:Nat){x:Str}{pos:Pos}(hN:X.N[i]?=some x:=by rfl)(hv:U4 X.env.scope x:=by first | exact Or.inl rfl | exact Or.inr (Or.inl rfl) | exact Or.inr (Or.inr rfl))(hd:(x == ("__debug__" : Str))=false:=by decide)
  (hcd:(x == ("__classdict__" : Str))=false:=by decide):PE X (.Name x pos) (Pl i):=FW hN hv hd hcd
end
theorem bV{A B:Prop}(h:B):if false=true then A else B:=by
 rw[if_neg Bool.false_ne_true]
 exact h
theorem fG{A B:Prop}(h:A):if true=true then A else B:=by
 rw[if_pos rfl]
 exact h
theorem qs{c A B:Prop}[Decidable c](h1:c->A)(h2:¬ c->B):if c then A else B:=by
 by_cases h:c
 ·rw[if_pos h]
  exact h1 h
 ·rw[if_neg h]
  exact h2 h
def aB(H H':Hp):Prop:=∀b o,H b=some o->H' b=some o
theorem aB.refl(H:Hp):aB H H:=λ_ _ h=>h
theorem aB.trans{H H1 H2:Hp}(a:aB H H1)(b:aB H1 H2):aB H H2:=λc o h=>b c o (a c o h)
theorem aB.free{H H':Hp}(e:aB H H'){l:Addr}(h:H' l=Option.none):H l=Option.none:=by
 cases q:H l with
 | none=>rfl
 | some o =>
  rw[e l o q]at h
  cases h
theorem aB.seq{K:av}{H H':Hp}{a:Addr}{xs:List V}(e:aB H H')(h:bc K H a xs):bc K H' a xs:=by
 rcases h with(h | ⟨o,h⟩) | h
 ·exact .inl (.inl (e _ _ h))
 ·exact .inl (.inr ⟨o,e _ _ h⟩)
 ·exact .inr h
end L2
namespace L2
open PySem PySem.Spec
theorem dh:bootBuiltins "len"=some (.builtin "len"):=by decide +kernel
theorem wI:bootBuiltins "isinstance"=some (.builtin "isinstance"):=by decide +kernel
theorem PJ:bootBuiltins "min"=some (.builtin "min"):=by decide +kernel
theorem PK:bootBuiltins "all"=some (.builtin "all"):=by decide +kernel
theorem LN:bootBuiltins "bool"=some (.type "bool"):=by decide +kernel
theorem fU:bootBuiltins "list"=some (.type "list"):=by decide +kernel
theorem GD:bootBuiltins "tuple"=some (.type "tuple"):=by decide +kernel
theorem GF:bootBuiltins "zip"=some (.type "zip"):=by decide +kernel
end L2
namespace L2
open PySem PySem.Spec PyProof.Rows
theorem cP{c A B:Prop}[Decidable c](h:¬ c)(b:B):if decide c=true then A else B:=by rw[decide_eq_false h];exact bV b
theorem kT{c A B:Prop}[Decidable c](h:c)(a:A):if decide c=true then A else B:=by rw[decide_eq_true h];exact fG a
theorem SY{c A B:Prop}[Decidable c](h:c)(b:B):if (!decide c)=true then A else B:=by rw[decide_eq_true h];exact bV b
theorem ifB{b:Bool}{A B:Prop}(h:b=true)(a:A):if b=true then A else B:=by rw[h];exact fG a
theorem VT{b:Bool}{A B:Prop}(h:b=false)(a:B):if b=true then A else B:=by rw[h];exact bV a
structure cX(P:Program)(w:World)(K:av)(mg:Str->Option Value)(base:Heap)(CX:Bz)(x:Str)(k:Nat)(ps:List Str)(sp:Sp):Prop where
 ex:∃(f:Addr) (fd:FuncData),bw P w K mg base CX k f fd ps sp/\Binds K fd ps []/\PySem.W.keepIn K (.ref f)=true/\mg x=some (.ref f)
section
variable {X:Cx} {x:Str} {k:Nat} {ps:List Str} {sp:Sp} {e:Expr} {es:List Expr} {t:TA} {p pos:Pos}
theorem bR(h:cX X.prog X.w X.K X.mg X.base aL x k ps sp)(hr:dU k X.A)(hg:Gl X x)(ha:PA X (e::es) t)(hdb:(x == ("__debug__" : Str))=false:=by decide)
  (he:starEach (e::es) X.env=(false,eval e X.env)::starEach es X.env:=by rfl) (hpl:(backTo pos (starEach es X.env)).any (·.1)=false:=by rfl) :
  PE X (.Call (.Name x p) (e::es) [] pos) (Gr sp [] E0 t):=by
 obtain⟨f,fd,F,b,kp,m⟩:=h.ex
 exact Lz F hr hg m kp b .nil bI ha hdb he hpl
end
theorem aB.tup{K:av}{H H':Hp}{a:Addr}{xs:List V}(e:aB H H')(h:ba K H a xs):ba K H' a xs:=by
 rcases h with(h | ⟨o,h⟩) | h
 ·exact .inl (.inl (e _ _ h))
 ·exact .inl (.inr ⟨o,e _ _ h⟩)
 ·exact .inr h
inductive aS(K:av)(H:Hp):V->PyData->Prop
 | non:aS K H .non .none
 | bl (b:Bool):aS K H (.bl b) (.bool b)
 | int (i:Int):aS K H (.int i) (.int i)
 | str (x:Str):aS K H (.str x) (.str x)
 | lst {a:Addr} {xs:List V} {ds:List PyData} (h:bc K H a xs) (hl:xs.length=ds.length) (hi:∀(i:Nat) (x:V) (d:PyData),xs[i]?=some x->ds[i]?=some d->aS K H x d):aS K H (.ref a) (.list ds)
 | tup {a:Addr} {xs:List V} {ds:List PyData} (h:ba K H a xs) (hl:xs.length=ds.length) (hi:∀(i:Nat) (x:V) (d:PyData),xs[i]?=some x->ds[i]?=some d->aS K H x d):aS K H (.ref a) (.tuple ds)
def aF(K:av)(H:Hp)(xs:List V)(ds:List PyData):Prop:=xs.length=ds.length/\∀(i:Nat) (x:V) (d:PyData),xs[i]?=some x->ds[i]?=some d->aS K H x d
theorem aF.nil{K:av}{H:Hp}:aF K H [] []:=⟨rfl,λi x d h=>by simp at h⟩
theorem aF.cons{K:av}{H:Hp}{x:V}{d:PyData}{xs:List V}{ds:List PyData}(h:aS K H x d)(r:aF K H xs ds):aF K H (x::xs) (d::ds) :=
 ⟨by simp[r.1],λi y e h1 h2=>by
  cases i with
  | zero=>simp at h1 h2;subst h1;subst h2;exact h
  | succ i=>exact r.2 i y e (by simpa using h1) (by simpa using h2)⟩
theorem aS.GG{K:av}{H:Hp}{a:Addr}{xs:List V}{ds:List PyData}(h:bc K H a xs)(r:aF K H xs ds):aS K H (.ref a) (.list ds):=.lst h r.1 r.2
theorem aS.i6{K:av}{H:Hp}{a:Addr}{xs:List V}{ds:List PyData}(h:ba K H a xs)(r:aF K H xs ds):aS K H (.ref a) (.tuple ds):=.tup h r.1 r.2
theorem aS.same{K:av}{H H':Hp}(e:aB H H'){v:V}{d:PyData}(h:aS K H v d):aS K H' v d:=by
 induction h with
 | non=>exact .non
 | bl b=>exact .bl b
 | int i=>exact .int i
 | str x=>exact .str x
 | lst h hl hi ih=>exact .lst (e.seq h) hl ih
 | tup h hl hi ih=>exact .tup (e.tup h) hl ih
theorem aF.same{K:av}{H H':Hp}(e:aB H H'){xs:List V}{ds:List PyData}(h:aF K H xs ds):aF K H' xs ds:=⟨h.1,λi x d h1 h2=>(h.2 i x d h1 h2).same e⟩
theorem kU{h:Heap}:∀{xs:List V} {us:List Value} {ds:List PyData},Vals xs us->xs.length=ds.length->(∀(i:Nat) (x:V) (d:PyData) (u:Value),xs[i]?=some x->ds[i]?=some d->RelV x u->∃as,Reads h u d as)->∃as,ReadsAll h us ds as
 | [],_,[],.nil,_,_=>⟨[],.nil⟩
 | [],_,_::_,_,hl,_=>nomatch hl
 | _::_,_,[],_,hl,_=>nomatch hl
 | x::xs,u::us,d::ds,.cons r t,hl,hi=>by
  obtain⟨as,ha⟩:=hi 0 x d u rfl rfl r
  obtain⟨bs,hb⟩:=kU t (by simpa using hl) λi y e w h1 h2=>hi (i + 1) y e w (by simpa using h1) (by simpa using h2)
  exact⟨as++bs,.cons ha hb⟩
section
variable {X:Cx} {pins:List (Addr×Obj)} {σ:St} {H:Hp} {s:Shared}
theorem aS.reads(I:Inv X pins σ H s){v:V}{d:PyData}(h:aS X.K H v d):∀{u:Value},RelV v u->∃as,Reads s.heap u d as:=by
 induction h with
 | non=>intro u r;cases r;exact⟨_,.none⟩
 | bl b=>intro u r;cases r;exact⟨_,.bool b⟩
 | int i=>intro u r;obtain⟨t,rfl⟩:=r;exact⟨_,.int i t⟩
 | str x=>intro u r;obtain⟨t,rfl⟩:=r;exact⟨_,.str x t⟩
 | lst h hl hi ih =>
  intro u r;cases r
  obtain⟨its,rv,⟨o,n,e,c,_,d⟩,hz⟩:=I.list h
  obtain⟨as,ha⟩:=kU (h:=s.heap) rv hl λi x d u h1 h2 r=>ih i x d h1 h2 r
  exact⟨_,.list e c d ha⟩
 | tup h hl hi ih =>
  intro u r;cases r
  obtain⟨its,rv,⟨o,e,c,n,d⟩,hz⟩:=I.tuple h
  obtain⟨as,ha⟩:=kU (h:=s.heap) rv hl λi x d u h1 h2 r=>ih i x d h1 h2 r
  exact⟨_,.tuple e c d ha⟩
end
section
variable {X:Cx}
def PL(K:av):R2:=λx y H Q=>∃d d',aS K H x d/\aS K H y d'/\PySem.SeqAt.shaped d=true/\PySem.SeqAt.shaped d'=true/\Q (.bl (PyData.eqv d d')) H
def S0(K:av):R2:=λx y H Q=>∃d d',aS K H x d/\aS K H y d'/\PySem.SeqAt.shaped d=true/\PySem.SeqAt.shaped d'=true/\Q (.bl (!PyData.eqv d d')) H
theorem B4(hu:X.A.units + 64 < cLine):iq X (compareOp .Eq) (PL X.K):=by
 intro pins s σ H x y v u Q I rx ry h
 obtain⟨d,d',h1,h2,s1,s2,q⟩:=h
 obtain⟨as,r1⟩:=h1.reads I rx
 obtain⟨bs,r2⟩:=h2.reads I ry
 exact eq_dataH r1 r2 s1 s2 hu ⟨.bl _,H,I,rfl,q⟩
theorem PN(hu:X.A.units + 64 < cLine):iq X (compareOp .NotEq) (S0 X.K):=by
 intro pins s σ H x y v u Q I rx ry h
 obtain⟨d,d',h1,h2,s1,s2,q⟩:=h
 obtain⟨as,r1⟩:=h1.reads I rx
 obtain⟨bs,r2⟩:=h2.reads I ry
 exact ne_dataH r1 r2 s1 s2 hu ⟨.bl _,H,I,rfl,q⟩
def S4(a:Addr):Heap->Prop:=λh=>∃o,h.get? a=some o/\o.cls=.type "dict"
inductive LO(K:av)(H:Hp):V->String->Prop
 | non:LO K H .non "NoneType"
 | bl (b:Bool):LO K H (.bl b) "bool"
 | int (i:Int):LO K H (.int i) "int"
 | str (x:Str):LO K H (.str x) "str"
 | lst {a:Addr} {xs:List V} (h:bc K H a xs):LO K H (.ref a) "list"
 | tup {a:Addr} {xs:List V} (h:ba K H a xs):LO K H (.ref a) "tuple"
 | dct {a:Addr} (h:H a=some (.ext (S4 a))):LO K H (.ref a) "dict"
def VU(K:av):List V->Hp->VK->Prop:=λvs H Q=>∃x n t b,vs=[x,.ty n]/\LO K H x t/\PySem.W.kitOne K (.type t) (.type n)=some b/\Q (.bl b) H
theorem GH:jo X (.builtin "isinstance") (VU X.K):=by
 intro pins s σ H xs us Q I r h
 obtain⟨x,n,t,b,rfl,ty,e,q⟩:=h
 obtain⟨u,w',rfl,rx,rw'⟩:=vals2 r
 cases rw'
 have fin:∀tk,EP X pins σ Q (.bool b) {s with toks:=tk}:=λtk=>⟨.bl b,H,I.tok tk,rfl,q⟩
 cases ty with
 | non=>cases rx;exact PySem.W.kia_one PySem.W.kitx_none I.wA True.intro e (λz=>nomatch z) fin
 | bl y=>cases rx;exact PySem.W.kia_one PySem.W.kitx_bool I.wA True.intro e (λz=>nomatch z) fin
 | int i=>obtain⟨t,rfl⟩:=rx;exact PySem.W.kia_one PySem.W.kitx_int I.wA True.intro e (λz=>nomatch z) fin
 | str y=>obtain⟨t,rfl⟩:=rx;exact PySem.W.kia_one PySem.W.kitx_str I.wA True.intro e (λz=>nomatch z) fin
 | lst h =>
  cases rx
  obtain⟨its,rv,⟨o,n,e1,c,_,d⟩,hz⟩:=I.list h
  exact PySem.W.kia_one PySem.W.kitx_list I.wA ⟨o,e1,c⟩ e (λz=>nomatch z) fin
 | dct h =>
  cases rx
  obtain⟨⟨o,e1,c⟩,_⟩:=I.hok _ _ h
  exact PySem.W.kia_one PySem.W.kitx_dict I.wA ⟨o,e1,c⟩ e (λz=>nomatch z) fin
 | tup h =>
  cases rx
  obtain⟨its,rv,⟨o,e1,c,n,d⟩,hz⟩:=I.tuple h
  exact PySem.W.kia_one PySem.W.kitx_tuple I.wA ⟨o,e1,c⟩ e (λz=>nomatch z) fin
def uC(K:av):List V->Hp->VK->Prop:=λxs H Q=>∃p ys,xs=[.ref p]/\(bc K H p ys∨ba K H p ys)/\∀l,H l=none->Q (.ref l) (upd H l (.lst ys))
def GI(i j:Int):Prop:=(-340282366920938463463374607431768211456 < i/\i < 340282366920938463463374607431768211456)/\(-340282366920938463463374607431768211456 < j/\j < 340282366920938463463374607431768211456)
theorem GI.ok{i j:Int}(h:GI i j):IntMulOk i j:=by
 have e:(2:Nat) ^ 128=340282366920938463463374607431768211456:=by decide
 obtain⟨⟨h1,h2⟩,h3,h4⟩:=h
 have a:i.natAbs < 2 ^ 128:=by rw[e];omega
 have b:j.natAbs < 2 ^ 128:=by rw[e];omega
 exact IntMulOk.of_bits (Nat.le_trans (PyProof.Rows.intBits_le a) (by decide)) (Nat.le_trans (PyProof.Rows.intBits_le b) (by decide))
theorem LP:iq X (binaryOp .Mult) (rI GI λi j=>.int (i * j)):=Lp λ_ _ _ _ _ _ _ hc q=>mul_int q hc.ok
end
end L2
namespace L2
open PySem PySem.Spec PyProof.Rows
def uh(cells:List (Str×Addr)):List (Str×NameKind)->List (Str×Addr)->List (Str×Addr)
 | [],cs=>cs
 | (n,k)::r,cs=>uh cells r (if k == .free then(match cells.lookup n with | some c=>(n,c)::cs | none=>cs)else cs)
theorem z8{cells:List (Str×Addr)}:∀(names:List (Str×NameKind)) (cs:List (Str×Addr)),(∀x c,cs.lookup x=some c->cells.lookup x=some c)->∀x c,(uh cells names cs).lookup x=some c->cells.lookup x=some c
 | [],_,h=>h
 | (n,k)::r,cs,h=>by
  refine z8 r _ λx c e=>?_
  split at e
  ·split at e
   ·rename_i c' hc
    rw[List.lookup_cons]at e
    by_cases z:(x == n)=true
    ·rw[z]at e
     have z':x=n:=by simpa using z
     rw[z']
     exact hc.trans e
    ·rw[Bool.not_eq_true]at z
     rw[z]at e
     exact h x c e
   ·exact h x c e
  ·exact h x c e
theorem xy{cells:List (Str×Addr)}{x:Str}{c:Addr}(hx:cells.lookup x=some c):∀(names:List (Str×NameKind)) (cs:List (Str×Addr)),cs.lookup x=some c->(uh cells names cs).lookup x=some c
 | [],_,h=>h
 | (n,k)::r,cs,h=>by
  refine xy hx r _ ?_
  split
  ·split
   ·rename_i c' hc
    rw[List.lookup_cons]
    by_cases z:(x == n)=true
    ·rw[z]
     have z':x=n:=by simpa using z
     rw[z']at hx
     exact hc.symm.trans hx
    ·rw[Bool.not_eq_true]at z
     rw[z]
     exact h
   ·exact h
  ·exact h
theorem vf{cells:List (Str×Addr)}{x:Str}{c:Addr}(hx:cells.lookup x=some c):∀(names:List (Str×NameKind)) (cs:List (Str×Addr)),(x,NameKind.free)∈names->(uh cells names cs).lookup x=some c
 | [],_,h=>nomatch h
 | (n,k)::r,cs,h=>by
  rcases List.mem_cons.mp h with e | h
  ·cases e
   refine xy hx r _ ?_
   simp[hx,List.lookup_cons]
  ·exact vf hx r _ h
theorem oz{env:Env}{scope:Scope}(h:∀y∈scope.names,y.2=NameKind.free->∃c,env.cells.lookup y.1=some c):closureFor scope env=pure (uh env.cells scope.names []):=by
 have go:∀(names:List (Str×NameKind)) (cs:List (Str×Addr)),(∀y∈names,y.2=NameKind.free->∃c,env.cells.lookup y.1=some c) ->
   (forIn names cs λx (r:List (Str×Addr))=>if (x.2 == NameKind.free)=true then do let c ← cellOf env x.1;pure (ForInStep.yield ((x.1,c)::r))else pure (ForInStep.yield r):Sem (List (Str×Addr)))=pure (uh env.cells names cs):=by
  intro names
  induction names with
  | nil=>intro cs _;rfl
  | cons y r ih =>
   intro cs hy
   obtain⟨n,k⟩:=y
   rw[List.forIn_cons]
   by_cases hk:k=NameKind.free
   ·subst hk
    obtain⟨c,hc⟩:=hy _ List.mem_cons_self rfl
    have hc':env.cells.lookup n=some c:=hc
    have hcell:cellOf env n=pure c:=by simp only[cellOf,hc']
    simp only[hcell,beq_self_eq_true,if_true,pure_bind]
    rw[ih _ λy hm=>hy y (List.mem_cons_of_mem _ hm)]
    simp only[uh,beq_self_eq_true,if_true,hc']
   ·have hb:(k == NameKind.free)=false:=by simpa using hk
    simp only[hb,Bool.false_eq_true,if_false,pure_bind]
    rw[ih _ λy hm=>hy y (List.mem_cons_of_mem _ hm)]
    simp only[uh,hb,Bool.false_eq_true,if_false]
 have e:=go scope.names [] h
 unfold closureFor
 simp only[bind_pure]at e ⊢
 exact e
theorem vg{scope:Scope}{env:Env}(x:Str):(relabel scope env).names.lookup x=(scope.names.lookup x).map λk=>if (k == NameKind.free&&env.scope.kind == .function&&env.kindOf x == some .cell)=true then .cell else k:=by
 show(scope.names.map λ(n,k)=>if (k == NameKind.free&&env.scope.kind == .function&&env.kindOf n == some .cell)=true then(n,NameKind.cell)else(n,k)).lookup x=_
 induction scope.names with
 | nil=>rfl
 | cons y r ih =>
  obtain⟨n,k⟩:=y
  rw[List.map_cons]
  by_cases z:(x == n)=true
  ·have z':x=n:=by simpa using z
   subst z'
   by_cases hc:(k == NameKind.free&&env.scope.kind == .function&&env.kindOf x == some .cell)=true
   ·simp only[hc,if_true,List.lookup_cons,beq_self_eq_true,Option.map_some]
   ·simp only[hc,if_false,List.lookup_cons,beq_self_eq_true,Option.map_some,Bool.false_eq_true]
  ·rw[Bool.not_eq_true]at z
   by_cases hc:(k == NameKind.free&&env.scope.kind == .function&&env.kindOf n == some .cell)=true
   ·simp only[hc,if_true,List.lookup_cons,z];exact ih
   ·simp only[hc,if_false,List.lookup_cons,z,Bool.false_eq_true];exact ih
theorem eM{α β:Type}[BEq α][LawfulBEq α]{x:α}{b:β}:∀{l:List (α×β)},l.lookup x=some b->(x,b)∈l
 | [],h=>by simp at h
 | (n,k)::r,h=>by
  rw[List.lookup_cons]at h
  by_cases z:(x == n)=true
  ·rw[z]at h
   have z':x=n:=by simpa using z
   cases h
   rw[z']
   exact List.mem_cons_self
  ·rw[Bool.not_eq_true]at z
   rw[z]at h
   exact List.mem_cons_of_mem _ (eM h)
def Cx.sS(X:Cx)(N:List Str)(scope:Scope)(C:Addr)(ex:List Addr)(s:Shared)(H:Hp):Cx where
 prog:=X.prog
 w:=X.w
 K:=X.K
 mg:=X.mg
 base:=X.base
 A:=X.A
 N:=N
 s₀:=s
 H₀:=H
 env:=compEnvC scope (uh X.env.cells scope.names []) C X.env
 outer:=X.stack
 stack:=X.stack
 ex:=ex
 fn:=λ_=>false
 calm:=X.calm
 pn:=[]
 xe:=λ_ _=>False
structure sU(X:Cx)(own:Nat)(N:List Str)(ix:List Nat)(scope:Scope):Prop where
 kind:scope.kind=.function
 calm:X.calm=true
 free:scope.names.all (λy=>y.2 != .free||X.env.kindOf y.1 == some .cell)=true
 cell:scope.names.all (λy=>y.2 != .cell)=true
 loc:scope.names.all (λy=>y.2 != .local||scope.names.lookup y.1 == some .local)=true
 ixs:(ix.map λi=>X.N[i]?)=(N.drop own).map some
 fr:(N.drop own).all (λx=>scope.names.lookup x == some .free)=true
 len:N.length=own + ix.length
def eR(own:Nat)(ix:List Nat)(σ:St):St:=List.replicate own none++ix.map λi=>(σ[i]?).getD none
theorem B5(own:Nat)(ix:List Nat)(σ:St):(eR own ix σ).drop own=ix.map λi=>(σ[i]?).getD none:=by
 unfold eR
 rw[List.drop_left' (by simp)]
theorem xA{own:Nat}{ix:List Nat}{σ:St}{j:Nat}{v:V}(h:(eR own ix σ)[j]?=some (some v)):∃i,own<=j/\ix[j - own]?=some i/\σ[i]?=some (some v):=by
 unfold eR at h
 by_cases hj:j < own
 ·rw[List.getElem?_append_left (by simpa using hj)]at h
  rw[List.getElem?_replicate]at h
  simp[hj]at h
 ·rw[List.getElem?_append_right (by simpa using hj)]at h
  rw[List.length_replicate,List.getElem?_map]at h
  cases e:ix[j - own]? with
  | none=>rw[e]at h;simp at h
  | some i =>
   rw[e]at h
   refine⟨i,by omega,rfl,?_⟩
   have h':(σ[i]?).getD none=some v:=by simpa using h
   cases q:σ[i]? with
   | none=>rw[q]at h';simp at h'
   | some o=>rw[q]at h';simp at h';rw[h']
theorem B6{own:Nat}{ix:List Nat}{σ σ2:St}(hd:σ2.drop own=ix.map λi=>(σ[i]?).getD none):∀(j:Nat) v,(eR own ix σ)[j]?=some (some v)->σ2[j]?=some (some v):=λj v h=>by
 by_cases hj:j < own
 ·obtain⟨i,h1,_⟩:=xA h
  omega
 ·have e:(eR own ix σ)[j]?=((eR own ix σ).drop own)[j - own]?:=by rw[List.getElem?_drop];congr 1;omega
  have e2:σ2[j]?=(σ2.drop own)[j - own]?:=by rw[List.getElem?_drop];congr 1;omega
  rw[e,B5,← hd,← e2]at h
  exact h
section
variable {X:Cx} {pins:List (Addr×Obj)} {σ:St} {H:Hp} {s:Shared} {own:Nat} {N:List Str} {ix:List Nat} {scope:Scope}
theorem sU.has(B:sU X own N ix scope)(I:Inv X pins σ H s):∀y∈scope.names,y.2=NameKind.free->X.env.kindOf y.1=some .cell/\∃c,X.env.cells.lookup y.1=some c:=λy hy e=>by
 have z:=List.all_eq_true.mp B.free y hy
 rw[e]at z
 have z':X.env.kindOf y.1=some .cell:=by simpa using z
 exact⟨z',I.ok.has y.1 (.inl z')⟩
theorem D7{C:Addr}{ex:List Addr}{h':Heap}{tk:Nat}(B:sU X own N ix scope)(I:Inv X pins σ H s)(hC:C=s.heap.objs.size)(hx:∀b∈ex,qi X pins H b)(hlt:∀b∈ex,b < s.heap.objs.size)
  (hn:h'.Ns C (λ_=>none)) (hk:∀b o,s.heap.get? b=some o->h'.get? b=some o):Inv (X.sS N scope C ex s H) [] (eR own ix σ) H {s with heap:=h',toks:=tk}:=by
 have sub:∀x c,(uh X.env.cells scope.names []).lookup x=some c->X.env.cells.lookup x=some c:=z8 scope.names [] λx c e=>by simp at e
 have nb:∀b o,X.base.get? b=some o->b∉ex:=λb o e hb=>by
  rcases (hx b hb).2.2.2.1 with z | z
  ·exact I.ok.noex b o e z
  ·exact absurd (Nat.lt_of_lt_of_le (Heap.lt_size e) (Nat.le_trans I.ok.bsz z)) (Nat.lt_irrefl _)
 have nstk:∀b∈ex,b∉aV X.stack:=λb hb z=>by
  rcases List.mem_cons.mp (I.BE b z)with e | e
  ·exact(hx b hb).2.1 e
  ·exact(hx b hb).2.2.1 e
 refine⟨⟨I.ok.mod,B.kind,I.ok.glob,I.ok.blt,?_,λx y c e1 e2=>I.ok.inj x y c (sub x c e1) (sub y c e2),λx hk'=>?_,(λ_ _ z=>absurd (show false=true from z) (by decide)),I.ok.hd,I.ok.frames,.inl rfl,λb hb=>⟨?_,λx c e=>(hx b hb).2.2.2.2.1 x c (sub x c e)⟩,
  λb o e=>I.bs b o e,Nat.le_trans I.ok.bsz I.sz,nb,nstk,I.stack,I.C6⟩,rfl,I.bare,Un.kept hk,⟨_,hn,λj x v e1 e2 e3=>?_⟩,λx c e=>?_,?_,λx c e=>I.freeC x c (sub x c e),(λp hp=>nomatch hp),I.hok.kept hk,?_⟩
 ·show s.heap.objs.size<=C
  exact Nat.le_of_eq hC.symm
 ·have hk'':(relabel scope X.env).names.lookup x=some .cell∨(relabel scope X.env).names.lookup x=some .free:=hk'
  rw[vg]at hk''
  have hf:scope.names.lookup x=some .free:=by
   cases q:scope.names.lookup x with
   | none=>rw[q]at hk'';rcases hk'' with z | z<;>cases z
   | some k =>
    rw[q]at hk''
    by_cases hkf:k=.free
    ·rw[hkf]
    ·exfalso
     have hb:(k == NameKind.free)=false:=by simpa using hkf
     have hm:=List.all_eq_true.mp B.cell (x,k) (eM q)
     simp only[Option.map_some,hb,Bool.false_and,Bool.false_eq_true,if_false]at hk''
     rcases hk'' with z | z
     ·rw[Option.some.inj z]at hm;exact absurd hm (by simp)
     ·exact hkf (Option.some.inj z)
  obtain⟨_,c,hc⟩:=B.has I (x,.free) (eM hf) rfl
  exact⟨c,vf hc scope.names [] (eM hf)⟩
 ·show b≠C
  rw[hC]
  exact Nat.ne_of_lt (hlt b hb)
 ·obtain⟨i,h1,h2,h3⟩:=xA e2
  have hN:N[j]?=some x:=e1
  have hxN:X.N[i]?=some x:=by
   have e:(ix.map λi=>X.N[i]?)[j - own]?=((N.drop own).map some)[j - own]?:=by rw[B.ixs]
   rw[List.getElem?_map,h2,List.getElem?_map,List.getElem?_drop]at e
   have hj:own + (j - own)=j:=by omega
   rw[hj,hN]at e
   simpa using e
  have hfr:scope.names.lookup x=some .free:=by
   have hm:x∈N.drop own:=by
    refine List.mem_of_getElem? (i:=j - own) ?_
    rw[List.getElem?_drop,show own + (j - own)=j by omega]
    exact hN
   have:=List.all_eq_true.mp B.fr x hm
   simpa using this
  obtain⟨hkc,c,hc⟩:=B.has I (x,.free) (eM hfr) rfl
  obtain⟨m,hm,hl⟩:=I.loc
  obtain⟨u,r,l⟩:=hl i x v hxN h3 (.inr (.inl hkc))
  refine⟨u,r,?_⟩
  rcases l with⟨z,_⟩ | ⟨_,c',hc',hz⟩
  ·have z':X.env.kindOf x=some .local:=z
   have hkc':X.env.kindOf x=some .cell:=hkc
   rw[hkc']at z'
   cases z'
  ·rw[hc]at hc'
   cases hc'
   refine .inr ⟨.inl ?_,c,vf hc scope.names [] (eM hfr),?_⟩
   ·show(relabel scope X.env).names.lookup x=some .cell
    rw[vg,hfr]
    have hkc':X.env.kindOf x=some .cell:=hkc
    have hkf:X.env.scope.kind=.function:=I.ok.kind
    simp[hkc',hkf]
   ·obtain⟨o,ho,hd⟩:=hz
    exact⟨o,hk _ _ ho,hd⟩
 ·obtain⟨v,o,ho,hd⟩:=I.cell x c (sub x c e)
  exact⟨v,o,hk _ _ ho,hd⟩
 ·show H C=none
  exact I.hok.fresh (Nat.le_of_eq hC.symm)
 ·show(eR own ix σ).length=N.length
  rw[B.len]
  simp[eR]
theorem LQ{C:Addr}{ex:List Addr}{σ':St}{H':Hp}{s':Shared}(I:Inv X pins σ H s)(hx:∀b∈ex,qi X pins H b)(I':Inv (X.sS N scope C ex s H) [] σ' H' s'):Inv X pins σ H' s' :=
 I.Sr (ch:=ex) I'.os I'.base I'.hok I'.bare λb hb=>⟨(hx b hb).2.2.2.1,(hx b hb).2.1,(hx b hb).2.2.2.2.1,(hx b hb).2.2.2.2.2⟩
def S5(X:Cx)(ifs:List Expr)(tt:TT):Prop:=∀(pins:List (Addr×Obj)) (s:Shared) (σ:St) (H:Hp) (Q:Bool->Hp->Prop),Inv X pins σ H s->tt σ H Q ->
 wpAny (model X.prog X.w) X.A (forIn ifs true λc r=>if r=true then do let ok ← isTrue c X.env (eval c X.env);pure (ForInStep.yield ok)else pure (ForInStep.yield r)) (TP X pins σ Q) X.xe s
def VV:TT:=λ_ H Q=>Q true H
theorem jG{X:Cx}:S5 X [] VV:=λ_ _ _ H _ I h=>wpAny_tests_nil ⟨H,I,h⟩
def Va(J:It)(own:Nat)(ix:List Nat)(σ:St)(g:TG)(tt:TT)(te:TE)(D:Addr)(H1:Hp)(Q:VK):Prop:=∃W:Nat->Nat->List V->Hp->Prop,
 (∃m,W 0 m [] (upd H1 D (.lst [])))/\∀i m ys H2,W i m ys H2->H2 D=some (.lst ys)/\((J.stop i H2/\Q (.ref D) H2)∨(J.go i H2/\ys.length < sizeLine/\∃Nx:List V->Hp->Prop,(∀ys' H',Nx ys' H'->∃m',m' < m/\W (i + 1) m' ys' H')/\∀x H3,J.yld i H2 x H3 ->
  g x (eR own ix σ) H3 λσ2 H4=>σ2.drop own=(ix.map λi=>(σ[i]?).getD none)/\tt σ2 H4 λb H5=>if b=true then te σ2 H5 λv H6=>H6 D=some (.lst ys)/\Nx (ys++[v]) (upd H6 D (.lst (ys++[v])))else Nx ys H5))
def VW(own:Nat)(ix:List Nat)(wi:TI)(g:TG)(tt:TT)(te:TE):TE:=λσ H Q=>wi σ H λJ H1=>∀D,H1 D=none->Va J own ix σ g tt te D H1 Q
theorem z9{prog:Program}{w:World}{A:Around}{R:Result->Shared->Prop}{s:Shared}{elt target iter:Expr}{ifs:List Expr}{scope:Scope}{pos:Pos}{it acc:Value}{env:Env}(I:Nat->Shared->Prop)
  (turn:∀n s,I n s->wpAny (model prog w) A (pyNext it) (λr s1=>match r with
   | none=>R (.ok .next) s1
   | some v=>wpAny (model prog w) A (letOwnedTupleGo target it v) (λ_ s1'=>wpAny (model prog w) A (assign target env v) (λ_ s2 =>
     wpAny (model prog w) A (forIn ifs true λc r=>if r=true then do let ok ← isTrue c env (eval c env);pure (ForInStep.yield ok)else pure (ForInStep.yield r)) (λok s3 =>
      if ok=true then wpAny (model prog w) A (eval elt env) (λx s4=>wpAny (model prog w) A (call (.builtin "list.append") [acc,x]) (λ_ s5=>∃m,m < n/\I m s5) (λ_ _=>False) s4) (λ_ _=>False) s3
      else ∃m,m < n/\I m s3) (λ_ _=>False) s2) (λ_ _=>False) s1') (λ_ _=>False) s1) (λ_ _=>False) s)
  (n:Nat) (h:I n s):codeAny (model prog w) A (.compLoop (.ListComp elt [⟨target,iter,ifs,0⟩] scope pos) 0 it acc env) R s:=by
 refine codeAny_loop rfl I (λn s hI=>?_) n h
 show wpAny _ A ((compTurn (.ListComp elt [⟨target,iter,ifs,0⟩] scope pos) 0 it acc env).onRaise (λx=>do noteFrame x env;theTreesLotGoes x)) _ _ s
 refine wpAny_noted ?_
 rw[compTurn_list]
 refine wpAny_bind (wpAny_standAt (wpAny_bind (wpAny_mono (turn n s hI) (λr s1 h1=>?_) λ_ _ z=>z.elim)))
 cases r with
 | none=>exact wpAny_pure h1
 | some v =>
  refine wpAny_bind (wpAny_mono h1 (λ_ s1' h1'=>?_) λ_ _ z=>z.elim)
  refine wpAny_bind (wpAny_mono h1' (λ_ s2 h2=>wpAny_bind (wpAny_mono h2 (λok s3 h3=>?_) λ_ _ z=>z.elim)) λ_ _ z=>z.elim)
  cases ok with
  | false=>exact wpAny_pure ⟨rfl,h3⟩
  | true=>exact wpAny_bind (wpAny_bind (wpAny_mono h3 (λx s4 h4=>wpAny_bind (wpAny_mono h4 (λ_ s5 h5=>wpAny_pure (wpAny_pure ⟨rfl,h5⟩)) λ_ _ z=>z.elim)) λ_ _ z=>z.elim))
theorem Dg{elt tg iter:Expr}{ifs:List Expr}{pos:Pos}{g:TG}{tt:TT}{te:TE}{it:Addr}{fp:List Addr}{tn:Nat->Heap->Prop}{J:It}{Q:VK}{E:Value->Shared->Prop}{RR:Value->Addr->Result->Shared->Prop}(B:sU X own N ix scope)
  (hin:∀(C:Addr) (s:Shared) (H:Hp),PG (X.sS N scope C fp s H) tg g/\S5 (X.sS N scope C fp s H) ifs tt/\PE (X.sS N scope C fp s H) elt te)
  (I:Inv X pins σ H s) (T:Turn X.prog X.w X.K tg J fp it tn) (st:tn 0 s.heap) (hf:∀b∈fp,qi X pins H b)
  (h:∀D,H D=none->Va J own ix σ g tt te D H Q)
  (fin:∀(D C:Addr) (H':Hp) (s':Shared) (m:Str->Option Value),Inv X pins σ H' s'->s'.heap.Ns C m->H' C=none->C≠X.env.locals->(X.s₀.heap.objs.size<=C)->(∀x c,X.env.cells.lookup x=some c->c≠C)->(∀p∈X.pn++pins,p.1≠C)->Q (.ref D) H'->RR (.ref D) C (.ok .next) s') :
  wpAny (model X.prog X.w) X.A (newList []) (λacc s3=>wpAny (model X.prog X.w) X.A (newFunctionEnv scope X.env.globals (uh X.env.cells scope.names []) [] X.env.qual none .none (some X.env)) (λcenv s4 =>
   codeAny (model X.prog X.w) X.A (.compStart (.ListComp elt [⟨tg,iter,ifs,0⟩] scope pos) 0 (.ref it) acc {cenv with scope:=relabel scope X.env}) (RR acc cenv.locals) s4) E s3) E s:=by
 obtain⟨W,⟨m0,w0⟩,turn⟩:=h s.heap.objs.size I.fresh
 refine wpAny_newObj_type ?_
 have I3:=I.LJ (its:=[]) (ys:=[]) (t':=s.toks) .nil (Nat.zero_le _)
 have hcell:∀y∈scope.names,y.2≠NameKind.cell:=λy hy e=>by
  have:=List.all_eq_true.mp B.cell y hy
  rw[e]at this
  exact absurd this (by decide)
 refine wpAny_newFunctionEnv hcell (by intro y hy;simp at hy) (λh1 PQ PR=>?_) B.kind
 dsimp only at PQ PR ⊢
 generalize VX:s.heap.push {cls:=.type "list",dict:=none,data:=.seq ([]:List Value).toArray}=h2 at PQ PR ⊢
 have I3':Inv X pins σ (upd H s.heap.objs.size (.lst [])) {s with heap:=h2}:=by
  have z:({s with heap:=s.heap.push {cls:=.type "list",data:=.seq ([]:List Value).toArray},toks:=s.toks}:Shared)={s with heap:=h2}:=by rw[← VX]
  rw[← z]
  exact I3
 have sz:h2.objs.size=s.heap.objs.size + 1:=by rw[← VX,Heap.size_push]
 have VY:∀b o,s.heap.get? b=some o->h2.get? b=some o:=λb o e=>by rw[← VX];exact Heap.get?_push_of_some _ e
 have OI:∀b o,h2.get? b=some o->h1.get? b=some o:=λb o e=>PR.extBut b o (Nat.ne_of_lt (Heap.lt_size e)) (Heap.get?_push_of_some _ e)
 have there:∀b∈fp,b < s.heap.objs.size:=λb hb=>by obtain⟨o,e,_⟩:=T.obj _ _ st b hb;exact Heap.lt_size e
 have VZ:∀b∈fp,qi X pins (upd H s.heap.objs.size (.lst [])) b:=λb hb=>⟨by rw[uN (Nat.ne_of_lt (there b hb))];exact(hf b hb).1,(hf b hb).2⟩
 have hn1:h1.Ns h2.objs.size (λ_=>none):=by simpa using PQ
 have I4:=D7 (tk:=s.toks + ([]:List (Str×Value)).length) (own:=own) (N:=N) (ix:=ix) B I3' rfl VZ (λb hb=>Nat.lt_of_lt_of_le (there b hb) (by show s.heap.objs.size<=h2.objs.size;rw[sz];exact Nat.le_succ _)) hn1 OI
 have LR:tn 0 h1:=T.keep _ _ _ st λb _ o e=>OI b o (VY b o e)
 have Bc:(X.sS N scope h2.objs.size fp {s with heap:=h2} (upd H s.heap.objs.size (.lst []))).calm=true:=B.calm
 obtain⟨pg,pif,pe⟩:=hin h2.objs.size {s with heap:=h2} (upd H s.heap.objs.size (.lst []))
 have fpb:∀{H':Hp},(∀b∈fp,H' b=none)->∀b∈fp,qi (X.sS N scope h2.objs.size fp {s with heap:=h2} (upd H s.heap.objs.size (.lst []))) [] H' b:=λhz b hb =>
  ⟨hz b hb,Nat.ne_of_lt (Nat.lt_of_lt_of_le (there b hb) (by show s.heap.objs.size<=h2.objs.size;rw[sz];exact Nat.le_succ _)),I4.ok.exfs b hb,.inl hb,λx c e=>(I4.ok.exf b hb).2 x c e,(λp hp=>nomatch hp)⟩
 have loop:∀s3:Shared,s3={s with heap:=h1,toks:=s.toks + ([]:List (Str×Value)).length} ->
   codeAny (model X.prog X.w) X.A (.compLoop (.ListComp elt [⟨tg,iter,ifs,0⟩] scope pos) 0 (.ref it) (.ref s.heap.objs.size) (compEnvC scope (uh X.env.cells scope.names []) h2.objs.size X.env)) (RR (.ref s.heap.objs.size) h2.objs.size) s3:=by
  rintro s3 rfl
  refine z9 (λn s'=>∃i ys H',Inv (X.sS N scope h2.objs.size fp {s with heap:=h2} (upd H s.heap.objs.size (.lst []))) [] (eR own ix σ) H' s'/\tn i s'.heap/\(∀b∈fp,H' b=none)/\W i n ys H') ?_ m0
   ⟨0,[],_,I4,LR,λb hb=>(VZ b hb).1,w0⟩
  rintro n s5 ⟨i,ys,H5,I5,Gi,U6,w5⟩
  obtain⟨hD,t5⟩:=turn i n ys H5 w5
  rcases t5 with⟨stop,qn⟩ | ⟨go,hz,Nx,hNx,step⟩
  ·refine cK (T.done (X.sS N scope h2.objs.size fp {s with heap:=h2} (upd H s.heap.objs.size (.lst []))) rfl rfl rfl Bc i [] s5 _ H5 (λ_ _=>False) I5 (fpb U6) Gi stop) λr s6 ⟨hr,I6⟩=>?_
   subst hr
   obtain⟨m,hm,_⟩:=I6.loc
   refine fin _ _ H5 s6 m (LQ I3' VZ I6) hm I6.free ?_ ?_ (λx c e z=>?_) (λp hp z=>?_) qn
   ·have:=I3'.lt
    exact Nat.ne_of_gt this
   ·exact I3'.sz
   ·obtain⟨v,q⟩:=I3'.cell x c e
    have:=q.lt
    rw[z]at this
    exact absurd this (Nat.lt_irrefl _)
   ·have:=Heap.lt_size (I3'.pin p hp).1
    rw[z]at this
    exact absurd this (Nat.lt_irrefl _)
  ·refine cK (T.item (X.sS N scope h2.objs.size fp {s with heap:=h2} (upd H s.heap.objs.size (.lst []))) rfl rfl rfl Bc i [] s5 _ H5 (λ_ _=>False) I5 (fpb U6) Gi go) λr s6 ⟨u,hr,h6⟩=>?_
   subst hr
   refine cK h6 λ_ s7 ⟨x,H7,I7,r7,y7,V0,fr7⟩=>?_
   have I7':=I7.pinned (fpb fr7) (T.obj _ _ V0)
   refine cK (pg _ s7 _ H7 x u _ I7' r7 (step x H7 y7)) λ_ s8 ⟨σ8,H8,I8,hd8,q8⟩=>?_
   refine cK (pif _ s8 σ8 H8 _ I8 q8) λb s9 ⟨H9,I9,q9⟩=>?_
   have again:∀{ys':List V} {H':Hp} {s':Shared},Inv (X.sS N scope h2.objs.size fp {s with heap:=h2} (upd H s.heap.objs.size (.lst []))) ([]++uX fp s7.heap) σ8 H' s'->Nx ys' H' ->
     ∃m,m < n/\∃i ys H',Inv (X.sS N scope h2.objs.size fp {s with heap:=h2} (upd H s.heap.objs.size (.lst []))) [] (eR own ix σ) H' s'/\tn i s'.heap/\(∀b∈fp,H' b=none)/\W i m ys H':=by
    intro ys' H' s' I' w'
    obtain⟨m',hm,w'⟩:=hNx _ _ w'
    refine⟨m',hm,i + 1,ys',H',(I'.qj).weak ?_ (B6 hd8),T.keep _ _ _ V0 λb hb o e=>(I'.pin (b,o) (List.mem_append_right _ (List.mem_append_right _ (jE hb e)))).1,λb hb=>?_,w'⟩
    ·rw[I'.len,← I4.len]
    ·obtain⟨o,e,d⟩:=T.obj _ _ V0 b hb
     exact(I'.pin (b,o) (List.mem_append_right _ (List.mem_append_right _ (jE hb e)))).2.1
   cases b with
   | true =>
    simp only[if_true]at q9 ⊢
    refine cK (pe _ s9 σ8 H9 _ I9 q9) λv S6 ⟨y,Sa,I10,r10,V1,q10⟩=>?_
    refine cK (bK _ S6 σ8 Sa (.ref _) [y] (.ref _) [v] (λ_ H'=>Nx (ys++[y]) H') I10 rfl (.cons r10 .nil) ⟨_,ys,y,rfl,rfl,V1,hz,q10⟩) λ_ s11 ⟨_,H11,I11,_,q11⟩=>?_
    exact again I11 q11
   | false =>
    simp only[Bool.false_eq_true,if_false]at q9 ⊢
    exact again I9 q9
 exact codeAny_compStart_list (loop _ rfl) (T.self _ 0 _ _ _ LR (loop _ rfl))
theorem GJ{lo:Int}{n:Nat}{g:TG}{tt:TT}{te:TE}{H1:Hp}{Q:VK}{D:Addr}(Pv:Nat->List V->Hp->Prop)(hn:n<=sizeLine)(h0:Pv 0 [] (upd H1 D (.lst [])))(hD:∀i ys H,Pv i ys H->H D=some (.lst ys)/\ys.length<=i)
  (hs:∀i ys H2,i < n->Pv i ys H2->g (.int (lo + i)) (eR own ix σ) H2 λσ2 H4=>σ2.drop own=(ix.map λi=>(σ[i]?).getD none)/\tt σ2 H4 λb H5=>if b=true then te σ2 H5 λv H6=>H6 D=some (.lst ys)/\Pv (i + 1) (ys++[v]) (upd H6 D (.lst (ys++[v])))else Pv (i + 1) ys H5)
  (hd:∀ys H2,Pv n ys H2->Q (.ref D) H2) :
  Va (OD lo n) own ix σ g tt te D H1 Q:=by
 refine⟨λi m ys H=>m=n - i/\i<=n/\Pv i ys H,⟨n,by simp,Nat.zero_le _,h0⟩,?_⟩
 rintro i m ys H2 ⟨rfl,hi,p⟩
 obtain⟨q1,q2⟩:=hD i ys H2 p
 refine⟨q1,?_⟩
 by_cases hlt:i < n
 ·refine .inr ⟨hlt,by omega,Pv (i + 1),λys' H' p'=>⟨n - (i + 1),by omega,rfl,hlt,p'⟩,λx H3 y=>?_⟩
  obtain⟨e1,e2⟩:=y
  subst e1 e2
  exact hs i ys _ hlt p
 ·have e:i=n:=by omega
  subst e
  exact .inl ⟨Nat.le_refl _,hd ys H2 p⟩
theorem qt{K:av}{a:Addr}{xs:List V}{g:TG}{tt:TT}{te:TE}{H1:Hp}{Q:VK}{D:Addr}(Pv:Nat->List V->Hp->Prop)(hn:xs.length<=sizeLine)(h0:Pv 0 [] (upd H1 D (.lst [])))(hD:∀i ys H,i<=xs.length->Pv i ys H->H D=some (.lst ys)/\ys.length<=i/\bc K H a xs)
  (hs:∀i x ys H2,xs[i]?=some x->Pv i ys H2->g x (eR own ix σ) H2 λσ2 H4=>σ2.drop own=(ix.map λi=>(σ[i]?).getD none)/\tt σ2 H4 λb H5=>if b=true then te σ2 H5 λv H6=>H6 D=some (.lst ys)/\Pv (i + 1) (ys++[v]) (upd H6 D (.lst (ys++[v])))else Pv (i + 1) ys H5)
  (hd:∀ys H2,Pv xs.length ys H2->Q (.ref D) H2) :
  Va (OC K a) own ix σ g tt te D H1 Q:=by
 refine⟨λi m ys H=>m=xs.length - i/\i<=xs.length/\Pv i ys H,⟨xs.length,by simp,Nat.zero_le _,h0⟩,?_⟩
 rintro i m ys H2 ⟨rfl,hi,p⟩
 obtain⟨q1,q2,q3⟩:=hD i ys H2 hi p
 refine⟨q1,?_⟩
 by_cases hlt:i < xs.length
 ·refine .inr ⟨⟨xs,xs[i],q3,by simp[hlt]⟩,by omega,Pv (i + 1),λys' H' p'=>⟨xs.length - (i + 1),by omega,rfl,hlt,p'⟩,λx H3 y=>?_⟩
  obtain⟨e1,e2⟩:=y
  subst e1
  exact hs i x ys _ (e2 xs q3) p
 ·have e:i=xs.length:=by omega
  subst e
  exact .inl ⟨⟨xs,q3,Nat.le_refl _⟩,hd ys H2 p⟩
theorem GK{elt tg iter:Expr}{ifs:List Expr}{pos:Pos}{wi:TI}{g:TG}{tt:TT}{te:TE}(own:Nat)(N:List Str)(ix:List Nat)(B:sU X own N ix scope)(hi:PI X tg iter wi)
  (hin:∀(C:Addr) (fp:List Addr) (s:Shared) (H:Hp),PG (X.sS N scope C fp s H) tg g/\S5 (X.sS N scope C fp s H) ifs tt/\PE (X.sS N scope C fp s H) elt te)
  (hs:∀x,foldedSetIterable iter X.env x=pure x:=by intro _;rfl):PE X (.ListComp elt [⟨tg,iter,ifs,0⟩] scope pos) (VW own ix wi g tt te):=by
 intro pins s σ H Q I h
 have hnames:∀y∈scope.names,y.2=NameKind.local->scope.names.lookup y.1=some .local:=λy hy e=>by
  have:=List.all_eq_true.mp B.loc y hy
  rw[e]at this
  simpa using this
 rw[eval_ListComp]
 refine wpAny_comprehension_free (use:=none) rfl hs (oz λy hy e=>(B.has I y hy e).2) B.kind hnames (cK (hi pins s σ H _ I h) λv s1 h1=>cK h1 λitv s2 h2=>?_)
 obtain⟨it,fp,tn,J,H2,e,I2,T,dQ,f2,rd⟩:=h2
 subst e
 refine Dg (Q:=Q) (RR:=λacc C=>compPost (model X.prog X.w) X.A X.xe none (EP X pins σ Q) acc C) B (λC s H=>hin C fp s H) I2 T dQ f2 rd ?_
 intro D C H' s' m I' hn hC hL hsz hce hpi q
 exact⟨m,hn,λh' sb=>⟨.ref D,H',I'.turned (t':=s'.toks) (λb o hb e=>(sb.2 b hb).trans e) hC hL (.inr hsz) hce hpi,rfl,q⟩⟩
theorem qu{i:Nat}{x:Str}{elt tg iter:Expr}{ifs:List Expr}{pos pos' spos:Pos}{wi:TI}{g:TG}{tt:TT}{te:TE}(hN:X.N.Nodup)(hxi:X.N[i]?=some x)(hx:Loc X.env.scope x)(own:Nat)(N:List Str)(ix:List Nat)(B:sU X own N ix scope)(hi:PI X tg iter wi)
  (hin:∀(C:Addr) (fp:List Addr) (s:Shared) (H:Hp),PG (X.sS N scope C fp s H) tg g/\S5 (X.sS N scope C fp s H) ifs tt/\PE (X.sS N scope C fp s H) elt te)
  (hsw:swapsWith (.ListComp elt [⟨tg,iter,ifs,0⟩] scope pos) (some (.Name x pos')) spos.line X.env=pure true:=by rfl) (hs:∀x,foldedSetIterable iter X.env x=pure x:=by intro _;rfl)
  (hfn:X.fn x=true∨X.env.scope.names.lookup x=some .local:=by first | exact .inl rfl | exact .inr rfl):PS X (.Assign [.Name x pos'] (.ListComp elt [⟨tg,iter,ifs,0⟩] scope pos) spos) (Gd (VW own ix wi g tt te) (sP i)):=by
 intro pins s σ H D0 I h
 have hnames:∀y∈scope.names,y.2=NameKind.local->scope.names.lookup y.1=some .local:=λy hy e=>by
  have:=List.all_eq_true.mp B.loc y hy
  rw[e]at this
  simpa using this
 rw[exec_Assign_Name_used _ _ _ _ hsw]
 refine wpAny_bind (wpAny_standAt (wpAny_bind ?_))
 show wpAny _ X.A (do let _ ← comprehension (.ListComp elt [⟨tg,iter,ifs,0⟩] scope pos) scope X.env _ (newList []) false (eval iter X.env) (some (assign (.Name x pos') X.env))) _ _ s
 refine wpAny_bind (cK (wpAny_comprehension_free (use:=some (assign (.Name x pos') X.env)) (Q:=λ_ s'=>SP X pins D0 .next s') rfl hs (oz λy hy e=>(B.has I y hy e).2) B.kind hnames (cK (hi pins s σ H _ I h) λv s1 h1=>cK h1 λitv s2 h2=>?_)) λ_ s' hq=>wpAny_pure (wpAny_pure hq))
 obtain⟨it,fp,tn,J,H2,e,I2,T,dQ,f2,rd⟩:=h2
 subst e
 refine Dg (Q:=λv H'=>sP i v σ H' D0.nx) (RR:=λacc C=>compPost (model X.prog X.w) X.A X.xe (some (assign (.Name x pos') X.env)) (λ_ s'=>SP X pins D0 .next s') acc C) B (λC s H=>hin C fp s H) I2 T dQ f2 rd ?_
 intro D C H' s' m I' hn hC hL hsz hce hpi q
 show wpAny _ X.A (assign (.Name x pos') X.env (.ref D)) _ _ s'
 refine wpAny_assign_Name (xn I' hN hxi hx (v:=.ref D) rfl (λs'' I'' ⟨a,sb,ha⟩=>?_) hfn)
 refine⟨m,hn.sameBut sb ?_,λh' sb'=>⟨_,H',I''.turned (t':=s''.toks) (λb o hb e=>(sb'.2 b hb).trans e) hC hL (.inr hsz) hce hpi,q⟩⟩
 rcases ha with e | e
 ·rw[e];exact hL
 ·exact Ne.symm (hce x a e)
end
end L2
namespace L2
open PySem PySem.Spec PyProof.Rows
theorem range_all(bs:List Bool):(List.range bs.length).all (λi=>(bs[i]?).getD true)=bs.all id:=by
 rw[Bool.eq_iff_iff,List.all_eq_true,List.all_eq_true]
 constructor
 ·intro h b hb
  obtain⟨i,hi,e⟩:=List.mem_iff_getElem.mp hb
  have z:=h i (List.mem_range.mpr hi)
  rw[cV hi,e]at z
  exact z
 ·intro h i hi
  have hi':=List.mem_range.mp hi
  rw[cV hi']
  exact h _ (List.getElem_mem hi')
section
variable {X:Cx}
def V2(K:av):List V->Hp->VK->Prop:=λxs H Q=>∃(p:Addr) (bs:List Bool),xs=[.ref p]/\bc K H p (bs.map V.bl)/\Q (.bl (bs.all id)) H
theorem GL(hc:X.calm=true):jo X (.builtin "all") (V2 X.K):=by
 intro pins s σ H xs us Q I r h
 obtain⟨p,bs,rfl,hS,q⟩:=h
 obtain⟨u,rfl,ru⟩:=vals1 r
 cases ru
 obtain⟨its,rv,pl,hz⟩:=I.list hS
 have hlen:its.toArray.size=bs.length:=by
  have:=rv.length
  simp at this
  simp[this]
 have hlt:p < s.heap.objs.size:=by obtain⟨o,n,e,_⟩:=pl;exact Heap.lt_size e
 refine call_all_walk (wpAny_pyIter_list pl.isList ?_)
 refine⟨s.heap.objs.size,_,_,its.toArray.size,_,_,λi=>(bs[i]?).getD true,rfl,Walks.list (show X.A.in1.handled=none from I.ok.hd hc) _ _ (Nat.ne_of_lt hlt) its.toArray,⟨⟨_,Heap.get?_push_size _ rfl,rfl,rfl⟩,pl.isList.push _⟩,?_,λh' tk k=>?_⟩
 ·intro i v s' Q' E' hv hq
  have hi:i < bs.length:=by
   rw[← hlen]
   exact(Array.getElem?_eq_some_iff.mp hv).1
  obtain⟨u',hu',ru'⟩:=rv.get (i:=i) (x:=.bl bs[i]) (by rw[List.getElem?_map,cV hi];rfl)
  have e:its[i]?=some v:=by simpa using hv
  rw[hu']at e
  cases e
  cases ru'
  have hq':Q' ((bs[i]?).getD true) s':=hq
  rw[cV hi]at hq'
  exact wpAny_truthy_bool hq'
 ·rw[hlen,range_all]
  exact⟨.bl _,H,I.kept (t':=tk) λb o e=>k b o (by simpa using Nat.ne_of_lt (Heap.lt_size e)) (Heap.get?_push_of_some _ e),rfl,q⟩
def OJ(K:av):R2:=λx y H Q=>∃l b xs zs,x=.ref l/\y=.ref b/\bc K H l xs/\bc K H b zs/\xs.length + zs.length<=sizeLine/\∀p,H p=none->Q (.ref p) (upd H p (.lst (xs++zs)))
theorem uD:iq X (binaryOp .Add) (OJ X.K):=by
 intro pins s σ H x y v u Q I rx ry h
 obtain⟨l,b,xs,zs,rfl,rfl,hH,hB,hz,q⟩:=h
 cases rx
 cases ry
 obtain⟨its,r,⟨⟨c1,d1,a1,OK⟩,n,e,rfl,rfl,rfl⟩,z⟩:=I.list hH
 obtain⟨qr,r2,⟨⟨c2,d2,a2,R9⟩,n2,e2,rfl,rfl,rfl⟩,z2⟩:=I.list hB
 have hl:=r.length
 have zZ:=r2.length
 refine concat_meets ⟨_,e,rfl⟩ ⟨_,e2,rfl⟩ noFill_list_add seq_list_add PySem.F.slot_list_add PySem.F.entry_list_add (PySem.F.args_list_add_2 _ _)
  (list_addW l b its.toArray qr.toArray n n2 none none OK R9 (by rw[List.size_toArray,List.size_toArray];omega)) ⟨e,e2,?_⟩
 rw[show its.toArray++qr.toArray=(its++qr).toArray by simp]
 exact⟨.ref _,_,I.LJ (t':=s.toks) (r.append r2) (by rw[List.length_append];omega),rfl,q _ I.fresh⟩
end
section
variable {X:Cx} {tg:Expr}
end
end L2
namespace L2
open PySem PySem.Spec PyProof.Rows
def Ky(K:av)(w:World)(d:Addr)(kds:List (Str×PyData)):Prop :=
 (d == sysModules)=false/\∃(o:Obj) (vs:List (Str×Value)),K.lookup d=some o/\(∀P:Program,o.IsDictOf (strKind P w) vs) /\
  Paired (λa b=>a.1=b.1/\∃v,RelV v a.2/\∀H:Hp,aS K H v b.2) vs kds
def eS(kds:List (Str×PyData))(k:Str):Option PyData:=(kds.find? λkv=>decide (kv.1=k)).map (·.2)
theorem oR{K:av}{vs:List (Str×Value)}{kds:List (Str×PyData)}(k:Str)(h:Paired (λa b=>a.1=b.1/\∃v,RelV v a.2/\∀H:Hp,aS K H v b.2) vs kds):
  (valueAt vs k=none/\eS kds k=none)∨∃u d v,valueAt vs k=some u/\eS kds k=some d/\RelV v u/\∀H:Hp,aS K H v d:=by
 induction h with
 | nil=>exact .inl ⟨rfl,rfl⟩
 | @cons a b as bs hab t ih =>
  obtain⟨e,v,h1,h2⟩:=hab
  by_cases q:a.1=k
  ·refine .inr ⟨a.2,b.2,v,?_,?_,h1,h2⟩
   ·unfold valueAt;rw[List.find?_cons_of_pos (by simpa using q)];rfl
   ·unfold eS;rw[List.find?_cons_of_pos (by simpa [← e]using q)];rfl
  ·have e1:valueAt (a::as) k=valueAt as k:=by unfold valueAt;rw[List.find?_cons_of_neg (by simpa using q)]
   have e2:eS (b::bs) k=eS bs k:=by unfold eS;rw[List.find?_cons_of_neg (by simpa [← e]using q)]
   rw[e1,e2]
   exact ih
def S7(w:World)(e:Str×Tok×Value):DictEntry:={hash:=PyData.keyHash w.params e.1,key:=.str e.1 e.2.1,val:=e.2.2}
theorem GN{K:av}{w:World}{d:Addr}{ep:Nat}{ent:List (Str×Tok×Value)}{kds:List (Str×PyData)}(hd:(d == sysModules)=false)
  (lk:K.lookup d=some {cls:=.type "dict",data:=.dict (ent.map (S7 w)).toArray ep}) (nd:(ent.map (·.1)).Nodup)
  (h:Paired (λ(e:Str×Tok×Value) (kd:Str×PyData)=>e.1=kd.1/\∃v,RelV v e.2.2/\∀H:Hp,aS K H v kd.2) ent kds):Ky K w d kds:=by
 refine⟨hd,_,ent.map (λe=>(e.1,e.2.2)),lk,λP=>⟨_,ep,⟨rfl,rfl,rfl⟩,rfl,?_,?_,?_⟩,?_⟩
 ·intro e he
  simp at he
  obtain⟨a,b,c,_,rfl⟩:=he
  exact⟨a,strKind_is _ _ _ _,rfl⟩
 ·show Pairs _ (ent.map (S7 w)) _
  clear h nd lk
  induction ent with
  | nil=>exact .nil
  | cons e r ih=>exact .cons (strKind_is _ _ _ _) rfl ih
 ·rw[List.map_map]
  exact nd
 ·clear lk nd
  induction h with
  | nil=>exact .nil
  | cons a t ih=>exact .cons a ih
theorem aG{K:av}{r:Addr}{its:List Value}{ds:List PyData}(lk:K.lookup r=some {cls:=.type "tuple",data:=.seq its.toArray 0})(hz:its.length<=sizeLine)
  (h:Paired (λu d=>∃v,RelV v u/\∀H:Hp,aS K H v d) its ds):∃v,RelV v (.ref r)/\∀H:Hp,aS K H v (.tuple ds):=by
 have key:∃xs:List V,Vals xs its/\∀H:Hp,aF K H xs ds:=by
  clear lk hz
  induction h with
  | nil=>exact⟨[],.nil,λH=>aF.nil⟩
  | cons a t ih =>
   obtain⟨v,h1,h2⟩:=a
   obtain⟨xs,g1,g2⟩:=ih
   exact⟨v::xs,.cons h1 g1,λH=>aF.cons (h2 H) (g2 H)⟩
 obtain⟨xs,h1,h2⟩:=key
 exact⟨.ref r,rfl,λH=>.i6 (.inr ⟨_,its.toArray,0,lk,rfl,rfl,by simpa using hz,h1⟩) (h2 H)⟩
theorem yr{K:av}{r:Addr}{d:PyData}(h:∃v,RelV v (.ref r)/\∀H:Hp,aS K H v d):∀H:Hp,aS K H (.ref r) d:=by
 obtain⟨v,h1,h2⟩:=h
 intro H
 cases v<;>simp[RelV]at h1
 subst h1
 exact h2 H
theorem aO{K:av}{x:Str}{t:Tok}:∃v,RelV v (.str x t)/\∀H:Hp,aS K H v (.str x):=⟨.str x,⟨t,rfl⟩,λ_=>.str x⟩
theorem eT{K:av}{i:Int}{t:Tok}:∃v,RelV v (.int i t)/\∀H:Hp,aS K H v (.int i):=⟨.int i,⟨t,rfl⟩,λ_=>.int i⟩
section
variable {X:Cx}
theorem Ky.at{K:av}{pins:List (Addr×Obj)}{σ:St}{H:Hp}{s:Shared}{w:World}{d:Addr}{kds:List (Str×PyData)}(hK:X.K=K)(I:Inv X pins σ H s)(h:Ky K w d kds):
  (d == sysModules)=false/\∃vs,(∀P,s.heap.DictOf (strKind P w) d vs)/\Paired (λa b=>a.1=b.1/\∃v,RelV v a.2/\∀H:Hp,aS K H v b.2) vs kds:=by
 obtain⟨h0,o,vs,lk,hd,hp⟩:=h
 subst hK
 exact⟨h0,vs,λP=>Heap.dictOf_iff.mpr ⟨o,I.wA d o lk,hd P⟩,hp⟩
def V3(K:av)(w:World)(neg:Bool):R2:=λx y H Q=>∃d kds k,y=.ref d/\x=.str k/\Ky K w d kds/\Q (.bl (if neg then !(eS kds k).isSome else(eS kds k).isSome)) H
theorem PU:iq X (compareOp .In) (V3 X.K X.w false):=by
 intro pins s σ H x y v u Q I rx ry h
 obtain⟨d,kds,k,rfl,rfl,hd,q⟩:=h
 cases ry
 obtain⟨t,rfl⟩:=rx
 obtain⟨h0,vs,hm,hp⟩:=hd.at rfl I
 refine wpAny_in_of (strKind_is X.prog X.w k t) h0 (hm X.prog).mapOf ⟨.bl _,H,I.tok _,rfl,?_⟩
 have e:(valueAt vs k).isSome=(eS kds k).isSome:=by
  rcases oR k hp with⟨a,b⟩ | ⟨_,_,_,a,b,_⟩<;>rw[a,b]<;>rfl
 rw[e]
 exact q
def V4(K:av)(w:World):R2:=λx y H Q=>∃d kds k dt,x=.ref d/\y=.str k/\Ky K w d kds/\eS kds k=some dt/\∀v:V,(∀H:Hp,aS K H v dt)->Q v H
theorem GO:Kx X (V4 X.K X.w):=by
 intro value slice pins s σ H x y v u Q I rx ry h hs
 obtain⟨d,kds,k,dt,rfl,rfl,hd,hg,q⟩:=h
 cases rx
 obtain⟨t,rfl⟩:=ry
 obtain⟨h0,vs,hm,hp⟩:=hd.at rfl I
 rcases oR k hp with⟨a,b⟩ | ⟨u,e,z,a,b,c1,c2⟩
 ·rw[b]at hg;cases hg
 ·rw[b]at hg
  cases hg
  exact subscriptTail_builtinR (x:=u) (hm X.prog).mapOf.typeIs slot_dict_getitem.lookup
   (wpAny_getItem_of (Q:=λr s'=>r=u/\EP X pins σ Q r s') (strKind_is X.prog X.w k t) (hm X.prog).mapOf a ⟨rfl,⟨z,H,I.tok _,c1,q z c2⟩⟩) hs
def S8(K:av)(w:World)(to:TE)(t:TA):TE:=λσ H Q=>to σ H λx H1=>∃d kds,x=.ref d/\Ky K w d kds/\t σ H1 λxs H2=>∃k z,xs=[.str k,z]/\(eS kds k=none->Q z H2) /\
 ∀dt,eS kds k=some dt->∀v:V,(∀H:Hp,aS K H v dt)->Q v H2
variable {o e:Expr} {es:List Expr} {to:TE} {t:TA} {apos cpos:Pos}
theorem LS(ho:PE X o to)(ha:PA X (e::es) t)
  (hbase:attributeBase o "get" X.env (eval o X.env)=eval o X.env:=by rfl)
  (hfew:((backTo cpos (starEach (e::es) X.env)).all (λx=>!x.1)&&(backToKw cpos (keywordEach [] X.env)).all (λx=>x.1.isSome)
   && decide ((e::es).length + ([]:List Keyword).length + (if ([]:List Keyword).isEmpty then 0 else 1) < 30))=true:=by rfl)
  (hline:(apos.endLine == cpos.line)=true:=by rfl) (hs:starEach (e::es) X.env=(false,eval e X.env)::starEach es X.env:=by rfl) (hplain:(backTo cpos (starEach es X.env)).any (·.1)=false:=by rfl) :
  PE X (.Call (.Attribute o "get" apos) (e::es) [] cpos) (S8 X.K X.w to t):=by
 intro pins s σ H Q I h
 refine wpAny_Call_method_late hbase hfew hline rfl (cK (ho pins s σ H _ I h) λv s1 ⟨x,H1,I1,r1,d,kds,ex,hd,q1⟩=>?_)
 subst ex
 cases r1
 obtain⟨h0,vs,hm,hp⟩:=hd.at rfl I1
 refine⟨"dict","dict.get",PySem.F.plainAttrs_dict,PySem.F.slot_dict_get,PySem.F.type_dict_get,(hm X.prog).mapOf.typeIs,λb eb=>?_,?_⟩
 ·cases eb
  obtain⟨ob,_,_,g1,g2,_⟩:=hm X.prog
  exact⟨ob,g1,g2.2.1⟩
 have hA:=ha cpos pins s1 σ H1 _ I1 q1
 rw[hs]at hA ⊢
 refine Calls.callWith_builtin (by show(false||(backTo cpos (starEach es X.env)).any (·.1))=false;rw[hplain]<;>rfl) (Calls.evalArgs_plain ?_)
 refine cK hA λus s2 ⟨ws,H2,I2,r2,k,z,ez,q2,q3⟩=>?_
 subst ez
 obtain⟨u1,u2,rfl,S9,Ta⟩:=vals2 r2
 obtain⟨tk,rfl⟩:=S9
 obtain⟨h0,vs,hm,hp⟩:=hd.at rfl I2
 refine call_meetsIn PySem.F.slot_dict_get (hm X.prog).mapOf.typeIs PySem.F.entry_dict_get (PySem.F.args_dict_get_3 _ _ _) (meets_dict_get_default (strKind X.prog X.w) d (strKind_is X.prog X.w k tk) h0 u2) ⟨_,(hm X.prog).mapOf,?_⟩
 rcases oR k hp with⟨a,b⟩ | ⟨u,dt,v,a,b,c1,c2⟩
 ·rw[a]
  exact⟨z,H2,I2.tok _,Ta,q2 b⟩
 ·rw[a]
  exact⟨v,H2,I2.tok _,c1,q3 dt b v c2⟩
end
end L2
namespace L2
open PySem PySem.Spec PyProof.Rows
theorem Inv.LU{X:Cx}{pins:List (Addr×Obj)}{σ:List (Option V)}{H:Hp}{s:Shared}{h':Heap}{fp:List Addr}{a:Addr}{o:HO}{t':Nat}(I:Inv X pins σ H s)(hf:∀b∈fp,qi X pins H b)
  (k:∀b u,b∉fp->s.heap.get? b=some u->h'.get? b=some u) (hp:s.heap.objs.size<=a) (new:ip X.prog X.w (upd H a o) h' a o):Inv X pins σ (upd H a o) {s with heap:=h',toks:=t'}:=by
 have hn:=I.hok.fresh hp
 have nfp:∀b u,H b=some u->b∉fp:=λb u e z=>by rw[(hf b z).1]at e;cases e
 refine I.step (g':=s.gens) (d':=s.drawn) (ch:=fp) (λb hb=>⟨(hf b hb).2.2.2.1,(hf b hb).2.1,(hf b hb).2.2.2.2.1,(hf b hb).2.2.2.2.2⟩) (λb o _ _ hc e _=>k b o hc e) (λb o _ _ hc e _=>⟨o.slots,k b o hc e⟩)
  (λb o hc e n=>by rw[uN (Nat.ne_of_lt (Nat.lt_of_lt_of_le (Heap.lt_size e) hp))];exact n) (λb o hc e=>⟨o,k b o hc e⟩) (λb xs e=>by rw[uN (nN e hn)];exact e) (λb u xs e=>by rw[uN (nN e hn)];exact e)
  (λb ps e=>⟨#[],by rw[uN (nN e hn),e];simp⟩) (λm hm=>?_) (λb u e=>?_) I.bare
 ·obtain⟨o,es,ep,ho,r⟩:=hm
  exact⟨o,es,ep,k _ o (λz=>(hf _ z).2.1 rfl) ho,r⟩
 ·by_cases hb:b=a
  ·subst hb;rw[uS]at e;cases e;exact new
  ·rw[uN hb]at e
   refine(I.hok b u e).BD (λc v hc q=>k c v ?_ q) (λc q=>by rw[uN (nN q hn)];exact q) λc xs q=>by rw[uN (nN q hn)];exact q
   rcases hc with z | z
   ·rw[z];exact nfp b u e
   ·exact nfp c _ z
theorem Inv.LV{X:Cx}{pins:List (Addr×Obj)}{σ:List (Option V)}{H:Hp}{s:Shared}{h':Heap}{fp:List Addr}{t':Nat}(I:Inv X pins σ H s)(hf:∀b∈fp,qi X pins H b)
  (k:∀b u,b∉fp->s.heap.get? b=some u->h'.get? b=some u):Inv X pins σ H {s with heap:=h',toks:=t'}:=by
 have nfp:∀b u,H b=some u->b∉fp:=λb u e z=>by rw[(hf b z).1]at e;cases e
 refine I.step (g':=s.gens) (d':=s.drawn) (ch:=fp) (λb hb=>⟨(hf b hb).2.2.2.1,(hf b hb).2.1,(hf b hb).2.2.2.2.1,(hf b hb).2.2.2.2.2⟩) (λb o _ _ hc e _=>k b o hc e) (λb o _ _ hc e _=>⟨o.slots,k b o hc e⟩)
  (λ_ _ _ _ n=>n) (λb o hc e=>⟨o,k b o hc e⟩) (λ_ _ e=>e) (λ_ _ _ e=>e) (λb ps e=>⟨#[],by rw[e];simp⟩) (λm hm=>?_) (λb u e=>?_) I.bare
 ·obtain⟨o,es,ep,ho,r⟩:=hm
  exact⟨o,es,ep,k _ o (λz=>(hf _ z).2.1 rfl) ho,r⟩
 ·refine(I.hok b u e).BD (λc v hc q=>k c v ?_ q) (λ_ q=>q) λ_ _ q=>q
  rcases hc with z | z
  ·rw[z];exact nfp b u e
  ·exact nfp c _ z
def jt(q:Bool)(h:Heap)(a:Addr)(its:Array Value):Prop:=match q with | true=>h.IsList a its | false=>h.IsTuple a its
def iz(q:Bool)(h:Heap)(it a:Addr)(i:Nat):Prop:=match q with | true=>h.IsListIter it a i | false=>h.IsTupleIter it a i
def Tb(q:Bool):String:=match q with | true=>"list_iterator" | false=>"tuple_iterator"
theorem jt.at{q:Bool}{h h':Heap}{a:Addr}{its:Array Value}(x:jt q h a its)(e:∀o,h.get? a=some o->h'.get? a=some o):jt q h' a its:=by
 cases q<;>(obtain⟨o,ho,r⟩:=x;exact⟨o,e _ ho,r⟩)
theorem iz.at{q:Bool}{h h':Heap}{it a:Addr}{i:Nat}(x:iz q h it a i)(e:∀o,h.get? it=some o->h'.get? it=some o):iz q h' it a i:=by
 cases q<;>(obtain⟨o,ho,r⟩:=x;exact⟨o,e _ ho,r⟩)
theorem iz.obj{q:Bool}{h:Heap}{it a:Addr}{i:Nat}(x:iz q h it a i):∃o,h.get? it=some o/\∀v,o.data≠.cell v:=by
 cases q<;>(obtain⟨o,ho,c,d⟩:=x;exact⟨o,ho,λv z=>by rw[d]at z;cases z⟩)
section
variable {prog:Program} {w:World} {A:Around} {E:Value->Shared->Prop} {s:Shared}
theorem GP{it t:Addr}{i:Nat}{its:Array Value}{x:Value}{Q:Value->Shared->Prop}(hit:s.heap.IsTupleIter it t i)(ht:s.heap.IsTuple t its)(hx:its[i]?=some x)
  (hQ:∀h',h'.IsTupleIter it t (i + 1)->Heap.SameBut it s.heap h'->Q x {s with heap:=h'}):wpAny (model prog w) A (Builtin.SmallTypes.nextOf (.ref it)) Q E s:=by
 obtain⟨o,g1,g2,g3⟩:=id hit
 obtain⟨ot,g4,_,nt,g5⟩:=ht
 unfold Builtin.SmallTypes.nextOf
 refine wpAny_bind (wpAny_callSpecial?_slot (name:=Str.ofString "__next__") hit.typeIs F.slot_tuple_iterator_next (wpAny_call_entry F.slot_tuple_iterator_next hit.typeIs F.entry_tuple_iterator_next ?_ (F.args_tuple_iterator_next_1 _)))
 show wpAny _ _ (field (.ref it) 0 >>= _) _ _ s
 refine wpAny_bind (wpAny_field g1 g3 (x:=.ref t) rfl ?_)
 show wpAny _ _ (if (Value.ref t == Value.none)=true then _ else _) _ _ s
 rw[if_neg (show ¬ ((Value.ref t == Value.none)=true)from Bool.false_ne_true)]
 show wpAny _ _ (field (.ref it) 1 >>= _) _ _ s
 refine wpAny_bind (wpAny_field g1 g3 (x:=.int i 0) rfl ?_)
 show wpAny _ _ (seqItems? (.ref t) >>= _) _ _ s
 refine wpAny_bind (wpAny_seqItems g4 g5 ?_)
 simp only[Int.toNat_natCast,hx]
 refine wpAny_bind (wpAny_setField g1 g3 (by simp) (wpAny_pure ⟨x,rfl,wpAny_pure (hQ _ ?_ (Heap.SameBut.update ..))⟩))
 exact⟨_,Heap.get?_update_self _ g1 (Obj.isFreed_of_fields (Obj.data_mapFields g3 _)),(Obj.cls_mapFields ..).trans g2,by rw[Obj.data_mapFields g3];simp[rawInt]⟩
theorem LW{it t:Addr}{i:Nat}{its:Array Value}{Q:Value->Shared->Prop}(hh:A.handled=none)(hit:s.heap.IsTupleIter it t i)(ht:s.heap.IsTuple t its)(hx:its[i]?=none)
  (hE:∀h' e,Heap.ExtBut it s.heap h'->(∃o,h'.get? e=some o/\o.cls=.type "StopIteration")->E (.ref e) {s with heap:=h'}):wpAny (model prog w) A (Builtin.SmallTypes.nextOf (.ref it)) Q E s:=by
 obtain⟨o,g1,g2,g3⟩:=id hit
 obtain⟨ot,g4,_,nt,g5⟩:=ht
 unfold Builtin.SmallTypes.nextOf
 refine wpAny_bind (wpAny_callSpecial?_slot (name:=Str.ofString "__next__") hit.typeIs F.slot_tuple_iterator_next (wpAny_call_entry F.slot_tuple_iterator_next hit.typeIs F.entry_tuple_iterator_next ?_ (F.args_tuple_iterator_next_1 _)))
 show wpAny _ _ (field (.ref it) 0 >>= _) _ _ s
 refine wpAny_bind (wpAny_field g1 g3 (x:=.ref t) rfl ?_)
 show wpAny _ _ (if (Value.ref t == Value.none)=true then _ else _) _ _ s
 rw[if_neg (show ¬ ((Value.ref t == Value.none)=true)from Bool.false_ne_true)]
 show wpAny _ _ (field (.ref it) 1 >>= _) _ _ s
 refine wpAny_bind (wpAny_field g1 g3 (x:=.int i 0) rfl ?_)
 show wpAny _ _ (seqItems? (.ref t) >>= _) _ _ s
 refine wpAny_bind (wpAny_seqItems g4 g5 ?_)
 simp only[Int.toNat_natCast,hx]
 refine wpAny_bind (wpAny_rule (wpAny_bind (wpAny_setField g1 g3 (by simp) ?_)))
 show wpAny _ _ (newExc (.type "StopIteration") [] >>= _) _ _ _
 refine wpAny_bind ?_
 simp only[newExc,newTuple]
 refine wpAny_bind (wpAny_newObj_type ?_ (by size_fits))
 refine wpAny_bind (m:=firstArgMember _ _) (wpAny_of_eq (a:=Value.none) (by first | rfl | (simp only[firstArgMember];rfl)) ?_)
 refine wpAny_newObj_type ?_ (by size_fits)
 simp only[raiseNew]
 refine wpAny_bind (wpAny_handled ?_)
 first | rw[show A.in1.handled=none from hh] | rw[hh]
 refine wpAny_bind (wpAny_pure (wpAny_throw ?_))
 exact hE _ _ (((Heap.SameBut.update ..).extBut.push _).push _) ⟨_,Heap.get?_push_size _ rfl,rfl⟩
theorem yt{q:Bool}{it t:Addr}{i:Nat}{its:Array Value}{x:Value}{Q:Value->Shared->Prop}(hit:iz q s.heap it t i)(ht:jt q s.heap t its)(hx:its[i]?=some x)
  (hQ:∀h',iz q h' it t (i + 1)->Heap.SameBut it s.heap h'->Q x {s with heap:=h'}):wpAny (model prog w) A (Builtin.SmallTypes.nextOf (.ref it)) Q E s:=by
 cases q with
 | true=>exact wpAny_nextOf_list_item hit ht hx hQ
 | false=>exact GP hit ht hx hQ
theorem GQ{q:Bool}{it t:Addr}{i:Nat}{its:Array Value}{Q:Value->Shared->Prop}(hh:A.handled=none)(hit:iz q s.heap it t i)(ht:jt q s.heap t its)(hx:its[i]?=none)
  (hE:∀h' e,Heap.ExtBut it s.heap h'->(∃o,h'.get? e=some o/\o.cls=.type "StopIteration")->E (.ref e) {s with heap:=h'}):wpAny (model prog w) A (Builtin.SmallTypes.nextOf (.ref it)) Q E s:=by
 cases q with
 | true=>exact wpAny_nextOf_list_end hh hit ht hx hE
 | false=>exact LW hh hit ht hx hE
variable {q1 q2:Bool} {z TI TO i1 i2 l1 l2:Addr} {k1 k2:Nat} {xs ys:Array Value} {x y a b:Value}
theorem D8{Q:Option Value->Shared->Prop}(D:ZipApart z TI TO i1 i2 l1 l2)(hz:IsZip s.heap z TI TO .none)(hTI:IsPair s.heap TI (.ref i1) (.ref i2))(hTO:IsPair s.heap TO a b)
  (h1:iz q1 s.heap i1 l1 k1) (h2:iz q2 s.heap i2 l2 k2) (LX:jt q1 s.heap l1 xs) (zZ:jt q2 s.heap l2 ys) (hx:xs[k1]?=some x) (hy:ys[k2]?=some y)
  (hQ:∀h',IsZip h' z TI TO (rawInt s.heap.objs.size)->IsPair h' TO x y->iz q1 h' i1 l1 (k1 + 1)->iz q2 h' i2 l2 (k2 + 1)->IsPair h' s.heap.objs.size x y ->
   (∀c o,c≠z->c≠TO->c≠i1->c≠i2->s.heap.get? c=some o->h'.get? c=some o)->Q (some (.ref s.heap.objs.size)) {s with heap:=h'}):wpAny (model prog w) A (pyNext (.ref z)) Q E s:=by
 have hT:s.TypeIs (.ref z) "zip":=⟨_,hz,rfl⟩
 unfold pyNext
 refine wpAny_bind (wpAny_attempt (wpAny_callSpecial?_slot (name:=Str.ofString "__next__") hT F.slot_zip_next (wpAny_call_entry F.slot_zip_next hT F.entry_zip_next ?_ (F.args_zip_next_1 _))))
 show wpAny _ _ (field (.ref z) 2 >>= _) _ _ _
 refine wpAny_bind (wpAny_field hz rfl (x:=.bool false) rfl ?_)
 show wpAny _ _ (field (.ref z) 3 >>= _) _ _ _
 refine wpAny_bind (wpAny_field hz rfl (x:=.ref TI) rfl (wpAny_bind (wpAny_seqItems hTI rfl ?_)))
 show wpAny _ _ (Builtin.SmallTypes.ownedTupleIsFree (.ref z) >>= _) _ _ _
 refine wpAny_bind ?_
 unfold Builtin.SmallTypes.ownedTupleIsFree
 refine wpAny_bind (wpAny_field hz rfl (x:=.none) rfl (wpAny_pure ?_))
 simp only[if_true]
 refine wpAny_bind (wpAny_rule (wpAny_bind (wpAny_field hz rfl (x:=.ref TO) rfl (wpAny_bind (wpAny_setField_rec hz (by simp) λu1 OL b1=>?_)))))
 replace OL:IsZip u1 z TI TO .ellipsis:=OL
 refine wpAny_bind ?_
 simp only[List.zipIdx_cons,List.zipIdx_nil,List.forIn_cons,List.forIn_nil]
 refine wpAny_bind (wpAny_bind (wpAny_onRaise ?_))
 show wpAny _ _ (Builtin.SmallTypes.nextOf (.ref i1) >>= _) _ _ _
 refine wpAny_bind (yt (h1.at λo e=>b1.extBut _ o D.i1z e) (LX.at λo e=>b1.extBut _ o D.l1z e) hx λu2 LY b2=>wpAny_pure ?_)
 have GR:IsPair u2 TO a b:=b2.extBut _ _ D.TOi1 (b1.extBut _ _ D.TOz hTO)
 refine wpAny_bind (wpAny_seqItems GR rfl (wpAny_bind (wpAny_updateSeq_pair GR λu3 LZ b3=>?_)))
 replace LZ:IsPair u3 TO x b:=LZ
 refine wpAny_bind (wpAny_letGo (wpAny_pure (wpAny_bind (wpAny_bind (wpAny_onRaise ?_)))))
 show wpAny _ _ (Builtin.SmallTypes.nextOf (.ref i2) >>= _) _ _ _
 refine wpAny_bind (yt (h2.at λo e=>b3.extBut _ o D.TOi2.symm (b2.extBut _ o D.i12.symm (b1.extBut _ o D.i2z e))) (zZ.at λo e=>b3.extBut _ o D.l2TO (b2.extBut _ o D.l2i1 (b1.extBut _ o D.l2z e))) hy λu4 h24 b4=>wpAny_pure ?_)
 have Tc:IsPair u4 TO x b:=b4.extBut _ _ D.TOi2 LZ
 refine wpAny_bind (wpAny_seqItems Tc rfl (wpAny_bind (wpAny_updateSeq_pair Tc λu5 L3 b5=>?_)))
 replace L3:IsPair u5 TO x y:=L3
 refine wpAny_bind (wpAny_letGo (wpAny_pure (wpAny_pure ?_)))
 refine wpAny_bind (wpAny_seqItems L3 rfl (wpAny_bind (wpAny_newTuple ?_)))
 have hsz:u5.objs.size=s.heap.objs.size:=by rw[b5.1,b4.1,b3.1,b2.1,b1.1]
 have ZQ:IsZip u5 z TI TO .ellipsis:=b5.extBut _ _ D.TOz.symm (b4.extBut _ _ D.i2z.symm (b3.extBut _ _ D.TOz.symm (b2.extBut _ _ D.i1z.symm OL)))
 have Dh:∀c o,c≠z->c≠TO->c≠i1->c≠i2->s.heap.get? c=some o->u5.get? c=some o:=λc o c1 c2 c3 c4 e=>b5.extBut _ _ c2 (b4.extBut _ _ c4 (b3.extBut _ _ c2 (b2.extBut _ _ c3 (b1.extBut _ _ c1 e))))
 have h15:iz q1 u5 i1 l1 (k1 + 1):=LY.at λo e=>b5.extBut _ o D.TOi1.symm (b4.extBut _ o D.i12 (b3.extBut _ o D.TOi1.symm e))
 have h25:iz q2 u5 i2 l2 (k2 + 1):=h24.at λo e=>b5.extBut _ o D.TOi2.symm e
 have hzl:z < u5.objs.size:=Heap.lt_size ZQ
 show wpAny _ _ (Builtin.SmallTypes.ownedTupleHandOut (.ref z) (.ref u5.objs.size) >>= _) _ _ _
 refine wpAny_bind ?_
 unfold Builtin.SmallTypes.ownedTupleHandOut
 have hz6:IsZip (u5.push {cls:=.type "tuple",data:=.seq #[x,y]}) z TI TO .ellipsis:=Heap.get?_push_of_some _ ZQ
 refine wpAny_bind (wpAny_setField_rec hz6 (by simp) λu7 V5 b7=>?_)
 replace V5:IsZip u7 z TI TO (rawInt u5.objs.size):=V5
 refine wpAny_setField_rec V5 (by simp) λu8 Vb b8=>?_
 replace Vb:IsZip u8 z TI TO (rawInt u5.objs.size):=Vb
 have up:∀c o,c≠z->u5.get? c=some o->u8.get? c=some o:=λc o c1 e=>b8.extBut _ _ c1 (b7.extBut _ _ c1 (Heap.get?_push_of_some _ e))
 have ZR:IsPair u8 u5.objs.size x y:=b8.extBut _ _ (Nat.ne_of_gt hzl) (b7.extBut _ _ (Nat.ne_of_gt hzl) (Heap.get?_push_size _ rfl))
 rw[hsz]at Vb ZR
 refine wpAny_pure ⟨_,rfl,wpAny_pure ?_⟩
 show Q (some (.ref u5.objs.size)) _
 rw[hsz]
 exact hQ u8 Vb (up _ _ D.TOz L3) (h15.at λo e=>up _ o D.i1z e) (h25.at λo e=>up _ o D.i2z e) ZR λc o c1 c2 c3 c4 e=>up c o c1 (Dh c o c1 c2 c3 c4 e)
theorem GS{Q:Option Value->Shared->Prop}(hh:A.handled=none)(D:ZipApart z TI TO i1 i2 l1 l2)(hz:IsZip s.heap z TI TO .none)(hTI:IsPair s.heap TI (.ref i1) (.ref i2))(hTO:IsPair s.heap TO a b)
  (h1:iz q1 s.heap i1 l1 k1) (h2:iz q2 s.heap i2 l2 k2) (LX:jt q1 s.heap l1 xs) (zZ:jt q2 s.heap l2 ys) (hend:xs[k1]?=none∨ys[k2]?=none)
  (hQ:∀h',(∀c o,c≠z->c≠TO->c≠i1->c≠i2->s.heap.get? c=some o->h'.get? c=some o)->Q none {s with heap:=h'}):wpAny (model prog w) A (pyNext (.ref z)) Q E s:=by
 have hT:s.TypeIs (.ref z) "zip":=⟨_,hz,rfl⟩
 have fin:∀(h':Heap) (e:Addr),(∀c o,c≠z->c≠TO->c≠i1->c≠i2->s.heap.get? c=some o->h'.get? c=some o)->(∃o,h'.get? e=some o/\o.cls=.type "StopIteration") ->
   wpAny (model prog w) A (do let b ← isInstance (.ref e) (.type "StopIteration");if b=true then pure none else throw (.ref e)) Q E {s with heap:=h'}:=λh' e hk ⟨o,ho,hc⟩ =>
  wpAny_bind (wpAny_isInstance (T:="StopIteration") (b:=true) ⟨o,ho,hc⟩ isSubtype_stop (wpAny_pure (hQ _ hk)))
 unfold pyNext
 refine wpAny_bind (wpAny_attempt (wpAny_callSpecial?_slot (name:=Str.ofString "__next__") hT F.slot_zip_next (wpAny_call_entry F.slot_zip_next hT F.entry_zip_next ?_ (F.args_zip_next_1 _))))
 show wpAny _ _ (field (.ref z) 2 >>= _) _ _ _
 refine wpAny_bind (wpAny_field hz rfl (x:=.bool false) rfl ?_)
 show wpAny _ _ (field (.ref z) 3 >>= _) _ _ _
 refine wpAny_bind (wpAny_field hz rfl (x:=.ref TI) rfl (wpAny_bind (wpAny_seqItems hTI rfl ?_)))
 show wpAny _ _ (Builtin.SmallTypes.ownedTupleIsFree (.ref z) >>= _) _ _ _
 refine wpAny_bind ?_
 unfold Builtin.SmallTypes.ownedTupleIsFree
 refine wpAny_bind (wpAny_field hz rfl (x:=.none) rfl (wpAny_pure ?_))
 simp only[if_true]
 refine wpAny_bind (wpAny_rule (wpAny_bind (wpAny_field hz rfl (x:=.ref TO) rfl (wpAny_bind (wpAny_setField_rec hz (by simp) λu1 OL b1=>?_)))))
 replace OL:IsZip u1 z TI TO .ellipsis:=OL
 refine wpAny_bind ?_
 simp only[List.zipIdx_cons,List.zipIdx_nil,List.forIn_cons,List.forIn_nil]
 refine wpAny_bind (wpAny_bind (wpAny_onRaise ?_))
 show wpAny _ _ (Builtin.SmallTypes.nextOf (.ref i1) >>= _) _ _ _
 cases hx:xs[k1]? with
 | none =>
  refine wpAny_bind (GQ hh (h1.at λo e=>b1.extBut _ o D.i1z e) (LX.at λo e=>b1.extBut _ o D.l1z e) hx λu2 e b2 he=>?_)
  obtain⟨oe,hoe,hce⟩:=he
  have ZS:IsZip u2 z TI TO .ellipsis:=b2 _ _ D.i1z.symm OL
  have hez:e≠z:=λx=>by subst x;rw[ZS]at hoe;cases hoe;simp at hce
  exact wpAny_setField_rec ZS (by simp) λu3 _ b3=>fin u3 e (λc o c1 _ c3 _ x=>b3.extBut _ _ c1 (b2 _ _ c3 (b1.extBut _ _ c1 x))) ⟨oe,b3.extBut _ _ hez hoe,hce⟩
 | some x =>
  have hy:ys[k2]?=none:=by rcases hend with h | h;rw[hx]at h;cases h;exact h
  refine wpAny_bind (yt (h1.at λo e=>b1.extBut _ o D.i1z e) (LX.at λo e=>b1.extBut _ o D.l1z e) hx λu2 LY b2=>wpAny_pure ?_)
  have GR:IsPair u2 TO a b:=b2.extBut _ _ D.TOi1 (b1.extBut _ _ D.TOz hTO)
  refine wpAny_bind (wpAny_seqItems GR rfl (wpAny_bind (wpAny_updateSeq_pair GR λu3 LZ b3=>?_)))
  refine wpAny_bind (wpAny_letGo (wpAny_pure (wpAny_bind (wpAny_bind (wpAny_onRaise ?_)))))
  show wpAny _ _ (Builtin.SmallTypes.nextOf (.ref i2) >>= _) _ _ _
  refine wpAny_bind (GQ hh (h2.at λo e=>b3.extBut _ o D.TOi2.symm (b2.extBut _ o D.i12.symm (b1.extBut _ o D.i2z e))) (zZ.at λo e=>b3.extBut _ o D.l2TO (b2.extBut _ o D.l2i1 (b1.extBut _ o D.l2z e))) hy λu4 e b4 he=>?_)
  obtain⟨oe,hoe,hce⟩:=he
  have ZT:IsZip u4 z TI TO .ellipsis:=b4 _ _ D.i2z.symm (b3.extBut _ _ D.TOz.symm (b2.extBut _ _ D.i1z.symm OL))
  have hez:e≠z:=λx=>by subst x;rw[ZT]at hoe;cases hoe;simp at hce
  exact wpAny_setField_rec ZT (by simp) λu5 _ b5=>fin u5 e (λc o c1 c2 c3 c4 x=>b5.extBut _ _ c1 (b4 _ _ c4 (b3.extBut _ _ c2 (b2.extBut _ _ c3 (b1.extBut _ _ c1 x))))) ⟨oe,b5.extBut _ _ hez hoe,hce⟩
theorem Aa{q:Bool}{l:Addr}{its:Array Value}{Q:Value->Shared->Prop}(hl:jt q s.heap l its)(hQ:Q (.ref s.heap.objs.size) {s with heap:=s.heap.push {cls:=.type (Tb q),data:=.fields #[.ref l,.int 0 0]}}):
  wpAny (model prog w) A (pyIter (.ref l)) Q E s:=by
 cases q with
 | true=>exact wpAny_pyIter_list hl hQ
 | false=>exact wpAny_pyIter_tuple hl hQ
theorem OM{q:Bool}{h:Heap}{it l:Addr}(e:h.get? it=some {cls:=.type (Tb q),data:=.fields #[.ref l,.int 0 0]}):iz q h it l 0:=by
 cases q<;>exact⟨_,e,rfl,rfl⟩
end
def Vc(q1:Bool)(h:Heap)(l1:Addr):Heap:=h.push {cls:=.type (Tb q1),data:=.fields #[.ref l1,.int 0 0]}
def Td(q1 q2:Bool)(h:Heap)(l1 l2:Addr):Heap:=(Vc q1 h l1).push {cls:=.type (Tb q2),data:=.fields #[.ref l2,.int 0 0]}
def Te(q1 q2:Bool)(h:Heap)(l1 l2:Addr):Heap:=(Td q1 q2 h l1 l2).push {cls:=.type "tuple",data:=.seq #[.ref h.objs.size,.ref (Vc q1 h l1).objs.size]}
def Tf(q1 q2:Bool)(h:Heap)(l1 l2:Addr):Heap:=(Te q1 q2 h l1 l2).push {cls:=.type "tuple",data:=.seq #[.none,.none]}
def Sb(q1 q2:Bool)(h:Heap)(l1 l2:Addr):Heap:=(Tf q1 q2 h l1 l2).push {cls:=.type "zip",data:=.fields #[.none,.bool false,.bool false,.ref (Td q1 q2 h l1 l2).objs.size,.ref (Te q1 q2 h l1 l2).objs.size]}
theorem B7(q1 q2:Bool)(l1 l2:Addr)(xs ys:Array Value):
  Meets (Builtin.«zip.__new__» ⟨[.type "zip",.ref l1,.ref l2],[]⟩) (λ_ R s=>jt q1 s.heap l1 xs/\jt q2 s.heap l2 ys/\R (.ok (.ret (.ref (Tf q1 q2 s.heap l1 l2).objs.size))) {s with heap:=Sb q1 q2 s.heap l1 l2}) :=
 .of_wp λprog w A R s h=>by
  obtain⟨hp,g,d,tk,os⟩:=s;obtain⟨LX,zZ,h⟩:=h
  have hsub:=sub_zip
  have hL1:jt q1 (Shared.heap ⟨hp,g,d,tk,os⟩) l1 xs:=LX
  have hL2:jt q2 (Shared.heap ⟨hp.push {cls:=.type (Tb q1),data:=.fields #[.ref l1,.int 0 0]},g,d,tk,os⟩) l2 ys:=jt.at zZ λo e=>Heap.get?_push_of_some _ e
  wp_walk using Aa hL1,Aa hL2
  exact⟨_,rfl,h⟩
section
variable {prog:Program} {w:World} {A:Around} {E:Value->Shared->Prop} {s:Shared} {q1 q2:Bool}
theorem xB{l1 l2:Addr}{xs ys:Array Value}{Q:Value->Shared->Prop}(LX:jt q1 s.heap l1 xs)(zZ:jt q2 s.heap l2 ys)
  (h:∀h',IsZip h' (s.heap.objs.size + 4) (s.heap.objs.size + 2) (s.heap.objs.size + 3) .none->IsPair h' (s.heap.objs.size + 2) (.ref s.heap.objs.size) (.ref (s.heap.objs.size + 1)) ->
   IsPair h' (s.heap.objs.size + 3) .none .none->iz q1 h' s.heap.objs.size l1 0->iz q2 h' (s.heap.objs.size + 1) l2 0->(∀c o,s.heap.get? c=some o->h'.get? c=some o)->Q (.ref (s.heap.objs.size + 4)) {s with heap:=h'}) :
  wpAny (model prog w) A (call (.type "zip") [.ref l1,.ref l2]) Q E s:=by
 refine callType_new F.called_zip (by decide) (F.typeCall_zip_2 _ _) (F.newCall_zip_2 _ _) (λobj=>F.args_object_init_3 obj _ _) F.entry_zip_new (B7 q1 q2 l1 l2 xs ys) ⟨LX,zZ,?_⟩
 have z1:(Vc q1 s.heap l1).objs.size=s.heap.objs.size + 1:=Heap.size_push ..
 have z2:(Td q1 q2 s.heap l1 l2).objs.size=s.heap.objs.size + 2:=by unfold Td;rw[Heap.size_push,z1]
 have z3:(Te q1 q2 s.heap l1 l2).objs.size=s.heap.objs.size + 3:=by unfold Te;rw[Heap.size_push,z2]
 have z4:(Tf q1 q2 s.heap l1 l2).objs.size=s.heap.objs.size + 4:=by unfold Tf;rw[Heap.size_push,z3]
 have g5:(Sb q1 q2 s.heap l1 l2).get? (Tf q1 q2 s.heap l1 l2).objs.size=some _:=Heap.get?_push_size _ rfl
 have g4:(Sb q1 q2 s.heap l1 l2).get? (Te q1 q2 s.heap l1 l2).objs.size=some _:=Heap.get?_push_of_some _ (Heap.get?_push_size _ rfl)
 have g3:(Sb q1 q2 s.heap l1 l2).get? (Td q1 q2 s.heap l1 l2).objs.size=some _:=Heap.get?_push_of_some _ (Heap.get?_push_of_some _ (Heap.get?_push_size _ rfl))
 have g2:(Sb q1 q2 s.heap l1 l2).get? (Vc q1 s.heap l1).objs.size=some _:=Heap.get?_push_of_some _ (Heap.get?_push_of_some _ (Heap.get?_push_of_some _ (Heap.get?_push_size _ rfl)))
 have g1:(Sb q1 q2 s.heap l1 l2).get? s.heap.objs.size=some _:=Heap.get?_push_of_some _ (Heap.get?_push_of_some _ (Heap.get?_push_of_some _ (Heap.get?_push_of_some _ (Heap.get?_push_size _ rfl))))
 show _/\_
 rw[z2,z3,z4]at g5
 rw[z1,z2]at g3
 rw[z3]at g4
 rw[z1]at g2
 rw[z4]
 exact⟨⟨_,g5,rfl⟩,h _ g5 g3 g4 (OM g1) (OM g2) λc o x=>Heap.get?_push_of_some _ (Heap.get?_push_of_some _ (Heap.get?_push_of_some _ (Heap.get?_push_of_some _ (Heap.get?_push_of_some _ x))))⟩
end
def uE(q:Bool)(K:av)(H:Hp)(a:Addr)(xs:List V):Prop:=match q with | true=>bc K H a xs | false=>ba K H a xs
theorem uE.heap{X:Cx}{pins:List (Addr×Obj)}{σ:St}{H:Hp}{s:Shared}{q:Bool}{a:Addr}{xs:List V}(I:Inv X pins σ H s)(h:uE q X.K H a xs):∃its:List Value,Vals xs its/\jt q s.heap a its.toArray:=by
 cases q with
 | true=>obtain⟨its,r,p,_⟩:=I.list h;exact⟨its,r,p.isList⟩
 | false=>obtain⟨its,r,p,_⟩:=I.tuple h;exact⟨its,r,p⟩
theorem jt.lt{q:Bool}{h:Heap}{a:Addr}{its:Array Value}(x:jt q h a its):a < h.objs.size:=by
 cases q<;>(obtain⟨o,ho,r⟩:=x;exact Heap.lt_size ho)
theorem iz.lt{q:Bool}{h:Heap}{it a:Addr}{i:Nat}(x:iz q h it a i):it < h.objs.size:=by
 obtain⟨o,ho,_⟩:=x.obj;exact Heap.lt_size ho
def Sd(q1 q2:Bool)(K:av)(l1 l2:Addr)(xs ys:List V):It :=
 ⟨λi H=>i < xs.length/\i < ys.length/\uE q1 K H l1 xs/\uE q2 K H l2 ys,
  λi H x H'=>∃T u v,H T=none/\x=.ref T/\H'=upd H T (.tup [u,v])/\xs[i]?=some u/\ys[i]?=some v,
  λi H=>(xs.length<=i∨ys.length<=i)/\uE q1 K H l1 xs/\uE q2 K H l2 ys⟩
theorem Ab{P:Program}{w:World}{K:av}{elts:List Expr}{kx}{pos:Pos}{q1 q2:Bool}{z TI TO i1 i2 l1 l2:Addr}(xs ys:List V)(D:ZipApart z TI TO i1 i2 l1 l2):
  Turn P w K (.Tuple elts kx pos) (Sd q1 q2 K l1 l2 xs ys) [z,TI,TO,i1,i2] z (λi h=>IsZip h z TI TO .none/\IsPair h TI (.ref i1) (.ref i2)/\(∃a b,IsPair h TO a b)/\iz q1 h i1 l1 i/\iz q2 h i2 l2 i) where
 mem:=by simp
 obj:=λi h st b hb=>by
  obtain⟨hz,hTI,⟨a,b',hTO⟩,h1,h2⟩:=st
  simp at hb
  rcases hb with e | e | e | e | e
  ·subst e;exact⟨_,hz,λv z=>by cases z⟩
  ·subst e;exact⟨_,hTI,λv z=>by cases z⟩
  ·subst e;exact⟨_,hTO,λv z=>by cases z⟩
  ·subst e;exact h1.obj
  ·subst e;exact h2.obj
 keep:=λi h h' st k=>by
  obtain⟨hz,hTI,⟨a,b',hTO⟩,h1,h2⟩:=st
  exact⟨k z (by simp) _ hz,k TI (by simp) _ hTI,⟨a,b',k TO (by simp) _ hTO⟩,h1.at λo e=>k i1 (by simp) o e,h2.at λo e=>k i2 (by simp) o e⟩
 item:=by
  intro X hP hw hK hc i pins s σ H E I hf st hg
  subst hP hw hK
  obtain⟨g1,g2,s1,s2⟩:=hg
  obtain⟨hz,hTI,⟨a,b',hTO⟩,h1,h2⟩:=st
  obtain⟨us,r1,p1⟩:=s1.heap I
  obtain⟨vs,r2,p2⟩:=s2.heap I
  obtain⟨u,hu,ru⟩:=r1.get (cV g1)
  obtain⟨v,hv,rv⟩:=r2.get (cV g2)
  refine D8 (x:=u) (y:=v) D hz hTI hTO h1 h2 p1 p2 (by simpa using hu) (by simpa using hv) λh' a1 a2 a3 a4 a5 hk=>?_
  refine⟨_,rfl,wpAny_letOwnedTupleGo_zip a1 λh'' b1 sb=>?_⟩
  have nT:∀{c o},s.heap.get? c=some o->c≠s.heap.objs.size:=λe=>Nat.ne_of_lt (Heap.lt_size e)
  have hT:IsPair h'' s.heap.objs.size u v:=sb.extBut _ _ (nT hz).symm a5
  have kk:∀c o,c∉[z,TI,TO,i1,i2]->s.heap.get? c=some o->h''.get? c=some o:=λc o hc e=>by
   simp at hc
   exact sb.extBut _ _ hc.1 (hk c o hc.1 hc.2.2.1 hc.2.2.2.1 hc.2.2.2.2 e)
  refine⟨.ref s.heap.objs.size,upd H s.heap.objs.size (.tup [xs[i],ys[i]]),I.LU hf kk (Nat.le_refl _) ⟨by show 2<=sizeLine;decide,[u,v],.cons ru (.cons rv .nil),_,hT,rfl,_,rfl⟩,rfl,⟨_,_,_,I.fresh,rfl,rfl,cV g1,cV g2⟩,?_,λb hb=>?_⟩
  ·exact⟨b1,sb.extBut _ _ D.TIz (hk _ _ D.TIz D.TITO D.TIi1 D.TIi2 hTI),⟨_,_,sb.extBut _ _ D.TOz a2⟩,a3.at λo e=>sb.extBut _ o D.i1z e,a4.at λo e=>sb.extBut _ o D.i2z e⟩
  ·rw[uN ?_]
   ·exact(hf b hb).1
   ·simp at hb
    rcases hb with e | e | e | e | e
    ·subst e;exact nT hz
    ·subst e;exact nT hTI
    ·subst e;exact nT hTO
    ·subst e;exact Nat.ne_of_lt h1.lt
    ·subst e;exact Nat.ne_of_lt h2.lt
 done:=by
  intro X hP hw hK hc i pins s σ H E I hf st hg
  subst hP hw hK
  obtain⟨g1,s1,s2⟩:=hg
  obtain⟨hz,hTI,⟨a,b',hTO⟩,h1,h2⟩:=st
  obtain⟨us,r1,p1⟩:=s1.heap I
  obtain⟨vs,r2,p2⟩:=s2.heap I
  have e1:=r1.length
  have e2:=r2.length
  refine GS (I.ok.hd hc) D hz hTI hTO h1 h2 p1 p2 ?_ λh' hk=>⟨rfl,I.LV (t':=s.toks) hf λc o hc e=>?_⟩
  ·rcases g1 with g | g
   ·exact .inl (by simp;omega)
   ·exact .inr (by simp;omega)
  ·simp at hc
   exact hk c o hc.1 hc.2.2.1 hc.2.2.2.1 hc.2.2.2.2 e
 self:=λ_ _ _ _ _ st h=>wpAny_pyIter_zip st.1 h
section
variable {X:Cx}
def V6(q1 q2:Bool)(K:av)(ta:TA):TI:=λσ H R=>ta σ H λvs H1=>∃l1 l2 xs ys,vs=[.ref l1,.ref l2]/\uE q1 K H1 l1 xs/\uE q2 K H1 l2 ys/\R (Sd q1 q2 K l1 l2 xs ys) H1
theorem PV(q1 q2:Bool){elts:List Expr}{kx}{tpos:Pos}{a b:Expr}{ta:TA}{p pos:Pos}(hg:Gl X "zip")(hm:X.mg "zip"=none)(ha:PA X [a,b] ta)(hs:starEach [a,b] X.env=[(false,eval a X.env),(false,eval b X.env)]:=by rfl)(BQ:starEach [b] X.env=[(false,eval b X.env)]:=by rfl):
  PI X (.Tuple elts kx tpos) (.Call (.Name "zip" p) [a,b] [] pos) (V6 q1 q2 X.K ta):=by
 intro pins s σ H R I h
 refine Call_ (rH I hg hm GF (PyProof.Rows.callWith_type1 (cK (ha pos pins s σ H _ I h) λus s1 ⟨vs,H1,I1,r1,q1⟩=>?_) (by rw[hs,BQ]) (by rw[BQ];rfl)))
 obtain⟨l1,l2,xs,ys,rfl,s1',s2',q⟩:=q1
 obtain⟨u1,u2,rfl,S9,Ta⟩:=vals2 r1
 cases S9
 cases Ta
 obtain⟨us1,r1,p1⟩:=s1'.heap I1
 obtain⟨vs1,r2,p2⟩:=s2'.heap I1
 have n1:=p1.lt
 have n2:=p2.lt
 refine xB p1 p2 λh' hz hTI hTO h1 h2 kk=>?_
 refine wpAny_pyIter_zip hz ?_
 refine⟨s1.heap.objs.size + 4,[s1.heap.objs.size + 4,s1.heap.objs.size + 2,s1.heap.objs.size + 3,s1.heap.objs.size,s1.heap.objs.size + 1],_,_,H1,rfl,I1.kept (t':=s1.toks) kk,Ab xs ys ⟨?_,?_,?_,?_,?_,?_,?_,?_,?_,?_,?_,?_,?_,?_,?_,?_,?_,?_⟩,⟨hz,hTI,⟨_,_,hTO⟩,h1,h2⟩,?_,q⟩
 all_goals first | exact Nat.ne_of_lt (Nat.add_lt_add_left (by decide) _) | exact Nat.ne_of_gt (Nat.add_lt_add_left (by decide) _) | exact Nat.ne_of_lt (Nat.lt_add_of_pos_right (by decide)) | exact Nat.ne_of_gt (Nat.lt_add_of_pos_right (by decide)) | exact Nat.ne_of_lt (Nat.lt_of_lt_of_le n1 (Nat.le_add_right _ _)) | exact Nat.ne_of_lt (Nat.lt_of_lt_of_le n2 (Nat.le_add_right _ _)) | exact Nat.ne_of_lt n1 | exact Nat.ne_of_lt n2 | skip
 intro c hb
 have hb':s1.heap.objs.size<=c:=by
  simp at hb
  rcases hb with e | e | e | e | e<;>(rw[e];first | exact Nat.le_refl _ | exact Nat.le_add_right _ _)
 exact I1.Gf hb' (I1.hok.fresh hb')
end
theorem L4{q1 q2:Bool}{K:av}{l1 l2:Addr}{xs ys:List V}{g:TG}{tb:TS}{D:Ends}{σ:St}{H:Hp}(n:Nat)(Pv:Nat->St->Hp->Prop)(hx:n<=xs.length)(hy:n<=ys.length)(he:xs.length<=n∨ys.length<=n)
  (h0:Pv 0 σ H) (hl:∀i σ H,i<=n->Pv i σ H->uE q1 K H l1 xs/\uE q2 K H l2 ys)
  (hs:∀i u v σ H T,xs[i]?=some u->ys[i]?=some v->i < n->Pv i σ H->H T=none->g (.ref T) σ (upd H T (.tup [u,v])) λσ2 H2=>tb {D with nx:=Pv (i + 1),ct:=Pv (i + 1),bk:=D.nx} σ2 H2) (hd:∀σ H,Pv n σ H->D.nx σ H) :
  ∃W:Nat->Nat->St->Hp->Prop,(∃m,W 0 m σ H)/\∀i m σ H,W i m σ H ->
   ((Sd q1 q2 K l1 l2 xs ys).stop i H/\D.nx σ H)∨((Sd q1 q2 K l1 l2 xs ys).go i H/\∃N:St->Hp->Prop,(∀σ' H',N σ' H'->∃m',m' < m/\W (i + 1) m' σ' H')/\∀x H',(Sd q1 q2 K l1 l2 xs ys).yld i H x H'->g x σ H' λσ2 H2=>tb {D with nx:=N,ct:=N,bk:=D.nx} σ2 H2):=by
 refine⟨λi m σ H=>m=n - i/\i<=n/\Pv i σ H,⟨n,by simp,Nat.zero_le _,h0⟩,?_⟩
 rintro i m σ H ⟨rfl,hi,p⟩
 obtain⟨p3,p4⟩:=hl i σ H hi p
 by_cases hlt:i < n
 ·refine .inr ⟨⟨by omega,by omega,p3,p4⟩,Pv (i + 1),λσ' H' p'=>⟨n - (i + 1),by omega,rfl,hlt,p'⟩,λx H' y=>?_⟩
  obtain⟨T,u,v,t1,e1,e2,t2,t3⟩:=y
  subst e1 e2
  exact hs i u v σ _ T t2 t3 hlt p t1
 ·have e:i=n:=by omega
  subst e
  exact .inl ⟨⟨he,p3,p4⟩,hd σ H p⟩
end L2
namespace L2
open PySem PySem.Spec PyProof.Rows
theorem jH{H:Hp}{p:Addr}(h:H p=none)(o:HO):aB H (upd H p o):=λb u q=>by rw[uN (nN q h)];exact q
section
variable {prog:Program} {w:World} {A:Around} {E:Value->Shared->Prop} {s:Shared}
theorem D9{t sl:Addr}{items:Array Value}{vl vu:Value}{lo hi:Option Int}{Q:Value->Shared->Prop}(ht:IsTup s.heap t items)(hs:s.heap.IsSliceOf sl vl vu .none)(pl:IsPart vl lo)(pu:IsPart vu hi)
  (hw:HT.eA items.size 0 lo=0/\HT.eA items.size items.size hi=items.size) (h:Q (.ref t) s):wpAny (model prog w) A (getItem (.ref t) (.ref sl)) Q E s:=by
 obtain⟨os,hos,hcs,hds⟩:=id hs
 have hTs:s.TypeIs (.ref sl) "slice":=⟨os,hos,hcs⟩
 unfold getItem
 try with_reducible refine wpAny_holding ?_
 first | refine wpAny_bind (wpAny_pure ?_) | skip
 refine wpAny_bind (wpAny_sequenceKey ht.typeIs (by decide) ?_)
 refine wpAny_bind (wpAny_callSpecial?_slot (name:=Str.ofString "__getitem__") ht.typeIs PyProof.Rows.slot_tuple_getitem (wpAny_call_entry PyProof.Rows.slot_tuple_getitem ht.typeIs entry_tuple_getitem ?_ (args_tuple_getitem _ _)))
 show wpAny _ _ (Builtin.Tuple.tupleItemsOf (.ref t) >>= _) _ _ s
 refine wpAny_bind (tupleItemsOf_ ht (wpAny_bind (wpAny_typeOf hTs ?_)))
 rw[if_pos (by decide)]
 refine wpAny_bind (HT.jq hs pl pu ?_)
 show wpAny _ _ (if (((HT.eA items.size 0 lo:Nat):Int) == 0&&(1:Int) == 1&&(HT.eA items.size items.size hi - HT.eA items.size 0 lo) == items.size)=true then _ else _) _ _ s
 rw[if_pos (by rw[hw.1,hw.2];simp)]
 unfold Builtin.Tuple.tupleIsExact
 refine wpAny_bind (wpAny_bind (wpAny_typeOf ht.typeIs (wpAny_pure ?_)))
 rw[if_pos (by decide)]
 exact wpAny_bind (wpAny_rule (wpAny_pure ⟨_,rfl,wpAny_pure h⟩))
end
section
variable {X:Cx}
def Tg(K:av):V->Option Int->Option Int->Hp->VK->Prop:=λx lo hi H Q=>∃a xs,x=.ref a/\ba K H a xs/\∀p H',aB H H'->ba K H' p (jr xs lo hi)->Q (.ref p) H'
theorem yu:Kw X (Tg X.K):=by
 intro pins s σ H x v vl vu lo hi sl Q I rx hs pl pu h
 obtain⟨a,xs,rfl,hx,q⟩:=h
 by_cases hw:HT.eA xs.length 0 lo=0/\HT.eA xs.length xs.length hi=xs.length
 ·cases rx
  obtain⟨its,r,ht,hz⟩:=I.tuple hx
  have hlen:its.toArray.size=xs.length:=by rw[List.size_toArray];exact r.length.symm
  refine⟨"tuple",_,PyProof.Rows.slot_tuple_getitem.lookup,ht.typeIs,D9 ht hs pl pu (by rw[hlen];exact hw) ⟨.ref a,H,I,rfl,q a H (aB.refl _) ?_⟩⟩
  have e:jr xs lo hi=xs:=by unfold jr;rw[hw.1,hw.2];simp
  rw[e];exact hx
 ·exact Px pins s σ H _ v vl vu lo hi sl Q I rx hs pl pu ⟨a,xs,rfl,hx,hw,λp hp=>q p _ (jH hp _) (ba.of uS)⟩
def ON(K:av):R2:=λx y H Q=>∃a b xs ys,x=.ref a/\y=.ref b/\ba K H a xs/\ba K H b ys/\xs.length + ys.length<=sizeLine/\∀p H',aB H H'->ba K H' p (xs++ys)->Q (.ref p) H'
theorem yv:iq X (binaryOp .Add) (ON X.K):=by
 intro pins s σ H x y v u Q I rx ry h
 obtain⟨a,b,xs,ys,rfl,rfl,ha,hb,hz,q⟩:=h
 by_cases hx:xs=[]
 ·subst hx
  cases rx
  cases ry
  obtain⟨its,r1,p1,_⟩:=I.tuple ha
  obtain⟨qr,r2,p2,_⟩:=I.tuple hb
  cases r1
  obtain⟨⟨c1,d1,e1,OK⟩,ho,hc,n,hd⟩:=id p1
  obtain⟨⟨c2,d2,e2,R9⟩,Pu,SQ,n2,hd2⟩:=id p2
  simp only at hc hd SQ hd2
  subst hc hd SQ hd2
  exact concat_meets ⟨_,ho,rfl⟩ ⟨_,Pu,rfl⟩ noFill_tuple_add seq_tuple_add PySem.F.slot_tuple_add PySem.F.entry_tuple_add (PySem.F.args_tuple_add_2 _ _)
   (tuple_addW0 a b _ qr.toArray n n2 d1 d2 OK R9 (by simp)) ⟨ho,Pu,⟨.ref b,H,I,rfl,q b H (aB.refl _) hb⟩⟩
 ·exact LF pins s σ H _ _ v u Q I rx ry ⟨a,b,xs,ys,rfl,rfl,ha,hb,hx,hz,λe=>q a H (aB.refl _) (by rw[e,List.append_nil];exact ha),λ_ p hp=>q p _ (jH hp _) (ba.of uS)⟩
end
end L2
namespace L2
open PySem PySem.Spec PyProof.Rows
structure Fly(P:Program)(w:World)(fs:List Env)(H H':Hp)(h0 B:Heap)(a:Addr)(cls a0:Value)(h:Heap):Prop where
 keep:∀b o,h0.get? b=some o->H b=none->b∉aV fs->B.get? b=some o
 there:∀b o,h0.get? b=some o->b∉aV fs->∃o',B.get? b=some o'
 slot:∀b o,h0.get? b=some o->b∈aV fs->∃sl,h.get? b=some {o with slots:=sl}
 free:∀b o,h0.get? b=some o->H b=none->H' b=none
 tups:∀b xs,H b=some (.tup xs)->H' b=some (.tup xs)
 jD:∀b o u,H b=some (.uA o u)->H' b=some (.uA o u)
 tbls:∀b ps,H b=some (.tbl ps)->∃more,H' b=some (.tbl (ps++more))
 hok:ud P w H' B
 fly:Heap.FlyingW B fs a cls a0 h
section
variable {P:Program} {w:World} {fs:List Env} {H H':Hp} {h0 B h h':Heap} {a:Addr} {cls a0:Value}
end
section
variable {P:Program} {w:World} {K:av} {mg:Str->Option Value} {base:Heap} {N:List Str} {qual:Str} {scope:Scope} {f:Addr} {cd:Value} {A:Around} {outer:List Env} {s₀:Shared} {H₀:Hp} {E:XK}
end
def Th:List Value:=[.type "ValueError",.type "Exception",.type "BaseException",.type "object"]
section
variable {X:Cx} {x:Str} {C:Addr} {E:XK} {np cpos pos:Pos}
end
end L2
namespace L2
open PySem PySem.Spec PyProof.Rows
def Ac(_i j:Int):Prop:=j≠0/\j.natAbs < 18446744073709551616
theorem Ac.ok{i j:Int}(hc:Ac i j):Builtin.divisionGoesByPylong i j=false:=by
 refine PyProof.noPylong_of_log2 ?_
 have z:j.natAbs≠0:=λz=>hc.1 (Int.natAbs_eq_zero.mp z)
 exact Nat.lt_of_lt_of_le ((Nat.log2_lt z).mpr (show j.natAbs < 2 ^ 64 from hc.2)) (by decide)
theorem GU{X:Cx}:iq X (binaryOp .FloorDiv) (rI Ac λi j=>.int (i.fdiv j)):=Lp λ_ _ _ _ _ _ _ hc q=>floordiv_int hc.1 q (.inl hc.ok)
end L2
namespace L2
open PySem PySem.Spec PyProof.Rows
section
variable {X:Cx}
end
end L2
namespace L2
open PySem PySem.Spec PyProof.Rows
theorem rP:fillsNumberSlot (.type "tuple") "mul"=pure false :=
 PySem.fillsNumberSlot_seq (id:="tuple.__mul__") (r:=some (.builtin "tuple.__rmul__")) F.slot_tuple_mul.lookup (by decide +kernel) F.slot_tuple_rmul.lookup (by decide +kernel)
theorem yw:seqRepeat? (.type "tuple")=pure (some (.builtin "tuple.__mul__")):=by
 unfold seqRepeat?
 rw[PySem.seqSlot_of (T:="tuple") (name:="__mul__") (id:="tuple.__mul__") F.slot_tuple_mul.lookup (by decide +kernel),PySem.seqSlot_of (T:="tuple") (name:="__rmul__") (id:="tuple.__rmul__") F.slot_tuple_rmul.lookup (by decide +kernel)]
 rfl
theorem yx(a:Int)(t:Tok)(l:Addr)(items:Array Value)(n:Nat)(d:Option Addr)(sl:Array (Option Value)):
  Meets (Builtin.«int.__rmul__» ⟨[.int a t,.ref l],[]⟩) (λ_ R s=>s.heap.get? l=some {cls:=.type "tuple",dict:=d,data:=.seq items n,slots:=sl}/\R (.ok (.ret Value.notImplemented)) s) :=
 .of_wp λprog w A R s h=>by obtain⟨hp,g,dd,tk,os⟩:=s;obtain⟨hl,h⟩:=h;wp_walk;exact⟨_,rfl,h⟩
theorem Ad(l:Addr)(items:Array Value)(n:Nat)(x:Int)(u:Tok)(d:Option Addr)(sl:Array (Option Value))(h1:x=1):
  Meets (Builtin.«tuple.__mul__» ⟨[.ref l,.int x u],[]⟩) (λ_ R s=>s.heap.get? l=some {cls:=.type "tuple",dict:=d,data:=.seq items n,slots:=sl}/\R (.ok (.ret (.ref l))) s) :=
 .of_wp λprog w A R s h=>by obtain⟨hp,g,dd,tk,os⟩:=s;obtain⟨hl,h⟩:=h;subst h1;wp_walk;exact⟨_,rfl,h⟩
theorem yy(l:Addr)(items:Array Value)(n:Nat)(x:Int)(u:Tok)(d:Option Addr)(sl:Array (Option Value))(c1:(decide (x < -(2 ^ 63))||decide (x ≥ 2 ^ 63))=false)(c2:(items.isEmpty||x == 1)=false)(c3:(decide (x<=0)||items.isEmpty)=true):
  Meets (Builtin.«tuple.__mul__» ⟨[.ref l,.int x u],[]⟩) (λ_ R s=>s.heap.get? l=some {cls:=.type "tuple",dict:=d,data:=.seq items n,slots:=sl}/\R (.ok (.ret (.ref s.heap.objs.size))) {s with heap:=s.heap.push {cls:=Value.type "tuple",data:=Data.seq #[]},toks:=s.toks}) :=
 .of_wp λprog w A R s h=>by
  obtain⟨hp,g,dd,tk,os⟩:=s;obtain⟨hl,h⟩:=h
  wp_walk;refine wpAny_ite_false (decide_eq_false (by rw[c1];decide)) ?_;wp_walk;exact⟨_,rfl,h⟩
theorem yz(l:Addr)(items:Array Value)(n:Nat)(x:Int)(u:Tok)(d:Option Addr)(sl:Array (Option Value))(c1:(decide (x < -(2 ^ 63))||decide (x ≥ 2 ^ 63))=false)(c2:(items.isEmpty||x == 1)=false)(c3:(decide (x<=0)||items.isEmpty)=false)(c4:¬ (items.size:Int) * x > (2 ^ 63 - 1) / 8)(c5:Builtin.Tuple.tupleTooMany ((items.size:Int) * x)=false)
  (hs:(List.foldl (λx1 x2=>x1++x2) #[] (List.replicate x.toNat items)).size<=sizeLine) :
  Meets (Builtin.«tuple.__mul__» ⟨[.ref l,.int x u],[]⟩) (λ_ R s=>s.heap.get? l=some {cls:=.type "tuple",dict:=d,data:=.seq items n,slots:=sl}/\R (.ok (.ret (.ref s.heap.objs.size))) {s with heap:=s.heap.push {cls:=Value.type "tuple",data:=Data.seq (List.foldl (λx1 x2=>x1++x2) #[] (List.replicate x.toNat items))},toks:=s.toks}) :=
 .of_wp λprog w A R s h=>by
  obtain⟨hp,g,dd,tk,os⟩:=s;obtain⟨hl,h⟩:=h
  wp_walk;refine wpAny_ite_false (decide_eq_false (by rw[c1];decide)) ?_;wp_walk;refine wpAny_ite_false (decide_eq_false c4) ?_;wp_walk;exact⟨_,rfl,h⟩
section
variable {X:Cx}
def Ti(K:av):R2:=λx y H Q=>∃a xs k,x=.ref a/\y=.int k/\ba K H a xs/\xs≠[]/\-9223372036854775808<=k/\k < 9223372036854775808/\xs.length * k.toNat<=sizeLine/\∀p H',aB H H'->ba K H' p (List.replicate k.toNat xs).flatten->Q (.ref p) H'
theorem L5:iq X (binaryOp .Mult) (Ti X.K):=by
 intro pins s σ H x y v u Q I rx ry h
 obtain⟨a,xs,k,rfl,rfl,ha,hx,h1,h2,hz,q⟩:=h
 cases rx
 obtain⟨t,rfl⟩:=ry
 obtain⟨its,r1,p1,hsz⟩:=I.tuple ha
 obtain⟨⟨c1,d1,e1,OK⟩,ho,hc,n,hd⟩:=id p1
 simp only at hc hd
 subst hc hd
 have hlen:its.toArray.size=xs.length:=by rw[List.size_toArray];exact r1.length.symm
 have b1:(decide (k < -(2 ^ 63))||decide (k ≥ 2 ^ 63))=false:=by simp;omega
 have go:wpAny (model X.prog X.w) X.A (call (.builtin "tuple.__mul__") [.ref a,.int k t]) (EP X pins σ Q) X.xe s:=by
  by_cases Se:k=1
  ·refine call_meets F.slot_tuple_mul ⟨_,ho,rfl⟩ F.entry_tuple_mul (F.args_tuple_mul_2 _ _) (Ad a its.toArray n k t d1 OK Se) ⟨ho,?_⟩
   refine⟨.ref a,H,I,rfl,q a H (aB.refl _) ?_⟩
   subst Se
   show ba X.K H a (xs++[])
   rw[List.append_nil]
   exact ha
  ·have hne:¬ its.toArray.isEmpty=true:=by
    intro z
    apply hx
    rw[Array.isEmpty_iff_size_eq_zero,hlen]at z
    exact List.length_eq_zero_iff.mp z
   have b2:(its.toArray.isEmpty||k == 1)=false:=by
    refine Bool.eq_false_iff.mpr ?_
    show ¬ _
    rw[Bool.or_eq_true]
    rintro(z | z)
    ·exact hne z
    ·exact Se (by simpa using z)
   by_cases Vd:k<=0
   ·refine call_meets F.slot_tuple_mul ⟨_,ho,rfl⟩ F.entry_tuple_mul (F.args_tuple_mul_2 _ _) (yy a its.toArray n k t d1 OK b1 b2 (by simp[Vd])) ⟨ho,?_⟩
    refine⟨.ref s.heap.objs.size,_,I.laid (t':=s.toks) (o:=.tup []) (λb ob q=>Heap.get?_push_of_some _ q) (Nat.le_refl _) ⟨by simp,[],.nil,IsTup.new _ _⟩,rfl,q _ _ (jH (I.hok.fresh (Nat.le_refl _)) _) (ba.of ?_)⟩
    rw[show k.toNat=0 by omega]
    exact uS
   ·have b3:(decide (k<=0)||its.toArray.isEmpty)=false:=by
     refine Bool.eq_false_iff.mpr ?_
     show ¬ _
     rw[Bool.or_eq_true]
     rintro(z | z)
     ·exact Vd (of_decide_eq_true z)
     ·exact hne z
    have hprod:(its.toArray.size:Int) * k=((xs.length * k.toNat:Nat):Int):=by
     rw[hlen,Int.natCast_mul,show((k.toNat:Nat):Int)=k by omega]
    have hcap:(sizeLine:Nat)<=(2 ^ 63 - 1) / 8:=by decide
    have hfold:List.foldl (λx1 x2=>x1++x2) #[] (List.replicate k.toNat its.toArray)=(List.replicate k.toNat its).flatten.toArray:=by
     have:=foldl_rep its k.toNat []
     rw[List.nil_append]at this
     exact this
    have hfl:(List.replicate k.toNat its).flatten.length=k.toNat * its.length:=len_rep its k.toNat
    have hitl:its.length=xs.length:=by rw[← hlen,List.size_toArray]
    refine call_meets F.slot_tuple_mul ⟨_,ho,rfl⟩ F.entry_tuple_mul (F.args_tuple_mul_2 _ _) (yz a its.toArray n k t d1 OK b1 b2 b3 (by rw[hprod];clear hprod;generalize xs.length * k.toNat=N at hz;omega) (by unfold Builtin.Tuple.tupleTooMany;rw[hprod];clear hprod;generalize xs.length * k.toNat=N at hz;exact decide_eq_false (by omega)) (by rw[hfold,List.size_toArray,hfl,hitl,Nat.mul_comm];exact hz)) ⟨ho,?_⟩
    rw[hfold]
    refine⟨.ref s.heap.objs.size,_,I.laid (t':=s.toks) (o:=.tup (List.replicate k.toNat xs).flatten) (λb ob q=>Heap.get?_push_of_some _ q) (Nat.le_refl _) ⟨by rw[len_rep,Nat.mul_comm];exact hz,_,r1.rep k.toNat,IsTup.new _ _⟩,rfl,q _ _ (jH (I.hok.fresh (Nat.le_refl _)) _) (ba.of uS)⟩
 exact wpAny_binaryOp_repeat_ref (T:="tuple") (U:="int") (by decide) ⟨_,ho,rfl⟩ (λs'=>typeIs_int s' k t) rP F.fills_int_mul F.slot_int_rmul yw F.slot_int_index.lookup
  (call_meets F.slot_int_rmul (typeIs_int s k t) F.entry_int_rmul (F.args_int_rmul_2 _ _) (yx k t a its.toArray n d1 OK) ⟨ho,rfl,⟨_,ho,rfl⟩,go⟩)
end
end L2
namespace L2
open PySem PySem.Spec PyProof.Rows
section
variable {X:Cx}
theorem L6{body:List Stmt}{h0:ExceptHandler}{hs:List ExceptHandler}{t:TS}{pos:Pos}(hb:∀E,wF (X.uf E) body t):PS X (.Try body (h0::hs) [] [] pos) t:=by
 intro pins s σ H D I hw
 refine wpAny_Try_except ?_
 let Et:Value->Shared->Prop:=λe s₁=>wpAny (model X.prog X.w) X.A (noteFrame e X.env) (λ_ s₂=>wpAny (model X.prog X.w) X.A (setFlight e none) (λ_ s₃=>wpAny (model X.prog X.w) X.A (handleBy e X.env (h0::hs)) (SP X pins D) X.xe s₃) X.xe s₂) X.xe s₁
 refine wpAny_mono (hb Et pins s σ H D (I.uf Et) hw) (λfl s1 h1=>?_) λ_ _ z=>z
 cases fl with
 | next =>
  obtain⟨σ',H',I',q⟩:=h1
  exact wpAny_execs_nil ⟨σ',H',I'.gu,q⟩
 | brk =>
  obtain⟨σ',H',I',q⟩:=h1
  exact⟨σ',H',I'.gu,q⟩
 | cont =>
  obtain⟨σ',H',I',q⟩:=h1
  exact⟨σ',H',I'.gu,q⟩
 | ret u =>
  obtain⟨v,σ',H',I',r,q⟩:=h1
  exact⟨v,σ',H',I'.gu,r,q⟩
end
end L2
namespace L2
open PySem PySem.Spec PyProof.Rows
section
variable {X:Cx}
def OO:V->Option Int->Option Int->Hp->VK->Prop:=λv lo hi H Q=>∃(x:Str),v=.str x/\x.length<=sizeLine/\Q (.str (Txt.slice x lo hi)) H
theorem L7:Kw X OO:=by
 intro pins s σ H x v vl vu lo hi sl Q I rx hs pl pu h
 obtain⟨x,rfl,hz,q⟩:=h
 obtain⟨t,rfl⟩:=rx
 have go:∀(l u:Option (Int×Tok)),l.map (·.1)=lo->u.map (·.1)=hi->s.heap.IsSlice sl l u none->∃T id,typeLookup (.type T) "__getitem__"=pure (some (.builtin id))/\s.TypeIs (.str x t) T/\wpAny (model X.prog X.w) X.A (getItem (.str x t) (.ref sl)) (EP X pins σ Q) X.xe s:=λl u el eu hs=>by
  subst el eu
  refine⟨"str",_,PySem.F.slot_str_getitem.lookup,typeIs_str _ _ _,wpAny_getItem_str_slice (l:=l) (u:=u) (st:=none) hs rfl (post_val_or_str ⟨Nat.le_trans (Txt.slice_le x _ _) hz,λt' k=>?_⟩)⟩
  exact⟨.str _,H,I.kept (t':=k) λ_ _ e=>e,⟨t',rfl⟩,q⟩
 cases pl with
 | none =>
  cases pu with
  | none=>exact go none none rfl rfl hs
  | int j tj=>exact go none (some (j,tj)) rfl rfl hs
 | int i ti =>
  cases pu with
  | none=>exact go (some (i,ti)) none rfl rfl hs
  | int j tj=>exact go (some (i,ti)) (some (j,tj)) rfl rfl hs
end
end L2
namespace L2
open PySem PySem.Spec PyProof.Rows PySem.W PySem.Builtin PySem.Builtin.ObjectAttr
def GV(K:Frag)(C:Addr)(bmB:List Value)(newId:String):Bool:=match K.lookup C with
 | some ⟨.type "type",_,.cls cd,sl⟩=>(match cd.mro,sl.toList with
  | .ref C'::bm,[_,_,_,_,some (.builtin n),_]=>C' == C&&n == newId&&!cd.hasDel&&tailIn K bmB bm&&nsOkIn K cd.ns&&cd.hasDict
  | _,_=>false)
 | _=>false
section
variable {prog:Program} {w:World} {A:Around} {E:Value->Shared->Prop} {K:Frag} {h:Heap} {g:Array GenState} {d:Drawn} {t:Nat} {os:OsState}
variable {nm q:Str} {C N:Addr} {bs bm bmB:List Value} {hdct:Bool} {sn:List Str} {sub:List Value} {ab:Bool} {col:Option Bool} {dd:Option Addr} {k0 k1 k2 k3 k5:Option Value} {B Bn newId nid initId inN:String} {bmN:List Value}
end
section
variable {prog:Program} {w:World} {A:Around} {K:Frag} {s:Shared} {x C:Addr} {R:Result->Shared->Prop}
end
section
variable {prog:Program} {w:World} {A:Around} {E:Value->Shared->Prop} {h:Heap} {g:Array GenState} {d:Drawn} {t:Nat} {os:OsState}
variable {nm q:Str} {C N x:Addr} {bs bm:List Value} {sn:List Str} {sub:List Value} {ab:Bool} {col:Option Bool} {dd:Option Addr} {k0 k1 k2 k3 k5:Option Value} {newId:String} {name:Str} {v:Value}
end
def XP(C e:Addr)(dx:Option Addr):Heap->Prop:=λh=>∃t0,h.get? e=some {cls:=.ref C,dict:=dx,data:=.fields #[.ref t0,.none,.none,.none,.bool false,.none]}
def XD(dx:Addr)(fs:List (Str×V)):Heap->Prop:=λh=>∃mA,h.Ns1 dx mA/\(∀f,uR (fs.lookup f) (mA f))/\Within mA (fs.map (·.1))
structure KXs(K:Frag)(C:Addr):Prop where
 sa:findIn K (.ref C) "__setattr__"=some (some (.builtin "object.__setattr__"))
 ex:GV K C Th "ValueError.__new__"=true
 mo:mroIn K C (.type "object")=some true
section
variable {X:Cx} {C a:Addr} {pins:List (Addr×Obj)} {σ:St} {H:Hp} {s:Shared} {A:Around} {E:Value->Shared->Prop} {f:Str}
end
section
variable {X:Cx} {o e value:Expr} {f:Str} {pos pos' tpos:Pos} {ta tv:TE}
end
section
variable {prog:Program} {w:World} {A:Around} {E:Value->Shared->Prop} {K:Frag} {a C:Addr} {o:Obj} {od:Option Obj} {h:Heap} {g:Array GenState} {d:Drawn} {t:Nat} {os:OsState} {name:Str} {v:Value}
end
structure MkX(K:Frag)(C f:Addr):Prop where
 ex:GV K C Th "ValueError.__new__"=true
 init:findIn K (.ref C) "__init__"=some (some (.ref f))
 fn:isFn K (.ref f)=true
 kp:keepIn K (.ref C)=true
section
variable {X:Cx} {CX:Bz} {k:Nat} {f C:Addr} {fd:FuncData} {ps:List Str} {sp:Sp} {dvs:List V} {ds:List Value} {E:XK} {x m:Str} {p pos apos:Pos} {e o:Expr} {es:List Expr} {ta:TE} {t:TA}
end
def PX(K:Frag)(fs:List Str):Sp:=λvs H Q _=>∃a C ys,vs=.ref a::ys/\ys.length=fs.length/\KXs K C/\(∀f∈fs,cW K C f)/\H a=some (.ext (XP C a none)) /\
 ∀dx,H dx=none->dx≠a->Q .non (upd (upd H dx (.ext (XD dx (fs.zip ys)))) a (.ext (XP C a (some dx))))
structure abq(P:Program)(w:World)(K:Frag)(mg:Str->Option Value)(base:Heap)(C:Addr)(fs:List Str):Prop where
 s:KXs K C
 no:∀f∈fs,cW K C f
 le:fs.length<=1000
 ini:∃f fd,MkX K C f/\bw P w K mg base aL 1 f fd ("self"::fs) (PX K fs)/\Binds K fd ("self"::fs) []
section
variable {X:Cx} {C:Addr} {fs:List Str} {x:Str} {p pos:Pos} {e:Expr} {es:List Expr} {t:TA}
end
end L2
namespace L2
open PySem PySem.Spec PyProof.Rows PySem.W
section
variable {α β:Type}
end
end L2
namespace L2
open PySem PySem.Spec PyProof.Rows PySem.W
structure ZU(h:Heap)(a C t T L:Addr):Prop where
 ne:T≠a
 ex:∃oe vs oT ts,h.get? a=some oe/\oe.cls=.ref C/\vs[0]?=some (.ref t)/\oe.data=.fields vs/\vs[1]?=some (.ref T)/\h.get? T=some oT/\oT.data=.fields ts/\ts[3]?=some (rawInt L)
section
variable {P:Program} {w:World} {K:av} {mg:Str->Option Value} {base:Heap} {N:List Str} {qual:Str} {scope:Scope} {f:Addr} {cd:Value} {A:Around} {outer:List Env} {s₀:Shared} {H₀:Hp} {E:XK}
end
section
variable {X:Cx} {pins:List (Addr×Obj)} {σ:St} {H:Hp} {s:Shared} {own:Nat} {N:List Str} {ix:List Nat} {scope:Scope} {E:XK}
end
section
variable {X:Cx} {pins:List (Addr×Obj)} {σ:St} {H:Hp} {s:Shared} {own:Nat} {N:List Str} {ix:List Nat} {scope:Scope} {E:XK}
end
end L2
namespace L2
open PySem PySem.Spec PyProof.Rows
section
variable {κ:Type} [DecidableEq κ]
end
section
variable {P:Program} {w:World} {H:Hp} {h:Heap} {a:Addr}
end
section
variable {X:Cx} {pins:List (Addr×Obj)} {σ:St} {H:Hp} {s:Shared} {a:Addr} {y v:V} {u r:Value} {o:Option V} {A:Around} {E:Value->Shared->Prop}
end
section
variable {X:Cx} {pins:List (Addr×Obj)} {σ:St} {H:Hp} {s:Shared} {a:Addr} {kvs:List (Key×V)} {k:Key} {u:Value} {A:Around} {E:Value->Shared->Prop}
end
section
variable {X:Cx} {o i e value:Expr} {pos pos' tpos:Pos} {td ty tv:TE}
end
section
variable {X:Cx} {pos:Pos}
end
end L2
namespace L2
open PySem PySem.Spec PyProof.Rows
structure bF(P:Program)(w:World)(K:av)(mg:Str->Option Value)(base:Heap)(CX:Bz)(C:Addr)(m:Str)(k:Nat)(ps:List Str)(sp:Sp):Prop where
 ex:∃(f:Addr) (fd:FuncData),bw P w K mg base CX k f fd ps sp/\Binds K fd ps []/\Meth K C m f
 cl:DY K C
structure Ea(P:Program)(w:World)(K:av)(mg:Str->Option Value)(base:Heap)(CX:Bz)(C:Addr)(x:Str)(k:Nat)(ps:List Str)(sp:Sp):Prop where
 ex:∃(f:Addr) (fd:FuncData),bw P w K mg base CX k f fd ps sp/\Binds K fd ps []/\Mk K C f/\mg x=some (.ref C)
section
variable {X:Cx} {x m:Str} {k:Nat} {ps:List Str} {sp:Sp} {o e:Expr} {es:List Expr} {ta:TE} {t:TA} {p pos apos:Pos} {C:Addr} {CX:Bz} {E:XK} {pl:Sem Bool}
theorem bS(he:PE X o ta)(h:bF X.prog X.w X.K X.mg X.base CX C m k ps sp)(hx:Passes CX X E)(hr:dU k X.A)(ha:PA X (e::es) t)
  (hst:starEach (e::es) X.env=(false,eval e X.env)::starEach es X.env:=by rfl) (hpl:(backTo pos (starEach es X.env)).any (·.1)=false:=by rfl)
  (ht:eval (.Call (.Attribute o m apos) (e::es) [] pos) X.env=(do
   let ov ← eval o X.env
   standAt apos.atName
   let (f,first) ← holding [ov] (getMethod ov m pl)
   callWith pos f first (backTo pos (starEach (e::es) X.env)) (backToKw pos (keywordEach [] X.env))):=by rfl) :
  PE X (.Call (.Attribute o m apos) (e::es) [] pos) (xr C m sp [] E ta t):=by
 obtain⟨f,fd,F,b,M⟩:=h.ex
 exact LA he h.cl M F hr b .nil hx ha hst hpl ht
theorem yA(he:PE X o ta)(h:bF X.prog X.w X.K X.mg X.base CX C m k ps sp)(hx:Passes CX X E)(hr:dU k X.A)
  (ht:eval (.Call (.Attribute o m apos) [] [] pos) X.env=(do
   let ov ← eval o X.env
   standAt apos.atName
   let (f,first) ← holding [ov] (getMethod ov m pl)
   callWith pos f first (backTo pos (starEach [] X.env)) (backToKw pos (keywordEach [] X.env))):=by rfl) :
  PE X (.Call (.Attribute o m apos) [] [] pos) (xr C m sp [] E ta Ly):=by
 obtain⟨f,fd,F,b,M⟩:=h.ex
 exact Gs he h.cl M F hr b .nil hx ht
theorem OP(h:Ea X.prog X.w X.K X.mg X.base CX C x k ps sp)(hx:Passes CX X E)(hr:dU (k + 1) X.A)(hg:Gl X x)(ha:PA X (e::es) t)(hdb:(x == ("__debug__" : Str))=false:=by decide)
  (he:starEach (e::es) X.env=(false,eval e X.env)::starEach es X.env:=by rfl) (hpl:(backTo pos (starEach es X.env)).any (·.1)=false:=by rfl) :
  PE X (.Call (.Name x p) (e::es) [] pos) (OH C sp [] E t):=by
 obtain⟨f,fd,F,b,M,m⟩:=h.ex
 exact LB M F hr hg m b .nil hx ha hdb he hpl
end
end L2
namespace L2
open PySem PySem.Spec PyProof.Rows
theorem Sf{X:Cx}{st:Stmt}{rest:List Stmt}{t:TS}{D:Ends}{σ:St}{H:Hp}(h:PS X st t)(k:∀R:St->Hp->Prop,(∀σ' H',(∃u,wF X rest u/\u D σ' H')->R σ' H')->t {D with nx:=R} σ H):∃v,wF X (st::rest) v/\v D σ H :=
 ⟨Ga t (λD σ H=>∃u,wF X rest u/\u D σ H),qK h (λpins s σ H D I ⟨_,hu,q⟩=>hu pins s σ H D I q),k _ λ_ _ x=>x⟩
theorem goE{X:Cx}{st:Stmt}{t:TS}{D:Ends}{σ:St}{H:Hp}(h:PS X st t)(k:t D σ H):∃v,wF X [st] v/\v D σ H:=⟨_,qO h,k⟩
structure PEv(X:Cx)(e:Expr)(t:TE):Prop where
 h:PE X e t
theorem yB{X:Cx}{i:Nat}{x:Str}{e:Expr}{pos pos':Pos}{tl:TE}(hN:X.N.Nodup)(hi:X.N[i]?=some x)(hx:Loc X.env.scope x)(he:PE X e tl)(hsw:swapsWith e (some (.Name x pos')) pos.line X.env=pure false)(hf:X.fn x=true∨X.env.scope.names.lookup x=some .local):PS X (.Assign [.Name x pos'] e pos) (Gd tl (sP i)):=bf hN hi hx he hsw hf
end L2
namespace L2
open PySem PySem.Spec PyProof.Rows
def xC(P:Addr->Prop)(H HX:Hp):Prop:=∀c o,¬ P c->H c=some o->HX c=some o
open Classical in
noncomputable def cutH (P:Addr->Prop) (H:Hp):Hp:=λc=>if P c then none else H c
theorem aX{P:Addr->Prop}{H:Hp}{c:Addr}{o:HO}:cutH P H c=some o↔¬ P c/\H c=some o:=by
 unfold cutH
 by_cases h:P c
 ·rw[if_pos h];exact⟨(λz=>nomatch z),(λz=>absurd h z.1)⟩
 ·rw[if_neg h];exact⟨λz=>⟨h,z⟩,λz=>z.2⟩
theorem dj{P:Addr->Prop}{H:Hp}:aB (cutH P H) H:=λ_ _ e=>(aX.mp e).2
def aP(K:av)(P:Addr->Prop)(H:Hp)(v:V)(d:PyData):Prop:=aS K (cutH P H) v d
theorem xC.refl{P:Addr->Prop}{H:Hp}:xC P H H:=λ_ _ _ e=>e
theorem xC.of{P:Addr->Prop}{H H':Hp}(s:aB H H'):xC P H H':=λc o _ e=>s c o e
theorem aP.now{K:av}{P:Addr->Prop}{H:Hp}{v:V}{d:PyData}(h:aP K P H v d):aS K H v d:=aS.same dj h
theorem nU{P P':Addr->Prop}{H H':Hp}(s:∀c o,¬ P c->H c=some o->¬ P' c/\H' c=some o):aB (cutH P H) (cutH P' H'):=λc o e=>by
 obtain⟨h1,h2⟩:=aX.mp e
 exact aX.mpr (s c o h1 h2)
theorem aP.sub{K:av}{P P':Addr->Prop}{H:Hp}{v:V}{d:PyData}(h:aP K P H v d)(s:∀c,P' c->P c):aP K P' H v d:=aS.same (nU λc o n e=>⟨λz=>n (s c z),e⟩) h
theorem aP.same{K:av}{P:Addr->Prop}{H H':Hp}{v:V}{d:PyData}(h:aP K P H v d)(s:aB H H'):aP K P H' v d:=aS.same (nU λc o n e=>⟨n,s c o e⟩) h
inductive DV where
 | dat (d:PyData) | ref (k:Nat)
def oS(o:HO):Prop:=(∃xs,o=.lst xs)∨∃C dx fs,o=.ins C dx fs
structure Ob where
 lies:av->(Addr->Prop)->Hp->List Addr->Prop
 keep:∀K P H fp P' H',lies K P H fp->(∀c,P c->∃o,H c=some o/\oS o)->(∀a∈fp,∀o,H a=some o->H' a=some o)->aB (cutH P H) (cutH P' H')->lies K P' H' fp
 mu:∀K P H fp,lies K P H fp->∀a∈fp,∃o,H a=some o/\oS o
inductive Ce where
 | live (ds:List PyData) | froz (ds:List PyData) | deep (xs:List DV) | obj (o:Ob)
@[reducible] def Ce.lv:Ce->Bool
 | .froz _=>false
 | _=>true
abbrev cz:=List (Option DV)
abbrev aQ:=List Ce
def Lv(al:List (List Addr))(st:aQ):Addr->Prop:=λc=>∃(k:Nat) (fp:List Addr) (ce:Ce),al[k]?=some fp/\c∈fp/\st[k]?=some ce/\ce.lv=true
def Fb(G:Addr->Prop)(al:List (List Addr))(st:aQ):Addr->Prop:=λc=>G c∨Lv al st c
def kP(K:av)(P:Addr->Prop)(H:Hp)(al:List (List Addr))(v:V):DV->Prop
 | .dat d=>aP K P H v d
 | .ref k=>∃a r,al[k]?=some (a::r)/\v=.ref a
def df{α:Type}(R:V->α->Prop)(ys:List V)(xs:List α):Prop:=ys.length=xs.length/\∀(i:Nat) y x,ys[i]?=some y->xs[i]?=some x->R y x
def L8(K:av)(P:Addr->Prop)(H:Hp)(al:List (List Addr))(fp:List Addr):Ce->Prop
 | .live xs=>∃a ys,fp=[a]/\H a=some (.lst ys)/\df (aP K P H) ys xs
 | .froz ds=>∃a,fp=[a]/\aP K P H (.ref a) (.list ds)
 | .deep xs=>∃a ys,fp=[a]/\H a=some (.lst ys)/\df (kP K P H al) ys xs
 | .obj o=>fp≠[]/\o.lies K P H fp
structure DI(K:av)(H0:Hp)(A0:Addr->Prop)(G:Addr->Prop)(al:List (List Addr))(H:Hp)(st:aQ):Prop where
 len:al.length=st.length
 nd:al.flatten.Nodup
 ok:∀a∈al.flatten,∃o,H a=some o
 cel:∀(k:Nat) fp c,al[k]?=some fp->st[k]?=some c->L8 K (Fb G al st) H al fp c
 fr:xC A0 H0 H
 nw:∀a∈al.flatten,A0 a∨H0 a=none
 gd:∀a∈al.flatten,¬ G a
 gs:∀c,G c->∃o,H c=some o/\oS o
def ui(K:av)(P:Addr->Prop)(H:Hp)(al:List (List Addr))(s:St)(env:cz):Prop:=s.length=env.length/\∀(i:Nat) dv,env[i]?=some (some dv)->∃v,s[i]?=some (some v)/\kP K P H al v dv
structure Ext(al:List (List Addr))(H:Hp)(st:aQ)(al':List (List Addr))(H':Hp)(st':aQ):Prop where
 keep:xC (Lv al st) H H'
 pre:∀(k:Nat) a r,al[k]?=some (a::r)->∃r',al'[k]?=some (a::r')
 nws:∀c∈al'.flatten,c∈al.flatten∨H c=none
 lv:∀c,Lv al' st' c->Lv al st c∨H c=none
theorem Ext.refl{al:List (List Addr)}{H:Hp}{st:aQ}:Ext al H st al H st:=⟨.refl,λ_ _ r h=>⟨r,h⟩,λ_ h=>.inl h,λ_ h=>.inl h⟩
theorem Ext.free{al al':List (List Addr)}{H H':Hp}{st st':aQ}(e:Ext al H st al' H' st'){c:Addr}(h:H' c=none)(hl:¬ Lv al st c):H c=none:=by
 cases q:H c with
 | none=>rfl
 | some o=>rw[e.keep c o hl q]at h;cases h
theorem iA{al:List (List Addr)}{k:Nat}{fp:List Addr}{a:Addr}(h:al[k]?=some fp)(ha:a∈fp):a∈al.flatten:=List.mem_flatten.mpr ⟨fp,List.mem_of_getElem? h,ha⟩
theorem Lv.mem{al:List (List Addr)}{st:aQ}{c:Addr}(h:Lv al st c):c∈al.flatten:=by
 obtain⟨k,fp,ce,h1,h2,_⟩:=h
 exact iA h1 h2
theorem kW:∀{al:List (List Addr)},al.flatten.Nodup->∀{i j:Nat} {f g:List Addr} {a:Addr},al[i]?=some f->al[j]?=some g->a∈f->a∈g->i=j
 | [],_,i,j,f,g,a,h1,_,_,_=>by simp at h1
 | x::r,nd,i,j,f,g,a,h1,h2,m1,m2=>by
  rw[List.flatten_cons,List.nodup_append]at nd
  cases i with
  | zero =>
   cases j with
   | zero=>rfl
   | succ j =>
    simp at h1 h2
    subst h1
    exact absurd rfl (nd.2.2 a m1 a (iA h2 m2))
  | succ i =>
   cases j with
   | zero =>
    simp at h1 h2
    subst h2
    exact absurd rfl (nd.2.2 a m2 a (iA h1 m1))
   | succ j =>
    simp at h1 h2
    exact congrArg (· + 1) (kW nd.2.1 h1 h2 m1 m2)
section
variable {K:av} {H0:Hp} {A0:Addr->Prop} {G:Addr->Prop} {al bO iB:List (List Addr)} {H H1 H2:Hp} {st aJ dQ:aQ}
theorem Ext.trans(I1:DI K H0 A0 G bO H1 aJ)(a:Ext al H st bO H1 aJ)(b:Ext bO H1 aJ iB H2 dQ):Ext al H st iB H2 dQ:=by
 refine⟨λc o n e=>b.keep c o (λz=>?_) (a.keep c o n e),λk x r h=>?_,λc hc=>?_,λc hc=>?_⟩
 ·rcases a.lv c z with y | y
  ·exact n y
  ·rw[y]at e;cases e
 ·obtain⟨r1,h1⟩:=a.pre k x r h
  exact b.pre k x r1 h1
 ·rcases b.nws c hc with z | z
  ·exact a.nws c z
  ·by_cases w:Lv al st c
   ·exact .inl w.mem
   ·exact .inr (a.free z w)
 ·rcases b.lv c hc with z | z
  ·exact a.lv c z
  ·by_cases w:Lv al st c
   ·exact .inl w
   ·exact .inr (a.free z w)
theorem eU{G1:Addr->Prop}(g:∀c,G1 c->G c∨H c=none)(e:Ext al H st bO H1 aJ):aB (cutH (Fb G al st) H) (cutH (Fb G1 bO aJ) H1):=nU λc o n q=>by
 refine⟨λz=>?_,e.keep c o (λw=>n (.inr w)) q⟩
 rcases z with z | z
 ·rcases g c z with w | w
  ·exact n (.inl w)
  ·rw[w]at q;cases q
 ·rcases e.lv c z with w | w
  ·exact n (.inr w)
  ·rw[w]at q;cases q
theorem aP.kG{G1:Addr->Prop}{v:V}{d:PyData}(h:aP K (Fb G al st) H v d)(g:∀c,G1 c->G c∨H c=none)(e:Ext al H st bO H1 aJ):aP K (Fb G1 bO aJ) H1 v d:=aS.same (eU g e) h
theorem aP.ext{v:V}{d:PyData}(h:aP K (Fb G al st) H v d)(e:Ext al H st bO H1 aJ):aP K (Fb G bO aJ) H1 v d:=h.kG (λ_ z=>.inl z) e
theorem kP.d{P:Addr->Prop}{v:V}{d:PyData}(h:aP K P H v d):kP K P H al v (.dat d):=h
theorem kP.kG{G1:Addr->Prop}{v:V}{dv:DV}(h:kP K (Fb G al st) H al v dv)(g:∀c,G1 c->G c∨H c=none)(e:Ext al H st bO H1 aJ):kP K (Fb G1 bO aJ) H1 bO v dv:=by
 cases dv with
 | dat d=>exact aP.kG h g e
 | ref k =>
  obtain⟨a,r,h1,h2⟩:=h
  obtain⟨r',h3⟩:=e.pre k a r h1
  exact⟨a,r',h3,h2⟩
theorem kP.ext{v:V}{dv:DV}(h:kP K (Fb G al st) H al v dv)(e:Ext al H st bO H1 aJ):kP K (Fb G bO aJ) H1 bO v dv:=h.kG (λ_ z=>.inl z) e
theorem df.imp{α:Type}{R R':V->α->Prop}{ys:List V}{xs:List α}(h:df R ys xs)(f:∀y x,R y x->R' y x):df R' ys xs:=⟨h.1,λi y x a b=>f y x (h.2 i y x a b)⟩
theorem df.nil{α:Type}{R:V->α->Prop}:df R [] []:=⟨rfl,λi y x h=>by simp at h⟩
theorem df.cons{α:Type}{R:V->α->Prop}{y:V}{x:α}{ys:List V}{xs:List α}(h:R y x)(r:df R ys xs):df R (y::ys) (x::xs):=⟨by simp[r.1],λi a b h1 h2=>by
 cases i with
 | zero=>simp at h1 h2;subst h1;subst h2;exact h
 | succ i=>exact r.2 i a b (by simpa using h1) (by simpa using h2)⟩
theorem df.append{α:Type}{R:V->α->Prop}{ys zs:List V}{xs us:List α}(h:df R ys xs)(h':df R zs us):df R (ys++zs) (xs++us):=by
 refine⟨by simp[h.1,h'.1],λj z u hz hu=>?_⟩
 by_cases hj:j < ys.length
 ·rw[List.getElem?_append_left hj]at hz
  rw[List.getElem?_append_left (by rw[← h.1];exact hj)]at hu
  exact h.2 j z u hz hu
 ·rw[List.getElem?_append_right (by omega)]at hz
  rw[List.getElem?_append_right (by rw[← h.1];omega),← h.1]at hu
  exact h'.2 _ z u hz hu
theorem df.take{α:Type}{R:V->α->Prop}{ys:List V}{xs:List α}(h:df R ys xs)(n:Nat):df R (ys.take n) (xs.take n):=by
 refine⟨by rw[List.length_take,List.length_take,h.1],λj y k hy hk=>?_⟩
 have hj:j < (ys.take n).length:=(bN hy).1
 rw[List.length_take]at hj
 rw[List.getElem?_take_of_lt (by omega)]at hy hk
 exact h.2 _ y k hy hk
theorem df.drop{α:Type}{R:V->α->Prop}{ys:List V}{xs:List α}(h:df R ys xs)(n:Nat):df R (ys.drop n) (xs.drop n):=by
 refine⟨by rw[List.length_drop,List.length_drop,h.1],λj y k hy hk=>?_⟩
 rw[List.getElem?_drop]at hy hk
 exact h.2 _ y k hy hk
theorem df.at{α:Type}{R:V->α->Prop}{ys:List V}{xs:List α}(h:df R ys xs){i:Nat}{x:α}(hx:xs[i]?=some x):∃y,ys[i]?=some y/\R y x:=by
 have hi:i < ys.length:=by rw[h.1];exact(bN hx).1
 exact⟨ys[i],cV hi,h.2 i _ x (cV hi) hx⟩
theorem df.map{α β:Type}{R:V->β->Prop}{f:α->β}{ys:List V}{xs:List α}(h:df (λy x=>R y (f x)) ys xs):df R ys (xs.map f):=by
 refine⟨by rw[List.length_map];exact h.1,λi y x hy hx=>?_⟩
 rw[List.getElem?_map]at hx
 cases e:xs[i]? with
 | none=>rw[e]at hx;cases hx
 | some u=>rw[e]at hx;cases hx;exact h.2 i y u hy e
theorem ui.kG{G1:Addr->Prop}{s:St}{env:cz}(h:ui K (Fb G al st) H al s env)(g:∀c,G1 c->G c∨H c=none)(e:Ext al H st bO H1 aJ):ui K (Fb G1 bO aJ) H1 bO s env:=⟨h.1,λi dv hi=>by
 obtain⟨v,h1,h2⟩:=h.2 i dv hi
 exact⟨v,h1,h2.kG g e⟩⟩
theorem ui.ext{s:St}{env:cz}(h:ui K (Fb G al st) H al s env)(e:Ext al H st bO H1 aJ):ui K (Fb G bO aJ) H1 bO s env:=h.kG (λ_ z=>.inl z) e
theorem ui.set{P:Addr->Prop}{s:St}{env:cz}{v:V}{dv:DV}(h:ui K P H al s env)(hv:kP K P H al v dv)(i:Nat):ui K P H al (s.set i (some v)) (env.set i (some dv)):=by
 refine⟨by rw[List.length_set,List.length_set];exact h.1,λj u hu=>?_⟩
 rw[List.getElem?_set]at hu
 by_cases hj:i=j
 ·subst hj
  rw[if_pos rfl]at hu
  split at hu
  ·rename_i hl
   cases hu
   exact⟨v,by rw[List.getElem?_set_self (by rw[h.1];exact hl)],hv⟩
  ·cases hu
 ·rw[if_neg hj]at hu
  obtain⟨w,h1,h2⟩:=h.2 j u hu
  exact⟨w,by rw[List.getElem?_set_ne hj];exact h1,h2⟩
theorem aP.dI{P:Addr->Prop}{v:V}{ds:List PyData}(h:aP K P H v (.list ds)):∃(a:Addr) (ys:List V),v=.ref a/\bc K H a ys/\bc K (cutH P H) a ys/\df (aP K P H) ys ds:=by
 have h:aS K (cutH P H) v (.list ds):=h
 cases h with
 | lst hS hl hi=>exact⟨_,_,rfl,dj.seq hS,hS,hl,hi⟩
theorem aP.bX{P:Addr->Prop}{v:V}{ds:List PyData}(h:aP K P H v (.tuple ds)):∃(a:Addr) (ys:List V),v=.ref a/\ba K H a ys/\ba K (cutH P H) a ys/\df (aP K P H) ys ds:=by
 have h:aS K (cutH P H) v (.tuple ds):=h
 cases h with
 | tup hS hl hi=>exact⟨_,_,rfl,dj.tup hS,hS,hl,hi⟩
theorem aP.aM{P:Addr->Prop}{v:V}{i:Int}(h:aP K P H v (.int i)):v=.int i:=by
 have h:aS K (cutH P H) v (.int i):=h
 cases h;rfl
theorem aP.dk{P:Addr->Prop}{v:V}{i:Str}(h:aP K P H v (.str i)):v=.str i:=by
 have h:aS K (cutH P H) v (.str i):=h
 cases h;rfl
theorem aP.oA{P:Addr->Prop}{v:V}{i:Bool}(h:aP K P H v (.bool i)):v=.bl i:=by
 have h:aS K (cutH P H) v (.bool i):=h
 cases h;rfl
theorem aP.jI{P:Addr->Prop}{v:V}(h:aP K P H v .none):v=.non:=by
 have h:aS K (cutH P H) v .none:=h
 cases h;rfl
theorem aP.lst{P:Addr->Prop}{a:Addr}{ys:List V}{ds:List PyData}(n:¬ P a)(h:H a=some (.lst ys))(r:df (aP K P H) ys ds):aP K P H (.ref a) (.list ds):=aS.lst (bc.of (aX.mpr ⟨n,h⟩)) r.1 r.2
theorem aP.tup{P:Addr->Prop}{a:Addr}{ys:List V}{ds:List PyData}(n:¬ P a)(h:H a=some (.tup ys))(r:df (aP K P H) ys ds):aP K P H (.ref a) (.tuple ds):=aS.tup (ba.of (aX.mpr ⟨n,h⟩)) r.1 r.2
theorem Ext.same(s:aB H H1):Ext al H st al H1 st:=⟨.of s,λ_ _ r h=>⟨r,h⟩,λ_ z=>.inl z,λ_ z=>.inl z⟩
theorem Ext.new{a:Addr}{o:HO}(h:H a=none):Ext al H st al (upd H a o) st:=.same λc p e=>by rw[uN (nN e h)];exact e
theorem L8.kG{G1:Addr->Prop}{fp:List Addr}{c:Ce}(h:L8 K (Fb G al st) H al fp c)(g:∀c,G1 c->G c∨H c=none)(e:Ext al H st bO H1 aJ)(hP:∀c,Fb G al st c->∃o,H c=some o/\oS o)(k:c.lv=true->∀a∈fp,∀o,H a=some o->H1 a=some o):L8 K (Fb G1 bO aJ) H1 bO fp c:=by
 cases c with
 | live xs =>
  obtain⟨a,ys,h0,h1,h2⟩:=h
  exact⟨a,ys,h0,k rfl a (by rw[h0];exact List.mem_singleton.mpr rfl) _ h1,h2.imp λy x z=>aP.kG z g e⟩
 | froz ds =>
  obtain⟨a,h0,h1⟩:=h
  exact⟨a,h0,aP.kG h1 g e⟩
 | deep xs =>
  obtain⟨a,ys,h0,h1,h2⟩:=h
  exact⟨a,ys,h0,k rfl a (by rw[h0];exact List.mem_singleton.mpr rfl) _ h1,h2.imp λy x z=>kP.kG z g e⟩
 | obj o=>exact⟨h.1,o.keep _ _ _ _ _ _ h.2 hP (k rfl) (eU g e)⟩
theorem L8.ext{fp:List Addr}{c:Ce}(h:L8 K (Fb G al st) H al fp c)(e:Ext al H st bO H1 aJ)(hP:∀c,Fb G al st c->∃o,H c=some o/\oS o)(k:c.lv=true->∀a∈fp,∀o,H a=some o->H1 a=some o):L8 K (Fb G bO aJ) H1 bO fp c:=h.kG (λ_ z=>.inl z) e hP k
theorem DI.wJ(I:DI K H0 A0 G al H st){c:Addr}(h:Fb G al st c):∃o,H c=some o/\oS o:=by
 rcases h with h | ⟨k,fp,ce,h1,h2,h3,h4⟩
 ·exact I.gs c h
 ·have z:=I.cel k fp ce h1 h3
  cases ce with
  | live xs=>obtain⟨a,ys,rfl,g,_⟩:=z;rw[bJ h2];exact⟨_,g,.inl ⟨_,rfl⟩⟩
  | froz ds=>cases h4
  | deep xs=>obtain⟨a,ys,rfl,g,_⟩:=z;rw[bJ h2];exact⟨_,g,.inl ⟨_,rfl⟩⟩
  | obj o=>exact o.mu _ _ _ _ z.2 c h2
theorem DI.same(I:DI K H0 A0 G al H st)(s:aB H H1):DI K H0 A0 G al H1 st:=⟨I.len,I.nd,(λa ha=>by obtain⟨o,e⟩:=I.ok a ha;exact⟨o,s _ _ e⟩),(λk a c h1 h2=>(I.cel k a c h1 h2).ext (.same s) (λc hc=>I.wJ hc) λ_ a _ o e=>s _ _ e),(λc o n e=>s c o (I.fr c o n e)),I.nw,I.gd,(λc hc=>by obtain⟨o,e,m⟩:=I.gs c hc;exact⟨o,s _ _ e,m⟩)⟩
theorem DI.new(I:DI K H0 A0 G al H st){a:Addr}{o:HO}(h:H a=none):DI K H0 A0 G al (upd H a o) st:=I.same λc p e=>by rw[uN (nN e h)];exact e
theorem DI.OQ(I:DI K H0 A0 G al H st){a:Addr}(h:H a=none):¬ Fb G al st a:=by
 intro z
 rcases z with z | z
 ·obtain⟨o,e,_⟩:=I.gs a z;rw[h]at e;cases e
 ·obtain⟨o,e⟩:=I.ok a z.mem;rw[h]at e;cases e
theorem DI.Tj(I':DI K H0 A0 G al H1 st){a:Addr}(h:H a=none)(s:aB H H1)(I:DI K H0 A0 G al H st):¬ Fb G al st a:=I.OQ h
theorem DI.n0(I:DI K H0 A0 G al H st){a:Addr}(h:H a=none):A0 a∨H0 a=none:=by
 cases q:H0 a with
 | none=>exact .inr rfl
 | some o =>
  by_cases w:A0 a
  ·exact .inl w
  ·rw[I.fr a o w q]at h;cases h
theorem DI.freeze(I:DI K H0 A0 G al H st){k:Nat}{fp:List Addr}{ds:List PyData}(ha:al[k]?=some fp)(hs:st[k]?=some (.live ds)):∃a,fp=[a]/\Ext al H st al H (st.set k (.froz ds))/\DI K H0 A0 G al H (st.set k (.froz ds))/\aP K (Fb G al (st.set k (.froz ds))) H (.ref a) (.list ds):=by
 have hk:=(bN hs).1
 have E:Ext al H st al H (st.set k (.froz ds)):=⟨.refl,λ_ _ r h=>⟨r,h⟩,λ_ z=>.inl z,λc ⟨j,f,ce,h1,h2,h3,h4⟩=>by
  by_cases e:k=j
  ·subst e;rw[List.getElem?_set_self hk]at h3;cases h3;cases h4
  ·rw[List.getElem?_set_ne e]at h3;exact .inl ⟨j,f,ce,h1,h2,h3,h4⟩⟩
 obtain⟨a,ys,rfl,g1,g2⟩:=I.cel k fp _ ha hs
 have na:¬ Fb G al (st.set k (.froz ds)) a:=λz=>by
  rcases z with z | ⟨j,f,ce,h1,h2,h3,h4⟩
  ·exact I.gd a (iA ha (List.mem_singleton.mpr rfl)) z
  ·have:=kW I.nd ha h1 (List.mem_singleton.mpr rfl) h2
   subst this
   rw[List.getElem?_set_self hk]at h3;cases h3;cases h4
 have F:aP K (Fb G al (st.set k (.froz ds))) H (.ref a) (.list ds):=.lst na g1 (g2.imp λy x z=>aP.ext z E)
 refine⟨a,rfl,E,⟨by rw[List.length_set];exact I.len,I.nd,I.ok,λj b c h1 h2=>?_,I.fr,I.nw,I.gd,I.gs⟩,F⟩
 by_cases e:k=j
 ·subst e
  rw[List.getElem?_set_self hk]at h2
  rw[ha]at h1
  cases h1;cases h2
  exact⟨a,rfl,F⟩
 ·rw[List.getElem?_set_ne e]at h2
  exact(I.cel j b c h1 h2).ext E (λc hc=>I.wJ hc) λ_ _ _ o q=>q
theorem DI.more(I:DI K H0 A0 G al H st){fp:List Addr}{c:Ce}(fr:∀a∈fp,H a=none)(nd:fp.Nodup)(s:aB H H1)(ok:∀a∈fp,∃o,H1 a=some o)(hc:L8 K (Fb G (al++[fp]) (st++[c])) H1 (al++[fp]) fp c):Ext al H st (al++[fp]) H1 (st++[c])/\DI K H0 A0 G (al++[fp]) H1 (st++[c]):=by
 have nal:∀a∈fp,a∉al.flatten:=λa ha z=>by obtain⟨o,e⟩:=I.ok a z;rw[fr a ha]at e;cases e
 have mem:∀c∈(al++[fp]).flatten,c∈al.flatten∨c∈fp:=λc hc=>by
  rw[List.flatten_append,List.flatten_singleton]at hc
  exact List.mem_append.mp hc
 have E:Ext al H st (al++[fp]) H1 (st++[c]):=⟨.of s,λk a r h=>⟨r,by rw[List.getElem?_append_left (bN h).1];exact h⟩,λc hc=>by
   rcases mem c hc with z | z
   ·exact .inl z
   ·exact .inr (fr c z),λc ⟨j,f,ce,h1,h2,h3,h4⟩=>by
  by_cases e:j < al.length
  ·rw[List.getElem?_append_left e]at h1
   rw[List.getElem?_append_left (by rw[← I.len];exact e)]at h3
   exact .inl ⟨j,f,ce,h1,h2,h3,h4⟩
  ·rw[List.getElem?_append_right (by omega)]at h1
   have:=List.mem_of_getElem? h1
   rw[bJ this]at h2
   exact .inr (fr c h2)⟩
 refine⟨E,⟨by simp[I.len],?_,λc hc=>?_,λj b c' h1 h2=>?_,λc o n e=>s c o (I.fr c o n e),λc hc=>?_,λc hc=>?_,λc hc=>?_⟩⟩
 ·rw[List.flatten_append,List.flatten_singleton,List.nodup_append]
  exact⟨I.nd,nd,λx hx y hy z=>nal y hy (z ▸ hx)⟩
 ·rcases mem c hc with z | z
  ·obtain⟨o,e⟩:=I.ok c z
   exact⟨o,s _ _ e⟩
  ·exact ok c z
 ·by_cases e:j < al.length
  ·rw[List.getElem?_append_left e]at h1
   rw[List.getElem?_append_left (by rw[← I.len];exact e)]at h2
   exact(I.cel j b c' h1 h2).ext E (λc hc=>I.wJ hc) λ_ _ _ o q=>s _ _ q
  ·have hj:j=al.length:=by have:=(bN h1).1;simp at this;omega
   subst hj
   rw[List.getElem?_append_right (Nat.le_refl _),Nat.sub_self]at h1
   rw[I.len,List.getElem?_append_right (Nat.le_refl _),Nat.sub_self]at h2
   cases h1;cases h2
   exact hc
 ·rcases mem c hc with z | z
  ·exact I.nw c z
  ·exact I.n0 (fr c z)
 ·rcases mem c hc with z | z
  ·exact I.gd c z
  ·exact λw=>I.OQ (fr c z) (.inl w)
 ·obtain⟨o,e,m⟩:=I.gs c hc
  exact⟨o,s _ _ e,m⟩
theorem DI.cell(I:DI K H0 A0 G al H st){a:Addr}{ys:List V}{xs:List PyData}(h:H a=none)(hy:df (aP K (Fb G al st) H) ys xs):Ext al H st (al++[[a]]) (upd H a (.lst ys)) (st++[.live xs])/\DI K H0 A0 G (al++[[a]]) (upd H a (.lst ys)) (st++[.live xs]):=by
 have s:aB H (upd H a (.lst ys)):=λc p e=>by rw[uN (nN e h)];exact e
 refine I.more (λc hc=>by rw[bJ hc];exact h) (by simp) s (λc hc=>by rw[bJ hc];exact⟨_,uS⟩) ⟨a,ys,rfl,uS,hy.imp λy x z=>aS.same (nU λc o n q=>⟨λw=>?_,s _ _ q⟩) z⟩
 rcases w with w | ⟨j,f,ce,h1,h2,h3,h4⟩
 ·exact n (.inl w)
 ·by_cases e:j < al.length
  ·rw[List.getElem?_append_left e]at h1
   rw[List.getElem?_append_left (by rw[← I.len];exact e)]at h3
   exact n (.inr ⟨j,f,ce,h1,h2,h3,h4⟩)
  ·rw[List.getElem?_append_right (by omega)]at h1
   have:=List.mem_of_getElem? h1
   rw[bJ this]at h2
   rw[bJ h2,h]at q;cases q
theorem DI.turn(I:DI K H0 A0 G al H st){k:Nat}{a:Addr}{r r':List Addr}{c c':Ce}(ha:al[k]?=some (a::r))(hs:st[k]?=some c)(hl:c.lv=true)(kp:∀b o,b∉a::r->H b=some o->H1 b=some o)(nw:∀b∈r',b∈a::r∨H b=none)(ok:∀b∈a::r',∃o,H1 b=some o)(nd:(a::r').Nodup)(na:∀b∈r',b∉a::r->H b=none)
  (hc:aB (cutH (Fb G al st) H) (cutH (Fb G (al.set k (a::r')) (st.set k c')) H1)->L8 K (Fb G (al.set k (a::r')) (st.set k c')) H1 (al.set k (a::r')) (a::r') c') (mu:∀b∈a::r,∃o,H b=some o/\oS o):Ext al H st (al.set k (a::r')) H1 (st.set k c')/\DI K H0 A0 G (al.set k (a::r')) H1 (st.set k c'):=by
 have hk:=(bN hs).1
 have hka:=(bN ha).1
 have lvk:∀b∈a::r,Lv al st b:=λb hb=>⟨k,_,c,ha,hb,hs,hl⟩
 have mem:∀b∈(al.set k (a::r')).flatten,b∈al.flatten∨H b=none:=λb hb=>by
  obtain⟨f,hf,hbf⟩:=List.mem_flatten.mp hb
  rcases List.mem_or_eq_of_mem_set hf with z | z
  ·exact .inl (List.mem_flatten.mpr ⟨f,z,hbf⟩)
  ·rw[z]at hbf
   rcases List.mem_cons.mp hbf with y | y
   ·rw[y];exact .inl (iA ha List.mem_cons_self)
   ·rcases nw b y with w | w
    ·exact .inl (iA ha w)
    ·exact .inr w
 have E:Ext al H st (al.set k (a::r')) H1 (st.set k c'):=⟨λb o n e=>kp b o (λz=>n (lvk b z)) e,λj b q h=>by
   by_cases e:k=j
   ·subst e;rw[ha]at h;cases h;exact⟨r',by rw[List.getElem?_set_self hka]⟩
   ·exact⟨q,by rw[List.getElem?_set_ne e];exact h⟩,mem,λb ⟨j,f,ce,h1,h2,h3,h4⟩=>by
   by_cases e:k=j
   ·subst e
    rw[List.getElem?_set_self hka]at h1
    cases h1
    rcases List.mem_cons.mp h2 with y | y
    ·rw[y];exact .inl (lvk a List.mem_cons_self)
    ·rcases nw b y with w | w
     ·exact .inl (lvk b w)
     ·exact .inr w
   ·rw[List.getElem?_set_ne e]at h1 h3
    exact .inl ⟨j,f,ce,h1,h2,h3,h4⟩⟩
 have keepOther:∀(j:Nat) f,k≠j->al[j]?=some f->∀b∈f,∀o,H b=some o->H1 b=some o:=λj f e hf b hb o q=>kp b o (λz=>e (kW I.nd ha hf z hb)) q
 have parted:∀b∈(al.set k (a::r')).flatten,b∈a::r'∨∃(j:Nat) (f:List Addr),k≠j/\al[j]?=some f/\b∈f:=λb hb=>by
  obtain⟨f,hf,hbf⟩:=List.mem_flatten.mp hb
  obtain⟨j,hj⟩:=List.getElem?_of_mem hf
  by_cases e:k=j
  ·subst e;rw[List.getElem?_set_self hka]at hj;cases hj;exact .inl hbf
  ·rw[List.getElem?_set_ne e]at hj;exact .inr ⟨j,f,e,hj,hbf⟩
 refine⟨E,⟨by rw[List.length_set,List.length_set];exact I.len,?_,λb hb=>?_,λj f ce h1 h2=>?_,λb o n e=>?_,λb hb=>?_,λb hb=>?_,λb hb=>?_⟩⟩
 ·unfold List.Nodup
  rw[List.pairwise_flatten,List.pairwise_iff_getElem]
  have V7:=I.nd
  refine⟨λf hf=>?_,λi j hi hj hij x hx y hy=>?_⟩
  ·rcases List.mem_or_eq_of_mem_set hf with z | z
   ·exact(List.pairwise_flatten.mp V7).1 f z
   ·rw[z];exact nd
  ·intro e
   subst e
   have gi:=cV hi
   have gj:=cV hj
   have far:∀(j:Nat) f,k≠j->al[j]?=some f->x∈f->x∈a::r'->False:=λj f e hf hxf hx'=>by
    by_cases w:x∈a::r
    ·exact e (kW V7 ha hf w hxf)
    ·rcases List.mem_cons.mp hx' with z | z
     ·exact w (by rw[z];exact List.mem_cons_self)
     ·obtain⟨o,q⟩:=I.ok x (iA hf hxf)
      rw[na x z w]at q;cases q
   by_cases e1:k=i
   ·subst e1
    have e2:k≠j:=by omega
    rw[List.getElem?_set_self hka]at gi
    rw[List.getElem?_set_ne e2]at gj
    exact far j _ e2 gj hy (by rw[Option.some.inj gi];exact hx)
   ·rw[List.getElem?_set_ne e1]at gi
    by_cases e2:k=j
    ·subst e2
     rw[List.getElem?_set_self hka]at gj
     exact far i _ e1 gi hx (by rw[Option.some.inj gj];exact hy)
    ·rw[List.getElem?_set_ne e2]at gj
     exact absurd (kW V7 gi gj hx hy) (by omega)
 ·rcases parted b hb with z | ⟨j,f,e,hf,hbf⟩
  ·exact ok b z
  ·obtain⟨o,q⟩:=I.ok b (iA hf hbf)
   exact⟨o,keepOther j f e hf b hbf o q⟩
 ·by_cases e:k=j
  ·subst e
   rw[List.getElem?_set_self hka]at h1
   rw[List.getElem?_set_self hk]at h2
   cases h1;cases h2
   exact hc (eU (λ_ z=>.inl z) E)
  ·rw[List.getElem?_set_ne e]at h1 h2
   exact(I.cel j f ce h1 h2).ext E (λc hc=>I.wJ hc) λ_ b hb o q=>keepOther j f e h1 b hb o q
 ·by_cases w:b∈a::r
  ·rcases I.nw b (iA ha w)with y | y
   ·exact absurd y n
   ·rw[y]at e;cases e
  ·exact kp b o w (I.fr b o n e)
 ·rcases mem b hb with z | z
  ·exact I.nw b z
  ·exact I.n0 z
 ·intro z
  rcases mem b hb with w | w
  ·exact I.gd b w z
  ·exact I.OQ w (.inl z)
 ·obtain⟨o,q,m⟩:=I.gs b hb
  refine⟨o,kp b o (λz=>I.gd b (iA ha z) hb) q,m⟩
theorem DI.put(I:DI K H0 A0 G al H st){k:Nat}{a:Addr}{zs xs:List PyData}{ys:List V}(ha:al[k]?=some [a])(hs:st[k]?=some (.live zs))(hy:df (aP K (Fb G al st) H) ys xs):Ext al H st al (upd H a (.lst ys)) (st.set k (.live xs))/\DI K H0 A0 G al (upd H a (.lst ys)) (st.set k (.live xs)):=by
 have ea:al.set k [a]=al:=by
  apply List.ext_getElem?
  intro j
  by_cases e:k=j
  ·subst e;rw[List.getElem?_set_self (bN ha).1,ha]
  ·rw[List.getElem?_set_ne e]
 obtain⟨b,ws,e0,g1,g2⟩:=I.cel k [a] _ ha hs
 cases e0
 have z:=I.turn (H1:=upd H a (.lst ys)) (r:=[]) (r':=[]) (c':=.live xs) ha hs rfl (λb o n e=>by rw[uN (λz=>n (by rw[z];exact List.mem_cons_self))];exact e) (λb hb=>nomatch hb) (λb hb=>by rw[bJ hb];exact⟨_,uS⟩) (by simp) (λb hb=>nomatch hb) (λs=>⟨a,ys,rfl,uS,hy.imp λy x z=>aS.same s z⟩) (λb hb=>by rw[bJ hb];exact⟨_,g1,.inl ⟨_,rfl⟩⟩)
 rw[ea]at z
 exact z
theorem Ae{k:Nat}{fp:List Addr}(ha:al[k]?=some fp):al.set k fp=al:=by
 apply List.ext_getElem?
 intro j
 by_cases e:k=j
 ·subst e;rw[List.getElem?_set_self (bN ha).1,ha]
 ·rw[List.getElem?_set_ne e]
theorem DI.putD(I:DI K H0 A0 G al H st){k:Nat}{a:Addr}{zs xs:List DV}{ys:List V}(ha:al[k]?=some [a])(hs:st[k]?=some (.deep zs))(hy:df (kP K (Fb G al st) H al) ys xs):Ext al H st al (upd H a (.lst ys)) (st.set k (.deep xs))/\DI K H0 A0 G al (upd H a (.lst ys)) (st.set k (.deep xs)):=by
 obtain⟨b,ws,e0,g1,g2⟩:=I.cel k [a] _ ha hs
 cases e0
 have z:=I.turn (H1:=upd H a (.lst ys)) (r:=[]) (r':=[]) (c':=.deep xs) ha hs rfl (λb o n e=>by rw[uN (λz=>n (by rw[z];exact List.mem_cons_self))];exact e) (λb hb=>nomatch hb) (λb hb=>by rw[bJ hb];exact⟨_,uS⟩) (by simp) (λb hb=>nomatch hb) (λs=>⟨a,ys,rfl,uS,hy.imp λy x z=>by
    cases x with
    | dat d=>exact aS.same s z
    | ref j=>rw[Ae ha];exact z⟩) (λb hb=>by rw[bJ hb];exact⟨_,g1,.inl ⟨_,rfl⟩⟩)
 rw[Ae ha]at z
 exact z
theorem DI.yC(I:DI K H0 A0 G al H st){p:Addr}{xs:List V}(h:ba K H p xs):ba K (cutH (Fb G al st) H) p xs:=by
 have n:∀o,H p=some o->¬ oS o->¬ Fb G al st p:=λo e m z=>by
  obtain⟨o',e',m'⟩:=I.wJ z
  rw[e]at e'
  cases e'
  exact m m'
 rcases h with(h | ⟨o,h⟩) | h
 ·exact .inl (.inl (aX.mpr ⟨n _ h (λm=>by rcases m with⟨ys,m⟩ | ⟨C,dx,fs,m⟩<;>cases m),h⟩))
 ·exact .inl (.inr ⟨o,aX.mpr ⟨n _ h (λm=>by rcases m with⟨ys,m⟩ | ⟨C,dx,fs,m⟩<;>cases m),h⟩⟩)
 ·exact .inr h
end
end L2
namespace L2
open PySem PySem.Spec PyProof.Rows
abbrev DC:=DV->aQ->Prop
abbrev DX:=cz->aQ->DC->Prop
abbrev vh:=cz->aQ->(List DV->aQ->Prop)->Prop
abbrev DT:=cz->aQ->(Bool->aQ->Prop)->Prop
abbrev Sg:=DV->DV->aQ->DC->Prop
abbrev Tn:=List DV->aQ->DC->Prop
def Kn(K:av)(H0:Hp)(A0:Addr->Prop)(G:Addr->Prop)(al:List (List Addr))(H:Hp)(st:aQ)(Q:DC)(R:VK):Prop:=∀dv st' al' v H',Ext al H st al' H' st'->DI K H0 A0 G al' H' st'->kP K (Fb G al' st') H' al' v dv->Q dv st'->R v H'
def To(K:av)(H0:Hp)(A0:Addr->Prop)(G:Addr->Prop)(al:List (List Addr))(H:Hp)(st:aQ)(Q:Bool->aQ->Prop)(R:Bool->Hp->Prop):Prop:=∀b st' al' H',Ext al H st al' H' st'->DI K H0 A0 G al' H' st'->Q b st'->R b H'
def KnL(K:av)(H0:Hp)(A0:Addr->Prop)(G:Addr->Prop)(al:List (List Addr))(H:Hp)(st:aQ)(Q:List DV->aQ->Prop)(R:List V->Hp->Prop):Prop:=∀dvs st' al' vs H',Ext al H st al' H' st'->DI K H0 A0 G al' H' st'->df (kP K (Fb G al' st') H' al') vs dvs->Q dvs st'->R vs H'
def AE(K:av)(t:TE)(e:DX):Prop:=∀(H0:Hp) (A0:Addr->Prop) (G:Addr->Prop) (al:List (List Addr)) (H:Hp) (st:aQ) (s:St) (env:cz) (Q:DC) (R:VK),DI K H0 A0 G al H st->ui K (Fb G al st) H al s env->e env st Q->Kn K H0 A0 G al H st Q R->t s H R
def AT(K:av)(t:TT)(e:DT):Prop:=∀(H0:Hp) (A0:Addr->Prop) (G:Addr->Prop) (al:List (List Addr)) (H:Hp) (st:aQ) (s:St) (env:cz) (Q:Bool->aQ->Prop) (R:Bool->Hp->Prop),DI K H0 A0 G al H st->ui K (Fb G al st) H al s env->e env st Q->To K H0 A0 G al H st Q R->t s H R
def AA(K:av)(t:TA)(n:Nat)(e:vh):Prop:=∀(H0:Hp) (A0:Addr->Prop) (G:Addr->Prop) (al:List (List Addr)) (H:Hp) (st:aQ) (s:St) (env:cz) (Q:List DV->aQ->Prop) (R:List V->Hp->Prop),DI K H0 A0 G al H st->ui K (Fb G al st) H al s env->e env st Q->KnL K H0 A0 G al H st (λl s=>l.length=n/\Q l s) R->t s H R
def AO(K:av)(r:R2)(o:Sg):Prop:=∀(H0:Hp) (A0:Addr->Prop) (G:Addr->Prop) (al:List (List Addr)) (H:Hp) (st:aQ) (x y:V) (dx dy:DV) (Q:DC) (R:VK),DI K H0 A0 G al H st->kP K (Fb G al st) H al x dx->kP K (Fb G al st) H al y dy->o dx dy st Q->Kn K H0 A0 G al H st Q R->r x y H R
def AB(K:av)(r:List V->Hp->VK->Prop)(o:Tn):Prop:=∀(H0:Hp) (A0:Addr->Prop) (G:Addr->Prop) (al:List (List Addr)) (H:Hp) (st:aQ) (vs:List V) (ds:List DV) (Q:DC) (R:VK),DI K H0 A0 G al H st->df (kP K (Fb G al st) H al) vs ds->o ds st Q->Kn K H0 A0 G al H st Q R->r vs H R
structure cc(X:Cx)(e:Expr)(d:DX):Prop where
 h:∃t,PE X e t/\AE X.K t d
structure BA(X:Cx)(e:Expr)(d:DT):Prop where
 h:∃t,PT X e t/\AT X.K t d
structure Af(X:Cx)(e:Expr)(d:DT):Prop where
 h:∃t,PW X e t/\AT X.K t d
structure Ag(X:Cx)(es:List Expr)(n:Nat)(d:vh):Prop where
 h:∃t,PA X es t/\AA X.K t n d
section
variable {K:av} {H0:Hp} {A0:Addr->Prop} {G:Addr->Prop} {al bO iB:List (List Addr)} {H H1 H2:Hp} {st aJ dQ:aQ} {Q:DC} {R:VK}
theorem Kn.here(k:Kn K H0 A0 G al H st Q R)(I:DI K H0 A0 G al H st){v:V}{dv:DV}(h:kP K (Fb G al st) H al v dv)(q:Q dv st):R v H:=k dv st al v H .refl I h q
theorem Kn.laid(k:Kn K H0 A0 G al H st Q R)(I:DI K H0 A0 G al H st){v:V}{dv:DV}(s:aB H H1)(h:kP K (Fb G al st) H1 al v dv)(q:Q dv st):R v H1:=k dv st al v H1 (.same s) (I.same s) h q
theorem Kn.go(k:Kn K H0 A0 G al H st Q R)(I:DI K H0 A0 G bO H1 aJ)(e:Ext al H st bO H1 aJ):Kn K H0 A0 G bO H1 aJ Q R:=λdv st' al' v H' e' I' h q=>k dv st' al' v H' (e.trans I e') I' h q
theorem To.go{Q:Bool->aQ->Prop}{R:Bool->Hp->Prop}(k:To K H0 A0 G al H st Q R)(I:DI K H0 A0 G bO H1 aJ)(e:Ext al H st bO H1 aJ):To K H0 A0 G bO H1 aJ Q R:=λdv st' al' H' e' I' q=>k dv st' al' H' (e.trans I e') I' q
theorem jJ{a:Addr}{o:HO}(h:H a=none):aB H (upd H a o):=λc p e=>by rw[uN (nN e h)];exact e
end
@[reducible] def L9(i:Nat)(env:cz)(st:aQ)(Q:DC):Prop:=match env[i]? with
 | some (some dv)=>Q dv st
 | _=>False
@[reducible] def eC(d:PyData)(_:cz)(st:aQ)(Q:DC):Prop:=Q (.dat d) st
section
variable {X:Cx} {a b c e:Expr} {es:List Expr} {pos:Pos} {ea eb ec:DX}
theorem PY{K:av}{i:Nat}:AE K (Pl i) (L9 i):=λH0 A0 G al H st s env Q R I E h k=>by
 unfold L9 at h
 split at h
 ·rename_i dv hd
  obtain⟨v,h1,h2⟩:=E.2 i dv hd
  exact⟨v,h1,k.here I h2 h⟩
 ·exact h.elim
theorem Ma{K:av}{v:V}{d:PyData}(h:∀H,aS K H v d):AE K (tC v) (eC d):=λH0 A0 G al H st s env Q R I E q k=>k.here I (.d (h _)) q
theorem aq(i:Nat){x:Str}(hN:X.N[i]?=some x:=by rfl)(hv:U4 X.env.scope x:=by first | exact Or.inl rfl | exact Or.inr (Or.inl rfl) | exact Or.inr (Or.inr rfl))(hd:(x == ("__debug__" : Str))=false:=by decide)
  (hcd:(x == ("__classdict__" : Str))=false:=by decide):cc X (.Name x pos) (L9 i):=⟨_,FW hN hv hd hcd,PY⟩
theorem aZ{i j}:cc X (.Constant (.int i) j pos) (eC (.int i)):=⟨_,pI,Ma λ_=>.int i⟩
theorem kY{i j}:cc X (.Constant (.bool i) j pos) (eC (.bool i)):=⟨_,sO,Ma λ_=>.bl i⟩
theorem B8{j}:cc X (.Constant .none j pos) (eC .none):=⟨_,eP,Ma λ_=>.non⟩
theorem bg{i j}:cc X (.Constant (.str i) j pos) (eC (.str i)):=⟨_,aH,Ma λ_=>.str i⟩
@[reducible] def wK(o:Sg)(ea eb:DX)(env:cz)(st:aQ)(Q:DC):Prop:=ea env st λx aJ=>eb env aJ λy dQ=>o x y dQ Q
theorem Di{K:av}{r:R2}{o:Sg}{ta tb:TE}(ho:AO K r o)(ha:AE K ta ea)(hb:AE K tb eb):AE K (SE r ta tb) (wK o ea eb):=λH0 A0 G al H st s env Q R I E h k=>by
 refine ha H0 A0 G al H st s env _ _ I E h λx aJ bO v H1 e1 I1 d1 q1=>?_
 refine hb H0 A0 G bO H1 aJ s env _ _ I1 (E.ext e1) q1 λy dQ iB u H2 e2 I2 d2 q2=>?_
 exact ho H0 A0 G iB H2 dQ v u x y Q R I2 (d1.ext e2) d2 q2 (k.go I2 (e1.trans I1 e2))
theorem sV{op:Operator}{r:R2}{o:Sg}(ho:iq X (binaryOp op) r)(ao:AO X.K r o)(ha:cc X a ea)(hb:cc X b eb):cc X (.BinOp a op b pos) (wK o ea eb):=by
 obtain⟨ta,p1,a1⟩:=ha.h
 obtain⟨tb,p2,a2⟩:=hb.h
 exact⟨_,bh ho p1 p2,Di ao a1 a2⟩
theorem PZ{op:CmpOp}{r:R2}{o:Sg}(ho:iq X (compareOp op) r)(ao:AO X.K r o)(ha:cc X a ea)(hb:cc X b eb)(hm:behindInMarks op b=false):cc X (.Compare a [op] [b] pos) (wK o ea eb):=by
 obtain⟨ta,p1,a1⟩:=ha.h
 obtain⟨tb,p2,a2⟩:=hb.h
 exact⟨_,jF ho p1 p2 hm,Di ao a1 a2⟩
theorem rQ{f:Value->Value->Sem Value}{r r':R2}(h:iq X f r)(h':iq X f r'):iq X f (λx y H Q=>r x y H Q∨r' x y H Q):=λpins s σ H x y v u Q I rx ry q=>by
 rcases q with q | q
 ·exact h pins s σ H x y v u Q I rx ry q
 ·exact h' pins s σ H x y v u Q I rx ry q
@[reducible] def oI(C:Int->Int->Prop)(g:Int->Int->PyData)(x y:DV)(st:aQ)(Q:DC):Prop:=match x,y with
 | .dat (.int i),.dat (.int j)=>C i j/\Q (.dat (g i j)) st
 | _,_=>False
@[reducible] def P0(g:Int->Int->PyData)(x y:DV)(st:aQ)(Q:DC):Prop:=match x,y with
 | .dat (.int i),.dat (.int j)=>Q (.dat (g i j)) st
 | _,_=>False
theorem Mb{K:av}{C:Int->Int->Prop}{g:Int->Int->V}{d:Int->Int->PyData}(h:∀i j H,aS K H (g i j) (d i j)):AO K (rI C g) (oI C d):=λH0 A0 G al H st x y dx dy Q R I a b q k=>by
 unfold oI at q
 split at q
 ·rw[aP.aM a,aP.aM b]
  exact⟨_,_,rfl,rfl,q.1,k.here I (.d (h _ _ _)) q.2⟩
 ·exact q.elim
theorem Dj{K:av}{g:Int->Int->V}{d:Int->Int->PyData}(h:∀i j H,aS K H (g i j) (d i j)):AO K (Fv g) (P0 d):=λH0 A0 G al H st x y dx dy Q R I a b q k=>by
 unfold P0 at q
 split at q
 ·rw[aP.aM a,aP.aM b]
  exact⟨_,_,rfl,rfl,k.here I (.d (h _ _ _)) q⟩
 ·exact q.elim
end
@[reducible] def kB(st:aQ):DV->Option (List PyData)
 | .dat (.list ds)=>some ds
 | .ref k=>match st[k]? with
  | some (.live ds)=>some ds
  | some (.froz ds)=>some ds
  | _=>none
 | _=>none
@[reducible] def vi(st:aQ):DV->Option PyData
 | .dat d=>some d
 | .ref k=>match st[k]? with
  | some (.live ds)=>some (.list ds)
  | some (.froz ds)=>some (.list ds)
  | _=>none
section
variable {K:av} {H0:Hp} {A0:Addr->Prop} {G:Addr->Prop} {al bO iB:List (List Addr)} {H H1 H2:Hp} {st aJ dQ:aQ} {Q:DC} {R:VK}
theorem Eb{k:Nat}{ds:List PyData}(e:kB st (.ref k)=some ds):st[k]?=some (.live ds)∨st[k]?=some (.froz ds):=by
 have e:(match st[k]? with | some (.live ds)=>some ds | some (.froz ds)=>some ds | _=>none)=some ds:=e
 revert e
 cases st[k]? with
 | none=>intro e;cases e
 | some c=>cases c with
  | live xs=>intro e;cases e;exact .inl rfl
  | froz xs=>intro e;cases e;exact .inr rfl
  | deep xs=>intro e;cases e
  | obj o=>intro e;cases e
theorem Ec{k:Nat}{d:PyData}(e:vi st (.ref k)=some d):∃ds,kB st (.ref k)=some ds/\d=.list ds:=by
 have e:(match st[k]? with | some (.live ds)=>some (PyData.list ds) | some (.froz ds)=>some (.list ds) | _=>none)=some d:=e
 show ∃ds,(match st[k]? with | some (.live ds)=>some ds | some (.froz ds)=>some ds | _=>none)=some ds/\d=.list ds
 revert e
 cases st[k]? with
 | none=>intro e;cases e
 | some c=>cases c with
  | live xs=>intro e;cases e;exact⟨_,rfl,rfl⟩
  | froz xs=>intro e;cases e;exact⟨_,rfl,rfl⟩
  | deep xs=>intro e;cases e
  | obj o=>intro e;cases e
theorem kP.P1(I:DI K H0 A0 G al H st){v:V}{x:DV}{ds:List PyData}(h:kP K (Fb G al st) H al v x)(e:kB st x=some ds):∃(a:Addr) (ys:List V),v=.ref a/\bc K H a ys/\df (aP K (Fb G al st) H) ys ds:=by
 cases x with
 | dat d =>
  cases d with
  | list xs=>cases e;obtain⟨a,ys,h1,h2,_,h3⟩:=aP.dI h;exact⟨a,ys,h1,h2,h3⟩
  | _=>cases e
 | ref k =>
  obtain⟨a,r,h1,h2⟩:=h
  rcases Eb e with hs | hs
  ·obtain⟨a',ys,e0,g1,g2⟩:=I.cel k _ _ h1 hs
   cases e0
   exact⟨a,ys,h2,bc.of g1,g2⟩
  ·obtain⟨a',e0,g0⟩:=I.cel k _ _ h1 hs
   cases e0
   obtain⟨b,ys,g1,g2,_,g3⟩:=aP.dI g0
   cases g1
   exact⟨a,ys,h2,g2,g3⟩
theorem kP.Tp(I:DI K H0 A0 G al H st){v:V}{x:DV}{d:PyData}(h:kP K (Fb G al st) H al v x)(e:vi st x=some d):aS K H v d:=by
 cases x with
 | dat d'=>cases e;exact aP.now h
 | ref k =>
  obtain⟨ds,e1,rfl⟩:=Ec e
  obtain⟨a,ys,rfl,h2,h3⟩:=h.P1 I e1
  exact .lst h2 h3.1 λi x d a b=>(h3.2 i x d a b).now
@[reducible] def uA:DV->aQ->(PyData->aQ->Prop)->Prop
 | .dat d,st,Q=>Q d st
 | .ref k,st,Q=>match st[k]? with
  | some (.froz ds)=>Q (.list ds) st
  | some (.live ds)=>Q (.list ds) (st.set k (.froz ds))
  | _=>False
@[reducible] def jD:List DV->aQ->(List PyData->aQ->Prop)->Prop
 | [],st,Q=>Q [] st
 | x::r,st,Q=>uA x st λd aJ=>jD r aJ λds dQ=>Q (d::ds) dQ
theorem vj(I:DI K H0 A0 G al H st){v:V}{x:DV}{Q:PyData->aQ->Prop}(h:kP K (Fb G al st) H al v x)(q:uA x st Q):∃d aJ,Ext al H st al H aJ/\DI K H0 A0 G al H aJ/\aP K (Fb G al aJ) H v d/\Q d aJ:=by
 cases x with
 | dat d=>exact⟨d,st,.refl,I,h,q⟩
 | ref k =>
  obtain⟨a,r,h1,rfl⟩:=h
  unfold uA at q
  dsimp only at q
  split at q
  ·rename_i ds hs
   obtain⟨a',e0,g0⟩:=I.cel k _ _ h1 hs
   cases e0
   exact⟨_,st,.refl,I,g0,q⟩
  ·rename_i ds hs
   obtain⟨a',e0,E,I',F⟩:=I.freeze h1 hs
   cases e0
   exact⟨_,_,E,I',F,q⟩
  ·exact q.elim
theorem nV:∀{xs:List DV} {st:aQ} {vs:List V} {Q:List PyData->aQ->Prop},DI K H0 A0 G al H st->df (kP K (Fb G al st) H al) vs xs->jD xs st Q->∃ds aJ,Ext al H st al H aJ/\DI K H0 A0 G al H aJ/\df (aP K (Fb G al aJ) H) vs ds/\Q ds aJ
 | [],st,vs,Q,I,h,q=>by
  have:=h.1
  cases vs with
  | nil=>exact⟨[],st,.refl,I,.nil,q⟩
  | cons v r=>simp at this
 | x::xs,st,vs,Q,I,h,q=>by
  have:=h.1
  cases vs with
  | nil=>simp at this
  | cons v r =>
   obtain⟨d,aJ,E1,I1,F1,q1⟩:=vj I (h.2 0 v x rfl rfl) q
   have h':df (kP K (Fb G al aJ) H al) r xs:=⟨by simpa using this,λi y z a b=>(h.2 (i + 1) y z (by simpa using a) (by simpa using b)).ext E1⟩
   obtain⟨ds,dQ,E2,I2,F2,q2⟩:=nV I1 h' q1
   exact⟨d::ds,dQ,E1.trans I1 E2,I2,.cons (F1.ext E2) F2,q2⟩
end
section
variable {X:Cx} {a b c e:Expr} {es:List Expr} {pos:Pos} {ea eb ec:DX} {K:av}
@[reducible] def P2(_:cz)(st:aQ)(Q:List DV->aQ->Prop):Prop:=Q [] st
@[reducible] def GW(ea:DX)(r:vh)(env:cz)(st:aQ)(Q:List DV->aQ->Prop):Prop:=ea env st λx aJ=>r env aJ λxs dQ=>Q (x::xs) dQ
theorem P4:AA K Ly 0 P2:=λH0 A0 G al H st s env Q R I E h k=>k [] st al [] H .refl I .nil ⟨rfl,h⟩
theorem Md{ta:TE}{tr:TA}{n:Nat}{r:vh}(ha:AE K ta ea)(hr:AA K tr n r):AA K (OG ta tr) (n + 1) (GW ea r):=λH0 A0 G al H st s env Q R I E h k=>by
 refine ha H0 A0 G al H st s env _ _ I E h λx aJ bO v H1 e1 I1 d1 q1=>?_
 refine hr H0 A0 G bO H1 aJ s env _ _ I1 (E.ext e1) q1 λxs dQ iB vs H2 e2 I2 d2 q2=>?_
 exact k (x::xs) dQ iB (v::vs) H2 (e1.trans I1 e2) I2 (.cons (d1.ext e2) d2) ⟨by simp[q2.1],q2.2⟩
theorem ax:Ag X [] 0 P2:=⟨_,pN,P4⟩
theorem aj{n:Nat}{r:vh}(ha:cc X e ea)(hr:Ag X es n r)(hs:starEach (e::es) X.env=(false,eval e X.env)::starEach es X.env:=by rfl):Ag X (e::es) (n + 1) (GW ea r):=by
 obtain⟨ta,p1,a1⟩:=ha.h
 obtain⟨tb,p2,a2⟩:=hr.h
 exact⟨_,pK p1 p2 hs,Md a1 a2⟩
@[reducible] def P7(t:vh)(env:cz)(st:aQ)(Q:DC):Prop:=t env st λxs aJ=>jD xs aJ λds dQ=>Q (.dat (.tuple ds)) dQ
@[reducible] def P8(t:vh)(env:cz)(st:aQ)(Q:DC):Prop:=t env st λxs aJ=>jD xs aJ λds dQ=>Q (.dat (.list ds)) dQ
@[reducible] def GX(t:vh)(env:cz)(st:aQ)(Q:DC):Prop:=t env st λxs aJ=>jD xs aJ λds dQ=>Q (.ref dQ.length) (dQ++[.live ds])
theorem P9{t:TA}{n:Nat}{d:vh}(hn:n<=sizeLine)(h:AA K t n d):AE K (SM t) (P7 d):=λH0 A0 G al H st s env Q R I E q k=>by
 refine h H0 A0 G al H st s env _ _ I E q λxs aJ bO vs H1 e1 I1 d1 q1=>?_
 obtain⟨ds,dQ,E2,I2,F2,q2⟩:=nV I1 d1 q1.2
 refine⟨by rw[d1.1,q1.1];exact hn,λp hp=>?_⟩
 have k2:=k.go I2 (e1.trans I1 E2)
 exact k2.laid I2 (jJ hp) (.d (aP.tup (I2.OQ hp) uS (F2.imp λy x z=>z.same (jJ hp)))) q2
theorem Qa{t:TA}{n:Nat}{d:vh}(hn:n<=sizeLine)(h:AA K t n d):AE K (Pr t) (P8 d):=λH0 A0 G al H st s env Q R I E q k=>by
 refine h H0 A0 G al H st s env _ _ I E q λxs aJ bO vs H1 e1 I1 d1 q1=>?_
 obtain⟨ds,dQ,E2,I2,F2,q2⟩:=nV I1 d1 q1.2
 refine⟨by rw[d1.1,q1.1];exact hn,λp hp=>?_⟩
 have k2:=k.go I2 (e1.trans I1 E2)
 exact k2.laid I2 (jJ hp) (.d (aP.lst (I2.OQ hp) uS (F2.imp λy x z=>z.same (jJ hp)))) q2
theorem Kn.cell{H0:Hp}{A0:Addr->Prop}{G:Addr->Prop}{al:List (List Addr)}{H:Hp}{st:aQ}{Q:DC}{R:VK}(k:Kn K H0 A0 G al H st Q R)(I:DI K H0 A0 G al H st){p:Addr}{ys:List V}{ds:List PyData}(hp:H p=none)(F:df (aP K (Fb G al st) H) ys ds)(q:Q (.ref st.length) (st++[.live ds])):R (.ref p) (upd H p (.lst ys)):=by
 obtain⟨E,I'⟩:=I.cell hp F
 exact k (.ref st.length) _ _ _ _ E I' ⟨p,[],by rw[← I.len,List.getElem?_append_right (Nat.le_refl _),Nat.sub_self];rfl,rfl⟩ q
theorem Kn.list{H0:Hp}{A0:Addr->Prop}{G:Addr->Prop}{al:List (List Addr)}{H:Hp}{st:aQ}{Q:DC}{R:VK}(k:Kn K H0 A0 G al H st Q R)(I:DI K H0 A0 G al H st){p:Addr}{ys:List V}{ds:List PyData}(hp:H p=none)(F:df (aP K (Fb G al st) H) ys ds)(q:Q (.dat (.list ds)) st):R (.ref p) (upd H p (.lst ys)) :=
 k.laid I (jJ hp) (.d (aP.lst (I.OQ hp) uS (F.imp λy x z=>z.same (jJ hp)))) q
theorem Me{t:TA}{n:Nat}{d:vh}(hn:n<=sizeLine)(h:AA K t n d):AE K (Pr t) (GX d):=λH0 A0 G al H st s env Q R I E q k=>by
 refine h H0 A0 G al H st s env _ _ I E q λxs aJ bO vs H1 e1 I1 d1 q1=>?_
 obtain⟨ds,dQ,E2,I2,F2,q2⟩:=nV I1 d1 q1.2
 exact⟨by rw[d1.1,q1.1];exact hn,λp hp=>(k.go I2 (e1.trans I1 E2)).cell I2 hp F2 q2⟩
theorem bQ{k n:Nat}{d:vh}(h:Ag X es n d)(hn:n<=sizeLine:=by decide):cc X (.Tuple es k pos) (P7 d):=by
 obtain⟨t,p,a⟩:=h.h
 exact⟨_,bP p,P9 hn a⟩
theorem gx{n:Nat}{d:vh}(h:Ag X es n d)(hn:n<=sizeLine:=by decide):cc X (.List es pos) (P8 d):=by
 obtain⟨t,p,a⟩:=h.h
 exact⟨_,cL p,Qa hn a⟩
theorem Dk{n:Nat}{d:vh}(h:Ag X es n d)(hn:n<=sizeLine:=by decide):cc X (.List es pos) (GX d):=by
 obtain⟨t,p,a⟩:=h.h
 exact⟨_,cL p,Me hn a⟩
end
end L2
namespace L2
open PySem PySem.Spec PyProof.Rows
theorem oU{n:Nat}(h:n<=1000000):n<=sizeLine:=Nat.le_trans h (by decide)
section
variable {X:Cx} {a b c e:Expr} {es:List Expr} {pos:Pos} {ea eb ec:DX} {K:av}
@[reducible] def Mf(x y:DV)(st:aQ)(Q:DC):Prop:=match x,y with
 | .dat (.int i),.dat (.int j)=>Q (.dat (.int (i + j))) st
 | .dat (.str i),.dat (.str j)=>i.length + j.length<=1000000/\Q (.dat (.str (i++j))) st
 | .dat (.tuple i),.dat (.tuple j)=>i.length + j.length<=1000000/\Q (.dat (.tuple (i++j))) st
 | x,y=>match kB st x,kB st y with
  | some i,some j=>i.length + j.length<=1000000/\Q (.dat (.list (i++j))) st
  | _,_=>False
@[reducible] def Dl(x y:DV)(st:aQ)(Q:DC):Prop:=match kB st x,kB st y with
  | some i,some j=>i.length + j.length<=1000000/\Q (.ref st.length) (st++[.live (i++j)])
  | _,_=>False
@[reducible] def Dm(K:av):R2:=λx y H Q=>Fv (λi j=>.int (i + j)) x y H Q∨((∃i j,x=.str i/\y=.str j/\i.length + j.length<=sizeLine/\Q (.str (i++j)) H)∨(ON K x y H Q∨OJ K x y H Q))
theorem Dn:iq X (binaryOp .Add) (Dm X.K):=rQ ey (rQ BO (rQ yv uD))
theorem df.len{α:Type}{R:V->α->Prop}{ys:List V}{xs:List α}(h:df R ys xs):ys.length=xs.length:=h.1
theorem Mg:AO K (Dm K) Dl:=λH0 A0 G al H st x y dx dy Q R I h1 h2 q k=>by
 unfold Dl at q
 split at q
 ·rename_i i j e1 e2
  obtain⟨a,ys,rfl,g1,g2⟩:=h1.P1 I e1
  obtain⟨b,zs,rfl,g3,g4⟩:=h2.P1 I e2
  exact .inr (.inr (.inr ⟨a,b,ys,zs,rfl,rfl,g1,g3,by rw[g2.len,g4.len];exact oU q.1,λp hp=>k.cell I hp (g2.append g4) q.2⟩))
 ·exact q.elim
theorem Qb:AO K (Dm K) Mf:=λH0 A0 G al H st x y dx dy Q R I h1 h2 q k=>by
 have lists:(match kB st dx,kB st dy with
  | some i,some j=>i.length + j.length<=1000000/\Q (.dat (.list (i++j))) st
  | _,_=>False)->Dm K x y H R:=λq=>by
  split at q
  ·rename_i i j e1 e2
   obtain⟨a,ys,rfl,g1,g2⟩:=h1.P1 I e1
   obtain⟨b,zs,rfl,g3,g4⟩:=h2.P1 I e2
   exact .inr (.inr (.inr ⟨a,b,ys,zs,rfl,rfl,g1,g3,by rw[g2.len,g4.len];exact oU q.1,λp hp=>k.list I hp (g2.append g4) q.2⟩))
  ·exact q.elim
 unfold Mf at q
 split at q
 ·rw[aP.aM h1,aP.aM h2]
  exact .inl ⟨_,_,rfl,rfl,k.here I (.d (.int _)) q⟩
 ·rw[aP.dk h1,aP.dk h2]
  exact .inr (.inl ⟨_,_,rfl,rfl,oU q.1,k.here I (.d (.str _)) q.2⟩)
 ·obtain⟨a,ys,rfl,g1,_,g2⟩:=aP.bX h1
  obtain⟨b,zs,rfl,g3,_,g4⟩:=aP.bX h2
  refine .inr (.inr (.inl ⟨a,b,ys,zs,rfl,rfl,g1,g3,by rw[g2.len,g4.len];exact oU q.1,λp H' s hp=>k.laid I s (.d ?_) q.2⟩))
  have g:=(g2.append g4).imp λy x z=>z.same s
  exact aS.tup ((I.same s).yC hp) g.1 g.2
 ·exact lists q
theorem vk(ha:cc X a ea)(hb:cc X b eb):cc X (.BinOp a .Add b pos) (wK Mf ea eb):=sV Dn Qb ha hb
theorem Dp(ha:cc X a ea)(hb:cc X b eb):cc X (.BinOp a .Add b pos) (wK Dl ea eb):=sV Dn Mg ha hb
theorem Qc(ha:cc X a ea)(hb:cc X b eb):cc X (.BinOp a .Sub b pos) (wK (P0 λi j=>.int (i - j)) ea eb):=sV oQ (Dj λ_ _ _=>.int _) ha hb
def GY(j:Int):Prop:=0 < j/\j < 18446744073709551616
theorem GZ:iq X (binaryOp .FloorDiv) (rI (λ_ j=>GY j) λi j=>.int (i / j)):=Lp λi j _ _ _ _ _ hc q=>by
 have h1:(0:Int) < j:=hc.1
 have h2:j < 18446744073709551616:=hc.2
 exact floordiv_int (by omega) (by rw[Int.fdiv_eq_ediv_of_nonneg i (by omega)];exact q) (.inl (Ac.ok (i:=i) ⟨by omega,by omega⟩))
theorem gS(ha:cc X a ea)(hb:cc X b eb):cc X (.BinOp a .FloorDiv b pos) (wK (oI (λ_ j=>GY j) λi j=>.int (i / j)) ea eb):=sV GZ (Mb λ_ _ _=>.int _) ha hb
theorem eV(ha:cc X a ea)(hb:cc X b eb):cc X (.BinOp a .Mod b pos) (wK (oI (λ_ j=>0 < j) λi j=>.int (i % j)) ea eb):=sV i5 (Mb λ_ _ _=>.int _) ha hb
theorem Qd(ha:cc X a ea)(hb:cc X b eb):cc X (.BinOp a .LShift b pos) (wK (oI SF λi j=>.int (i * 2 ^ j.toNat)) ea eb):=sV BM (Mb λ_ _ _=>.int _) ha hb
theorem G0(ha:cc X a ea)(hb:cc X b eb):cc X (.BinOp a .RShift b pos) (wK (oI (λ_ j=>0<=j) λi j=>.int (i / 2 ^ j.toNat)) ea eb):=sV Pp (Mb λ_ _ _=>.int _) ha hb
theorem G2(ha:cc X a ea)(hb:cc X b eb):cc X (.BinOp a .BitAnd b pos) (wK (P0 λi j=>.int (Builtin.bitAnd i j)) ea eb):=sV Gj (Dj λ_ _ _=>.int _) ha hb
@[reducible] def Ah(n:Bool->Bool)(x y:DV)(st:aQ)(Q:DC):Prop:=match x,y with
 | .dat (.int i),.dat (.int j)=>Q (.dat (.bool (n (decide (i=j))))) st
 | .dat (.str i),.dat (.str j)=>Q (.dat (.bool (n (decide (i=j))))) st
 | x,y=>match vi st x,vi st y with
  | some i,some j=>(PySem.SeqAt.shaped i=true/\PySem.SeqAt.shaped j=true)/\Q (.dat (.bool (n (PyData.eqv i j)))) st
  | _,_=>False
@[reducible] def V8(K:av):R2:=λx y H Q=>ZK x y H Q∨PL K x y H Q
@[reducible] def V9(K:av):R2:=λx y H Q=>ZL x y H Q∨S0 K x y H Q
theorem Tq{i j:Int}:decide (V.int i=V.int j)=decide (i=j):=decide_eq_decide.mpr ⟨V.int.inj,λh=>by rw[h]⟩
theorem Tr{i j:Str}:decide (V.str i=V.str j)=decide (i=j):=decide_eq_decide.mpr ⟨V.str.inj,λh=>by rw[h]⟩
theorem OR:AO K (V8 K) (Ah id):=λH0 A0 G al H st x y dx dy Q R I h1 h2 q k=>by
 unfold Ah at q
 split at q
 ·rw[aP.aM h1,aP.aM h2]
  exact .inl ⟨rfl,k.here I (.d (.bl _)) (by rw[Tq];exact q)⟩
 ·rw[aP.dk h1,aP.dk h2]
  exact .inl ⟨rfl,k.here I (.d (.bl _)) (by rw[Tr];exact q)⟩
 ·split at q
  ·rename_i i j e1 e2
   exact .inr ⟨i,j,h1.Tp I e1,h2.Tp I e2,q.1.1,q.1.2,k.here I (.d (.bl _)) q.2⟩
  ·exact q.elim
theorem Ts:AO K (V9 K) (Ah not):=λH0 A0 G al H st x y dx dy Q R I h1 h2 q k=>by
 unfold Ah at q
 split at q
 ·rw[aP.aM h1,aP.aM h2]
  exact .inl ⟨rfl,k.here I (.d (.bl _)) (by rw[Tq];exact q)⟩
 ·rw[aP.dk h1,aP.dk h2]
  exact .inl ⟨rfl,k.here I (.d (.bl _)) (by rw[Tr];exact q)⟩
 ·split at q
  ·rename_i i j e1 e2
   exact .inr ⟨i,j,h1.Tp I e1,h2.Tp I e2,q.1.1,q.1.2,k.here I (.d (.bl _)) q.2⟩
  ·exact q.elim
theorem Tt(hu:X.A.units + 64 < cLine)(ha:cc X a ea)(hb:cc X b eb):cc X (.Compare a [.Eq] [b] pos) (wK (Ah id) ea eb):=PZ (rQ bD (B4 hu)) OR ha hb (aC _)
@[reducible] def G3:DV->Bool
 | .dat .none=>true
 | _=>false
@[reducible] def Mh(n:Bool->Bool)(x y:DV)(st:aQ)(Q:DC):Prop:=match y with
 | .dat .none=>Q (.dat (.bool (n (G3 x)))) st
 | _=>False
theorem G4{H:Hp}{P:Addr->Prop}{al:List (List Addr)}{v:V}{x:DV}(h:kP K P H al v x):decide (v=.non)=G3 x:=by
 cases x with
 | ref k=>obtain⟨a,r,_,rfl⟩:=h;rfl
 | dat d =>
  cases d with
  | none=>rw[aP.jI h];rfl
  | bool b=>rw[aP.oA h];rfl
  | int i=>rw[aP.aM h];rfl
  | str i=>rw[aP.dk h];rfl
  | list ds=>obtain⟨a,ys,rfl,_⟩:=aP.dI h;rfl
  | tuple ds=>obtain⟨a,ys,rfl,_⟩:=aP.bX h;rfl
  | dict kv=>have h:aS K (cutH P H) v (.dict kv):=h;cases h
end
end L2
namespace L2
open PySem PySem.Spec PyProof.Rows
section
variable {X:Cx} {a b c e:Expr} {es:List Expr} {pos:Pos} {ea eb ec:DX} {K:av}
theorem df.rO{α:Type}{R:V->α->Prop}{ys:List V}{xs:List α}(h:df R ys xs){i:Int}{x:α}(hx:rO xs i=some x):∃y,L2.rO ys i=some y/\R y x:=by
 unfold L2.rO at hx ⊢
 rw[h.1]
 cases q:Fw xs.length i with
 | none=>rw[q]at hx;cases hx
 | some j =>
  rw[q]at hx
  exact h.at hx
@[reducible] def sW(st:aQ):DV->Option (List PyData)
 | .dat (.tuple ds)=>some ds
 | x=>kB st x
theorem kP.Tu{H0:Hp}{A0:Addr->Prop}{G:Addr->Prop}{al:List (List Addr)}{H:Hp}{st:aQ}(I:DI K H0 A0 G al H st){v:V}{x:DV}{ds:List PyData}(h:kP K (Fb G al st) H al v x)(e:sW st x=some ds):∃(a:Addr) (ys:List V),v=.ref a/\(bc K H a ys∨ba K H a ys)/\df (aP K (Fb G al st) H) ys ds:=by
 unfold sW at e
 split at e
 ·cases e
  obtain⟨a,ys,h1,h2,_,h3⟩:=aP.bX h
  exact⟨a,ys,h1,.inr h2,h3⟩
 ·obtain⟨a,ys,h1,h2,h3⟩:=h.P1 I e
  exact⟨a,ys,h1,.inl h2,h3⟩
@[reducible] def Ve(x y:DV)(st:aQ)(Q:DC):Prop:=match x,y with
 | .dat (.str z),.dat (.int i)=>z.length<=1000000/\∃c,L2.rO z.cps.toList i=some c/\Q (.dat (.str ⟨#[c]⟩)) st
 | x,.dat (.int i)=>match sW st x with
  | some ds=>∃d,L2.rO ds i=some d/\Q (.dat d) st
  | none=>False
 | _,_=>False
theorem Tv:AO K (ZO K) Ve:=λH0 A0 G al H st x y dx dy Q R I h1 h2 q k=>by
 unfold Ve at q
 split at q
 ·obtain⟨q1,c,q2,q3⟩:=q
  rw[aP.dk h1,aP.aM h2]
  exact .inr (.inr ⟨_,_,c,rfl,rfl,oU q1,q2,k.here I (.d (.str _)) q3⟩)
 ·split at q
  ·rename_i ds e
   obtain⟨d,q1,q2⟩:=q
   rw[aP.aM h2]
   obtain⟨a,ys,rfl,g1,g2⟩:=h1.Tu I e
   obtain⟨z,g3,g4⟩:=g2.rO q1
   rcases g1 with g1 | g1
   ·exact .inl ⟨a,ys,_,z,rfl,rfl,g1,g3,k.here I (.d g4) q2⟩
   ·exact .inr (.inl ⟨a,ys,_,z,rfl,rfl,g1,g3,k.here I (.d g4) q2⟩)
  ·exact q.elim
 ·exact q.elim
theorem vm(ha:cc X a ea)(hb:cc X b eb)(hs:ym b):cc X (.Subscript a b pos) (wK Ve ea eb):=by
 obtain⟨ta,p1,a1⟩:=ha.h
 obtain⟨tb,p2,a2⟩:=hb.h
 exact⟨_,au Gw p1 p2 hs,Di Tv a1 a2⟩
@[reducible] def qv:PyData->Bool
 | .none=>true
 | .bool _=>true
 | .int _=>true
 | .str _=>true
 | _=>false
theorem yD{P:Addr->Prop}{H:Hp}{v:V}{d:PyData}(h:aP K P H v d)(f:qv d=true):iw v=true/\∀H',aS K H' v d:=by
 cases d with
 | none=>rw[aP.jI h];exact⟨rfl,λ_=>.non⟩
 | bool b=>rw[aP.oA h];exact⟨rfl,λ_=>.bl b⟩
 | int i=>rw[aP.aM h];exact⟨rfl,λ_=>.int i⟩
 | str i=>rw[aP.dk h];exact⟨rfl,λ_=>.str i⟩
 | _=>cases f
theorem Mi{P P':Addr->Prop}{H H':Hp}{v u:V}{d d':PyData}(h:aP K P H v d)(h':aP K P' H' u d')(f:qv d=true)(f':qv d'=true):D3 v u=PyData.eqv d d':=by
 cases d with
 | none=>rw[aP.jI h];cases d' with
  | none=>rw[aP.jI h'];rfl
  | bool b=>rw[aP.oA h'];rfl
  | int i=>rw[aP.aM h'];rfl
  | str i=>rw[aP.dk h'];rfl
  | _=>cases f'
 | bool b=>rw[aP.oA h];cases d' with
  | none=>rw[aP.jI h'];rfl
  | bool b=>rw[aP.oA h'];rfl
  | int i=>rw[aP.aM h'];rfl
  | str i=>rw[aP.dk h'];rfl
  | _=>cases f'
 | int i=>rw[aP.aM h];cases d' with
  | none=>rw[aP.jI h'];rfl
  | bool b=>rw[aP.oA h'];rfl
  | int i=>rw[aP.aM h'];rfl
  | str i=>rw[aP.dk h'];rfl
  | _=>cases f'
 | str i=>rw[aP.dk h];cases d' with
  | none=>rw[aP.jI h'];rfl
  | bool b=>rw[aP.oA h'];rfl
  | int i=>rw[aP.aM h'];rfl
  | str i=>rw[aP.dk h'];rfl
  | _=>cases f'
 | _=>cases f
def inD(x:PyData)(ds:List PyData):Bool:=ds.any λd=>PyData.eqv d x
theorem OS{P:Addr->Prop}{H:Hp}{v:V}{d:PyData}(h:aP K P H v d)(f:qv d=true):∀{ys:List V} {ds:List PyData},df (aP K P H) ys ds->ds.all qv=true->ys.all iw=true/\Gy v ys=inD d ds
 | [],[],_,_=>⟨rfl,rfl⟩
 | [],_::_,r,_=>by have:=r.1;simp at this
 | _::_,[],r,_=>by have:=r.1;simp at this
 | y::ys,x::ds,r,g=>by
  rw[List.all_cons,Bool.and_eq_true]at g
  have r0:=r.2 0 y x rfl rfl
  obtain⟨z1,z2⟩:=OS h f (ys:=ys) (ds:=ds) ⟨by simpa using r.1,λi p q a b=>r.2 (i + 1) p q (by simpa using a) (by simpa using b)⟩ g.2
  unfold Gy inD at z2 ⊢
  rw[List.all_cons,List.any_cons,List.any_cons,z1,z2,(yD r0 g.1).1,Mi r0 h g.1 f]
  exact⟨rfl,rfl⟩
@[reducible] def Vf(n:Bool->Bool)(x y:DV)(st:aQ)(Q:DC):Prop:=match x with
 | .dat d=>match sW st y with
  | some ds=>(qv d=true/\ds.all qv=true)/\Q (.dat (.bool (n (inD d ds)))) st
  | none=>False
 | _=>False
theorem Tw(neg:Bool):AO K (ZP K neg) (Vf (if neg then not else id)):=λH0 A0 G al H st x y dx dy Q R I h1 h2 q k=>by
 unfold Vf at q
 split at q
 ·split at q
  ·rename_i ds e
   obtain⟨a,ys,rfl,g1,g2⟩:=h2.Tu I e
   obtain⟨z1,z2⟩:=OS h1 q.1.1 g2 q.1.2
   refine⟨a,ys,rfl,g1,(yD h1 q.1.1).1,z1,k.here I (.d (.bl _)) ?_⟩
   rw[z2]
   cases neg<;>exact q.2
  ·exact q.elim
 ·exact q.elim
theorem G5{x:Str}{l:List Str}:inD (.str x) (l.map PyData.str)=decide (x∈l):=by
 unfold inD
 rw[List.any_map,Bool.eq_iff_iff,List.any_eq_true,decide_eq_true_iff]
 constructor
 ·rintro⟨y,h1,h2⟩
  have:(y == x)=true:=h2
  rw[beq_iff_eq]at this
  exact this ▸ h1
 ·intro h
  exact⟨x,h,show(x == x)=true from beq_self_eq_true x⟩
abbrev DO:=cz->aQ->(Option Int->aQ->Prop)->Prop
@[reducible] def OT(_:cz)(st:aQ)(Q:Option Int->aQ->Prop):Prop:=Q none st
@[reducible] def OU(e:DX)(env:cz)(st:aQ)(Q:Option Int->aQ->Prop):Prop:=e env st λx aJ=>match x with
 | .dat (.int i)=>Q (some i) aJ
 | _=>False
structure Vg(X:Cx)(e:Option Expr)(d:DO):Prop where
 h:∃t,PO X e t/\∀(H0:Hp) (A0:Addr->Prop) (G:Addr->Prop) (al:List (List Addr)) (H:Hp) (st:aQ) (s:St) (env:cz) (Q:Option Int->aQ->Prop) (R:Option Int->Hp->Prop),DI X.K H0 A0 G al H st->ui X.K (Fb G al st) H al s env->d env st Q ->
  (∀i st' al' H',Ext al H st al' H' st'->DI X.K H0 A0 G al' H' st'->Q i st'->R i H')->t s H R
theorem Dq:Vg X none OT:=⟨_,qo,λH0 A0 G al H st s env Q R I E q k=>k none st al H .refl I q⟩
theorem uF(ha:cc X a ea):Vg X (some a) (OU ea):=by
 obtain⟨ta,p1,a1⟩:=ha.h
 refine⟨_,qp p1,λH0 A0 G al H st s env Q R I E q k=>a1 H0 A0 G al H st s env _ _ I E q λx aJ bO v H1 e1 I1 d1 q1=>?_⟩
 split at q1
 ·rw[aP.aM d1]
  exact⟨_,rfl,k _ _ _ _ e1 I1 q1⟩
 ·exact q1.elim
def cutD(xs:List PyData)(lo hi:Option Int):List PyData:=(xs.drop (HT.eA xs.length 0 lo)).take (HT.eA xs.length xs.length hi - HT.eA xs.length 0 lo)
theorem df.cut{P:Addr->Prop}{H:Hp}{ys:List V}{ds:List PyData}(h:df (aP K P H) ys ds)(lo hi:Option Int):df (aP K P H) (jr ys lo hi) (cutD ds lo hi):=by
 unfold jr cutD
 rw[h.1]
 exact(h.drop _).take _
@[reducible] def ZV(ea:DX)(lo hi:DO)(env:cz)(st:aQ)(Q:DC):Prop:=ea env st λx aJ=>lo env aJ λl dQ=>hi env dQ λu uY=>match x with
 | .dat (.str z)=>z.length<=1000000/\Q (.dat (.str (Txt.slice z l u))) uY
 | .dat (.tuple ds)=>Q (.dat (.tuple (cutD ds l u))) uY
 | x=>match kB uY x with
  | some ds=>Q (.dat (.list (cutD ds l u))) uY
  | none=>False
theorem G6{r r':V->Option Int->Option Int->Hp->VK->Prop}(h:Kw X r)(h':Kw X r'):Kw X (λx l u H Q=>r x l u H Q∨r' x l u H Q):=by
 unfold Kw at h h' ⊢
 intros
 rename_i q
 rcases q with q | q
 ·apply h<;>assumption
 ·apply h'<;>assumption
theorem Wa:Kw X (λx l u H Q=>OO x l u H Q∨(Tg X.K x l u H Q∨SW X.K x l u H Q)):=G6 L7 (G6 yu yo)
theorem G7{lo hi:Option Expr}{l u:DO}{p2:Pos}(ha:cc X a ea)(hl:Vg X lo l)(hh:Vg X hi u):cc X (.Subscript a (.Slice lo hi none p2) pos) (ZV ea l u):=by
 obtain⟨ta,p1,a1⟩:=ha.h
 obtain⟨tl,p2,a2⟩:=hl.h
 obtain⟨th,p3,a3⟩:=hh.h
 refine⟨_,kS Wa p1 p2 p3,λH0 A0 G al H st s env Q R I E q k=>a1 H0 A0 G al H st s env _ _ I E q λx aJ bO v H1 e1 I1 d1 q1=>?_⟩
 refine a2 H0 A0 G bO H1 aJ s env _ _ I1 (E.ext e1) q1 λi dQ iB H2 e2 I2 q2=>?_
 have Dr:=e1.trans I1 e2
 refine a3 H0 A0 G iB H2 dQ s env _ _ I2 (E.ext Dr) q2 λj uY Wb H3 e3 I3 q3=>?_
 have k3:=k.go I3 (Dr.trans I2 e3)
 have d3:=(d1.ext e2).ext e3
 split at q3
 ·rw[aP.dk d3]
  exact .inl ⟨_,rfl,oU q3.1,k3.here I3 (.d (.str _)) q3.2⟩
 ·obtain⟨b,ys,rfl,g1,_,g2⟩:=aP.bX d3
  refine .inr (.inl ⟨b,ys,rfl,g1,λp H' s hp=>k3.laid I3 s (.d ?_) q3⟩)
  have g:=(g2.cut i j).imp λy x z=>z.same s
  exact aS.tup ((I3.same s).yC hp) g.1 g.2
 ·split at q3
  ·rename_i ds e
   obtain⟨b,ys,rfl,g1,g2⟩:=d3.P1 I3 e
   exact .inr (.inr ⟨b,ys,rfl,g1,λp hp=>k3.list I3 hp (g2.cut i j) q3⟩)
  ·exact q3.elim
@[reducible] def Kz(ea:DX)(env:cz)(st:aQ)(Q:Bool->aQ->Prop):Prop:=ea env st λx aJ=>match x with
 | .dat (.bool b)=>Q b aJ
 | _=>False
@[reducible] def G8(t u:DT)(env:cz)(st:aQ)(Q:Bool->aQ->Prop):Prop:=t env st λb aJ=>if b=true then u env aJ Q else Q false aJ
@[reducible] def Qe(t u:DT)(env:cz)(st:aQ)(Q:Bool->aQ->Prop):Prop:=t env st λb aJ=>if b=true then Q true aJ else u env aJ Q
@[reducible] def OV(t:DT)(env:cz)(st:aQ)(Q:Bool->aQ->Prop):Prop:=t env st λb aJ=>Q (!b) aJ
theorem G9{t:TE}{e:DX}(h:AE K t e):AT K (Gn t) (Kz e):=λH0 A0 G al H st s env Q R I E q k=>h H0 A0 G al H st s env _ _ I E q λx aJ bO v H1 e1 I1 d1 q1=>by
 split at q1
 ·rw[aP.oA d1]
  exact⟨_,rfl,k _ _ _ _ e1 I1 q1⟩
 ·exact q1.elim
theorem rR{op:CmpOp}{r:R2}{o:Sg}(ho:iq X (compareOp op) r)(ao:AO X.K r o)(ha:cc X a ea)(hb:cc X b eb)(hm:behindInMarks op b=false):BA X (.Compare a [op] [b] pos) (Kz (wK o ea eb)):=by
 obtain⟨ta,p1,a1⟩:=ha.h
 obtain⟨tb,p2,a2⟩:=hb.h
 exact⟨_,tR ho p1 p2 hm,G9 (Di ao a1 a2)⟩
theorem OW(ha:cc X a ea)(hb:cc X b eb):BA X (.Compare a [.Lt] [b] pos) (Kz (wK (P0 λi j=>.bool (decide (i < j))) ea eb)):=rR xp (Dj λ_ _ _=>.bl _) ha hb (aC _)
theorem Tx(ha:cc X a ea)(hb:cc X b eb):BA X (.Compare a [.Gt] [b] pos) (Kz (wK (P0 λi j=>.bool (decide (j < i))) ea eb)):=rR xq (Dj λ_ _ _=>.bl _) ha hb (aC _)
theorem Ha(hu:X.A.units + 64 < cLine)(ha:cc X a ea)(hb:cc X b eb):BA X (.Compare a [.Eq] [b] pos) (Kz (wK (Ah id) ea eb)):=rR (rQ bD (B4 hu)) OR ha hb (aC _)
theorem Ai(hu:X.A.units + 64 < cLine)(ha:cc X a ea)(hb:cc X b eb):BA X (.Compare a [.NotEq] [b] pos) (Kz (wK (Ah not) ea eb)):=rR (rQ OE (PN hu)) Ts ha hb (aC _)
theorem Hb(ha:cc X a ea)(hb:cc X b eb)(hm:behindInMarks .In b=false):BA X (.Compare a [.In] [b] pos) (Kz (wK (Vf id) ea eb)):=rR js (Tw false) ha hb hm
theorem Mj:AO K (λx y H Q=>y=.non/\Q (.bl (!decide (x=.non))) H) (Mh not):=λH0 A0 G al H st x y dx dy Q R I h1 h2 q k=>by
 unfold Mh at q
 split at q
 ·exact⟨aP.jI h2,k.here I (.d (.bl _)) (by rw[G4 h1];exact q)⟩
 ·exact q.elim
theorem Ds(ha:cc X a ea)(hb:cc X b eb):BA X (.Compare a [.IsNot] [b] pos) (Kz (wK (Mh not) ea eb)):=rR qk Mj ha hb (aC _)
theorem i7(ha:cc X a ea)(he:∀whole,isTrue a X.env whole=(do let v ← whole;standAt a.pos;holding [v] (truthy v)):=by intro _;rfl):BA X a (Kz ea):=by
 obtain⟨ta,p1,a1⟩:=ha.h
 exact⟨_,rJ p1 he,G9 a1⟩
variable {rest:List Expr} {ta tb:DT}
theorem oV(ha:BA X a ta):BA X (.UnaryOp .Not a pos) (OV ta):=by
 obtain⟨t,p1,a1⟩:=ha.h
 exact⟨_,uT p1,λH0 A0 G al H st s env Q R I E q k=>a1 H0 A0 G al H st s env _ _ I E q λb aJ bO H1 e1 I1 q1=>k _ _ _ _ e1 I1 q1⟩
theorem uG(ha:BA X a ta):Af X (.BoolOp .And [a] pos) ta:=by
 obtain⟨t,p1,a1⟩:=ha.h
 exact⟨_,pw_and1 p1,a1⟩
theorem vn(ha:BA X a ta):Af X (.BoolOp .Or [a] pos) ta:=by
 obtain⟨t,p1,a1⟩:=ha.h
 exact⟨_,pw_or1 p1,a1⟩
theorem Qf{t u:TT}(h1:AT K t ta)(h2:AT K u tb):AT K (Ss t u) (G8 ta tb):=λH0 A0 G al H st s env Q R I E q k=>h1 H0 A0 G al H st s env _ _ I E q λb aJ bO H1 e1 I1 q1=>by
 cases b with
 | true=>exact fG (h2 H0 A0 G bO H1 aJ s env _ _ I1 (E.ext e1) (by rw[if_pos rfl]at q1;exact q1) (k.go I1 e1))
 | false=>exact bV (k _ _ _ _ e1 I1 (by rw[if_neg Bool.false_ne_true]at q1;exact q1))
theorem Tz{t u:TT}(h1:AT K t ta)(h2:AT K u tb):AT K (ZH t u) (Qe ta tb):=λH0 A0 G al H st s env Q R I E q k=>h1 H0 A0 G al H st s env _ _ I E q λb aJ bO H1 e1 I1 q1=>by
 cases b with
 | false=>exact bV (h2 H0 A0 G bO H1 aJ s env _ _ I1 (E.ext e1) (by rw[if_neg Bool.false_ne_true]at q1;exact q1) (k.go I1 e1))
 | true=>exact fG (k _ _ _ _ e1 I1 (by rw[if_pos rfl]at q1;exact q1))
theorem yE(ha:BA X a ta)(hb:Af X (.BoolOp .And (b::rest) pos) tb):Af X (.BoolOp .And (a::b::rest) pos) (G8 ta tb):=by
 obtain⟨t,p1,a1⟩:=ha.h
 obtain⟨u,p2,a2⟩:=hb.h
 exact⟨_,pw_and p1 p2,Qf a1 a2⟩
theorem sX(ha:BA X a ta)(hb:Af X (.BoolOp .Or (b::rest) pos) tb):Af X (.BoolOp .Or (a::b::rest) pos) (Qe ta tb):=by
 obtain⟨t,p1,a1⟩:=ha.h
 obtain⟨u,p2,a2⟩:=hb.h
 exact⟨_,pw_or p1 p2,Tz a1 a2⟩
theorem Af.dt(h:Af X a ta):BA X a ta:=by
 obtain⟨t,p1,a1⟩:=h.h
 exact⟨_,p1.pt,a1⟩
end
end L2
namespace L2
open PySem PySem.Spec PyProof.Rows
theorem Hc{α:Type}{R:V->α->Prop}{vs:List V}{x:α}(h:df R vs [x]):∃v,vs=[v]/\R v x:=by
 have:=h.1
 match vs,this,h with
 | [v],_,h=>exact⟨v,rfl,h.2 0 v x rfl rfl⟩
theorem Ml{α:Type}{R:V->α->Prop}{vs:List V}{x y:α}(h:df R vs [x,y]):∃v u,vs=[v,u]/\R v x/\R u y:=by
 have:=h.1
 match vs,this,h with
 | [v,u],_,h=>exact⟨v,u,rfl,h.2 0 v x rfl rfl,h.2 1 u y rfl rfl⟩
section
variable {X:Cx} {a b c e:Expr} {es:List Expr} {pos p:Pos} {ea eb ec:DX} {K:av} {x:Str} {id:String} {n:Nat} {d:vh} {r r':List V->Hp->VK->Prop} {o:Tn}
@[reducible] def Hd(o:Tn)(d:vh)(env:cz)(st:aQ)(Q:DC):Prop:=d env st λxs aJ=>o xs aJ Q
theorem OX{t:TA}(ho:AB K r o)(h:AA K t n d):AE K (VO r t) (Hd o d):=λH0 A0 G al H st s env Q R I E q k=>h H0 A0 G al H st s env _ _ I E q λxs aJ bO vs H1 e1 I1 d1 q1=>ho H0 A0 G bO H1 aJ vs xs Q R I1 d1 q1.2 (k.go I1 e1)
theorem Aj(hc:jo X (.builtin id) r)(ho:AB X.K r o)(hg:Gl X x)(hm:X.mg x=none)(hv:bootBuiltins x=some (.builtin id))(ha:Ag X (e::es) n d)(hn:x≠"__name__":=by decide)(hdb:(x == ("__debug__" : Str))=false:=by decide)
  (he:starEach (e::es) X.env=(false,eval e X.env)::starEach es X.env:=by rfl) (hpl:(backTo pos (starEach es X.env)).any (·.1)=false:=by rfl):cc X (.Call (.Name x p) (e::es) [] pos) (Hd o d):=by
 obtain⟨t,p1,a1⟩:=ha.h
 exact⟨_,bH hc hg hm hv p1 hn hdb he hpl,OX ho a1⟩
theorem Ed{T:String}(hc:jo X (.type T) r)(ho:AB X.K r o)(hg:Gl X x)(hm:X.mg x=none)(hv:bootBuiltins x=some (.type T))(ha:Ag X (e::es) n d)(hn:x≠"__name__":=by decide)(hdb:(x == ("__debug__" : Str))=false:=by decide)
  (he:starEach (e::es) X.env=(false,eval e X.env)::starEach es X.env:=by rfl) (hpl:(backTo pos (starEach es X.env)).any (·.1)=false:=by rfl):cc X (.Call (.Name x p) (e::es) [] pos) (Hd o d):=by
 obtain⟨t,p1,a1⟩:=ha.h
 exact⟨_,cR hc hg hm hv p1 hn hdb he hpl,OX ho a1⟩
theorem TB{f:Value}(h:jo X f r)(h':jo X f r'):jo X f (λxs H Q=>r xs H Q∨r' xs H Q):=λpins s σ H xs us Q I rv q=>by
 rcases q with q | q
 ·exact h pins s σ H xs us Q I rv q
 ·exact h' pins s σ H xs us Q I rv q
@[reducible] def Mm(xs:List DV)(st:aQ)(Q:DC):Prop:=match xs with
 | [.dat (.str z)]=>z.length<=1000000/\Q (.dat (.int z.length)) st
 | [x]=>match sW st x with
  | some ds=>Q (.dat (.int ds.length)) st
  | none=>False
 | _=>False
theorem Qg:AB K (λxs H Q=>(∃p ys,xs=[.ref p]/\(bc K H p ys∨ba K H p ys)/\Q (.int ys.length) H)∨∃z,xs=[.str z]/\z.length<=sizeLine/\Q (.int z.length) H) Mm:=λH0 A0 G al H st vs ds Q R I h q k=>by
 unfold Mm at q
 split at q
 ·obtain⟨v,rfl,h1⟩:=Hc h
  rw[aP.dk h1]
  exact .inr ⟨_,rfl,oU q.1,k.here I (.d (.int _)) q.2⟩
 ·split at q
  ·rename_i ds e
   obtain⟨v,rfl,h1⟩:=Hc h
   obtain⟨p,ys,rfl,g1,g2⟩:=h1.Tu I e
   exact .inl ⟨p,ys,rfl,g1,k.here I (.d (.int _)) (by rw[g2.len];exact q)⟩
  ·exact q.elim
 ·exact q.elim
theorem gy(hg:Gl X "len")(hm:X.mg "len"=none)(ha:Ag X [e] n d)(he:starEach [e] X.env=(false,eval e X.env)::starEach [] X.env:=by rfl):cc X (.Call (.Name "len" p) [e] [] pos) (Hd Mm d):=Aj (TB aT yq) Qg hg hm dh ha (by decide) (by decide) he rfl
@[reducible] def Dt(xs:List DV)(st:aQ)(Q:DC):Prop:=match xs with
 | [x]=>match sW st x with
  | some ds=>Q (.dat (.list ds)) st
  | none=>False
 | _=>False
theorem Mn:AB K (λxs H Q=>∃p ys,xs=[.ref p]/\(bc K H p ys∨ba K H p ys)/\∀l,H l=none->Q (.ref l) (upd H l (.lst ys))) Dt:=λH0 A0 G al H st vs ds Q R I h q k=>by
 unfold Dt at q
 split at q
 ·split at q
  ·rename_i ds e
   obtain⟨v,rfl,h1⟩:=Hc h
   obtain⟨p,ys,rfl,g1,g2⟩:=h1.Tu I e
   exact⟨p,ys,rfl,g1,λl hl=>k.list I hl g2 q⟩
  ·exact q.elim
 ·exact q.elim
theorem Du(hg:Gl X "list")(hm:X.mg "list"=none)(ha:Ag X [e] n d)(he:starEach [e] X.env=(false,eval e X.env)::starEach [] X.env:=by rfl):cc X (.Call (.Name "list" p) [e] [] pos) (Hd Dt d):=Ed bL Mn hg hm fU ha (by decide) (by decide) he rfl
@[reducible] def Mo(xs:List DV)(st:aQ)(Q:DC):Prop:=match xs with
 | [.dat (.int i),.dat (.int j)]=>Q (.dat (.int (if j < i then j else i))) st
 | _=>False
theorem yF{P:Addr->Prop}{H:Hp}:∀{ys:List V} {ns:List Int},df (aP K P H) ys (ns.map PyData.int)->ys=ns.map V.int
 | [],[],_=>rfl
 | [],_::_,h=>by have:=h.1;simp at this
 | _::_,[],h=>by have:=h.1;simp at this
 | y::ys,i::ns,h=>by
  have h0:=aP.aM (h.2 0 y (.int i) rfl rfl)
  have ht:=yF (ys:=ys) (ns:=ns) ⟨by simpa using h.1,λj p q a b=>h.2 (j + 1) p q (by simpa using a) (by simpa using b)⟩
  rw[h0,ht]
  rfl
theorem Qh:AB K (λxs H Q=>∃i j,xs=[.int i,.int j]/\Q (.int (if j < i then j else i)) H) Mo:=λH0 A0 G al H st vs ds Q R I h q k=>by
 unfold Mo at q
 split at q
 ·obtain⟨v,u,rfl,h1,h2⟩:=Ml h
  rw[aP.aM h1,aP.aM h2]
  exact⟨_,_,rfl,k.here I (.d (.int _)) q⟩
 ·exact q.elim
theorem Qi(hc:X.calm=true)(hg:Gl X "min")(hm:X.mg "min"=none)(ha:Ag X (e::es) n d)(he:starEach (e::es) X.env=(false,eval e X.env)::starEach es X.env:=by rfl)(hpl:(backTo pos (starEach es X.env)).any (·.1)=false:=by rfl):cc X (.Call (.Name "min" p) (e::es) [] pos) (Hd Mo d):=Aj (DR hc) Qh hg hm PJ ha (by decide) (by decide) he hpl
abbrev xD:=List PyData->(PyData->Prop)->Prop
def Qj(K:av)(T:xD):Sp:=λvs H Q _=>∃(P:Addr->Prop) (ds:List PyData),(∀c,P c->∃o,H c=some o/\oS o)/\df (aP K P H) vs ds/\T ds λd=>∀v H',aB H H'->aP K P H' v d->Q v H'
def B9(K:av)(sp:Sp)(T:xD):Prop:=∀(vs:List V) (H:Hp) (Q:VK) (P:Addr->Prop) (ds:List PyData),(∀c,P c->∃o,H c=some o/\oS o)->df (aP K P H) vs ds->T ds (λd=>∀v H',aB H H'->aP K P H' v d->Q v H')->sp vs H Q E0
theorem xE{T:xD}:B9 K (Qj K T) T:=λvs H Q P ds h1 h2 h3=>⟨P,ds,h1,h2,h3⟩
def qw(T:xD):Prop:=∀ds (Q Q':PyData->Prop),(∀d,Q d->Q' d)->T ds Q->T ds Q'
@[reducible] def He(T:xD)(xs:List DV)(st:aQ)(Q:DC):Prop:=jD xs st λds aJ=>T ds λd=>Q (.dat d) aJ
@[reducible] def rS(st:aQ):List DV->Option (List PyData)
 | []=>some []
 | x::r=>match vi st x,rS st r with
  | some d,some ds=>some (d::ds)
  | _,_=>none
@[reducible] def yG(T:xD)(xs:List DV)(st:aQ)(Q:DC):Prop:=match rS st xs with
 | some ds=>T ds λd=>qv d=true/\Q (.dat d) st
 | none=>False
theorem yH{H0:Hp}{A0:Addr->Prop}{G:Addr->Prop}{al:List (List Addr)}{H:Hp}{st:aQ}(I:DI K H0 A0 G al H st):∀{xs:List DV} {vs:List V} {ds:List PyData},df (kP K (Fb G al st) H al) vs xs->rS st xs=some ds->df (aS K H) vs ds
 | [],[],ds,_,e=>by cases e;exact .nil
 | [],_::_,_,h,_=>by have:=h.1;simp at this
 | _::_,[],_,h,_=>by have:=h.1;simp at this
 | x::xs,v::vs,ds,h,e=>by
  have e:(match vi st x,rS st xs with | some d,some ds=>some (d::ds) | _,_=>none)=some ds:=e
  split at e
  ·rename_i d ds' e1 e2
   cases e
   exact .cons ((h.2 0 v x rfl rfl).Tp I e1) (yH I ⟨by simpa using h.1,λi p q a b=>h.2 (i + 1) p q (by simpa using a) (by simpa using b)⟩ e2)
  ·cases e
theorem Ca{H:Hp}{v:V}{d:PyData}(h:aS K H v d):aP K (λ_=>False) H v d:=aS.same (λc o e=>aX.mpr ⟨id,e⟩) h
theorem Mp{sp:Sp}{T:xD}(h:B9 K sp T)(m:qw T):AB K (λvs H Q=>sp (vs++[]) H Q E0) (He T):=λH0 A0 G al H st vs ds Q R I hp q k=>by
 obtain⟨es,aJ,E1,I1,F1,q1⟩:=nV I hp q
 rw[List.append_nil]
 refine h vs H R (Fb G al aJ) es (λc hc=>I1.wJ hc) F1 (m _ _ _ (λd hd v H' s r=>?_) q1)
 exact(k.go I1 E1).laid I1 s (.d r) hd
theorem Hf{sp:Sp}{T:xD}(h:B9 K sp T)(m:qw T):AB K (λvs H Q=>sp (vs++[]) H Q E0) (yG T):=λH0 A0 G al H st vs ds Q R I hp q k=>by
 unfold yG at q
 split at q
 ·rename_i es e
  rw[List.append_nil]
  refine h vs H R (λ_=>False) es (λ_ h=>h.elim) ((yH I hp e).imp λy x z=>Ca z) (m _ _ _ (λd hd v H' s r=>?_) q)
  exact k.laid I s (.d ((yD r hd.1).2 _)) hd.2
 ·exact q.elim
theorem Dv{sp:Sp}{t:TA}(h:AB K (λvs H Q=>sp (vs++[]) H Q E0) o)(ha:AA K t n d):AE K (Gr sp [] E0 t) (Hd o d):=λH0 A0 G al H st s env Q R I E q k=>ha H0 A0 G al H st s env _ _ I E q λxs aJ bO vs H1 e1 I1 d1 q1=>h H0 A0 G bO H1 aJ vs xs Q R I1 d1 q1.2 (k.go I1 e1)
theorem cf{kk:Nat}{ps:List Str}{sp:Sp}{T:xD}(h:cX X.prog X.w X.K X.mg X.base aL x kk ps sp)(hs:B9 X.K sp T)(m:qw T)(hr:dU kk X.A)(hg:Gl X x)(ha:Ag X (e::es) n d)(hdb:(x == ("__debug__" : Str))=false:=by decide)
  (he:starEach (e::es) X.env=(false,eval e X.env)::starEach es X.env:=by rfl) (hpl:(backTo pos (starEach es X.env)).any (·.1)=false:=by rfl):cc X (.Call (.Name x p) (e::es) [] pos) (Hd (He T) d):=by
 obtain⟨t,p1,a1⟩:=ha.h
 exact⟨_,bR h hr hg p1 hdb he hpl,Dv (Mp hs m) a1⟩
theorem Ee{kk:Nat}{ps:List Str}{sp:Sp}{T:xD}(h:cX X.prog X.w X.K X.mg X.base aL x kk ps sp)(hs:B9 X.K sp T)(m:qw T)(hr:dU kk X.A)(hg:Gl X x)(ha:Ag X (e::es) n d)(hdb:(x == ("__debug__" : Str))=false:=by decide)
  (he:starEach (e::es) X.env=(false,eval e X.env)::starEach es X.env:=by rfl) (hpl:(backTo pos (starEach es X.env)).any (·.1)=false:=by rfl):cc X (.Call (.Name x p) (e::es) [] pos) (Hd (yG T) d):=by
 obtain⟨t,p1,a1⟩:=ha.h
 exact⟨_,bR h hr hg p1 hdb he hpl,Dv (Hf hs m) a1⟩
end
end L2
namespace L2
open PySem PySem.Spec PyProof.Rows
abbrev yI:=cz->aQ->(List PyData->(aQ->Prop)->aQ->Prop)->Prop
def ZW(K:av)(H0:Hp)(A0:Addr->Prop)(G:Addr->Prop)(al:List (List Addr))(H:Hp)(st:aQ)(J:It)(xs:List PyData)(ok:aQ->Prop):Prop:=∀(G1:Addr->Prop) (bO:List (List Addr)) (H1:Hp) (aJ:aQ) (i:Nat),(∀c,G1 c->G c∨H c=none)->Ext al H st bO H1 aJ->DI K H0 A0 G1 bO H1 aJ->ok aJ ->
 (∀d,xs[i]?=some d->J.go i H1/\∀x H2,J.yld i H1 x H2->aB H1 H2/\aP K (Fb G1 bO aJ) H2 x d)/\(xs.length<=i->i<=xs.length->J.stop i H1)
def AI(K:av)(wi:TI)(di:yI):Prop:=∀(H0:Hp) (A0:Addr->Prop) (G:Addr->Prop) (al:List (List Addr)) (H:Hp) (st:aQ) (s:St) (env:cz) (Q:List PyData->(aQ->Prop)->aQ->Prop) (R:It->Hp->Prop),DI K H0 A0 G al H st->ui K (Fb G al st) H al s env->di env st Q ->
 (∀J xs ok st' al' H',Ext al H st al' H' st'->DI K H0 A0 G al' H' st'->ZW K H0 A0 G al' H' st' J xs ok->Q xs ok st'->R J H')->wi s H R
structure Si(X:Cx)(tg iter:Expr)(d:yI):Prop where
 h:∃wi,PI X tg iter wi/\AI X.K wi d
def ZX(K:av)(tl:TE):TI:=λσ H R=>tl σ H λx H1=>∃a,x=.ref a/\(((∃xs,bc K H1 a xs)/\R (OC K a) H1)∨((∃xs,ba K H1 a xs)/\R (VG K a) H1))
theorem TC{X:Cx}{tg l:Expr}{tl:TE}(hl:PE X l tl):PI X tg l (ZX X.K tl):=by
 intro pins s σ H R I h
 refine cK (hl pins s σ H _ I h) λv s1 ⟨x,H1,I1,r1,q1⟩=>?_
 obtain⟨a,e,q⟩:=q1
 subst e
 cases r1
 have fin:∀b∈[s1.heap.objs.size],qi X pins H1 b:=λb hb=>by
  have e:b=s1.heap.objs.size:=by simpa using hb
  subst e
  exact I1.Gf (Nat.le_refl _) (I1.hok.fresh (Nat.le_refl _))
 rcases q with⟨⟨xs,hq⟩,q⟩ | ⟨⟨xs,hq⟩,q⟩
 ·obtain⟨its,rv,p,hz⟩:=I1.list hq
  refine wpAny_pyIter_list p.isList ?_
  exact⟨s1.heap.objs.size,[s1.heap.objs.size],_,_,H1,rfl,I1.kept (t':=s1.toks) λb o e=>Heap.get?_push_of_some _ e,xo a _,⟨_,Heap.get?_push_size _ rfl,rfl,rfl⟩,fin,q⟩
 ·obtain⟨its,rv,p,hz⟩:=I1.tuple hq
  refine wpAny_pyIter_tuple (show s1.heap.IsTuple a its.toArray from p) ?_
  exact⟨s1.heap.objs.size,[s1.heap.objs.size],_,_,H1,rfl,I1.kept (t':=s1.toks) λb o e=>Heap.get?_push_of_some _ e,BI a _,⟨_,Heap.get?_push_size _ rfl,rfl,rfl⟩,fin,q⟩
def TH(K:av)(ta:TA):TI:=λσ H R=>ta σ H λvs H1=>∃q1 q2 l1 l2 xs ys,vs=[.ref l1,.ref l2]/\uE q1 K H1 l1 xs/\uE q2 K H1 l2 ys/\R (Sd q1 q2 K l1 l2 xs ys) H1
theorem Mq{X:Cx}{elts:List Expr}{kx}{tpos:Pos}{a b:Expr}{ta:TA}{p pos:Pos}(hg:Gl X "zip")(hm:X.mg "zip"=none)(ha:PA X [a,b] ta)(hs:starEach [a,b] X.env=[(false,eval a X.env),(false,eval b X.env)]:=by rfl)(BQ:starEach [b] X.env=[(false,eval b X.env)]:=by rfl):
  PI X (.Tuple elts kx tpos) (.Call (.Name "zip" p) [a,b] [] pos) (TH X.K ta):=by
 intro pins s σ H R I h
 refine Call_ (rH I hg hm GF (PyProof.Rows.callWith_type1 (cK (ha pos pins s σ H _ I h) λus s1 ⟨vs,H1,I1,r1,q1⟩=>?_) (by rw[hs,BQ]) (by rw[BQ];rfl)))
 obtain⟨w1,w2,l1,l2,xs,ys,rfl,s1',s2',q⟩:=q1
 obtain⟨u1,u2,rfl,S9,Ta⟩:=vals2 r1
 cases S9
 cases Ta
 obtain⟨us1,r1,p1⟩:=s1'.heap I1
 obtain⟨vs1,r2,p2⟩:=s2'.heap I1
 have n1:=p1.lt
 have n2:=p2.lt
 refine xB p1 p2 λh' hz hTI hTO h1 h2 kk=>?_
 refine wpAny_pyIter_zip hz ?_
 refine⟨s1.heap.objs.size + 4,[s1.heap.objs.size + 4,s1.heap.objs.size + 2,s1.heap.objs.size + 3,s1.heap.objs.size,s1.heap.objs.size + 1],_,_,H1,rfl,I1.kept (t':=s1.toks) kk,Ab xs ys ⟨?_,?_,?_,?_,?_,?_,?_,?_,?_,?_,?_,?_,?_,?_,?_,?_,?_,?_⟩,⟨hz,hTI,⟨_,_,hTO⟩,h1,h2⟩,?_,q⟩
 all_goals first | exact Nat.ne_of_lt (Nat.add_lt_add_left (by decide) _) | exact Nat.ne_of_gt (Nat.add_lt_add_left (by decide) _) | exact Nat.ne_of_lt (Nat.lt_add_of_pos_right (by decide)) | exact Nat.ne_of_gt (Nat.lt_add_of_pos_right (by decide)) | exact Nat.ne_of_lt (Nat.lt_of_lt_of_le n1 (Nat.le_add_right _ _)) | exact Nat.ne_of_lt (Nat.lt_of_lt_of_le n2 (Nat.le_add_right _ _)) | exact Nat.ne_of_lt n1 | exact Nat.ne_of_lt n2 | skip
 intro c hb
 have hb':s1.heap.objs.size<=c:=by
  simp at hb
  rcases hb with e | e | e | e | e<;>(rw[e];first | exact Nat.le_refl _ | exact Nat.le_add_right _ _)
 exact I1.Gf hb' (I1.hok.fresh hb')
section
variable {X:Cx} {tg a b c e:Expr} {es:List Expr} {pos p:Pos} {ea eb ec:DX} {K:av} {n:Nat} {d:vh}
theorem aP.seq{P:Addr->Prop}{H:Hp}{v:V}{d:PyData}{ds:List PyData}(h:aP K P H v d)(e:d=.list ds∨d=.tuple ds):∃q a ys,v=.ref a/\uE q K (cutH P H) a ys/\uE q K H a ys/\df (aP K P H) ys ds:=by
 rcases e with rfl | rfl
 ·obtain⟨a,ys,h1,h2,h3,h4⟩:=aP.dI h
  exact⟨true,a,ys,h1,h3,h2,h4⟩
 ·obtain⟨a,ys,h1,h2,h3,h4⟩:=aP.bX h
  exact⟨false,a,ys,h1,h3,h2,h4⟩
theorem uE.cut{P:Addr->Prop}{H:Hp}{q:Bool}{a:Addr}{ys:List V}(h:uE q K (cutH P H) a ys):uE q K H a ys:=by
 cases q with
 | true=>exact dj.seq h
 | false=>exact dj.tup h
theorem uE.same{H H':Hp}{q:Bool}{a:Addr}{ys:List V}(h:uE q K H a ys)(s:aB H H'):uE q K H' a ys:=by
 cases q with
 | true=>exact s.seq h
 | false=>exact s.tup h
@[reducible] def Qk(ea:DX)(env:cz)(st:aQ)(Q:List PyData->(aQ->Prop)->aQ->Prop):Prop:=ea env st λx aJ=>uA x aJ λd dQ=>match d with
 | .list ds=>Q ds (λ_=>True) dQ
 | .tuple ds=>Q ds (λ_=>True) dQ
 | _=>False
theorem Ql{t:TE}(h:AE K t ea):AI K (ZX K t) (Qk ea):=λH0 A0 G al H st s env Q R I E q k=>h H0 A0 G al H st s env _ _ I E q λx aJ bO v H1 e1 I1 d1 q1=>by
 obtain⟨d,dQ,E2,I2,F2,q2⟩:=vj I1 d1 q1
 obtain⟨ds,ed,q2⟩:∃ds,(d=.list ds∨d=.tuple ds)/\Q ds (λ_=>True) dQ:=by
  split at q2
  ·exact⟨_,.inl rfl,q2⟩
  ·exact⟨_,.inr rfl,q2⟩
  ·exact q2.elim
 obtain⟨w,a,ys,rfl,g1,g2,g3⟩:=F2.seq ed
 refine⟨a,rfl,?_⟩
 have Dr:=e1.trans I1 E2
 cases w with
 | true =>
  refine .inl ⟨⟨ys,g2⟩,k (OC K a) ds _ dQ bO H1 Dr I2 (λG1 Wb H3 uY i hG e3 I3 _=>⟨λd hd=>?_,λh1 _=>?_⟩) q2⟩
  ·have s3:=(eU hG e3).seq g1
   obtain⟨y,hy,_⟩:=g3.at hd
   refine⟨⟨ys,y,dj.seq s3,hy⟩,λx H4 ⟨e4,z⟩=>?_⟩
   subst e4
   have:=z ys (dj.seq s3)
   exact⟨.refl _,(g3.2 i x d this hd).kG hG e3⟩
  ·exact⟨ys,dj.seq ((eU hG e3).seq g1),by rw[g3.1];exact h1⟩
 | false =>
  refine .inr ⟨⟨ys,g2⟩,k (VG K a) ds _ dQ bO H1 Dr I2 (λG1 Wb H3 uY i hG e3 I3 _=>⟨λd hd=>?_,λh1 _=>?_⟩) q2⟩
  ·have s3:=(eU hG e3).tup g1
   obtain⟨y,hy,_⟩:=g3.at hd
   refine⟨⟨ys,y,dj.tup s3,hy⟩,λx H4 ⟨e4,z⟩=>?_⟩
   subst e4
   have:=z ys (dj.tup s3)
   exact⟨.refl _,(g3.2 i x d this hd).kG hG e3⟩
  ·exact⟨ys,dj.tup ((eU hG e3).tup g1),by rw[g3.1];exact h1⟩
theorem Cb(h:cc X a ea):Si X tg a (Qk ea):=by
 obtain⟨t,p1,a1⟩:=h.h
 exact⟨_,TC p1,Ql a1⟩
def Ef(lo:Int)(m:Nat):List PyData:=(List.range m).map λ(k:Nat)=>PyData.int (lo + (k:Int))
theorem ju{lo:Int}{m:Nat}:(Ef lo m).length=m:=by unfold Ef;rw[List.length_map,List.length_range]
theorem nW{lo:Int}{m i:Nat}{d:PyData}(h:(Ef lo m)[i]?=some d):i < m/\d=.int (lo + (i:Int)):=by
 have hi:=(bN h).1
 rw[ju]at hi
 unfold Ef at h
 rw[List.getElem?_map,List.getElem?_range hi]at h
 cases h
 exact⟨hi,rfl⟩
@[reducible] def Dw(d:vh)(env:cz)(st:aQ)(Q:List PyData->(aQ->Prop)->aQ->Prop):Prop:=d env st λxs aJ=>match xs with
 | [.dat (.int j)]=>(-(2 ^ 62)<=j/\j < 2 ^ 62)/\Q (Ef 0 j.toNat) (λ_=>True) aJ
 | _=>False
theorem Mr{H0:Hp}{A0:Addr->Prop}{G:Addr->Prop}{al:List (List Addr)}{H:Hp}{st:aQ}{lo:Int}{m:Nat}{ok:aQ->Prop}:ZW K H0 A0 G al H st (OD lo m) (Ef lo m) ok:=λG1 bO H1 aJ i hG e1 I1 _=>by
 refine⟨λd hd=>?_,λh1 _=>by rw[ju]at h1;exact h1⟩
 obtain⟨hi,rfl⟩:=nW hd
 refine⟨hi,λx H2 ⟨e,z⟩=>?_⟩
 subst e
 subst z
 exact⟨.refl _,.int _⟩
theorem ij(hg:Gl X "range")(hm:X.mg "range"=none)(ha:Ag X [a] n d)(hs:starEach [a] X.env=[(false,eval a X.env)]:=by rfl):Si X tg (.Call (.Name "range" p) [a] [] pos) (Dw d):=by
 obtain⟨t,p1,a1⟩:=ha.h
 refine⟨_,rK hg hm p1 hs,λH0 A0 G al H st s env Q R I E q k=>a1 H0 A0 G al H st s env _ _ I E q λxs aJ bO vs H1 e1 I1 d1 q1=>?_⟩
 have q1:=q1.2
 split at q1
 ·obtain⟨v,rfl,h1⟩:=Hc d1
  rw[aP.aM h1]
  exact⟨_,rfl,q1.1.1,q1.1.2,k _ _ _ aJ bO H1 e1 I1 Mr q1.2⟩
 ·exact q1.elim
def Hg(xs ys:List PyData):List PyData:=(xs.zip ys).map λp=>PyData.tuple [p.1,p.2]
@[reducible] def Ms:PyData->Option (List PyData)
 | .list ds=>some ds
 | .tuple ds=>some ds
 | _=>none
theorem Dx{d:PyData}{ds:List PyData}(h:Ms d=some ds):d=.list ds∨d=.tuple ds:=by
 cases d with
 | list x=>cases h;exact .inl rfl
 | tuple x=>cases h;exact .inr rfl
 | _=>cases h
@[reducible] def OY(d:vh)(env:cz)(st:aQ)(Q:List PyData->(aQ->Prop)->aQ->Prop):Prop:=d env st λxs aJ=>jD xs aJ λds dQ=>match ds with
 | [x,y]=>match Ms x,Ms y with
  | some xs,some ys=>Q (Hg xs ys) (λ_=>True) dQ
  | _,_=>False
 | _=>False
theorem Qm{elts:List Expr}{kx}{tpos:Pos}(hg:Gl X "zip")(hm:X.mg "zip"=none)(ha:Ag X [a,b] n d)(hs:starEach [a,b] X.env=[(false,eval a X.env),(false,eval b X.env)]:=by rfl)(BQ:starEach [b] X.env=[(false,eval b X.env)]:=by rfl):Si X (.Tuple elts kx tpos) (.Call (.Name "zip" p) [a,b] [] pos) (OY d):=by
 obtain⟨t,p1,a1⟩:=ha.h
 refine⟨_,Mq hg hm p1 hs BQ,λH0 A0 G al H st s env Q R I E q k=>a1 H0 A0 G al H st s env _ _ I E q λxs aJ bO vs H1 e1 I1 d1 q1=>?_⟩
 obtain⟨ds,dQ,E2,I2,F2,q2⟩:=nV I1 d1 q1.2
 have Dr:=e1.trans I1 E2
 split at q2
 ·split at q2
  ·rename_i us ws c1 c2
   obtain⟨v,u,rfl,h1,h2⟩:=Ml F2
   obtain⟨w1,l1,ys,rfl,f1,f2,f3⟩:=h1.seq (Dx c1)
   obtain⟨w2,l2,zs,rfl,g1,g2,g3⟩:=h2.seq (Dx c2)
   refine⟨w1,w2,l1,l2,ys,zs,rfl,f2,g2,k _ _ _ dQ bO H1 Dr I2 (λG1 Wb H3 uY i hG e3 I3 _=>⟨λd hd=>?_,λh1 _=>?_⟩) q2⟩
   ·have s1:=(uE.same f1 (eU hG e3)).cut
    have s2:=(uE.same g1 (eU hG e3)).cut
    unfold Hg at hd
    rw[List.getElem?_map]at hd
    cases q:(us.zip ws)[i]? with
    | none=>rw[q]at hd;cases hd
    | some pr =>
     rw[q]at hd
     cases hd
     rw[List.getElem?_zip_eq_some]at q
     have l1':=(bN q.1).1
     have l2':=(bN q.2).1
     refine⟨⟨by rw[f3.1];exact l1',by rw[g3.1];exact l2',s1,s2⟩,λx H4 ⟨T,y,z,nT,ex,eH,hy,hz⟩=>?_⟩
     subst ex
     subst eH
     have sm:=jJ (o:=.tup [y,z]) nT
     refine⟨sm,aP.tup (I3.OQ nT) uS (.cons ?_ (.cons ?_ .nil))⟩
     ·exact((f3.2 i y _ hy q.1).kG hG e3).same sm
     ·exact((g3.2 i z _ hz q.2).kG hG e3).same sm
   ·unfold Hg at h1
    rw[List.length_map,List.length_zip]at h1
    refine⟨?_,(uE.same f1 (eU hG e3)).cut,(uE.same g1 (eU hG e3)).cut⟩
    rw[f3.1,g3.1]
    omega
  ·exact q2.elim
 ·exact q2.elim
abbrev zO:=DV->cz->aQ->(cz->aQ->Prop)->Prop
abbrev Ak:=List PyData->cz->aQ->(cz->aQ->Prop)->Prop
def OZ(K:av)(H0:Hp)(A0:Addr->Prop)(G:Addr->Prop)(al:List (List Addr))(H:Hp)(st:aQ)(Q:cz->aQ->Prop)(R:St->Hp->Prop):Prop:=∀env' st' al' s' H',Ext al H st al' H' st'->DI K H0 A0 G al' H' st'->ui K (Fb G al' st') H' al' s' env'->Q env' st'->R s' H'
theorem OZ.go{H0:Hp}{A0:Addr->Prop}{G:Addr->Prop}{al bO:List (List Addr)}{H H1:Hp}{st aJ:aQ}{Q:cz->aQ->Prop}{R:St->Hp->Prop}(k:OZ K H0 A0 G al H st Q R)(I:DI K H0 A0 G bO H1 aJ)(e:Ext al H st bO H1 aJ):OZ K H0 A0 G bO H1 aJ Q R:=λdv st' al' s' H' e' I' h q=>k dv st' al' s' H' (e.trans I e') I' h q
def AG(K:av)(g:TG)(dg:zO):Prop:=∀(H0:Hp) (A0:Addr->Prop) (G:Addr->Prop) (al:List (List Addr)) (H:Hp) (st:aQ) (s:St) (env:cz) (v:V) (dv:DV) (Q:cz->aQ->Prop) (R:St->Hp->Prop),DI K H0 A0 G al H st->ui K (Fb G al st) H al s env->kP K (Fb G al st) H al v dv->dg dv env st Q->OZ K H0 A0 G al H st Q R->g v s H R
def Vh(K:av)(g:Kv)(dg:Ak):Prop:=∀(H0:Hp) (A0:Addr->Prop) (G:Addr->Prop) (al:List (List Addr)) (H:Hp) (st:aQ) (s:St) (env:cz) (vs:List V) (ds:List PyData) (Q:cz->aQ->Prop) (R:St->Hp->Prop),DI K H0 A0 G al H st->ui K (Fb G al st) H al s env->df (aP K (Fb G al st) H) vs ds->dg ds env st Q->OZ K H0 A0 G al H st Q R->g vs s H R
structure Vi(X:Cx)(tg:Expr)(d:zO):Prop where
 h:∃g,PG X tg g/\AG X.K g d
structure Mt(X:Cx)(tg:List Expr)(d:Ak):Prop where
 h:∃g,Sx X tg g/\Vh X.K g d
@[reducible] def gN(i:Nat)(dv:DV)(env:cz)(st:aQ)(Q:cz->aQ->Prop):Prop:=Q (env.set i (some dv)) st
@[reducible] def Hh(ds:List PyData)(env:cz)(st:aQ)(Q:cz->aQ->Prop):Prop:=match ds with
 | []=>Q env st
 | _=>False
@[reducible] def yJ(g:zO)(r:Ak)(ds:List PyData)(env:cz)(st:aQ)(Q:cz->aQ->Prop):Prop:=match ds with
 | d::ds=>g (.dat d) env st λenv' st'=>r ds env' st' Q
 | []=>False
@[reducible] def gT(n:Nat)(r:Ak)(dv:DV)(env:cz)(st:aQ)(Q:cz->aQ->Prop):Prop:=match dv with
 | .dat (.tuple ds)=>ds.length=n/\r ds env st Q
 | _=>False
theorem Qn{i:Nat}:AG K (sP i) (gN i):=λH0 A0 G al H st s env v dv Q R I E h q k=>k _ _ al _ H .refl I (E.set h i) q
theorem dD{i:Nat}{x:Str}(hN:X.N.Nodup)(hi:X.N[i]?=some x)(hx:Loc X.env.scope x)(hf:X.fn x=true∨X.env.scope.names.lookup x=some .local:=by first | exact .inl rfl | exact .inr rfl | assumption):Vi X (.Name x pos) (gN i):=⟨_,c9 hN hi hx hf,Qn⟩
theorem Dy:Mt X [] Hh:=⟨_,C8,λH0 A0 G al H st s env vs ds Q R I E h q k=>by
 unfold Hh at q
 split at q
 ·have:=h.1
  cases vs with
  | nil=>exact⟨rfl,k _ _ al _ H .refl I E q⟩
  | cons v r=>simp at this
 ·exact q.elim⟩
theorem Hi{g:TG}{u:Kv}{dg:zO}{r:Ak}(a1:AG K g dg)(a2:Vh K u r):Vh K (OB g u) (yJ dg r):=λH0 A0 G al H st s env vs ds Q R I E h q k=>by
 unfold yJ at q
 split at q
 ·rename_i d ds'
  have:=h.1
  cases vs with
  | nil=>simp at this
  | cons v vs' =>
   have h':df (aP K (Fb G al st) H) vs' ds':=⟨by simpa using this,λi p q a b=>h.2 (i + 1) p q (by simpa using a) (by simpa using b)⟩
   refine⟨v,vs',rfl,a1 H0 A0 G al H st s env v (.dat d) _ _ I E (.d (h.2 0 v d rfl rfl)) q λenv' st' al' s' H' e' I' E' q'=>?_⟩
   exact a2 H0 A0 G al' H' st' s' env' vs' ds' Q R I' E' (h'.imp λy x z=>z.ext e') q' (k.go I' e')
 ·exact q.elim
theorem jv{g:zO}{r:Ak}(h1:Vi X e g)(h2:Mt X es r)(hs:(assignEach (e::es) X.env).map (·.2)=assign e X.env::(assignEach es X.env).map (·.2):=by rfl):Mt X (e::es) (yJ g r):=by
 obtain⟨t,p1,a1⟩:=h1.h
 obtain⟨u,p2,a2⟩:=h2.h
 exact⟨_,uV p1 p2 hs,Hi a1 a2⟩
theorem Wc{m:Nat}{u:Kv}{r:Ak}(a1:Vh K u r):AG K (Sz K m u) (gT m r):=λH0 A0 G al H st s env v dv Q R I E h q k=>by
 unfold gT at q
 split at q
 ·obtain⟨a,ys,rfl,g1,_,g2⟩:=aP.bX h
  exact⟨a,ys,rfl,g1,by rw[g2.1];exact q.1,a1 H0 A0 G al H st s env ys _ Q R I E g2 q.2 k⟩
 ·exact q.elim
theorem Hj{kx m:Nat}{r:Ak}(hc:X.calm=true)(h:Mt X es r)(hn:(assignEach es X.env).length=m:=by rfl)(hst:(assignEach es X.env).findIdx? (·.1)=none:=by rfl):Vi X (.Tuple es kx pos) (gT m r):=by
 obtain⟨u,p1,a1⟩:=h.h
 exact⟨_,Gb hc p1 hn hst,Wc a1⟩
end
end L2
namespace L2
open PySem PySem.Spec PyProof.Rows
def Wd(K:av)(e:DX):TE:=λs H R=>∃(H0:Hp) (A0:Addr->Prop) (G:Addr->Prop) (al:List (List Addr)) (st:aQ) (env:cz) (Q:DC),DI K H0 A0 G al H st/\ui K (Fb G al st) H al s env/\e env st Q/\Kn K H0 A0 G al H st Q R
def Qo(K:av)(e:DT):TT:=λs H R=>∃(H0:Hp) (A0:Addr->Prop) (G:Addr->Prop) (al:List (List Addr)) (st:aQ) (env:cz) (Q:Bool->aQ->Prop),DI K H0 A0 G al H st/\ui K (Fb G al st) H al s env/\e env st Q/\To K H0 A0 G al H st Q R
theorem cc.pe{X:Cx}{e:Expr}{d:DX}(h:cc X e d):PE X e (Wd X.K d):=by
 obtain⟨t,p,a⟩:=h.h
 intro pins s σ H Q I ⟨H0,A0,G,al,st,env,Q',I',E,q,k⟩
 exact p pins s σ H Q I (a H0 A0 G al H st σ env Q' Q I' E q k)
structure We(X:Cx)(ifs:List Expr)(d:DT):Prop where
 h:S5 X ifs (Qo X.K d)
@[reducible] def O0(_:cz)(st:aQ)(Q:Bool->aQ->Prop):Prop:=Q true st
theorem Qp{X:Cx}:We X [] O0:=⟨λpins s σ H Q I ⟨H0,A0,G,al,st,env,Q',I',E,q,k⟩=>jG pins s σ H Q I (k true st al H .refl I' q)⟩
def GB(own:Nat)(g:TG):Prop:=∀v s H R R',(∀(s2:St) (H2:Hp),s2.drop own=s.drop own->R s2 H2->R' s2 H2)->g v s H R->g v s H R'
theorem Wg{own i:Nat}(h:i < own):GB own (sP i):=λv s H R R' f q=>f _ _ (by rw[List.drop_set_of_lt h]) q
@[reducible] def Hk(own:Nat)(ix:List Nat)(env:cz):cz:=List.replicate own none++ix.map λi=>(env[i]?).getD none
def ZY(fin:List PyData->aQ->DC->Prop)(dg:zO)(dt:DT)(de:DX)(xs:List PyData)(ok:aQ->Prop)(env:cz)(aJ:aQ)(Q:DC):Prop:=(ok aJ/\xs.length<=1000000)/\∃I:Nat->List PyData->Prop,I 0 [] /\
 (∀i ys d,I i ys->xs[i]?=some d->dg (.dat d) env aJ λuj dQ=>dQ=aJ/\dt uj aJ λb uY=>uY=aJ/\if b=true then de uj aJ λy LR=>uA y LR λdy Gi=>Gi=aJ/\I (i + 1) (ys++[dy])else I (i + 1) ys)/\∀ys,I xs.length ys->fin ys aJ Q
@[reducible] def Mu(fin:List PyData->aQ->DC->Prop)(own:Nat)(ix:List Nat)(di:yI)(dg:zO)(dt:DT)(de:DX)(env:cz)(st:aQ)(Q:DC):Prop:=di env st λxs ok aJ=>ZY fin dg dt de xs ok (Hk own ix env) aJ Q
theorem TJ{fin:List PyData->aQ->DC->Prop}{dg:zO}{dt:DT}{de:DX}{xs:List PyData}{env:cz}{aJ:aQ}{Q:DC}(I:Nat->List PyData->Prop)(hl:xs.length<=1000000)(h0:I 0 [])
  (hs:∀i ys d,xs[i]?=some d->I i ys->dg (.dat d) env aJ λuj dQ=>dQ=aJ/\dt uj aJ λb uY=>uY=aJ/\if b=true then de uj aJ λy LR=>uA y LR λdy Gi=>Gi=aJ/\I (i + 1) (ys++[dy])else I (i + 1) ys) (hd:∀ys,I xs.length ys->fin ys aJ Q):ZY fin dg dt de xs (λ_=>True) env aJ Q:=⟨⟨trivial,hl⟩,I,h0,λi ys d a b=>hs i ys d b a,hd⟩
@[reducible] def Qq:List PyData->aQ->DC->Prop:=λys st Q=>Q (.dat (.list ys)) st
theorem ui.sS{K:av}{P:Addr->Prop}{H:Hp}{al:List (List Addr)}{s:St}{env:cz}(h:ui K P H al s env)(own:Nat)(ix:List Nat):ui K P H al (eR own ix s) (Hk own ix env):=by
 refine⟨by simp[eR],λi dv hi=>?_⟩
 by_cases l:i < own
 ·rw[List.getElem?_append_left (by simpa using l),List.getElem?_replicate,if_pos l]at hi
  cases hi
 ·rw[List.getElem?_append_right (by simp;omega),List.length_replicate,List.getElem?_map]at hi
  cases q:ix[i - own]? with
  | none=>rw[q]at hi;cases hi
  | some j =>
   rw[q]at hi
   have hi:some ((env[j]?).getD none)=some (some dv):=hi
   have e:env[j]?=some (some dv):=by
    cases w:env[j]? with
    | none=>rw[w]at hi;cases hi
    | some u=>rw[w]at hi;exact hi
   obtain⟨v,h1,h2⟩:=h.2 j dv e
   refine⟨v,?_,h2⟩
   unfold eR
   rw[List.getElem?_append_right (by simp;omega),List.length_replicate,List.getElem?_map,q]
   show some ((s[j]?).getD none)=_
   rw[h1]
   rfl
theorem DI.Qr{K:av}{H0:Hp}{A0:Addr->Prop}{G:Addr->Prop}{al:List (List Addr)}{H:Hp}{st:aQ}(I:DI K H0 A0 G al H st){D:Addr}{ys:List V}(h:H D=none):Ext al H st al (upd H D (.lst ys)) st/\DI K H0 A0 (λc=>G c∨c=D) al (upd H D (.lst ys)) st:=by
 have E:Ext al H st al (upd H D (.lst ys)) st:=.new h
 have g:∀c,(G c∨c=D)->G c∨H c=none:=λc hc=>by
  rcases hc with z | z
  ·exact .inl z
  ·rw[z];exact .inr h
 have keep:∀c o,H c=some o->upd H D (.lst ys) c=some o:=λc o e=>by rw[uN (nN e h)];exact e
 have I1:=I.new (o:=.lst ys) h
 refine⟨E,I.len,I.nd,I1.ok,λk a c h1 h2=>(I.cel k a c h1 h2).kG g E (λc hc=>I.wJ hc) λ_ b _ o q=>keep _ _ q,I1.fr,I.nw,λa ha hc=>?_,λc hc=>?_⟩
 ·rcases hc with z | z
  ·exact I.gd a ha z
  ·obtain⟨o,e⟩:=I.ok a ha
   rw[z,h]at e;cases e
 ·rcases hc with z | z
  ·exact I1.gs c z
  ·rw[z];exact⟨_,uS,.inl ⟨_,rfl⟩⟩
theorem DI.grow{K:av}{H0:Hp}{A0:Addr->Prop}{G:Addr->Prop}{al:List (List Addr)}{H:Hp}{st:aQ}{D:Addr}{ys zs:List V}(I:DI K H0 A0 (λc=>G c∨c=D) al H st)(h:H D=some (.lst zs))(n0:A0 D∨H0 D=none):DI K H0 A0 (λc=>G c∨c=D) al (upd H D (.lst ys)) st/\∀v d,aP K (Fb (λc=>G c∨c=D) al st) H v d->aP K (Fb (λc=>G c∨c=D) al st) (upd H D (.lst ys)) v d:=by
 have sm:aB (cutH (Fb (λc=>G c∨c=D) al st) H) (cutH (Fb (λc=>G c∨c=D) al st) (upd H D (.lst ys))):=nU λc o n e=>⟨n,by rw[uN (λz=>n (.inl (.inr z)))];exact e⟩
 have rd:∀v d,aP K (Fb (λc=>G c∨c=D) al st) H v d->aP K (Fb (λc=>G c∨c=D) al st) (upd H D (.lst ys)) v d:=λv d z=>aS.same sm z
 have nD:∀a∈al.flatten,a≠D:=λa ha z=>I.gd a ha (.inr z)
 refine⟨⟨I.len,I.nd,λa ha=>?_,λk fp c h1 h2=>?_,λc o n e=>?_,I.nw,I.gd,λc hc=>?_⟩,rd⟩
 ·rw[uN (nD a ha)];exact I.ok a ha
 ·have z:=I.cel k fp c h1 h2
  have na:∀a∈fp,a≠D:=λa ha=>nD a (iA h1 ha)
  cases c with
  | live xs =>
   obtain⟨a,ws,e0,g1,g2⟩:=z
   exact⟨a,ws,e0,by rw[uN (na a (by rw[e0];exact List.mem_singleton.mpr rfl))];exact g1,g2.imp λy x q=>rd y x q⟩
  | froz ds=>obtain⟨a,e0,g0⟩:=z;exact⟨a,e0,rd _ _ g0⟩
  | deep xs =>
   obtain⟨a,ws,e0,g1,g2⟩:=z
   refine⟨a,ws,e0,by rw[uN (na a (by rw[e0];exact List.mem_singleton.mpr rfl))];exact g1,g2.imp λy x q=>?_⟩
   cases x with
   | dat d=>exact rd _ _ q
   | ref j=>exact q
  | obj o=>exact⟨z.1,o.keep _ _ _ _ _ _ z.2 (λc hc=>I.wJ hc) (λa ha o e=>by rw[uN (na a ha)];exact e) sm⟩
 ·by_cases w:c=D
  ·rw[w]at n e
   rcases n0 with y | y
   ·exact absurd y n
   ·rw[y]at e;cases e
  ·rw[uN w];exact I.fr c o n e
 ·by_cases w:c=D
  ·rw[w];exact⟨_,uS,.inl ⟨_,rfl⟩⟩
  ·rw[uN w];exact I.gs c hc
section
variable {X:Cx} {tg a b c e:Expr} {es:List Expr} {pos p:Pos} {ea eb ec:DX} {K:av} {n:Nat} {d:vh}
theorem Ext.upG{al:List (List Addr)}{H:Hp}{st:aQ}{D:Addr}{ys:List V}{bO:List (List Addr)}{H1:Hp}{aJ:aQ}(e:Ext al H st bO H1 aJ)(hD:H D=none):Ext al H st bO (upd H1 D (.lst ys)) aJ:=⟨λc o n q=>by rw[uN (λz=>by rw[z,hD]at q;cases q)];exact e.keep c o n q,e.pre,e.nws,e.lv⟩
def Qs(K:av)(fin:List PyData->aQ->DC->Prop):Prop:=∀(H0:Hp) (A0:Addr->Prop) (G:Addr->Prop) (al:List (List Addr)) (H:Hp) (st:aQ) (Q:DC) (R:VK) (D:Addr) (iB:List (List Addr)) (H2:Hp) (vs:List V) (ys:List PyData),DI K H0 A0 G al H st->H D=none->Kn K H0 A0 G al H st Q R->fin ys st Q->DI K H0 A0 (λc=>G c∨c=D) iB H2 st->Ext al H st iB H2 st->H2 D=some (.lst vs)->df (aP K (Fb (λc=>G c∨c=D) iB st) H2) vs ys->R (.ref D) H2
theorem TL{fin:List PyData->aQ->DC->Prop}(hf:Qs K fin)
  {own:Nat} {ix:List Nat} {wi:TI} {g:TG} {di:yI} {dg:zO} {dt:DT} {de:DX} (hi:AI K wi di) (hg:AG K g dg) (gb:GB own g):AE K (VW own ix wi g (Qo K dt) (Wd K de)) (Mu fin own ix di dg dt de):=λH0 A0 G al H st s env Q R I E q k=>by
 refine hi H0 A0 G al H st s env _ _ I E q λJ xs ok aJ bO H1 e1 I1 ir q1=>?_
 intro D hD
 obtain⟨⟨hok,hlen⟩,Iv,i0,istep,ifin⟩:=q1
 have k1:=k.go I1 e1
 have E1:=E.ext e1
 have gG:∀c,(G c∨c=D)->G c∨H1 c=none:=λc hc=>by
  rcases hc with z | z
  ·exact .inl z
  ·rw[z];exact .inr hD
 have n0:=I1.n0 hD
 obtain⟨EB,IB⟩:=I1.Qr (ys:=[]) hD
 refine⟨λi m ys H2=>(m=xs.length - i/\i<=xs.length/\ys.length<=i)/\∃ds iB,Iv i ds/\H2 D=some (.lst ys)/\df (aP K (Fb (λc=>G c∨c=D) iB aJ) H2) ys ds/\DI K H0 A0 (λc=>G c∨c=D) iB H2 aJ/\Ext bO H1 aJ iB H2 aJ,⟨_,⟨rfl,Nat.zero_le _,Nat.zero_le _⟩,[],bO,i0,uS,.nil,IB,EB⟩,?_⟩
 rintro i m ys H2 ⟨⟨em,hil,hyl⟩,ds,iB,hI,gD,hP,I2,E2⟩
 refine⟨gD,?_⟩
 have IR:=ir (λc=>G c∨c=D) iB H2 aJ i gG E2 I2 hok
 by_cases hx:i < xs.length
 ·right
  obtain⟨d0,TM⟩:∃d0,xs[i]?=some d0:=⟨xs[i],cV hx⟩
  obtain⟨go,yl⟩:=IR.1 d0 TM
  refine⟨go,Nat.lt_of_le_of_lt (Nat.le_trans hyl hil) (Nat.lt_of_le_of_lt hlen (by decide)),λys' H'=>∃m',m' < m/\(m'=xs.length - (i + 1)/\i + 1<=xs.length/\ys'.length<=i + 1)/\∃ds iB,Iv (i + 1) ds/\H' D=some (.lst ys')/\df (aP K (Fb (λc=>G c∨c=D) iB aJ) H') ys' ds/\DI K H0 A0 (λc=>G c∨c=D) iB H' aJ/\Ext bO H1 aJ iB H' aJ,λys' H' ⟨m',lt,w⟩=>⟨m',lt,w⟩,λx H3 hy=>?_⟩
  obtain⟨s3,r3⟩:=yl x H3 hy
  have I3:=I2.same s3
  have E3:Ext bO H1 aJ iB H3 aJ:=E2.trans I2 (.same s3)
  have P3:=hP.imp λy x z=>z.same s3
  have g3:=s3 _ _ gD
  have En3:=(E1.kG gG E3).sS own ix
  refine gb x _ H3 _ _ ?_ (hg H0 A0 (λc=>G c∨c=D) iB H3 aJ _ _ x (.dat d0) _ (λσ2 H4=>Qo K dt σ2 H4 λb H5=>if b=true then Wd K de σ2 H5 λv H6=>H6 D=some (.lst ys)/\∃m',m' < m/\(m'=xs.length - (i + 1)/\i + 1<=xs.length/\(ys++[v]).length<=i + 1)/\∃ds iB,Iv (i + 1) ds/\upd H6 D (.lst (ys++[v])) D=some (.lst (ys++[v]))/\df (aP K (Fb (λc=>G c∨c=D) iB aJ) (upd H6 D (.lst (ys++[v])))) (ys++[v]) ds/\DI K H0 A0 (λc=>G c∨c=D) iB (upd H6 D (.lst (ys++[v]))) aJ/\Ext bO H1 aJ iB (upd H6 D (.lst (ys++[v]))) aJ else ∃m',m' < m/\(m'=xs.length - (i + 1)/\i + 1<=xs.length/\ys.length<=i + 1)/\∃ds iB,Iv (i + 1) ds/\H5 D=some (.lst ys)/\df (aP K (Fb (λc=>G c∨c=D) iB aJ) H5) ys ds/\DI K H0 A0 (λc=>G c∨c=D) iB H5 aJ/\Ext bO H1 aJ iB H5 aJ) I3 En3 (.d r3) (istep i ds d0 hI TM) λuj dQ Wh s2 H4 e4 I4 ZZ q4=>?_)
  ·intro s2 H4 ed q4
   refine⟨?_,q4⟩
   rw[ed]
   unfold eR
   rw[List.drop_left' (by simp)]
  ·obtain⟨rfl,q4⟩:=q4
   refine⟨H0,A0,_,Wh,dQ,uj,_,I4,ZZ,q4,λb uY Z0 H5 e5 I5 q5=>?_⟩
   obtain⟨rfl,q5⟩:=q5
   have Wi:=e4.trans I4 e5
   have E5:=E3.trans I3 Wi
   have nL:∀(al':List (List Addr)) (H':Hp),DI K H0 A0 (λc=>G c∨c=D) al' H' uY->¬ Lv al' uY D:=λal' H' I' z=>I'.gd D z.mem (.inr rfl)
   have g5:=Wi.keep D _ (nL _ _ I3) g3
   have P5:=P3.imp λy x z=>aP.ext z Wi
   cases b with
   | false =>
    rw[if_neg Bool.false_ne_true]at q5
    exact bV ⟨xs.length - (i + 1),by omega,⟨rfl,hx,by omega⟩,ds,Z0,q5,g5,P5,I5,E5⟩
   | true =>
    rw[if_pos rfl]at q5
    refine fG ⟨H0,A0,_,Z0,uY,uj,_,I5,ZZ.ext e5,q5,λy LR al6 v H6 e6 I6 d6 q6=>?_⟩
    obtain⟨dy,Gi,E7,I7,F7,rfl,q7⟩:=vj I6 d6 q6
    have Wj:=e6.trans I6 E7
    have E6:=E5.trans I5 Wj
    have g6:=Wj.keep D _ (nL _ _ I5) g5
    have P6:=P5.imp λy x z=>aP.ext z Wj
    obtain⟨I8,Z1⟩:=I7.grow (ys:=ys++[v]) g6 n0
    refine⟨g6,xs.length - (i + 1),by omega,⟨rfl,hx,by simp;omega⟩,ds++[dy],al6,q7,uS,?_,I8,E6.upG hD⟩
    exact(P6.imp λy x z=>Z1 y x z).append (.cons (Z1 _ _ F7) .nil)
 ·left
  have ei:i=xs.length:=by omega
  subst ei
  exact⟨IR.2 (Nat.le_refl _) (Nat.le_refl _),hf H0 A0 G bO H1 aJ Q R D iB H2 ys ds I1 hD k1 (ifin ds hI) I2 E2 gD hP⟩
end
end L2
namespace L2
open PySem PySem.Spec PyProof.Rows
section
variable {X:Cx} {tg a b c e:Expr} {es:List Expr} {pos p:Pos} {ea eb ec:DX} {K:av} {n:Nat} {d:vh} {scope:Scope}
theorem DI.less{H0:Hp}{A0:Addr->Prop}{G G':Addr->Prop}{al:List (List Addr)}{H:Hp}{st:aQ}(I:DI K H0 A0 G' al H st)(s:∀c,G c->G' c):DI K H0 A0 G al H st:=by
 have sub:∀c,Fb G al st c->Fb G' al st c:=λc z=>by
  rcases z with z | z
  ·exact .inl (s c z)
  ·exact .inr z
 have sm:aB (cutH (Fb G' al st) H) (cutH (Fb G al st) H):=nU λc o n e=>⟨λz=>n (sub c z),e⟩
 refine⟨I.len,I.nd,I.ok,λk fp c h1 h2=>?_,I.fr,I.nw,λa ha z=>I.gd a ha (s a z),λc hc=>I.gs c (s c hc)⟩
 have z:=I.cel k fp c h1 h2
 cases c with
 | live xs=>obtain⟨a,ws,e0,g1,g2⟩:=z;exact⟨a,ws,e0,g1,g2.imp λy x q=>aS.same sm q⟩
 | froz ds=>obtain⟨a,e0,g0⟩:=z;exact⟨a,e0,aS.same sm g0⟩
 | deep xs =>
  obtain⟨a,ws,e0,g1,g2⟩:=z
  refine⟨a,ws,e0,g1,g2.imp λy x q=>?_⟩
  cases x with
  | dat d=>exact aS.same sm q
  | ref j=>exact q
 | obj o=>exact⟨z.1,o.keep _ _ _ _ _ _ z.2 (λc hc=>I.wJ hc) (λ_ _ _ e=>e) sm⟩
theorem TN:Qs K Qq:=λH0 A0 G al H st Q R D iB H2 vs ys I hD k q I2 E2 g P=>by
 have sub:∀c,Fb G iB st c->Fb (λc=>G c∨c=D) iB st c:=λc z=>by
  rcases z with z | z
  ·exact .inl (.inl z)
  ·exact .inr z
 have nD:¬ Fb G iB st D:=λz=>by
  rcases z with z | z
  ·exact I.OQ hD (.inl z)
  ·exact I2.gd D z.mem (.inr rfl)
 exact k (.dat (.list ys)) st iB _ H2 E2 (I2.less λc z=>.inl z) (.d (aP.lst nD g (P.imp λy x z=>aP.sub z sub))) q
@[reducible] def Z2:Nat->List Nat->yI->zO->DT->DX->DX:=Mu Qq
theorem Qt{fin:List PyData->aQ->DC->Prop}(hf:Qs X.K fin)
  {elt iter:Expr} {ifs:List Expr} {g:TG} {di:yI} {dg:zO} {dt:DT} {de:DX} (own:Nat) (N:List Str) (ix:List Nat) (B:sU X own N ix scope) (hi:Si X tg iter di)
  (hg:∀(C:Addr) (fp:List Addr) (s:Shared) (H:Hp),PG (X.sS N scope C fp s H) tg g) (ag:AG X.K g dg) (gb:GB own g)
  (hin:∀(C:Addr) (fp:List Addr) (s:Shared) (H:Hp),We (X.sS N scope C fp s H) ifs dt/\cc (X.sS N scope C fp s H) elt de)
  (hs:∀x,foldedSetIterable iter X.env x=pure x:=by intro _;rfl):cc X (.ListComp elt [⟨tg,iter,ifs,0⟩] scope pos) (Mu fin own ix di dg dt de):=by
 obtain⟨wi,p1,a1⟩:=hi.h
 exact⟨_,GK own N ix B p1 (λC fp s H=>⟨hg C fp s H,(hin C fp s H).1.h,(hin C fp s H).2.pe⟩) hs,TL hf a1 ag gb⟩
theorem TQ{elt iter:Expr}{ifs:List Expr}{g:TG}{di:yI}{dg:zO}{dt:DT}{de:DX}(own:Nat)(N:List Str)(ix:List Nat)(B:sU X own N ix scope)(hi:Si X tg iter di)
  (hg:∀(C:Addr) (fp:List Addr) (s:Shared) (H:Hp),PG (X.sS N scope C fp s H) tg g) (ag:AG X.K g dg) (gb:GB own g)
  (hin:∀(C:Addr) (fp:List Addr) (s:Shared) (H:Hp),We (X.sS N scope C fp s H) ifs dt/\cc (X.sS N scope C fp s H) elt de)
  (hs:∀x,foldedSetIterable iter X.env x=pure x:=by intro _;rfl):cc X (.ListComp elt [⟨tg,iter,ifs,0⟩] scope pos) (Z2 own ix di dg dt de):=Qt TN own N ix B hi hg ag gb hin hs
@[reducible] def TR(st:aQ)(k:Nat):Bool:=match st[k]? with
 | some (.live _)=>true
 | some (.froz _)=>true
 | some (.deep _)=>true
 | _=>false
@[reducible] def Dz(eo:DX)(dx:vh)(env:cz)(st:aQ)(Q:DC):Prop:=eo env st λo aJ=>match o with
 | .ref k=>TR aJ k=true/\dx env aJ λxs dQ=>match xs with
  | [x]=>match dQ[k]? with
   | some (.deep ys)=>ys.length < 1000000/\Q (.dat .none) (dQ.set k (.deep (ys++[x])))
   | _=>uA x dQ λd uY=>match uY[k]? with
    | some (.live ds)=>ds.length < 1000000/\Q (.dat .none) (uY.set k (.live (ds++[d])))
    | _=>False
  | _=>False
 | _=>False
theorem DA{H0:Hp}{A0:Addr->Prop}{G:Addr->Prop}{al:List (List Addr)}{H:Hp}{st:aQ}(I:DI K H0 A0 G al H st){v:V}{k:Nat}(h:kP K (Fb G al st) H al v (.ref k))(hl:TR st k=true):∃a ys,v=.ref a/\bc K H a ys:=by
 obtain⟨a,r,h1,rfl⟩:=h
 have hk:k < st.length:=by rw[← I.len];exact(bN h1).1
 have hs:=cV hk
 have z:=I.cel k _ _ h1 hs
 refine⟨a,?_⟩
 cases q:st[k]with
 | live ds=>rw[q]at z;obtain⟨a',ys,e0,g,_⟩:=z;cases e0;exact⟨ys,rfl,bc.of g⟩
 | deep ds=>rw[q]at z;obtain⟨a',ys,e0,g,_⟩:=z;cases e0;exact⟨ys,rfl,bc.of g⟩
 | froz ds =>
  rw[q]at z
  obtain⟨a',e0,g0⟩:=z
  cases e0
  obtain⟨b,ys,g1,g2,_⟩:=aP.dI g0
  cases g1
  exact⟨ys,rfl,g2⟩
 | obj o =>
  unfold TR at hl
  rw[hs,q]at hl
  cases hl
theorem Hl{H:Hp}{v:V}(h:∃a ys,v=.ref a/\bc K H a ys):U8 K "list" v H:=by
 obtain⟨a,ys,rfl,g⟩:=h
 exact .inl ⟨rfl,ys,g⟩
theorem xF{apos cpos:Pos}{o:Expr}{eo:DX}(ho:cc X o eo)(ha:Ag X (e::es) n d)(hbase:attributeBase o "append" X.env (eval o X.env)=eval o X.env:=by rfl)
  (hfew:((backTo cpos (starEach (e::es) X.env)).all (λx=>!x.1)&&(backToKw cpos (keywordEach [] X.env)).all (λx=>x.1.isSome)
   && decide ((e::es).length + ([]:List Keyword).length + (if ([]:List Keyword).isEmpty then 0 else 1) < 30))=true:=by rfl)
  (hline:(apos.endLine == cpos.line)=true:=by rfl) (hs:starEach (e::es) X.env=(false,eval e X.env)::starEach es X.env:=by rfl) (hplain:(backTo cpos (starEach es X.env)).any (·.1)=false:=by rfl) :
  cc X (.Call (.Attribute o "append" apos) (e::es) [] cpos) (Dz eo d):=by
 obtain⟨t,p1,a1⟩:=ho.h
 obtain⟨u,p2,a2⟩:=ha.h
 refine⟨_,iy PySem.F.plainAttrs_list PySem.F.slot_list_append PySem.F.type_list_append bK p1 p2 hbase hfew hline hs hplain,λH0 A0 G al H st s env Q R I E q k=>a1 H0 A0 G al H st s env _ _ I E q λx aJ bO v H1 e1 I1 d1 q1=>?_⟩
 split at q1
 ·rename_i kk
  refine⟨Hl (DA I1 d1 q1.1),a2 H0 A0 G bO H1 aJ s env _ _ I1 (E.ext e1) q1.2 λxs dQ iB vs H2 e2 I2 d2 q2=>?_⟩
  have q2:=q2.2
  split at q2
  ·obtain⟨w,rfl,hw⟩:=Hc d2
   have Dr:=e1.trans I1 e2
   split at q2
   ·rename_i zs hs
    obtain⟨a,r0,ha,rfl⟩:=d1.ext e2
    obtain⟨a',ys,e0,g1,g2⟩:=I2.cel kk _ _ ha hs
    cases e0
    obtain⟨E4,I4⟩:=I2.putD ha hs (g2.append (.cons hw .nil))
    exact⟨a,ys,w,rfl,rfl,g1,by rw[g2.1];exact Nat.lt_of_lt_of_le q2.1 (by decide),(k.go I2 Dr) _ _ _ _ _ E4 I4 (.d .non) q2.2⟩
   ·obtain⟨dd,uY,E3,I3,F3,q3⟩:=vj I2 hw q2
    split at q3
    ·rename_i ds hs
     have e13:=Dr.trans I2 E3
     obtain⟨a,r0,ha,rfl⟩:=(d1.ext e2).ext E3
     obtain⟨a',ys,e0,g1,g2⟩:=I3.cel kk _ _ ha hs
     cases e0
     obtain⟨E4,I4⟩:=I3.put ha hs (g2.append (.cons F3 .nil))
     exact⟨a,ys,w,rfl,rfl,g1,by rw[g2.1];exact Nat.lt_of_lt_of_le q3.1 (by decide),(k.go I3 e13) _ _ _ _ _ E4 I4 (.d .non) q3.2⟩
    ·exact q3.elim
  ·exact q2.elim
 ·exact q1.elim
structure gQ where
 nx:cz->aQ->Prop
 rt:DC
 bk:cz->aQ->Prop:=λ_ _=>False
 ct:cz->aQ->Prop:=λ_ _=>False
abbrev DS:=gQ->cz->aQ->Prop
structure Mv(K:av)(H0:Hp)(A0:Addr->Prop)(G:Addr->Prop)(al:List (List Addr))(H:Hp)(st:aQ)(DD:gQ)(D:Ends):Prop where
 nx:OZ K H0 A0 G al H st DD.nx D.nx
 rt:Kn K H0 A0 G al H st DD.rt D.rt
 bk:OZ K H0 A0 G al H st DD.bk D.bk
 ct:OZ K H0 A0 G al H st DD.ct D.ct
theorem Mv.go{H0:Hp}{A0:Addr->Prop}{G:Addr->Prop}{al bO:List (List Addr)}{H H1:Hp}{st aJ:aQ}{DD:gQ}{D:Ends}(k:Mv K H0 A0 G al H st DD D)(I:DI K H0 A0 G bO H1 aJ)(e:Ext al H st bO H1 aJ):Mv K H0 A0 G bO H1 aJ DD D:=⟨k.nx.go I e,k.rt.go I e,k.bk.go I e,k.ct.go I e⟩
def AS(K:av)(t:TS)(s:DS):Prop:=∀(H0:Hp) (A0:Addr->Prop) (G:Addr->Prop) (al:List (List Addr)) (H:Hp) (st:aQ) (σ:St) (env:cz) (DD:gQ) (D:Ends),DI K H0 A0 G al H st->ui K (Fb G al st) H al σ env->s DD env st->Mv K H0 A0 G al H st DD D->t D σ H
structure Mw(X:Cx)(stm:Stmt)(s:DS):Prop where
 h:∃t,PS X stm t/\AS X.K t s
structure Al(X:Cx)(stms:List Stmt)(s:DS):Prop where
 h:∃t,wF X stms t/\AS X.K t s
@[reducible] def Hm(DD:gQ)(env:cz)(st:aQ):Prop:=DD.nx env st
@[reducible] def Mx(s u:DS)(DD:gQ)(env:cz)(st:aQ):Prop:=s {DD with nx:=u DD} env st
@[reducible] def O1(e:DX)(DD:gQ)(env:cz)(st:aQ):Prop:=e env st λ_ aJ=>DD.nx env aJ
@[reducible] def TU(e:DX)(DD:gQ)(env:cz)(st:aQ):Prop:=e env st DD.rt
@[reducible] def Z3(c:DT)(s u:DS)(DD:gQ)(env:cz)(st:aQ):Prop:=c env st λb aJ=>if b=true then s DD env aJ else u DD env aJ
@[reducible] def Qu(e:DX)(g:zO)(DD:gQ)(env:cz)(st:aQ):Prop:=e env st λdv aJ=>g dv env aJ DD.nx
def O2(g:zO)(s:DS)(DD:gQ)(xs:List PyData)(ok:aQ->Prop)(env:cz)(st:aQ):Prop:=∃W:Nat->cz->aQ->Prop,W 0 env st/\∀i env st,i<=xs.length->W i env st->ok st/\(i=xs.length->DD.nx env st)/\∀d,xs[i]?=some d->g (.dat d) env st λenv' st'=>s {DD with nx:=W (i + 1),ct:=W (i + 1),bk:=DD.nx} env' st'
@[reducible] def TV(di:yI)(g:zO)(s:DS)(DD:gQ)(env:cz)(st:aQ):Prop:=di env st λxs ok aJ=>O2 g s DD xs ok env aJ
theorem gU{g:zO}{s:DS}{DD:gQ}{xs:List PyData}{ok:aQ->Prop}{env:cz}{st:aQ}(W:Nat->cz->aQ->Prop)(h0:W 0 env st)(hok:∀i env st,W i env st->ok st)
  (hs:∀i env st d,xs[i]?=some d->W i env st->g (.dat d) env st λenv' st'=>s {DD with nx:=W (i + 1),ct:=W (i + 1),bk:=DD.nx} env' st') (hd:∀env st,W xs.length env st->DD.nx env st):O2 g s DD xs ok env st :=
 ⟨W,h0,λi env st _ w=>⟨hok i env st w,λe=>hd env st (e ▸ w),λd h=>hs i env st d h w⟩⟩
variable {stm:Stmt} {stms rest:List Stmt} {s u:DS}
theorem My:AS K dR Hm:=λH0 A0 G al H st σ env DD D I E h k=>k.nx env st al σ H .refl I E h
theorem Hn{t r:TS}(h1:AS K t s)(h2:AS K r u):AS K (Ga t r) (Mx s u):=λH0 A0 G al H st σ env DD D I E h k=>h1 H0 A0 G al H st σ env _ _ I E h ⟨λenv' st' al' σ' H' e' I' E' q'=>h2 H0 A0 G al' H' st' σ' env' DD D I' E' q' (k.go I' e'),k.rt,k.bk,k.ct⟩
theorem da:Al X [] Hm:=⟨_,aK,My⟩
theorem dm(h1:Mw X stm s)(h2:Al X rest u):Al X (stm::rest) (Mx s u):=by
 obtain⟨t,p1,a1⟩:=h1.h
 obtain⟨r,p2,a2⟩:=h2.h
 exact⟨_,qK p1 p2,Hn a1 a2⟩
theorem bE(h1:Mw X stm s):Al X [stm] s:=by
 obtain⟨t,p1,a1⟩:=h1.h
 exact⟨_,qO p1,a1⟩
theorem yK(he:cc X e ea)(hs:swapsWith e none pos.line X.env=pure false:=by rfl):Mw X (.Expr e pos) (O1 ea):=by
 obtain⟨t,p1,a1⟩:=he.h
 exact⟨_,aW p1 hs,λH0 A0 G al H st σ env DD D I E h k=>a1 H0 A0 G al H st σ env _ _ I E h λdv aJ bO v H1 e1 I1 d1 q1=>k.nx env aJ bO σ H1 e1 I1 (E.ext e1) q1⟩
theorem cM(he:cc X e ea):Mw X (.Return (some e) pos) (TU ea):=by
 obtain⟨t,p1,a1⟩:=he.h
 exact⟨_,aE p1,λH0 A0 G al H st σ env DD D I E h k=>a1 H0 A0 G al H st σ env _ _ I E h k.rt⟩
theorem iR{c:Expr}{tc:DT}{x y:List Stmt}(hc:BA X c tc)(ha:Al X x s)(hb:Al X y u):Mw X (.If c x y pos) (Z3 tc s u):=by
 obtain⟨t,p1,a1⟩:=hc.h
 obtain⟨r,p2,a2⟩:=ha.h
 obtain⟨w,p3,a3⟩:=hb.h
 refine⟨_,aY p1 p2 p3,λH0 A0 G al H st σ env DD D I E h k=>a1 H0 A0 G al H st σ env _ _ I E h λb aJ bO H1 e1 I1 q1=>?_⟩
 cases b with
 | true=>exact fG (a2 H0 A0 G bO H1 aJ σ env DD D I1 (E.ext e1) (by rw[if_pos rfl]at q1;exact q1) (k.go I1 e1))
 | false=>exact bV (a3 H0 A0 G bO H1 aJ σ env DD D I1 (E.ext e1) (by rw[if_neg Bool.false_ne_true]at q1;exact q1) (k.go I1 e1))
theorem Qv{t:TE}{g:TG}{dg:zO}(h1:AE K t ea)(h2:AG K g dg):AS K (Gd t g) (Qu ea dg):=λH0 A0 G al H st σ env DD D I E h k=>h1 H0 A0 G al H st σ env _ _ I E h λdv aJ bO v H1 e1 I1 d1 q1=>h2 H0 A0 G bO H1 aJ σ env v dv _ _ I1 (E.ext e1) d1 q1 (k.nx.go I1 e1)
theorem cB{i:Nat}{x:Str}{pos':Pos}(hN:X.N.Nodup)(hi:X.N[i]?=some x)(hx:Loc X.env.scope x)(he:cc X e ea)(hs:swapsWith e (some (.Name x pos')) pos.line X.env=pure false:=by rfl)(hf:X.fn x=true∨X.env.scope.names.lookup x=some .local:=by first | exact .inl rfl | exact .inr rfl | assumption):Mw X (.Assign [.Name x pos'] e pos) (Qu ea (gN i)):=by
 obtain⟨t,p1,a1⟩:=he.h
 exact⟨_,bf hN hi hx p1 hs hf,Qv a1 Qn⟩
theorem jK{iter:Expr}{body:List Stmt}{di:yI}{g:zO}(hp:PassesOwn (model X.prog X.w) X.A X.env X.xe)(hc:X.calm=true)(hi:Si X tg iter di)(hg:Vi X tg g)(hb:Al X body s)(hs:∀x,foldedSetIterable iter X.env x=pure x:=by intro _;rfl):Mw X (.For tg iter body [] pos) (TV di g s):=by
 obtain⟨t,p1,a1⟩:=hi.h
 obtain⟨gg,p2,a2⟩:=hg.h
 obtain⟨r,p3,a3⟩:=hb.h
 refine⟨_,rL hp hc p1 p2 p3 hs,λH0 A0 G al H st σ env DD D I E h k=>a1 H0 A0 G al H st σ env _ _ I E h λJ xs ok aJ bO H1 e1 I1 ir q1=>?_⟩
 obtain⟨W,w0,step⟩:=q1
 refine⟨λi m σ' H'=>(m=xs.length - i/\i<=xs.length)/\∃env' st' al',Ext bO H1 aJ al' H' st'/\DI X.K H0 A0 G al' H' st'/\ui X.K (Fb G al' st') H' al' σ' env'/\W i env' st',⟨_,⟨rfl,Nat.zero_le _⟩,env,aJ,bO,.refl,I1,E.ext e1,w0⟩,?_⟩
 rintro i m σ2 H2 ⟨⟨em,hil⟩,uj,dQ,iB,e2,I2,E2,w2⟩
 obtain⟨hok,hnx,hst⟩:=step i uj dQ hil w2
 have IR:=ir G iB H2 dQ i (λc z=>.inl z) e2 I2 hok
 have Dr:=e1.trans I1 e2
 by_cases hx:i < xs.length
 ·obtain⟨d0,TM⟩:∃d0,xs[i]?=some d0:=⟨xs[i],cV hx⟩
  obtain⟨go,yl⟩:=IR.1 d0 TM
  refine .inr ⟨go,λσ' H'=>∃m',m' < m/\(m'=xs.length - (i + 1)/\i + 1<=xs.length)/\∃env' st' al',Ext bO H1 aJ al' H' st'/\DI X.K H0 A0 G al' H' st'/\ui X.K (Fb G al' st') H' al' σ' env'/\W (i + 1) env' st',λσ' H' z=>z,λx H3 hy=>?_⟩
  obtain⟨s3,r3⟩:=yl x H3 hy
  have I3:=I2.same s3
  have Z4:Ext iB H2 dQ iB H3 dQ:=.same s3
  refine a2 H0 A0 G iB H3 dQ σ2 uj x (.dat d0) _ _ I3 (E2.ext Z4) (.d r3) (hst d0 TM) λWk LR Wh σ4 H4 e4 I4 E4 q4=>?_
  have Wl:=Z4.trans I3 e4
  have Z5:=e2.trans I2 Wl
  refine a3 H0 A0 G Wh H4 LR σ4 Wk _ _ I4 E4 q4 ⟨?_,k.rt.go I4 (Dr.trans I2 Wl),k.nx.go I4 (Dr.trans I2 Wl),?_⟩
  ·intro env' st' al' σ' H' e' I' E' w'
   exact⟨xs.length - (i + 1),by omega,⟨rfl,hx⟩,env',st',al',Z5.trans I4 e',I',E',w'⟩
  ·intro env' st' al' σ' H' e' I' E' w'
   exact⟨xs.length - (i + 1),by omega,⟨rfl,hx⟩,env',st',al',Z5.trans I4 e',I',E',w'⟩
 ·have ei:i=xs.length:=by omega
  exact .inl ⟨IR.2 (by omega) (by omega),k.nx uj dQ iB σ2 H2 Dr I2 E2 (hnx ei)⟩
def Fx(X:Cx)(body:List Stmt)(DD:gQ)(env:cz)(st:aQ):Prop:=∃s,Al X body s/\s DD env st
theorem bj{DD:gQ}{env:cz}{st:aQ}(h:Mw X stm s)(k:∀R:cz->aQ->Prop,(∀env' st',Fx X rest DD env' st'->R env' st')->s {DD with nx:=R} env st):Fx X (stm::rest) DD env st:=by
 obtain⟨t,p1,a1⟩:=h.h
 refine⟨Mx s (λDD env st=>Fx X rest DD env st),⟨Ga t (λD σ H=>∃r,wF X rest r/\r D σ H),qK p1 (λpins s σ H D I ⟨_,hu,q⟩=>hu pins s σ H D I q),Hn a1 λH0 A0 G al H st σ env DD D I E h k=>?_⟩,k _ λ_ _ z=>z⟩
 obtain⟨s2,⟨r,p2,a2⟩,q⟩:=h
 exact⟨r,p2,a2 H0 A0 G al H st σ env DD D I E q k⟩
theorem nX{DD:gQ}{env:cz}{st:aQ}(h:Mw X stm s)(k:s DD env st):Fx X [stm] DD env st:=⟨s,bE h,k⟩
theorem iD{N:List Str}{body:List Stmt}{vs:List V}{ds:List PyData}{H:Hp}{Q:VK}{P:Addr->Prop}(hP:∀c,P c->∃o,H c=some o/\oS o)(hv:df (aP X.K P H) vs ds)
  (h:Fx X body {nx:=λ_ _=>∀v H',aB H H'->aP X.K P H' v .none->Q v H',rt:=λdv st=>uA dv st λd _=>∀v H',aB H H'->aP X.K P H' v d->Q v H'} (ds.map (λd=>some (DV.dat d))++List.replicate (N.length - ds.length) none) []) :
  ∃t,wF X body t/\t {nx:=λ_ H'=>Q .non H',rt:=Q} (start N vs) H:=by
 obtain⟨s,⟨t,p1,a1⟩,q⟩:=h
 have lv:∀c,¬ Lv [] [] c:=λc ⟨k,xs,ce,h,_⟩=>by simp at h
 have I:DI X.K H (λ_=>False) P [] H []:=⟨rfl,List.nodup_nil,λ_ h=>by simp at h,λk a c h=>by simp at h,λc o _ e=>e,λ_ h=>by simp at h,λ_ h=>by simp at h,hP⟩
 have fb:∀c,Fb P [] [] c->P c:=λc z=>by
  rcases z with z | z
  ·exact z
  ·exact absurd z (lv c)
 refine⟨t,p1,a1 H (λ_=>False) P [] H [] _ _ _ _ I ⟨by unfold start;simp[hv.1],λi dv hi=>?_⟩ q ⟨λenv' st' al' σ' H' e' I' E' q'=>?_,λdv st' al' v H' e' I' d' q'=>?_,λenv' st' al' σ' H' e' I' E' q'=>q'.elim,λenv' st' al' σ' H' e' I' E' q'=>q'.elim⟩⟩
 ·by_cases l:i < ds.length
  ·rw[List.getElem?_append_left (by simpa using l),List.getElem?_map,cV l]at hi
   cases hi
   obtain⟨y,hy,hr⟩:=hv.at (cV l)
   refine⟨y,?_,.d (aP.sub hr fb)⟩
   unfold start
   rw[List.getElem?_append_left (by rw[List.length_map,hv.1];exact l),List.getElem?_map,hy]
   rfl
  ·rw[List.getElem?_append_right (by simp;omega)]at hi
   rw[List.getElem?_replicate]at hi
   split at hi
   ·cases hi
   ·cases hi
 ·exact q' .non H' (λc o e=>I'.fr c o id e) .non
 ·obtain⟨d,dQ,_,I2,F,q2⟩:=vj I' d' q'
  exact q2 v H' (λc o e=>I'.fr c o id e) (aP.sub F λc z=>.inl z)
end
end L2
namespace L2
open PySem PySem.Spec PyProof.Rows
@[reducible] def Vj:DV->String
 | .dat .none=>"NoneType"
 | .dat (.bool _)=>"bool"
 | .dat (.int _)=>"int"
 | .dat (.str _)=>"str"
 | .dat (.list _)=>"list"
 | .dat (.tuple _)=>"tuple"
 | .dat (.dict _)=>"dict"
 | .ref _=>"list"
def IsT(K:av)(n:String)(f:String->Bool):Prop:=∀t∈(["NoneType","bool","int","str","list","tuple"]:List String),PySem.W.kitOne K (.type t) (.type n)=some (f t)
@[reducible] def Am(n:String):String->Bool:=λt=>t == n
@[reducible] def TX(f:String->Bool)(ea:DX)(env:cz)(st:aQ)(Q:DC):Prop:=ea env st λx aJ=>match x with
 | .dat d=>Q (.dat (.bool (f (Vj (.dat d))))) aJ
 | .ref k=>TR aJ k=true/\Q (.dat (.bool (f "list"))) aJ
theorem kP.ty{K:av}{P:Addr->Prop}{al:List (List Addr)}{H:Hp}{v:V}{d:PyData}(h:kP K P H al v (.dat d)):LO K H v (Vj (.dat d))/\Vj (.dat d)∈(["NoneType","bool","int","str","list","tuple"]:List String):=by
 cases d with
 | none=>rw[aP.jI h];exact⟨.non,by simp⟩
 | bool b=>rw[aP.oA h];exact⟨.bl _,by simp⟩
 | int b=>rw[aP.aM h];exact⟨.int _,by simp⟩
 | str b=>rw[aP.dk h];exact⟨.str _,by simp⟩
 | list ds=>obtain⟨b,ys,rfl,g2,_⟩:=aP.dI h;exact⟨.lst g2,by simp⟩
 | tuple ds=>obtain⟨b,ys,rfl,g2,_⟩:=aP.bX h;exact⟨.tup g2,by simp⟩
 | dict kv=>have h:aS K _ v (.dict kv):=h;cases h
theorem Ho{X:Cx}{a:Expr}{ea:DX}{pos p p2:Pos}{T:Str}{n:String}{f:String->Bool}(hf:IsT X.K n f)(hg:Gl X "isinstance")(hm:X.mg "isinstance"=none)(hg2:Gl X T)(hm2:X.mg T=none)(hb:bootBuiltins T=some (.type n))(ha:cc X a ea)(hn:T≠"__name__":=by decide)(hd:(T == ("__debug__" : Str))=false:=by decide)
  (h1:starEach [a,.Name T p2] X.env=(false,eval a X.env)::starEach [.Name T p2] X.env:=by rfl):cc X (.Call (.Name "isinstance" p) [a,.Name T p2] [] pos) (TX f ea):=by
 obtain⟨t,p1,a1⟩:=ha.h
 refine⟨_,bH GH hg hm wI (pK p1 (pK (Lo (v:=.ty n) hg2 hm2 hb rfl hn hd) pN rfl) h1) (by decide) (by decide) h1 rfl,λH0 A0 G al H st s env Q R I E q k=>a1 H0 A0 G al H st s env _ _ I E q λx aJ bO v H1 e1 I1 d1 q1=>?_⟩
 split at q1
 ·obtain⟨ty,mem⟩:=d1.ty
  exact⟨v,n,_,_,rfl,ty,hf _ mem,(k.go I1 e1).here I1 (.d (.bl _)) q1⟩
 ·obtain⟨b,ys,rfl,g⟩:=DA I1 d1 q1.1
  exact⟨_,n,"list",_,rfl,.lst g,hf _ (by simp),(k.go I1 e1).here I1 (.d (.bl _)) q1.2⟩
theorem Hq{K:av}{n:String}{f:String->Bool}(h1:PySem.W.kitOne K (.type "NoneType") (.type n)=some (f "NoneType"))(h2:PySem.W.kitOne K (.type "bool") (.type n)=some (f "bool"))(h3:PySem.W.kitOne K (.type "int") (.type n)=some (f "int"))(h4:PySem.W.kitOne K (.type "str") (.type n)=some (f "str"))(h5:PySem.W.kitOne K (.type "list") (.type n)=some (f "list"))(h6:PySem.W.kitOne K (.type "tuple") (.type n)=some (f "tuple")):IsT K n f:=λt ht=>by
 simp only[List.mem_cons,List.not_mem_nil,or_false]at ht
 rcases ht with rfl | rfl | rfl | rfl | rfl | rfl<;>assumption
end L2
namespace L2
open PySem PySem.Spec PyProof.Rows
theorem qx{j:Int}(h:0 < j)(h':j < 18446744073709551616):GY j:=⟨h,h'⟩
theorem Hr{x:Str}{l:List Str}{A B:Prop}(h1:x∈l->A)(h2:x∉l->B):if inD (.str x) (l.map PyData.str)=true then A else B:=by
 rw[G5]
 by_cases e:x∈l
 ·rw[if_pos (decide_eq_true e)];exact h1 e
 ·rw[if_neg (λz=>e (of_decide_eq_true z))];exact h2 e
theorem rT{c:Prop}[Decidable c]{A B:Prop}(h1:c->A)(h2:¬ c->B):if decide c=true then A else B:=by
 by_cases e:c
 ·rw[if_pos (decide_eq_true e)];exact h1 e
 ·rw[if_neg (λz=>e (of_decide_eq_true z))];exact h2 e
theorem qy{c:Prop}[Decidable c]{A B:Prop}(h1:¬ c->A)(h2:c->B):if (!decide c)=true then A else B:=by
 by_cases e:c
 ·rw[decide_eq_true e];exact bV (h2 e)
 ·rw[decide_eq_false e];exact fG (h1 e)
theorem O3{b:Bool}{A B:Prop}(h1:b=true->A)(h2:b=false->B):if b=true then A else B:=by
 cases b with
 | true=>exact fG (h1 rfl)
 | false=>exact bV (h2 rfl)
theorem Cc{α:Type}{xs:List α}{j:Nat}{x:α}(h:xs[j]?=some x):rO xs (j:Int)=some x:=by
 have hl:=(bN h).1
 unfold rO Fw
 rw[if_pos (by omega),if_pos (by omega)]
 show xs[((j:Nat):Int).toNat]?=some x
 rw[Int.toNat_natCast]
 exact h
theorem DB{α:Type}{xs:List α}{n:Int}(h:(xs.length:Int)=n)(h0:0 < n)(i:Int):∃x,x∈xs/\rO xs (i % n)=some x:=by
 have a:=Int.emod_nonneg i (b:=n) (by omega)
 have b:=Int.emod_lt_of_pos i h0
 obtain⟨j,hj⟩:∃j:Nat,i % n=(j:Int):=⟨(i % n).toNat,by omega⟩
 have hl:j < xs.length:=by omega
 rw[hj]
 exact⟨xs[j],List.getElem_mem hl,Cc (cV hl)⟩
theorem vo{ss:List Str}{n:Int}(h:(ss.length:Int)=n)(h0:0 < n)(i:Int):∃s,s∈ss/\rO (ss.map PyData.str) (i % n)=some (.str s):=by
 obtain⟨d,h1,h2⟩:=DB (xs:=ss.map PyData.str) (n:=n) (by rw[List.length_map];exact h) h0 i
 obtain⟨s,h3,rfl⟩:=List.mem_map.mp h1
 exact⟨s,h3,h2⟩
theorem jL(i:Int){n:Int}(h:0 < n):∃k:Nat,i % n=(k:Int)/\(k:Int) < n:=⟨(i % n).toNat,by have:=Int.emod_nonneg i (b:=n) (by omega);omega,by have:=Int.emod_nonneg i (b:=n) (by omega);have:=Int.emod_lt_of_pos i h;omega⟩
end L2
namespace L2
open PySem PySem.Spec PyProof.Rows
theorem vp{K:av}{P:Addr->Prop}{H:Hp}{ns:List Int}:df (aP K P H) (ns.map V.int) (ns.map PyData.int):=⟨by simp,λi y x hy hx=>by
 rw[List.getElem?_map]at hy hx
 cases q:ns[i]? with
 | none=>rw[q]at hy;cases hy
 | some n=>rw[q]at hy hx;cases hy;cases hx;exact .int _⟩
theorem rV{α β:Type}{f:α->β}{l:List α}{i:Nat}{d:β}(h:(l.map f)[i]?=some d):∃a,l[i]?=some a/\d=f a:=by
 rw[List.getElem?_map]at h
 cases q:l[i]? with
 | none=>rw[q]at h;cases h
 | some a=>rw[q]at h;cases h;exact⟨a,rfl,rfl⟩
theorem Mz{xs ys:List PyData}{i:Nat}{d:PyData}(h:(Hg xs ys)[i]?=some d):∃x y,xs[i]?=some x/\ys[i]?=some y/\d=.tuple [x,y]:=by
 unfold Hg at h
 obtain⟨⟨x,y⟩,h1,rfl⟩:=rV h
 rw[List.getElem?_zip_eq_some]at h1
 exact⟨x,y,h1.1,h1.2,rfl⟩
theorem yL{α β:Type}{f:α->β}{l:List α}{j:Nat}{a:α}(h:l[j]?=some a):rO (l.map f) (j:Int)=some (f a):=Cc (by rw[List.getElem?_map,h];rfl)
end L2
namespace L2
open PySem PySem.Spec PyProof.Rows
@[reducible] def TY(n:Nat)(ea:DX)(env:cz)(st:aQ)(Q:DC):Prop:=ea env st λx aJ=>match sW aJ x with
 | some ds=>match ds[n]? with
  | some d=>Q (.dat d) aJ
  | none=>False
 | none=>False
theorem gz{X:Cx}{a:Expr}{ea:DX}{pos p:Pos}{n:Nat}{j}(ha:cc X a ea)(hs:ym (.Constant (.int (n:Int)) j p):=by exact λ_ _=>rfl):cc X (.Subscript a (.Constant (.int (n:Int)) j p) pos) (TY n ea):=by
 obtain⟨ta,p1,a1⟩:=ha.h
 refine⟨_,au Gw p1 pI hs,λH0 A0 G al H st s env Q R I E q k=>a1 H0 A0 G al H st s env _ _ I E q λx aJ bO v H1 e1 I1 d1 q1=>?_⟩
 split at q1
 ·rename_i ds e
  split at q1
  ·rename_i d hd
   obtain⟨b,ys,rfl,g1,g2⟩:=d1.Tu I1 e
   obtain⟨z,g3,g4⟩:=g2.rO (Cc hd)
   have kk:=(k.go I1 e1).here I1 (.d g4) q1
   rcases g1 with g1 | g1
   ·exact .inl ⟨b,ys,_,z,rfl,rfl,g1,g3,kk⟩
   ·exact .inr (.inl ⟨b,ys,_,z,rfl,rfl,g1,g3,kk⟩)
  ·exact q1.elim
 ·exact q1.elim
end L2
namespace L2
open PySem PySem.Spec PyProof.Rows
abbrev Wm:=Nat->aQ->DC->Prop
def AM(K:av)(C:Addr)(m:Str)(sp:Sp)(op:Wm):Prop:=∀(H0:Hp) (A0:Addr->Prop) (G:Addr->Prop) (al:List (List Addr)) (H:Hp) (st:aQ) (k:Nat) (a:Addr) (r:List Addr) (Q:DC) (R:VK),DI K H0 A0 G al H st->al[k]?=some (a::r)->op k st Q->Kn K H0 A0 G al H st Q R->∃dx fs,H a=some (.ins C dx fs)/\fs.lookup m=none/\sp [.ref a] H R E0
@[reducible] def Z6(op:Wm)(eo:DX)(env:cz)(st:aQ)(Q:DC):Prop:=eo env st λx aJ=>match x with
 | .ref k=>op k aJ Q
 | _=>False
theorem DE{X:Cx}{o:Expr}{eo:DX}{m:Str}{C:Addr}{kk:Nat}{ps:List Str}{sp:Sp}{op:Wm}{apos pos:Pos}{pl:Sem Bool}(ho:cc X o eo)(h:bF X.prog X.w X.K X.mg X.base aL C m kk ps sp)(hop:AM X.K C m sp op)(hr:dU kk X.A)
  (ht:eval (.Call (.Attribute o m apos) [] [] pos) X.env=(do
   let ov ← eval o X.env
   standAt apos.atName
   let (f,first) ← holding [ov] (getMethod ov m pl)
   callWith pos f first (backTo pos (starEach [] X.env)) (backToKw pos (keywordEach [] X.env))):=by rfl):cc X (.Call (.Attribute o m apos) [] [] pos) (Z6 op eo):=by
 obtain⟨t,p1,a1⟩:=ho.h
 refine⟨_,yA p1 h bI hr ht,λH0 A0 G al H st s env Q R I E q k=>a1 H0 A0 G al H st s env _ _ I E q λx aJ bO v H1 e1 I1 d1 q1=>?_⟩
 split at q1
 ·rename_i kx
  obtain⟨a,r,ha,rfl⟩:=d1
  obtain⟨dx,fs,g1,g2,g3⟩:=hop H0 A0 G bO H1 aJ kx a r Q R I1 ha q1 (k.go I1 e1)
  exact⟨a,dx,fs,rfl,g1,g2,g3⟩
 ·exact q1.elim
def AN(K:av)(C:Addr)(sp:Sp)(o:Tn):Prop:=∀(H0:Hp) (A0:Addr->Prop) (G:Addr->Prop) (al:List (List Addr)) (H:Hp) (st:aQ) (vs:List V) (ds:List DV) (Q:DC) (R:VK),DI K H0 A0 G al H st->df (kP K (Fb G al st) H al) vs ds->o ds st Q->Kn K H0 A0 G al H st Q R->∀x dx,H x=none->H dx=none->dx≠x->sp (.ref x::(vs++[])) (upd (upd H dx (.own x)) x (.ins C dx [])) (λv H2=>v=.non/\R (.ref x) H2) E0
theorem TZ{X:Cx}{e:Expr}{es:List Expr}{x:Str}{C:Addr}{kk n:Nat}{ps:List Str}{sp:Sp}{o:Tn}{d:vh}{p pos:Pos}(h:Ea X.prog X.w X.K X.mg X.base aL C x kk ps sp)(hop:AN X.K C sp o)(hr:dU (kk + 1) X.A)(hg:Gl X x)(ha:Ag X (e::es) n d)(hdb:(x == ("__debug__" : Str))=false:=by decide)
  (he:starEach (e::es) X.env=(false,eval e X.env)::starEach es X.env:=by rfl) (hpl:(backTo pos (starEach es X.env)).any (·.1)=false:=by rfl):cc X (.Call (.Name x p) (e::es) [] pos) (Hd o d):=by
 obtain⟨t,p1,a1⟩:=ha.h
 exact⟨_,OP h bI hr hg p1 hdb he hpl,λH0 A0 G al H st s env Q R I E q k=>a1 H0 A0 G al H st s env _ _ I E q λxs aJ bO vs H1 e1 I1 d1 q1=>hop H0 A0 G bO H1 aJ vs xs Q R I1 d1 q1.2 (k.go I1 e1)⟩
end L2
namespace L2
open PySem PySem.Spec PyProof.Rows
structure Sh(n:Nat)(d:PyData):Prop where
 cl:d.canLay0=true
 dp:d.depth<=n
theorem Qw{n:Nat}:Sh n .none:=⟨rfl,Nat.zero_le _⟩
theorem Ua{n:Nat}{b:Bool}:Sh n (.bool b):=⟨rfl,Nat.zero_le _⟩
theorem yM{n:Nat}{i:Int}:Sh n (.int i):=⟨rfl,Nat.zero_le _⟩
theorem Hs{n:Nat}{x:Str}(h:PyData.canLay0 (.str x)=true:=by decide +kernel):Sh n (.str x):=⟨h,Nat.zero_le _⟩
theorem vq{n:Nat}:∀{ds:List PyData},(∀d∈ds,Sh n d)->PyData.canLayAll0 ds=true/\PyData.depthAll ds<=n
 | [],_=>⟨rfl,Nat.zero_le _⟩
 | d::r,h=>by
  obtain⟨h1,h2⟩:=vq (ds:=r) λx hx=>h x (List.mem_cons_of_mem _ hx)
  have hd:=h d List.mem_cons_self
  refine⟨?_,?_⟩
  ·show(PyData.canLay0 d&&PyData.canLayAll0 r)=true
   rw[hd.cl,h1];rfl
  ·show max (PyData.depth d) (PyData.depthAll r)<=n
   exact Nat.max_le.mpr ⟨hd.dp,h2⟩
theorem MA{n:Nat}{ds:List PyData}(h:∀d∈ds,Sh n d):Sh (n + 1) (.list ds):=⟨(vq h).1,Nat.succ_le_succ (vq h).2⟩
theorem yN{n:Nat}{ds:List PyData}(h:∀d∈ds,Sh n d):Sh (n + 1) (.tuple ds):=⟨(vq h).1,Nat.succ_le_succ (vq h).2⟩
theorem Cd{n:Nat}:∀d∈([]:List PyData),Sh n d:=λ_ h=>nomatch h
theorem iS{n:Nat}{x:PyData}{ds:List PyData}(h:Sh n x)(r:∀d∈ds,Sh n d):∀d∈x::ds,Sh n d:=λd hd=>by
 rcases List.mem_cons.mp hd with z | z
 ·rw[z];exact h
 ·exact r d z
theorem Ht{α:Type}{n:Nat}{f:α->PyData}{l:List α}(h:∀a∈l,Sh n (f a)):∀d∈l.map f,Sh n d:=λd hd=>by
 obtain⟨a,ha,rfl⟩:=List.mem_map.mp hd
 exact h a ha
theorem Sh.ok{n:Nat}{d:PyData}(h:Sh n d)(l:n<=64:=by decide):PySem.SeqAt.shaped d=true:=by
 show(d.canLay0&&decide (d.depth<=64))=true
 rw[h.cl,decide_eq_true (Nat.le_trans h.dp l)]
 rfl
theorem Sh.self{n:Nat}{d:PyData}(h:Sh n d):PyData.eqv d d=true:=PySem.SeqAt.eqv_refl _ h.cl
theorem gW{α:Type}{l:List α}{x:α}:(l++[x])[l.length]?=some x:=by rw[List.getElem?_append_right (Nat.le_refl _),Nat.sub_self];rfl
theorem yO{α:Type}{l:List α}{x y:α}:(l++[x]).set l.length y=l++[y]:=by
 rw[List.set_append_right _ _ (Nat.le_refl _),Nat.sub_self]
 rfl
end L2
local macro_rules | `(tactic| walk_at "cond")=>`(tactic| first | rfl | decide | omega | (show (0:Int) < _; decide) | (show (0:Int) < _; omega) | exact ⟨by decide,by decide⟩ | exact ⟨by omega,by omega⟩ | exact Or.inl ⟨by decide,by decide⟩ | exact Or.inr ⟨by decide,by decide⟩ | exact Or.inl ⟨by omega,by omega⟩ | exact Or.inr ⟨by omega,by omega⟩ | assumption)
local macro_rules | `(tactic| walk_at "rd1")=>`(tactic| first
 | refine⟨_,rfl,?_⟩
 | refine⟨_,_,rfl,rfl,?_⟩
 | (refine And.intro ?_ ?_;walk_at "cond"))
local macro_rules | `(tactic| walk_at "vc")=>`(tactic| try dsimp only [L2.Hm,L2.Mx,L2.O1,L2.TU,L2.Z3,L2.Qu,L2.L9,L2.eC,L2.wK,L2.oI,L2.P0,L2.Mf,L2.Dl,L2.Ah,L2.G3,L2.Mh,L2.sW,L2.kB,L2.vi,L2.Ve,L2.TY,L2.qv,L2.Vf,L2.OT,L2.OU,L2.ZV,L2.Kz,L2.G8,L2.Qe,L2.OV,L2.Hd,L2.Mm,L2.Dt,L2.Mo,L2.He,L2.yG,L2.rS,L2.uA,L2.jD,L2.P2,L2.GW,L2.P7,L2.P8,L2.GX,L2.Qk,L2.Dw,L2.OY,L2.Ms,L2.gN,L2.Hh,L2.yJ,L2.gT,L2.TR,L2.Dz,L2.Z2,L2.Mu,L2.TV,L2.Qq,L2.Z6,L2.TX,L2.Vj,L2.Am,L2.Hk,L2.O0,id_eq,List.map_cons,List.map_nil,List.replicate,List.getElem?_cons_zero,List.getElem?_cons_succ,List.set_cons_zero,List.set_cons_succ,List.nil_append,List.cons_append,List.length_cons,List.length_nil,Nat.zero_add,Nat.reduceAdd,Option.getD_some,Option.getD_none,List.getElem?_nil])
local macro_rules | `(tactic| walk_at "rd")=>`(tactic| repeat walk_at "rd1")
set_option maxHeartbeats 4000000
local macro_rules | `(tactic| walk_at "sc")=>`(tactic| exact ⟨rfl,rfl,rfl,by decide +kernel,rfl,by decide +kernel,by decide +kernel⟩)
namespace Mine
open PySem L2
theorem ln0{α:Type}{P:List α->Prop}(h:P []):∀us:List α,us.length=0->P us:=λus hl=>by
 cases us with
 | nil=>exact h
 | cons a r=>exact absurd hl (Nat.succ_ne_zero _)
theorem KA{α:Type}{P:List α->Prop}(h:∀a0:α,P [a0]):∀us:List α,us.length=1->P us:=λus hl=>by
 cases us with
 | nil=>exact absurd hl.symm (Nat.succ_ne_zero _)
 | cons a r=>exact ln0 (P:=λr=>P (a::r)) (h a) r (Nat.succ.inj hl)
theorem ln2{α:Type}{P:List α->Prop}(h:∀a0 a1:α,P [a0,a1]):∀us:List α,us.length=2->P us:=λus hl=>by
 cases us with
 | nil=>exact absurd hl.symm (Nat.succ_ne_zero _)
 | cons a r=>exact KA (P:=λr=>P (a::r)) (λa1=>h a a1) r (Nat.succ.inj hl)
theorem wB{α:Type}{P:List α->Prop}(h:∀a0 a1 a2:α,P [a0,a1,a2]):∀us:List α,us.length=3->P us:=λus hl=>by
 cases us with
 | nil=>exact absurd hl.symm (Nat.succ_ne_zero _)
 | cons a r=>exact ln2 (P:=λr=>P (a::r)) (λa1 a2=>h a a1 a2) r (Nat.succ.inj hl)
theorem Qx{α:Type}{P:List α->Prop}(h:∀a0 a1 a2 a3:α,P [a0,a1,a2,a3]):∀us:List α,us.length=4->P us:=λus hl=>by
 cases us with
 | nil=>exact absurd hl.symm (Nat.succ_ne_zero _)
 | cons a r=>exact wB (P:=λr=>P (a::r)) (λa1 a2 a3=>h a a1 a2 a3) r (Nat.succ.inj hl)
theorem Z7{α:Type}{P:List α->Prop}(h:∀a0 a1 a2 a3 a4:α,P [a0,a1,a2,a3,a4]):∀us:List α,us.length=5->P us:=λus hl=>by
 cases us with
 | nil=>exact absurd hl.symm (Nat.succ_ne_zero _)
 | cons a r=>exact Qx (P:=λr=>P (a::r)) (λa1 a2 a3 a4=>h a a1 a2 a3 a4) r (Nat.succ.inj hl)
theorem ln6{α:Type}{P:List α->Prop}(h:∀a0 a1 a2 a3 a4 a5:α,P [a0,a1,a2,a3,a4,a5]):∀us:List α,us.length=6->P us:=λus hl=>by
 cases us with
 | nil=>exact absurd hl.symm (Nat.succ_ne_zero _)
 | cons a r=>exact Z7 (P:=λr=>P (a::r)) (λa1 a2 a3 a4 a5=>h a a1 a2 a3 a4 a5) r (Nat.succ.inj hl)
theorem Sj{α:Type}{xs:List α}(h:xs.length=1):∃a0,xs=[a0]:=KA (P:=λxs=>∃a0,xs=[a0]) (λa0=>⟨a0,rfl⟩) xs h
theorem Vk{α:Type}{xs:List α}(h:xs.length=2):∃a0 a1,xs=[a0,a1]:=ln2 (P:=λxs=>∃a0 a1,xs=[a0,a1]) (λa0 a1=>⟨a0,a1,rfl⟩) xs h
theorem Wn{α:Type}{xs:List α}(h:xs.length=3):∃a0 a1 a2,xs=[a0,a1,a2]:=wB (P:=λxs=>∃a0 a1 a2,xs=[a0,a1,a2]) (λa0 a1 a2=>⟨a0,a1,a2,rfl⟩) xs h
theorem Wo{α:Type}{xs:List α}(h:xs.length=4):∃a0 a1 a2 a3,xs=[a0,a1,a2,a3]:=Qx (P:=λxs=>∃a0 a1 a2 a3,xs=[a0,a1,a2,a3]) (λa0 a1 a2 a3=>⟨a0,a1,a2,a3,rfl⟩) xs h
theorem ex6{α:Type}{xs:List α}(h:xs.length=6):∃a0 a1 a2 a3 a4 a5,xs=[a0,a1,a2,a3,a4,a5]:=ln6 (P:=λxs=>∃a0 a1 a2 a3 a4 a5,xs=[a0,a1,a2,a3,a4,a5]) (λa0 a1 a2 a3 a4 a5=>⟨a0,a1,a2,a3,a4,a5,rfl⟩) xs h
def tf(p:Program)(i:Nat):Stmt:=p.main.body.getD i (.Pass ⟨0,0,0,0⟩)
def top(i:Nat):Stmt:=tf PySem.Challenge.pw_stackwarden_k32_records_only_come i
abbrev oW:Stmt:=top 49
abbrev oX:Stmt:=top 50
abbrev oY:Stmt:=top 53
abbrev kZ:Stmt:=top 54
abbrev lh:Stmt:=top 51
abbrev jM:Stmt:=top 52
abbrev lj:Stmt:=top 55
abbrev ll:Stmt:=top 56
abbrev lp:Stmt:=top 2
abbrev oZ:Stmt:=top 4
abbrev eW:Stmt:=top 8
abbrev pb:Stmt:=top 7
abbrev lu:Stmt:=top 57
abbrev jN:Stmt:=iC (top 45) 3
abbrev iE:Stmt:=iC (top 47) 2
abbrev yP:Stmt:=top 38
abbrev fH:Stmt:=iC (top 36) 0
abbrev rW:Stmt:=top 37
abbrev eX:Stmt:=iC (top 47) 0
abbrev eY:Stmt:=iC (top 45) 13
abbrev rX:Stmt:=top 15
abbrev lA:Stmt:=top 39
abbrev i8:Stmt:=iC (top 45) 12
abbrev i9:Stmt:=iC (top 45) 11
abbrev fI:Stmt:=iC (top 47) 1
abbrev ja:Stmt:=iC (top 45) 16
abbrev gA:Stmt:=iC (top 45) 14
abbrev gB:Stmt:=iC (top 45) 15
abbrev jO:Stmt:=iC (top 45) 10
abbrev fJ:Stmt:=iC (top 45) 9
abbrev eB:Stmt:=iC (top 47) 5
abbrev lB:Stmt:=top 3
abbrev dn:Stmt:=iC (top 47) 3
abbrev pd:Stmt:=top 41
abbrev dq:Stmt:=iC (top 47) 4
abbrev cY:Stmt:=iC (top 45) 7
abbrev rY:Stmt:=top 23
abbrev rZ:Stmt:=top 25
abbrev ph:Stmt:=top 24
abbrev dr:Stmt:=iC (top 45) 8
abbrev dJ:Stmt:=iC (top 45) 6
abbrev iF:Stmt:=iC (top 45) 5
abbrev lC:Stmt:=top 5
abbrev eD:Stmt:=top 13
abbrev yQ:Stmt:=top 12
abbrev vv:Stmt:=top 14
abbrev fK:Stmt:=iC (top 47) 6
abbrev jP:Stmt:=iC (top 45) 4
abbrev jQ:Stmt:=iC (top 45) 1
abbrev r6:Stmt:=top 32
abbrev jR:Stmt:=top 33
abbrev vw:Stmt:=top 30
abbrev fL:Stmt:=iC (top 45) 0
abbrev qz:Stmt:=top 58
structure ak(K:av)(C:Addr):Prop where
 cl:DY K C
 r8:cW K C "part"
 lD:cW K C "at"
 yR:cW K C "boxes"
 dE:cW K C "stack"
structure bp(K:av)(C:Addr):Prop where
 cl:DY K C
 jb:cW K C "book"
 jS:cW K C "live"
 bU:cW K C "records"
 Cf:cW K C "said"
 vx:cW K C "left"
 vy:cW K C "end"
def bu:List (Str×PyData):=[("push",.tuple []),("load",.tuple []),("store",.tuple [.tuple [.str "any"]]),("dup",.tuple [.tuple [.str "any"]]),("swap",.tuple [.tuple [.str "any"],.tuple [.str "any"]]),("drop",.tuple [.tuple [.str "any"]]),("add",.tuple [.tuple [.str "number"],.tuple [.str "number"]]),("sub",.tuple [.tuple [.str "number"],.tuple [.str "number"]]),("mul",.tuple [.tuple [.str "number"],.tuple [.str "number"]]),("div",.tuple [.tuple [.str "number"],.tuple [.str "number"]]),("rem",.tuple [.tuple [.str "number"],.tuple [.str "number"]]),("less",.tuple [.tuple [.str "number"],.tuple [.str "number"]]),("same",.tuple [.tuple [.str "number"],.tuple [.str "number"]]),("jump",.tuple []),("zero",.tuple [.tuple [.str "number"]]),("kin",.tuple [.tuple [.str "whole",.int 0]]),("make",.tuple []),("toss",.tuple [.tuple [.str "number"]]),("say",.tuple [.tuple [.str "number"]])]
def An:PyData:=.tuple [.str "jump",.str "zero",.str "kin"]
def nY:List (Str×PyData):=[("store",.int 0),("dup",.int 2),("swap",.int 2),("drop",.int 0),("jump",.int 0),("zero",.int 0),("put",.int 0),("toss",.int 0),("say",.int 0),("give",.int 0)]
def oB:PyData:=.tuple [.str "make",.str "fill",.str "begin",.str "get",.str "put"]
def qA:PyData:=.tuple [.str "add",.str "sub",.str "mul",.str "div",.str "rem",.str "less",.str "same"]
inductive Kd where
 | any | num | whole (c:Nat) | raw (c m:Nat)
 deriving DecidableEq
def O4:Kd->List V
 | .any=>[.str "any"]
 | .num=>[.str "number"]
 | .whole c=>[.str "whole",.int c]
 | .raw c m=>[.str "raw",.int c,.int m]
def yS:Kd->List PyData
 | .any=>[.str "any"]
 | .num=>[.str "number"]
 | .whole c=>[.str "whole",.int c]
 | .raw c m=>[.str "raw",.int c,.int m]
abbrev bY:=List (Option Nat×List Kd)
def KC:Option Nat->V
 | none=>.non
 | some n=>.int n
def Vm:Option Nat->PyData
 | none=>.none
 | some n=>.int n
def xG(m:Option Nat×List Kd):PyData:=.tuple [Vm m.1,.list (m.2.map λk=>.tuple (yS k))]
def Qy(ms:bY):PyData:=.list (ms.map xG)
structure Wf(ms:bY):Prop where
 ne:0 < ms.length
 oC:ms.length<=8
 first:∀m,ms[0]?=some m->m.1=none
 ahead:∀(i:Nat) m,ms[i]?=some m->0 < i->∃j,m.1=some j/\j < i
def qB(ms:bY)(c:Nat):Option Nat:=(ms[c]?).bind (·.1)
theorem Wf.el{ms:bY}(w:Wf ms){c:Nat}(hc:c < ms.length):∃m,ms[c]?=some m/\qB ms c=m.1/\∀j,m.1=some j->j < c:=by
 refine⟨ms[c],cV hc,by unfold qB;rw[cV hc];rfl,λj hj=>?_⟩
 rcases Nat.eq_zero_or_pos c with z | z
 ·subst z
  have:=w.first _ (cV hc)
  rw[hj]at this
  cases this
 ·obtain⟨j',h1,h2⟩:=w.ahead c _ (cV hc) z
  rw[hj]at h1
  cases h1
  exact h2
def vz(ms:bY):Nat->Nat->List Nat
 | 0,_=>[]
 | n + 1,c=>c::(match qB ms c with | none=>[] | some j=>vz ms n j)
def bt(ms:bY)(c:Nat):List Nat:=vz ms (c + 1) c
theorem MB{ms:bY}(w:Wf ms):∀c:Nat,c < ms.length->∀n,c + 1<=n->vz ms n c=vz ms (c + 1) c:=by
 intro c
 induction c using Nat.strongRecOn with
 | ind c ih =>
  intro hc n hn
  obtain⟨n',rfl⟩:∃n',n=n' + 1:=⟨n - 1,by omega⟩
  show(c::(match qB ms c with | none=>[] | some j=>vz ms n' j))=c::(match qB ms c with | none=>[] | some j=>vz ms c j)
  obtain⟨m,_,e,hj⟩:=w.el hc
  cases q:qB ms c with
  | none=>rfl
  | some j =>
   have hlt:j < c:=hj j (by rw[← e,q])
   show c::vz ms n' j=c::vz ms c j
   rw[ih j hlt (by omega) n' (by omega),ih j hlt (by omega) c (by omega)]
def rest(ms:bY):Option Nat->List Nat
 | none=>[]
 | some j=>bt ms j
theorem gc{ms:bY}(w:Wf ms){c:Nat}(hc:c < ms.length):bt ms c=c::rest ms (qB ms c):=by
 show(c::(match qB ms c with | none=>[] | some j=>vz ms c j))=_
 obtain⟨m,_,e,hj⟩:=w.el hc
 cases q:qB ms c with
 | none=>rfl
 | some j =>
  have hlt:j < c:=hj j (by rw[← e,q])
  show c::vz ms c j=c::vz ms (j + 1) j
  rw[MB w j (by omega) c (by omega)]
theorem nZ{ms:bY}(w:Wf ms):∀c:Nat,c < ms.length->(bt ms c).length<=c + 1/\∀x∈bt ms c,x<=c:=by
 intro c
 induction c using Nat.strongRecOn with
 | ind c ih =>
  intro hc
  rw[gc w hc]
  obtain⟨m,_,e,hj⟩:=w.el hc
  cases q:qB ms c with
  | none=>exact⟨by simp[rest],λx hx=>by simp[rest]at hx;omega⟩
  | some j =>
   have hlt:j < c:=hj j (by rw[← e,q])
   obtain⟨h1,h2⟩:=ih j hlt (by omega)
   refine⟨by simp only[rest,List.length_cons];omega,λx hx=>?_⟩
   rcases List.mem_cons.mp hx with z | z
   ·omega
   ·have:=h2 x z
    omega
abbrev kC(l:List Nat):List V:=l.map λ(n:Nat)=>V.int (n:Int)
theorem Ao(n:Nat):∀l:List Nat,Gy (.int (n:Int)) (kC l)=decide (n∈l)
 | []=>by simp[Gy,kC]
 | x::r=>by
  have ih:=Ao n r
  show(D3 (.int (x:Int)) (.int (n:Int))||Gy (.int (n:Int)) (kC r))=decide (n∈x::r)
  rw[ih]
  show(((x:Int) == (n:Int))||decide (n∈r))=_
  by_cases h:n=x
  ·subst h;simp
  ·have h':((x:Int) == (n:Int))=false:=by
    rw[beq_eq_false_iff_ne]
    intro z
    exact h (Int.ofNat.inj z).symm
   rw[h']
   simp[h]
theorem xH:∀l:List Nat,(kC l).all iw=true
 | []=>rfl
 | _::r=>by show(true&&(kC r).all iw)=true;rw[xH r];rfl
def Hu(K:av)(H:Hp)(xs:List V)(ms:bY):Prop:=xs.length=ms.length/\∀(i:Nat) x m,xs[i]?=some x->ms[i]?=some m->∃(t l:Addr) (ks:List V),x=.ref t/\ba K H t [KC m.1,.ref l]/\bc K H l ks/\aF K H ks (m.2.map λk=>.tuple (yS k))
def cC(K:av)(H:Hp)(a:Addr)(ms:bY):Prop:=∃xs,bc K H a xs/\Hu K H xs ms
theorem Hu.same{K:av}{H H':Hp}{xs:List V}{ms:bY}(e:aB H H')(h:Hu K H xs ms):Hu K H' xs ms:=⟨h.1,λi x m h1 h2=>by
 obtain⟨t,l,ks,e1,e2,e3,e4⟩:=h.2 i x m h1 h2
 exact⟨t,l,ks,e1,e.tup e2,e.seq e3,e4.same e⟩⟩
theorem cC.same{K:av}{H H':Hp}{a:Addr}{ms:bY}(e:aB H H')(h:cC K H a ms):cC K H' a ms:=let ⟨xs,h1,h2⟩:=h;⟨xs,e.seq h1,h2.same e⟩
theorem aS.el(K:av)(H:Hp):∀o:Option Nat,aS K H (KC o) (Vm o)
 | none=>.non
 | some n=>.int n
theorem cC.rd{K:av}{H:Hp}{a:Addr}{ms:bY}(h:cC K H a ms):aS K H (.ref a) (Qy ms):=by
 obtain⟨xs,h1,h2,h3⟩:=h
 refine .lst h1 (by rw[List.length_map];exact h2) λi x d hx hd=>?_
 rw[List.getElem?_map]at hd
 cases q:ms[i]? with
 | none=>rw[q]at hd;cases hd
 | some m =>
  rw[q]at hd
  cases hd
  obtain⟨t,l,ks,rfl,e2,e3,e4⟩:=h3 i x m hx q
  exact .i6 e2 (.cons (aS.el K H m.1) (.cons (.GG e3 e4) .nil))
def Eg(zs:List Nat):Kd->Prop
 | .any=>True
 | .num=>True
 | .whole c=>c < zs.length
 | .raw c m=>∃z,zs[c]?=some z/\m < 2 ^ z
theorem sN{H:Hp}{p:Addr}(h:H p=none)(o:HO):aB H (upd H p o):=λb u q=>by rw[uN (nN q h)];exact q
theorem Hu.nil(K:av)(H:Hp):Hu K H [] []:=⟨rfl,λi x m h=>by simp at h⟩
theorem Hu.snoc{K:av}{H:Hp}{x:V}{m:Option Nat×List Kd}{xs:List V}{ms:bY}(h:Hu K H xs ms)(hx:∃(t l:Addr) (ks:List V),x=.ref t/\ba K H t [KC m.1,.ref l]/\bc K H l ks/\aF K H ks (m.2.map λk=>.tuple (yS k))):
  Hu K H (xs++[x]) (ms++[m]):=by
 refine⟨by simp[h.1],λi y n h1 h2=>?_⟩
 by_cases hi:i < xs.length
 ·rw[List.getElem?_append_left hi]at h1
  rw[List.getElem?_append_left (by rw[← h.1];exact hi)]at h2
  exact h.2 i y n h1 h2
 ·have hl:i < (xs++[x]).length:=(bN h1).1
  have e:i=xs.length:=by simp at hl;omega
  subst e
  rw[List.getElem?_append_right (Nat.le_refl _)]at h1
  rw[h.1,List.getElem?_append_right (Nat.le_refl _)]at h2
  simp at h1 h2
  subst h1;subst h2
  exact hx
theorem xI{K:av}{H:Hp}{t:Addr}{k:Kd}(h:ba K H t (O4 k)):aS K H (.ref t) (.tuple (yS k)):=by
 refine .i6 h ?_
 cases k with
 | any=>exact .cons (.str _) .nil
 | num=>exact .cons (.str _) .nil
 | whole c=>exact .cons (.str _) (.cons (.int _) .nil)
 | raw c m=>exact .cons (.str _) (.cons (.int _) (.cons (.int _) .nil))
structure abD(sh:List (Option Nat×Nat))(zs:List Nat):Prop where
 len:sh.length=zs.length
 ne:0 < sh.length
 s0:sh[0]?=some (none,0)
 z0:zs[0]?=some 0
 six:∀z∈zs,z<=6
 go:∀(i:Nat) (s:Option Nat×Nat),0 < i->sh[i]?=some s->∃j z,s.1=some j/\j < i/\zs[j]?=some z/\zs[i]?=some (z + s.2)
structure Good(ms:bY)(zs:List Nat):Prop where
 wf:Wf ms
 len:ms.length=zs.length
 MC:∀m,ms[0]?=some m->m.2=[]
 z0:zs[0]?=some 0
 six:∀z∈zs,z<=6
 go:∀(i:Nat) m,0 < i->ms[i]?=some m->∃j z,m.1=some j/\j < i/\zs[j]?=some z/\zs[i]?=some (z + m.2.length)
 kds:∀(i:Nat) m,ms[i]?=some m->∀k∈m.2,Eg zs k
def MD(K:av)(H:Hp)(ys:List V)(ks:List Kd):Prop:=ys.length=ks.length/\∀(j:Nat) y k,ys[j]?=some y->ks[j]?=some k->∃t:Addr,y=.ref t/\ba K H t (O4 k)
theorem MD.same{K:av}{H H':Hp}{ys:List V}{ks:List Kd}(e:aB H H')(h:MD K H ys ks):MD K H' ys ks:=⟨h.1,λi x s h1 h2=>by
 obtain⟨t,e1,e2⟩:=h.2 i x s h1 h2
 exact⟨t,e1,e.tup e2⟩⟩
theorem Qz{xs:List V}{n:Nat}:jr xs none (some (n:Int))=xs.take n:=by
 unfold jr
 rw[HT.kR,HT.ql,List.drop_zero,Nat.sub_zero]
 exact List.take_eq_take_iff.mpr (by omega)
def ownOf(ms:bY)(c:Nat):List Kd:=match ms[c]? with | some m=>m.2 | none=>[]
def cD(ms:bY):List Nat->List Kd
 | []=>[]
 | e::r=>cD ms r++ownOf ms e
def fields(ms:bY)(c:Nat):List Kd:=cD ms (bt ms c)
theorem jT(ms:bY):∀l:List Nat,cD ms l=(l.reverse.map (ownOf ms)).flatten
 | []=>rfl
 | e::r=>by
  show cD ms r++ownOf ms e=_
  rw[jT ms r]
  simp
theorem sY{ms:bY}(w:Wf ms){c:Nat}(hc:c < ms.length):fields ms c=cD ms (rest ms (qB ms c))++ownOf ms c:=by
 unfold fields
 rw[gc w hc]
 rfl
theorem Good.iG{ms:bY}{zs:List Nat}(g:Good ms zs):∀c:Nat,c < ms.length->∃z,zs[c]?=some z/\(fields ms c).length=z:=by
 intro c
 induction c using Nat.strongRecOn with
 | ind c ih =>
  intro hc
  have hm:=cV hc
  rw[sY g.wf hc]
  have own:ownOf ms c=(ms[c]).2:=by unfold ownOf;rw[hm]
  have el:qB ms c=(ms[c]).1:=by unfold qB;rw[hm];rfl
  rcases Nat.eq_zero_or_pos c with z | z
  ·subst z
   refine⟨0,g.z0,?_⟩
   rw[own,g.MC _ hm,el,g.wf.first _ hm]
   rfl
  ·obtain⟨j,y,e1,e2,e3,e4⟩:=g.go c _ z hm
   obtain⟨z',f1,f2⟩:=ih j e2 (by omega)
   rw[e3]at f1
   cases f1
   refine⟨_,e4,?_⟩
   rw[own,el,e1,List.length_append]
   show(fields ms j).length + _=_
   rw[f2]
theorem aF.append{K:av}{H:Hp}:∀{xs ys:List V} {ds es:List PyData},aF K H xs ds->aF K H ys es->aF K H (xs++ys) (ds++es)
 | [],_,[],_,_,r=>r
 | [],_,_::_,_,h,_=>nomatch h.1
 | _::_,_,[],_,h,_=>nomatch h.1
 | x::xs,ys,d::ds,es,h,r=>aF.cons (h.2 0 x d rfl rfl) (aF.append ⟨by simpa using h.1,λi a b h1 h2=>h.2 (i + 1) a b (by simpa using h1) (by simpa using h2)⟩ r)
abbrev fM(ks:List Kd):List PyData:=ks.map λk=>PyData.tuple (yS k)
theorem pj(m n:Nat):Builtin.bitAnd (m:Int) (n:Int)=((m&&&n:Nat):Int):=by
 unfold Builtin.bitAnd
 simp
def below(ms:bY):Kd->Kd->Bool
 | _,.any=>true
 | .num,.num=>true
 | .whole c,.whole d=>decide (d∈bt ms c)
 | .raw c m,.raw d n=>decide (c=d)&&decide (m&&&n=n)
 | _,_=>false
def Z8(K:av)(H:Hp)(v:V)(k:Kd):Prop:=∃t:Addr,v=.ref t/\ba K H t (O4 k)
theorem MD.at{K:av}{H:Hp}{ys:List V}{ks:List Kd}(h:MD K H ys ks){i:Nat}{y:V}(hy:ys[i]?=some y):∃k,ks[i]?=some k/\Z8 K H y k:=by
 have hi:i < ks.length:=by rw[← h.1];exact(bN hy).1
 obtain⟨t,e1,e2⟩:=h.2 i y _ hy (cV hi)
 exact⟨ks[i],cV hi,t,e1,e2⟩
theorem QA(k:Kd):PySem.SeqAt.shaped (.tuple (yS k))=true:=by
 cases k<;>(simp only[yS,PySem.SeqAt.shaped,PyData.canLay0,PyData.canLayAll0,PyData.depth,PyData.depthAll];decide +kernel)
theorem Eh{a b:Nat}:(V.int (a:Int)=V.int (b:Int))↔a=b:=⟨λh=>by
 have h':(a:Int)=(b:Int):=V.int.inj h
 omega,λh=>by rw[h]⟩
theorem DF(a b:Nat):decide (V.int (a:Int)=V.int (b:Int))=decide (a=b):=decide_eq_decide.mpr Eh
theorem nWA:¬ (V.str "whole"=V.str "any"):=by decide +kernel
theorem nRA:¬ (V.str "raw"=V.str "any"):=by decide +kernel
theorem nNA:¬ (V.str "number"=V.str "any"):=by decide +kernel
theorem nAN:¬ (V.str "any"=V.str "number"):=by decide +kernel
theorem nWN:¬ (V.str "whole"=V.str "number"):=by decide +kernel
theorem nRN:¬ (V.str "raw"=V.str "number"):=by decide +kernel
theorem nRW:¬ (V.str "raw"=V.str "whole"):=by decide +kernel
theorem aS.bX{K:av}{H:Hp}{v:V}{ds:List PyData}(h:aS K H v (.tuple ds)):∃(a:Addr) (xs:List V),v=.ref a/\ba K H a xs/\aF K H xs ds:=by
 cases h with
 | tup h hl hi=>exact⟨_,_,rfl,h,hl,hi⟩
theorem aS.aM{K:av}{H:Hp}{v:V}{i:Int}(h:aS K H v (.int i)):v=.int i:=by cases h;rfl
def Fy(ms:bY):Prop:=∀(i:Nat) m,ms[i]?=some m->m.2.length<=50
theorem Good.Hv{ms:bY}{zs:List Nat}(g:Good ms zs):Fy ms:=λi m hm=>by
 rcases Nat.eq_zero_or_pos i with z | z
 ·subst z
  rw[g.MC m hm]
  decide
 ·obtain⟨j,y,_,_,_,e4⟩:=g.go i m z hm
  have:=g.six _ (List.mem_of_getElem? e4)
  omega
theorem Fy.up{ms:bY}(f:Fy ms):∀l:List Nat,(cD ms l).length<=50 * l.length
 | []=>Nat.le_refl _
 | e::r=>by
  have ih:=f.up r
  show(cD ms r++ownOf ms e).length<=_
  rw[List.length_append,List.length_cons]
  have:(ownOf ms e).length<=50:=by
   unfold ownOf
   cases q:ms[e]? with
   | none=>simp
   | some m=>exact f e m q
  omega
theorem Fy.fields{ms:bY}(f:Fy ms)(w:Wf ms){c:Nat}(hc:c < ms.length):(Mine.fields ms c).length<=400:=by
 have h1:=f.up (bt ms c)
 have h2:=(nZ w c hc).1
 have h3:=w.oC
 show(cD ms (bt ms c)).length<=400
 omega
theorem dW(n:Str):∀l:List Str,Gy (.str n) (l.map V.str)=decide (n∈l)
 | []=>by simp[Gy]
 | x::r=>by
  have ih:=dW n r
  show(D3 (.str x) (.str n)||Gy (.str n) (r.map V.str))=decide (n∈x::r)
  rw[ih]
  by_cases h:x=n
  ·subst h;simp[D3]
  ·have h':¬ n=x:=λe=>h e.symm
   simp[D3,h,h',List.mem_cons]
theorem cS:∀l:List Str,(l.map V.str).all iw=true
 | []=>rfl
 | x::r=>by show(iw (.str x)&&(r.map V.str).all iw)=true;rw[cS r];rfl
inductive Rw where
 | push (w:Int) | load (b:Nat) | store (b:Nat) | bare (s:Str) | jump (t:Nat) | zero (t:Nat) | kin (c t:Nat) | make (c:Nat) | beg (c:Nat) | fill (c f:Nat) | get (c f:Nat) | put (c f:Nat) | call (p:Nat)
def qg:Rw->Str
 | .push _=>"push" | .load _=>"load" | .store _=>"store" | .bare s=>s | .jump _=>"jump" | .zero _=>"zero" | .kin _ _=>"kin" | .make _=>"make" | .beg _=>"begin" | .fill _ _=>"fill" | .get _ _=>"get" | .put _ _=>"put" | .call _=>"call"
def QB:Rw->List Int
 | .push w=>[w] | .load b=>[b] | .store b=>[b] | .bare _=>[] | .jump t=>[t] | .zero t=>[t] | .kin c t=>[c,t] | .make c=>[c] | .beg c=>[c] | .fill c f=>[c,f] | .get c f=>[c,f] | .put c f=>[c,f] | .call p=>[p]
def xJ(r:Rw):List V:=.str (qg r)::(QB r).map V.int
def wL(r:Rw):PyData:=.tuple (.str (qg r)::(QB r).map PyData.int)
def oE:List Str:=["dup","swap","drop","add","sub","mul","div","rem","less","same","toss","say","give"]
def Rw.Ok(zs:List Nat)(np nb nr:Nat):Rw->Prop
 | .push w=>-2147483648<=w/\w < 2147483648
 | .load b=>b < nb
 | .store b=>b < nb
 | .bare s=>s∈oE
 | .jump t=>t < nr
 | .zero t=>t < nr
 | .kin c t=>c < zs.length/\t < nr
 | .make c=>c < zs.length
 | .beg c=>c < zs.length
 | .fill c f=>∃z,zs[c]?=some z/\f < z
 | .get c f=>∃z,zs[c]?=some z/\f < z
 | .put c f=>∃z,zs[c]?=some z/\f < z
 | .call p=>p < np
structure Pt where
 takes:List Kd
 gives:Kd
 boxes:Nat
 height:Nat
 rows:List Rw
 spans:List (Nat×Nat×Nat)
def Wq(s:Nat×Nat×Nat):List V:=[.int (s.1:Int),.int (s.2.1:Int),.int (s.2.2:Int)]
def O5(s:Nat×Nat×Nat):PyData:=.tuple [.int (s.1:Int),.int (s.2.1:Int),.int (s.2.2:Int)]
def BB(p:Pt):PyData:=.tuple [.list (fM p.takes),.tuple (yS p.gives),.int (p.boxes:Int),.int (p.height:Int),.list (p.rows.map wL),.list (p.spans.map O5)]
def ME(ms:bY)(ps:List Pt):PyData:=.tuple [Qy ms,.list (ps.map BB)]
structure abL(zs:List Nat)(np:Nat)(p:Pt):Prop where
 tk:∀k∈p.takes,Eg zs k
 gv:Eg zs p.gives
 bx:p.boxes<=8
 tb:p.takes.length<=p.boxes
 h1:1<=p.height
 h8:p.height<=8
 r1:1<=p.rows.length
 r2:p.rows.length<=100
 ro:∀r∈p.rows,r.Ok zs np p.boxes p.rows.length
 la:∃l r,p.rows=l++[r]/\(r=.bare "toss"∨r=.bare "give"∨∃t,r=.jump t)
 s8:p.spans.length<=8
 so:∀s∈p.spans,s.1 < s.2.1/\s.2.1<=p.rows.length/\s.2.2 < p.rows.length
theorem DG{K:av}{H:Hp}:∀l:List Int,aF K H (l.map V.int) (l.map PyData.int)
 | []=>.nil
 | x::r=>.cons (.int x) (DG r)
theorem Ub{K:av}{H:Hp}{t:Addr}{r:Rw}(h:ba K H t (xJ r)):aS K H (.ref t) (wL r):=.i6 h (.cons (.str _) (DG _))
theorem Uc{K:av}{H:Hp}{t:Addr}{s:Nat×Nat×Nat}(h:ba K H t (Wq s)):aS K H (.ref t) (O5 s):=.i6 h (.cons (.int _) (.cons (.int _) (.cons (.int _) .nil)))
theorem aS.dI{K:av}{H:Hp}{v:V}{ds:List PyData}(h:aS K H v (.list ds)):∃(a:Addr) (xs:List V),v=.ref a/\bc K H a xs/\aF K H xs ds:=by
 cases h with
 | lst h hl hi=>exact⟨_,_,rfl,h,hl,hi⟩
theorem aF.at{K:av}{H:Hp}{xs:List V}{ds:List PyData}{i:Nat}{d:PyData}(h:aF K H xs ds)(hd:ds[i]?=some d):∃x,xs[i]?=some x/\aS K H x d:=by
 have hi:i < xs.length:=by rw[h.1];exact(bN hd).1
 exact⟨xs[i],cV hi,h.2 i _ d (cV hi) hd⟩
theorem Ud{K:av}{H:Hp}{v:V}{o:Option Nat}(h:aS K H v (Vm o)):v=KC o:=by
 cases o with
 | none=>cases h;rfl
 | some n=>cases h;rfl
theorem cC.wM{K:av}{H:Hp}{v:V}{ms:bY}(h:aS K H v (Qy ms)):∃a,v=.ref a/\cC K H a ms:=by
 obtain⟨a,xs,rfl,hS,hR⟩:=aS.dI h
 refine⟨a,rfl,xs,hS,by have:=hR.1;simpa using this,λi x m hx hm=>?_⟩
 have z:=hR.2 i x (xG m) hx (by rw[List.getElem?_map,hm];rfl)
 obtain⟨t,ys,rfl,hT,hY⟩:=aS.bX z
 have hl:=hY.1
 obtain⟨y0,y1,rfl⟩:=Vk hl
 have e0:=Ud (hY.2 0 y0 (Vm m.1) rfl rfl)
 obtain⟨l,ks,e1,hls,hk⟩:=aS.dI (hY.2 1 y1 _ rfl rfl)
 subst e0;subst e1
 exact⟨t,l,ks,rfl,hT,hls,hk⟩
theorem yT{K:av}{H:Hp}{v:V}{ms:bY}{ps:List Pt}(hB:aS K H v (ME ms ps)):∃(b mk pl:Addr) (xs:List V),v=.ref b/\ba K H b [.ref mk,.ref pl]/\cC K H mk ms/\bc K H pl xs/\aF K H xs (ps.map BB):=by
 obtain⟨b',bs,e,hT,hR⟩:=aS.bX hB
 have hl:=hR.1
 obtain⟨v0,v1,rfl⟩:=Vk hl
 obtain⟨mk,rfl,hM⟩:=cC.wM (hR.2 0 v0 _ rfl rfl)
 obtain⟨pl,xs,rfl,hL,hP⟩:=aS.dI (hR.2 1 v1 _ rfl rfl)
 exact⟨b',mk,pl,xs,e,hT,hM,hL,hP⟩
theorem jU{K:av}{H:Hp}{v:V}{p:Pt}(h:aS K H v (BB p)):∃(t l0 l4 l5:Addr) (ks zP yU:List V) (g:V),v=.ref t/\ba K H t [.ref l0,g,.int (p.boxes:Int),.int (p.height:Int),.ref l4,.ref l5]/\bc K H l0 ks/\aF K H ks (fM p.takes)/\aS K H g (.tuple (yS p.gives))/\bc K H l4 zP/\aF K H zP (p.rows.map wL)/\bc K H l5 yU/\aF K H yU (p.spans.map O5):=by
 obtain⟨t,fs,e,hT,hR⟩:=aS.bX h
 have hfl:=hR.1
 obtain⟨f0,f1,f2,f3,f4,f5,rfl⟩:=ex6 hfl
 obtain⟨l0,ks,z0,Cg,hk⟩:=aS.dI (hR.2 0 f0 _ rfl rfl)
 have rg:=hR.2 1 f1 _ rfl rfl
 have z2:=aS.aM (hR.2 2 f2 _ rfl rfl)
 have z3:=aS.aM (hR.2 3 f3 _ rfl rfl)
 obtain⟨l4,zP,z4,Fz,FA⟩:=aS.dI (hR.2 4 f4 _ rfl rfl)
 obtain⟨l5,yU,z5,FC,Dh⟩:=aS.dI (hR.2 5 f5 _ rfl rfl)
 subst z0;subst z2;subst z3;subst z4;subst z5
 exact⟨t,l0,l4,l5,ks,zP,yU,f1,e,hT,Cg,hk,rg,Fz,FA,FC,Dh⟩
theorem sK{n:Nat}(h:n<=1000):n < sizeLine:=Nat.lt_of_le_of_lt h (by decide)
def Pt.wt(p:Pt)(tk:List Kd):Pt:={p with takes:=tk}
def ay(ls:List Addr)(H HX:Hp):Prop:=∀c o,c∉ls->H c=some o->HX c=some o
structure Wr(K:av)(H:Hp)(mk pl:Addr)(ys:List V)(ls:List Addr)(ms:bY)(ps:List Pt):Prop where
 ln:ls.length=ps.length
 nd:ls.Nodup
 pls:H pl=some (.lst ys)
 np:pl∉ls
 my:∀HX,ay ls H HX->cC K HX mk ms
 pt:∀HX,ay ls H HX->∀(j:Nat) (p:Pt) (l:Addr),ps[j]?=some p->ls[j]?=some l->∃(t:Addr) (g r s:V) (ks:List V),ys[j]?=some (.ref t)/\ba K HX t [.ref l,g,.int (p.boxes:Int),.int (p.height:Int),r,s]/\H l=some (.lst ks)/\aF K HX ks (fM p.takes)/\∀vs tk,HX l=some (.lst vs)->aF K HX vs (fM tk)->aS K HX (.ref t) (BB (p.wt tk))
theorem ay.refl{ls:List Addr}{H:Hp}:ay ls H H:=λ_ _ _ h=>h
theorem aF.of{K:av}{H:Hp}{α:Type}{f:α->PyData}{ys:List V}{ps:List α}(hl:ys.length=ps.length)(h:∀(j:Nat) (p:α),ps[j]?=some p->∃v,ys[j]?=some v/\aS K H v (f p)):aF K H ys (ps.map f):=by
 refine⟨by rw[hl,List.length_map],λi x d h1 h2=>?_⟩
 rw[List.getElem?_map]at h2
 cases e:ps[i]? with
 | none=>rw[e]at h2;cases h2
 | some p =>
  rw[e]at h2
  cases h2
  obtain⟨v,e1,e2⟩:=h i p e
  rw[h1]at e1
  cases e1
  exact e2
theorem iT{K:av}{H:Hp}{xs:List V}{ps:List Pt}{j:Nat}{p:Pt}(hP:aF K H xs (ps.map BB))(hp:ps[j]?=some p):∃v,xs[j]?=some v/\aS K H v (BB p):=by
 obtain⟨v,h1,h2⟩:=aF.at hP (i:=j) (d:=BB p) (by rw[List.getElem?_map,hp];rfl)
 exact⟨v,h1,h2⟩
theorem uH{n m:Nat}(h:m < n):Fw n (m:Int)=some m:=by
 unfold Fw
 rw[if_pos (by omega),if_pos (by omega),Int.toNat_natCast]
theorem Ei{t u:TS}{D:Ends}{σ:St}{H:Hp}(h:∀R:St->Hp->Prop,(∀σ' H',u D σ' H'->R σ' H')->t {D with nx:=R} σ H):Ga t u D σ H:=h _ λ_ _ x=>x
inductive Ci(ms:bY):Str->List V->List Kd->Prop
 | begin {c:Nat} (hc:c < ms.length):Ci ms "begin" [.int c] [.raw c (2 ^ (fields ms c).length - 1)]
 | get {c f:Nat}:Ci ms "get" [.int c,.int f] [.whole c]
 | fill {c f:Nat} {k:Kd} (hc:c < ms.length) (hf:(fields ms c)[f]?=some k):Ci ms "fill" [.int c,.int f] [.raw c 0,k]
 | put {c f:Nat} {k:Kd} (hc:c < ms.length) (hf:(fields ms c)[f]?=some k):Ci ms "put" [.int c,.int f] [.whole c,k]
inductive vA(K:av)(H:Hp)(mk pl:Addr)(part:Nat):Str->List V->List Kd->Prop
 | always {sign:Str} {xs:List V} {ks:List Kd} (h:eS bu sign=some (.tuple (fM ks))):vA K H mk pl part sign xs ks
 | call {q:Nat} {ys rest vs:List V} {t l:Addr} {ks:List Kd} (h1:bc K H pl ys) (h2:ys[q]?=some (.ref t)) (h3:ba K H t (.ref l::rest)) (h4:bc K H l vs) (h5:aF K H vs (fM ks)):vA K H mk pl part "call" [.int q] ks
 | give {ys rest:List V} {t:Addr} {v0 v:V} {k:Kd} (h1:bc K H pl ys) (h2:ys[part]?=some (.ref t)) (h3:ba K H t (v0::v::rest)) (h4:aS K H v (.tuple (yS k))):vA K H mk pl part "give" [] [k]
 | ofR {ms:bY} {sign:Str} {xs:List V} {ks:List Kd} (hM:cC K H mk ms) (hw:Wf ms) (hf:Fy ms) (h:Ci ms sign xs ks):vA K H mk pl part sign xs ks
def pk(sign:Str):Int:=match eS nY sign with | some (.int i)=>i | _=>1
theorem Hw{kds:List (Str×PyData)}{k:Str}{d:PyData}(h:eS kds k=some d):∃kv∈kds,kv.2=d:=by
 unfold eS at h
 obtain⟨kv,h1,h2⟩:=Option.map_eq_some_iff.mp h
 exact⟨kv,List.mem_of_find?_eq_some h1,h2⟩
theorem Hx{sign:Str}{d:PyData}(h:eS nY sign=some d):∃i,d=.int i:=by
 obtain⟨kv,h1,rfl⟩:=Hw h
 simp[nY]at h1
 rcases h1 with e | e | e | e | e | e | e | e | e | e<;>exact⟨_,by rw[e]⟩
inductive Vl where
 | none | num (w:Int) | rcd (n:Nat)
def wC:Vl->PyData
 | .none=>.none
 | .num w=>.tuple [.str "number",.int w]
 | .rcd n=>.tuple [.str "record",.int (n:Int)]
structure Rk where
 c:Nat
 begun:Bool
 mask:Nat
 fs:List Vl
def Cj(ms:bY)(r:Rk):Kd->Bool
 | .whole c=>r.begun&&decide (c∈bt ms r.c)
 | .raw c m=>decide (r.c=c)&&decide (r.mask&&&m=m)
 | .any=>true
 | .num=>false
def wN(ms:bY)(rcs:List Rk)(k:Kd):Vl->Bool
 | .none=>false
 | .num _=>decide (k=.num)
 | .rcd n=>match rcs[n]? with
  | some r=>Cj ms r k
  | none=>false
def hasB(ms:bY)(rcs:List Rk)(v:Vl):Kd->Bool
 | .any=>true
 | .num=>wN ms rcs .num v
 | .whole c=>wN ms rcs (.whole c) v
 | .raw c m=>wN ms rcs (.raw c m) v
theorem MF{ms:bY}{rcs:List Rk}{x:Vl}{k:Kd}(h:k≠.any):hasB ms rcs x k=wN ms rcs k x:=by
 cases k with
 | any=>exact absurd rfl h
 | num=>rfl
 | whole c=>rfl
 | raw c m=>rfl
theorem iH{ms:bY}{rcs:List Rk}{n:Nat}{r:Rk}{k:Kd}(h:rcs[n]?=some r):wN ms rcs k (.rcd n)=Cj ms r k:=by
 show(match rcs[n]? with | some r=>Cj ms r k | none=>false)=_
 rw[h]
theorem vB{K:av}{H:Hp}{v:V}{w:Int}(h:aS K H v (wC (.num w))):∃t,v=.ref t/\ba K H t [.str "number",.int w]:=by
 obtain⟨t,fs,e,hT,hR⟩:=aS.bX h
 have hfl:=hR.1
 match fs,hfl,hT,hR with
 | [f0,f1],_,hT,hR =>
  have z0:f0=.str "number":=by have:=hR.2 0 f0 _ rfl rfl;cases this;rfl
  have z1:=aS.aM (hR.2 1 f1 _ rfl rfl)
  subst z0;subst z1
  exact⟨t,e,hT⟩
theorem vC{K:av}{H:Hp}{v:V}{n:Nat}(h:aS K H v (wC (.rcd n))):∃t,v=.ref t/\ba K H t [.str "record",.int (n:Int)]:=by
 obtain⟨t,fs,e,hT,hR⟩:=aS.bX h
 have hfl:=hR.1
 match fs,hfl,hT,hR with
 | [f0,f1],_,hT,hR =>
  have z0:f0=.str "record":=by have:=hR.2 0 f0 _ rfl rfl;cases this;rfl
  have z1:=aS.aM (hR.2 1 f1 _ rfl rfl)
  subst z0;subst z1
  exact⟨t,e,hT⟩
theorem uI{K:av}{H:Hp}{v:V}(h:aS K H v (wC .none)):v=.non:=by
 have h:aS K H v .none:=h
 cases h;rfl
theorem Ws:¬ (V.str "record"=V.str "number"):=by decide +kernel
theorem Wt:¬ (V.str "number"=V.str "record"):=by decide +kernel
def QC:Kd->Str
 | .any=>"any" | .num=>"number" | .whole _=>"whole" | .raw _ _=>"raw"
theorem r9(k:Kd):rO (O4 k) 0=some (.str (QC k)):=by cases k<;>rfl
theorem MG{k:Kd}(h:k≠.any):¬ (V.str (QC k)=V.str "any"):=by
 cases k with
 | any=>exact absurd rfl h
 | num=>exact nNA
 | whole c=>exact nWA
 | raw c m=>exact nRA
theorem yV{k:Kd}:(V.str (QC k)=V.str "number")↔k=.num:=by
 cases k with
 | any=>exact⟨λh=>absurd h nAN,λh=>by cases h⟩
 | num=>exact⟨λ_=>rfl,λ_=>rfl⟩
 | whole c=>exact⟨λh=>absurd h nWN,λh=>by cases h⟩
 | raw c m=>exact⟨λh=>absurd h nRN,λh=>by cases h⟩
def qC(n:Int):Int:=(n + 2147483648) % 4294967296 - 2147483648
def Hy(n:Int):Prop:=-2147483648<=n/\n<=2147483647
def rk(sign:Str)(a b:Int):Int :=
 if sign="add" then qC (a + b)else if sign="sub" then qC (a - b)else if sign="mul" then qC (a * b)
 else if sign="less" then(if a < b then 1 else 0)else if sign="same" then(if a=b then 1 else 0)else if sign="div" then qC (a.fdiv b)else a.fmod b
def parts(sign:Str):Prop:=sign="div"∨sign="rem"
instance (sign:Str):Decidable (parts sign):=by unfold parts;exact inferInstance
theorem dv:¬ parts "add"/\¬ parts "sub"/\¬ parts "mul"/\¬ parts "less"/\¬ parts "same":=by decide +kernel
theorem QD(a b:Int):rk "add" a b=qC (a + b):=by unfold rk;rw[if_pos rfl]
theorem QE(a b:Int):rk "sub" a b=qC (a - b):=by unfold rk;rw[if_neg (by decide +kernel),if_pos rfl]
theorem QF(a b:Int):rk "mul" a b=qC (a * b):=by unfold rk;rw[if_neg (by decide +kernel),if_neg (by decide +kernel),if_pos rfl]
theorem MI(a b:Int):rk "less" a b=if a < b then 1 else 0:=by unfold rk;rw[if_neg (by decide +kernel),if_neg (by decide +kernel),if_neg (by decide +kernel),if_pos rfl]
theorem MJ(a b:Int):rk "same" a b=if a=b then 1 else 0:=by unfold rk;rw[if_neg (by decide +kernel),if_neg (by decide +kernel),if_neg (by decide +kernel),if_neg (by decide +kernel),if_pos rfl]
theorem QG(a b:Int):rk "div" a b=qC (a.fdiv b):=by unfold rk;rw[if_neg (by decide +kernel),if_neg (by decide +kernel),if_neg (by decide +kernel),if_neg (by decide +kernel),if_neg (by decide +kernel),if_pos rfl]
theorem QH(a b:Int):rk "rem" a b=a.fmod b:=by unfold rk;rw[if_neg (by decide +kernel),if_neg (by decide +kernel),if_neg (by decide +kernel),if_neg (by decide +kernel),if_neg (by decide +kernel),if_neg (by decide +kernel)]
def eZ:Vl->Int
 | .none=>0
 | .num w=>w
 | .rcd n=>(n:Int)
def wO(o:HO):Prop:=(∃xs,o=.lst xs)∨∃C dx fs,o=.ins C dx fs
def aU(H:Hp)(F:List Addr):Prop:=∀c∈F,∃o,H c=some o/\wO o
theorem ba.keep{K:av}{H H':Hp}{F:List Addr}{t:Addr}{xs:List V}(k:ay F H H')(m:aU H F)(h:ba K H t xs):ba K H' t xs:=by
 rcases h with(h | ⟨u,h⟩) | h
 ·refine .inl (.inl (k _ _ (λhf=>?_) h))
  obtain⟨o,e,z⟩:=m t hf
  rw[h]at e
  cases e
  rcases z with⟨xs,z⟩ | ⟨C,dx,fs,z⟩<;>cases z
 ·refine .inl (.inr ⟨u,k _ _ (λhf=>?_) h⟩)
  obtain⟨o,e,z⟩:=m t hf
  rw[h]at e
  cases e
  rcases z with⟨xs,z⟩ | ⟨C,dx,fs,z⟩<;>cases z
 ·exact .inr h
theorem MK{K:av}{H H':Hp}{F:List Addr}{v:V}{x:Vl}(k:ay F H H')(m:aU H F)(h:aS K H v (wC x)):aS K H' v (wC x):=by
 cases x with
 | none=>rw[uI h];exact .non
 | num w =>
  obtain⟨t,rfl,ht⟩:=vB h
  exact .i6 (ba.keep k m ht) (.cons (.str _) (.cons (.int _) .nil))
 | rcd n =>
  obtain⟨t,rfl,ht⟩:=vC h
  exact .i6 (ba.keep k m ht) (.cons (.str _) (.cons (.int _) .nil))
def uJ(K:av)(H:Hp)(wt:Bool)(v:V)(x:Vl):Prop:=if wt=true then aS K H v (wC x)else v=.int (eZ x)
theorem uJ.same{K:av}{H H':Hp}{wt:Bool}{v:V}{x:Vl}(e:aB H H')(h:uJ K H wt v x):uJ K H' wt v x:=by
 cases wt with
 | true=>exact aS.same e (show aS K H v (wC x)from h)
 | false=>exact h
theorem uJ.keep{K:av}{H H':Hp}{F:List Addr}{wt:Bool}{v:V}{x:Vl}(k:ay F H H')(m:aU H F)(h:uJ K H wt v x):uJ K H' wt v x:=by
 cases wt with
 | true=>exact MK k m (show aS K H v (wC x)from h)
 | false=>exact h
def fA(K:av)(H:Hp)(wt:Bool)(ys:List V)(xs:List Vl):Prop:=ys.length=xs.length/\∀(j:Nat) y x,ys[j]?=some y->xs[j]?=some x->uJ K H wt y x
theorem fA.nil{K:av}{H:Hp}{wt:Bool}:fA K H wt [] []:=⟨rfl,λj y x h=>by simp at h⟩
theorem fA.same{K:av}{H H':Hp}{wt:Bool}{ys:List V}{xs:List Vl}(e:aB H H')(h:fA K H wt ys xs):fA K H' wt ys xs:=⟨h.1,λj y x h1 h2=>(h.2 j y x h1 h2).same e⟩
theorem fA.keep{K:av}{H H':Hp}{F:List Addr}{wt:Bool}{ys:List V}{xs:List Vl}(k:ay F H H')(m:aU H F)(h:fA K H wt ys xs):fA K H' wt ys xs:=⟨h.1,λj y x h1 h2=>(h.2 j y x h1 h2).keep k m⟩
theorem fA.snoc{K:av}{H:Hp}{wt:Bool}{ys:List V}{xs:List Vl}{y:V}{x:Vl}(h:fA K H wt ys xs)(hy:uJ K H wt y x):fA K H wt (ys++[y]) (xs++[x]):=by
 refine⟨by simp[h.1],λj z u hz hu=>?_⟩
 by_cases hj:j < ys.length
 ·rw[List.getElem?_append_left hj]at hz
  rw[List.getElem?_append_left (by rw[← h.1];exact hj)]at hu
  exact h.2 j z u hz hu
 ·have hl:j=ys.length:=by
   have:=(bN hz).1
   simp at this
   omega
  subst hl
  rw[List.getElem?_append_right (Nat.le_refl _),Nat.sub_self]at hz
  rw[h.1,List.getElem?_append_right (Nat.le_refl _),Nat.sub_self]at hu
  cases hz
  cases hu
  exact hy
theorem fA.take{K:av}{H:Hp}{wt:Bool}{ys:List V}{xs:List Vl}(h:fA K H wt ys xs)(n:Nat):fA K H wt (ys.take n) (xs.take n):=by
 refine⟨by rw[List.length_take,List.length_take,h.1],λj y k hy hk=>?_⟩
 have hj:j < (ys.take n).length:=(bN hy).1
 rw[List.length_take]at hj
 rw[List.getElem?_take_of_lt (by omega)]at hy hk
 exact h.2 _ y k hy hk
theorem fA.drop{K:av}{H:Hp}{wt:Bool}{ys:List V}{xs:List Vl}(h:fA K H wt ys xs)(n:Nat):fA K H wt (ys.drop n) (xs.drop n):=by
 refine⟨by rw[List.length_drop,List.length_drop,h.1],λj y k hy hk=>?_⟩
 rw[List.getElem?_drop]at hy hk
 exact h.2 _ y k hy hk
theorem fA.set{K:av}{H:Hp}{wt:Bool}{ys:List V}{xs:List Vl}{y:V}{x:Vl}(h:fA K H wt ys xs)(hy:uJ K H wt y x)(i:Nat):fA K H wt (ys.set i y) (xs.set i x):=by
 refine⟨by rw[List.length_set,List.length_set,h.1],λj z u hz hu=>?_⟩
 rw[List.getElem?_set]at hz hu
 by_cases hj:i=j
 ·subst hj
  rw[if_pos rfl]at hz hu
  split at hz
  ·split at hu
   ·cases hz;cases hu;exact hy
   ·cases hu
  ·cases hz
 ·rw[if_neg hj]at hz hu
  exact h.2 j z u hz hu
theorem fA.at{K:av}{H:Hp}{wt:Bool}{ys:List V}{xs:List Vl}(h:fA K H wt ys xs){i:Nat}{x:Vl}(hx:xs[i]?=some x):∃y,ys[i]?=some y/\uJ K H wt y x:=by
 have hi:i < ys.length:=by rw[h.1];exact(bN hx).1
 exact⟨ys[i],cV hi,h.2 i _ x (cV hi) hx⟩
theorem fA.append{K:av}{H:Hp}{wt:Bool}{ys zs:List V}{xs us:List Vl}(h:fA K H wt ys xs)(h':fA K H wt zs us):fA K H wt (ys++zs) (xs++us):=by
 refine⟨by simp[h.1,h'.1],λj z u hz hu=>?_⟩
 by_cases hj:j < ys.length
 ·rw[List.getElem?_append_left hj]at hz
  rw[List.getElem?_append_left (by rw[← h.1];exact hj)]at hu
  exact h.2 j z u hz hu
 ·rw[List.getElem?_append_right (by omega)]at hz
  rw[List.getElem?_append_right (by rw[← h.1];omega),← h.1]at hu
  exact h'.2 _ z u hz hu
theorem fA.rep{K:av}{H:Hp}{wt:Bool}{v:V}{x:Vl}(h:uJ K H wt v x)(n:Nat):fA K H wt (List.replicate n v) (List.replicate n x):=by
 refine⟨by simp,λj y z hy hz=>?_⟩
 rw[List.eq_of_mem_replicate (List.mem_of_getElem? hy),List.eq_of_mem_replicate (List.mem_of_getElem? hz)]
 exact h
def wD{α:Type}(P:V->α->Prop)(ys:List V)(xs:List α):Prop:=ys.length=xs.length/\∀(j:Nat) y x,ys[j]?=some y->xs[j]?=some x->P y x
theorem wD.nil{α:Type}{P:V->α->Prop}:wD P [] []:=⟨rfl,λj y x h=>by simp at h⟩
theorem wD.snoc{α:Type}{P:V->α->Prop}{ys:List V}{xs:List α}{y:V}{x:α}(h:wD P ys xs)(hy:P y x):wD P (ys++[y]) (xs++[x]):=by
 refine⟨by simp[h.1],λj z u hz hu=>?_⟩
 by_cases hj:j < ys.length
 ·rw[List.getElem?_append_left hj]at hz
  rw[List.getElem?_append_left (by rw[← h.1];exact hj)]at hu
  exact h.2 j z u hz hu
 ·have hl:j=ys.length:=by
   have:=(bN hz).1
   simp at this
   omega
  subst hl
  rw[List.getElem?_append_right (Nat.le_refl _),Nat.sub_self]at hz
  rw[h.1,List.getElem?_append_right (Nat.le_refl _),Nat.sub_self]at hu
  cases hz
  cases hu
  exact hy
theorem O6{α:Type}{l:List α}(h:0 < l.length):∃lo x,l=lo++[x]:=by
 rcases List.eq_nil_or_concat l with rfl | ⟨lo,x,rfl⟩
 ·simp at h
 ·exact⟨lo,x,by simp⟩
theorem Hz{α:Type}{l:List α}(h:1 < l.length):∃lo x y,l=lo++[x,y]:=by
 obtain⟨lo,y,rfl⟩:=O6 (Nat.lt_trans Nat.zero_lt_one h)
 obtain⟨lo,x,rfl⟩:=O6 (l:=lo) (by simp at h;omega)
 exact⟨lo,x,y,by simp⟩
theorem wD.imp{α:Type}{P P':V->α->Prop}{ys:List V}{xs:List α}(h:wD P ys xs)(f:∀y x,P y x->P' y x):wD P' ys xs:=⟨h.1,λj y x h1 h2=>f y x (h.2 j y x h1 h2)⟩
theorem wD.at{α:Type}{P:V->α->Prop}{ys:List V}{xs:List α}(h:wD P ys xs){i:Nat}{x:α}(hx:xs[i]?=some x):∃y,ys[i]?=some y/\P y x:=by
 have hi:i < ys.length:=by rw[h.1];exact(bN hx).1
 exact⟨ys[i],cV hi,h.2 i _ x (cV hi) hx⟩
theorem wD.set{α:Type}{P:V->α->Prop}{ys:List V}{xs:List α}{y:V}{x:α}(h:wD P ys xs)(hy:P y x)(i:Nat):wD P (ys.set i y) (xs.set i x):=by
 refine⟨by rw[List.length_set,List.length_set,h.1],λj z u hz hu=>?_⟩
 rw[List.getElem?_set]at hz hu
 by_cases hj:i=j
 ·subst hj
  rw[if_pos rfl]at hz hu
  split at hz
  ·split at hu
   ·cases hz;cases hu;exact hy
   ·cases hu
  ·cases hz
 ·rw[if_neg hj]at hz hu
  exact h.2 j z u hz hu
def uK(K:av)(H:Hp)(wt:Bool)(v:V)(r:Rk):Prop:=∃(t ft:Addr) (ys:List V),v=.ref t/\ba K H t (if wt=true then [.int (r.c:Int),.bl r.begun,.int (r.mask:Int),.ref ft]else [.int (r.c:Int),.ref ft])/\ba K H ft ys/\fA K H wt ys r.fs
theorem uK.same{K:av}{H H':Hp}{wt:Bool}{v:V}{r:Rk}(e:aB H H')(h:uK K H wt v r):uK K H' wt v r:=by
 obtain⟨t,ft,ys,h1,h2,h3,h4⟩:=h
 exact⟨t,ft,ys,h1,e.tup h2,e.tup h3,h4.same e⟩
theorem uK.keep{K:av}{H H':Hp}{F:List Addr}{wt:Bool}{v:V}{r:Rk}(k:ay F H H')(m:aU H F)(h:uK K H wt v r):uK K H' wt v r:=by
 obtain⟨t,ft,ys,h1,h2,h3,h4⟩:=h
 exact⟨t,ft,ys,h1,ba.keep k m h2,ba.keep k m h3,h4.keep k m⟩
def vD(K:av)(H:Hp)(wt:Bool)(l:Addr)(rs:List Rk):Prop:=∃ys,H l=some (.lst ys)/\wD (uK K H wt) ys rs
theorem vD.same{K:av}{H H':Hp}{wt:Bool}{l:Addr}{rs:List Rk}(e:aB H H')(h:vD K H wt l rs):vD K H' wt l rs:=by
 obtain⟨ys,h1,h2⟩:=h
 exact⟨ys,e _ _ h1,h2.imp λy x h=>h.same e⟩
theorem vD.keep{K:av}{H H':Hp}{F:List Addr}{wt:Bool}{l:Addr}{rs:List Rk}(k:ay F H H')(m:aU H F)(n:l∉F)(h:vD K H wt l rs):vD K H' wt l rs:=by
 obtain⟨ys,h1,h2⟩:=h
 exact⟨ys,k _ _ n h1,h2.imp λy x h=>h.keep k m⟩
structure Fm where
 fa:Addr
 bl:Addr
 sl:Addr
 part:Nat
 at':Nat
 bx:List Vl
 st:List Vl
def se(part at':Int)(bl sl:Addr):List (Str×V):=[("part",.int part),("at",.int at'),("boxes",.ref bl),("stack",.ref sl)]
structure fN(K:av)(H:Hp)(CF:Addr)(wt:Bool)(f:Fm):Prop where
 ob:∃dx,H f.fa=some (.ins CF dx (se f.part f.at' f.bl f.sl))
 bo:∃ys,H f.bl=some (.lst ys)/\fA K H wt ys f.bx
 sk:∃ys,H f.sl=some (.lst ys)/\fA K H wt ys f.st
 ne:f.bl≠f.sl
def dF(f:Fm):List Addr:=[f.fa,f.bl,f.sl]
theorem fN.jV{K:av}{H:Hp}{CF:Addr}{wt:Bool}{f:Fm}(h:fN K H CF wt f):aU H (dF f):=by
 intro c hc
 simp only[dF,List.mem_cons,List.not_mem_nil,or_false]at hc
 rcases hc with rfl | rfl | rfl
 ·obtain⟨dx,e⟩:=h.ob
  exact⟨_,e,.inr ⟨_,_,_,rfl⟩⟩
 ·obtain⟨ys,e,_⟩:=h.bo
  exact⟨_,e,.inl ⟨_,rfl⟩⟩
 ·obtain⟨ys,e,_⟩:=h.sk
  exact⟨_,e,.inl ⟨_,rfl⟩⟩
theorem fN.same{K:av}{H H':Hp}{CF:Addr}{wt:Bool}{f:Fm}(e:aB H H')(h:fN K H CF wt f):fN K H' CF wt f:=by
 obtain⟨⟨dx,h1⟩,⟨ys,h2,h3⟩,⟨zs,h4,h5⟩,ne⟩:=h
 exact⟨⟨dx,e _ _ h1⟩,⟨ys,e _ _ h2,h3.same e⟩,⟨zs,e _ _ h4,h5.same e⟩,ne⟩
theorem KD{f:Str}{v:V}{r:List (Str×V)}:List.lookup f ((f,v)::r)=some v:=by simp
theorem sf{f g:Str}{v:V}{r:List (Str×V)}(h:¬ g=f):List.lookup g ((f,v)::r)=List.lookup g r:=by
 have hb:(g == f)=false:=by simpa using h
 simp[List.lookup,hb]
theorem Vn{f:Str}{v w:V}{r:List (Str×V)}:br f w ((f,v)::r)=(f,w)::r:=by
 show(if f=f then _ else _)=_
 rw[if_pos rfl]
theorem n5{f g:Str}{v w:V}{r:List (Str×V)}(h:¬ f=g):br g w ((f,v)::r)=(f,v)::br g w r:=by
 show(if f=g then _ else _)=_
 rw[if_neg h]
theorem qD{p a:Int}{b s:Addr}:(se p a b s).lookup ("part" : Str)=some (.int p):=KD
theorem qE{p a:Int}{b s:Addr}:(se p a b s).lookup ("at" : Str)=some (.int a):=by
 unfold se;rw[sf (by decide +kernel),KD]
theorem Ap{p a:Int}{b s:Addr}:(se p a b s).lookup ("boxes" : Str)=some (.ref b):=by
 unfold se;rw[sf (by decide +kernel),sf (by decide +kernel),KD]
theorem du{p a:Int}{b s:Addr}:(se p a b s).lookup ("stack" : Str)=some (.ref s):=by
 unfold se;rw[sf (by decide +kernel),sf (by decide +kernel),sf (by decide +kernel),KD]
theorem iI{p a a':Int}{b s:Addr}:br "at" (.int a') (se p a b s)=se p a' b s:=by
 unfold se;rw[n5 (by decide +kernel),Vn]
theorem HA{p a:Int}{b s s':Addr}:br "stack" (.ref s') (se p a b s)=se p a b s':=by
 unfold se;rw[n5 (by decide +kernel),n5 (by decide +kernel),n5 (by decide +kernel),Vn]
theorem QI{p a:Int}{b s:Addr}:br "stack" (.ref s) (br "boxes" (.ref b) (br "at" (.int a) (br "part" (.int p) [])))=se p a b s:=by
 have e1:br "part" (.int p) []=([("part",.int p)]:List (Str×V)):=rfl
 have e2:br "at" (.int a) ([("part",.int p)]:List (Str×V))=([("part",.int p),("at",.int a)]:List (Str×V)):=by rw[n5 (by decide +kernel)];rfl
 have e3:br "boxes" (.ref b) ([("part",.int p),("at",.int a)]:List (Str×V))=([("part",.int p),("at",.int a),("boxes",.ref b)]:List (Str×V)):=by rw[n5 (by decide +kernel),n5 (by decide +kernel)];rfl
 rw[e1,e2,e3,n5 (by decide +kernel),n5 (by decide +kernel),n5 (by decide +kernel)]
 rfl
theorem fN.keep{K:av}{H H':Hp}{CF:Addr}{wt:Bool}{f:Fm}{F:List Addr}(k:ay F H H')(m:aU H F)(d:∀c∈dF f,c∉F)(h:fN K H CF wt f):fN K H' CF wt f:=by
 obtain⟨⟨dx,h1⟩,⟨ys,h2,h3⟩,⟨zs,h4,h5⟩,ne⟩:=h
 exact⟨⟨dx,k _ _ (d _ (by simp[dF])) h1⟩,⟨ys,k _ _ (d _ (by simp[dF])) h2,h3.keep k m⟩,⟨zs,k _ _ (d _ (by simp[dF])) h4,h5.keep k m⟩,ne⟩
def Z9:Str ⊕ Int->V
 | .inl s=>.str s
 | .inr i=>.int i
def Wu:Str ⊕ Int->PyData
 | .inl s=>.str s
 | .inr i=>.int i
def HB(l:List (Str ⊕ Int)):PyData:=if l=[]then .none else .tuple (l.map Wu)
def jw(K:av)(H:Hp)(ev:V)(l:List (Str ⊕ Int)):Prop:=(l=[]/\ev=.non)∨(l≠[]/\∃t,ev=.ref t/\ba K H t (l.map Z9))
theorem jw.same{K:av}{H H':Hp}{ev:V}{l:List (Str ⊕ Int)}(e:aB H H')(h:jw K H ev l):jw K H' ev l:=by
 rcases h with h | ⟨n,t,h1,h2⟩
 ·exact .inl h
 ·exact .inr ⟨n,t,h1,e.tup h2⟩
theorem jw.keep{K:av}{H H':Hp}{F:List Addr}{ev:V}{l:List (Str ⊕ Int)}(k:ay F H H')(m:aU H F)(h:jw K H ev l):jw K H' ev l:=by
 rcases h with h | ⟨n,t,h1,h2⟩
 ·exact .inl h
 ·exact .inr ⟨n,t,h1,ba.keep k m h2⟩
theorem Ck{K:av}{H:Hp}:∀l:List (Str ⊕ Int),aF K H (l.map Z9) (l.map Wu)
 | []=>.nil
 | .inl s::r=>.cons (.str s) (Ck r)
 | .inr i::r=>.cons (.int i) (Ck r)
structure Mc where
 ma:Addr
 b:Addr
 lv:Addr
 rc:Addr
 sd:Addr
 ms:bY
 ps:List Pt
 aV:List Fm
 recs:List Rk
 said:List Int
 left:Int
 fin:List (Str ⊕ Int)
def foot(m:Mc):List Addr:=m.ma::m.lv::m.rc::m.sd::m.aV.flatMap dF
def px(b lv rc sd:Addr)(left:Int)(ev:V):List (Str×V):=[("book",.ref b),("live",.ref lv),("records",.ref rc),("said",.ref sd),("left",.int left),("end",ev)]
theorem aU.sub{H:Hp}{F G:List Addr}(h:aU H F)(s:∀c∈G,c∈F):aU H G:=λc hc=>h c (s c hc)
theorem ay.sub{F G:List Addr}{H H':Hp}(k:ay F H H')(s:∀c∈F,c∈G):ay G H H':=λc o n e=>k c o (λz=>n (s c z)) e
theorem ay.trans{F:List Addr}{H H1 H2:Hp}(k:ay F H H1)(k':ay F H1 H2):ay F H H2:=λc o n e=>k' c o n (k c o n e)
def QJ(K:av)(F:List Addr)(H:Hp)(b:Addr)(ms:bY)(ps:List Pt):Prop:=∃(mk pl:Addr) (xs:List V),∀HX,ay F H HX->ba K HX b [.ref mk,.ref pl]/\cC K HX mk ms/\bc K HX pl xs/\aF K HX xs (ps.map BB)
theorem QJ.to{K:av}{F G:List Addr}{H H':Hp}{b:Addr}{ms:bY}{ps:List Pt}(h:QJ K F H b ms ps)(k:ay F H H')(s:∀c∈G,c∈F):QJ K G H' b ms ps:=by
 obtain⟨mk,pl,xs,h⟩:=h
 exact⟨mk,pl,xs,λHX kx=>h HX (ay.trans k (ay.sub kx s))⟩
structure bG(K:av)(H:Hp)(CF C:Addr)(wt:Bool)(m:Mc):Prop where
 ob:∃dx ev,H m.ma=some (.ins C dx (px m.b m.lv m.rc m.sd m.left ev))/\jw K H ev m.fin
 bk:QJ K (foot m) H m.b m.ms m.ps
 lv:H m.lv=some (.lst (m.aV.map λf=>.ref f.fa))
 rc:vD K H wt m.rc m.recs
 sd:H m.sd=some (.lst (m.said.map V.int))
 fr:∀f∈m.aV,fN K H CF wt f
 nd:(foot m).Nodup
theorem gX{b lv rc sd:Addr}{l:Int}{e:V}:(px b lv rc sd l e).lookup ("book" : Str)=some (.ref b):=KD
theorem iU{b lv rc sd:Addr}{l:Int}{e:V}:(px b lv rc sd l e).lookup ("live" : Str)=some (.ref lv):=by
 unfold px;rw[sf (by decide +kernel),KD]
theorem eh{b lv rc sd:Addr}{l:Int}{e:V}:(px b lv rc sd l e).lookup ("records" : Str)=some (.ref rc):=by
 unfold px;rw[sf (by decide +kernel),sf (by decide +kernel),KD]
theorem DH{b lv rc sd:Addr}{l:Int}{e:V}:(px b lv rc sd l e).lookup ("said" : Str)=some (.ref sd):=by
 unfold px;rw[sf (by decide +kernel),sf (by decide +kernel),sf (by decide +kernel),KD]
theorem yW{b lv rc sd:Addr}{l:Int}{e:V}:(px b lv rc sd l e).lookup ("left" : Str)=some (.int l):=by
 unfold px;rw[sf (by decide +kernel),sf (by decide +kernel),sf (by decide +kernel),sf (by decide +kernel),KD]
theorem HC{b lv rc sd:Addr}{l:Int}{e:V}:(px b lv rc sd l e).lookup ("end" : Str)=some e:=by
 unfold px;rw[sf (by decide +kernel),sf (by decide +kernel),sf (by decide +kernel),sf (by decide +kernel),sf (by decide +kernel),KD]
theorem n9{b lv rc sd:Addr}{l:Int}{e e':V}:br "end" e' (px b lv rc sd l e)=px b lv rc sd l e':=by
 unfold px;rw[n5 (by decide +kernel),n5 (by decide +kernel),n5 (by decide +kernel),n5 (by decide +kernel),n5 (by decide +kernel),Vn]
theorem Cm{b lv rc sd:Addr}{l l':Int}{e:V}:br "left" (.int l') (px b lv rc sd l e)=px b lv rc sd l' e:=by
 unfold px;rw[n5 (by decide +kernel),n5 (by decide +kernel),n5 (by decide +kernel),n5 (by decide +kernel),Vn]
theorem mc_no{b lv rc sd:Addr}{l:Int}{e:V}{m:Str}(h:¬ m∈(["book","live","records","said","left","end"]:List Str)):(px b lv rc sd l e).lookup m=none:=by
 simp only[List.mem_cons,List.not_mem_nil,or_false,not_or]at h
 unfold px
 rw[sf h.1,sf h.2.1,sf h.2.2.1,sf h.2.2.2.1,sf h.2.2.2.2.1,sf h.2.2.2.2.2]
 rfl
theorem bG.jV{K:av}{H:Hp}{CF C:Addr}{wt:Bool}{m:Mc}(h:bG K H CF C wt m):aU H (foot m):=by
 intro c hc
 simp only[foot,List.mem_cons,List.mem_flatMap]at hc
 rcases hc with rfl | rfl | rfl | rfl | ⟨f,hf,hc⟩
 ·obtain⟨dx,ev,e,_⟩:=h.ob
  exact⟨_,e,.inr ⟨_,_,_,rfl⟩⟩
 ·exact⟨_,h.lv,.inl ⟨_,rfl⟩⟩
 ·obtain⟨ys,e,_⟩:=h.rc
  exact⟨_,e,.inl ⟨_,rfl⟩⟩
 ·exact⟨_,h.sd,.inl ⟨_,rfl⟩⟩
 ·exact(h.fr f hf).jV c hc
theorem aI{H:Hp}{a:Addr}{o:HO}:ay [a] H (upd H a o):=λc p n e=>by
 rw[uN (λz=>n (by rw[z];exact List.mem_singleton.mpr rfl))]
 exact e
theorem cg{F:List Addr}{H H':Hp}(s:aB H H'):ay F H H':=λc o _ e=>s c o e
theorem bG.same{K:av}{H H':Hp}{CF C:Addr}{wt:Bool}{m:Mc}(e:aB H H')(h:bG K H CF C wt m):bG K H' CF C wt m:=by
 obtain⟨⟨dx,ev,h1,h2⟩,bk,lv,rc,sd,fr,nd⟩:=h
 exact⟨⟨dx,ev,e _ _ h1,h2.same e⟩,bk.to (cg e) (λc hc=>hc),e _ _ lv,rc.same e,e _ _ sd,λf hf=>(fr f hf).same e,nd⟩
theorem bG.own{K:av}{H H':Hp}{CF C dx:Addr}{wt:Bool}{m:Mc}{l:Int}{ev:V}{fin:List (Str ⊕ Int)}(h:bG K H CF C wt m)(k:ay [m.ma] H H')(e:H' m.ma=some (.ins C dx (px m.b m.lv m.rc m.sd l ev)))(he:jw K H' ev fin):bG K H' CF C wt {m with left:=l,fin:=fin}:=by
 have nd:=h.nd
 simp only[foot,List.nodup_cons,List.mem_cons,not_or]at nd
 have sub:∀c∈[m.ma],c∈foot m:=λc hc=>by rw[bJ hc];exact List.mem_cons_self
 have mu:=h.jV.sub sub
 refine⟨⟨dx,ev,e,he⟩,h.bk.to (k.sub sub) (λc hc=>hc),k _ _ ?_ h.lv,h.rc.keep k mu ?_,k _ _ ?_ h.sd,λf hf=>(h.fr f hf).keep k mu ?_,h.nd⟩
 ·exact λz=>nd.1.1 (bJ z).symm
 ·exact λz=>nd.1.2.1 (bJ z).symm
 ·exact λz=>nd.1.2.2.1 (bJ z).symm
 ·intro c hc z
  rw[bJ z]at hc
  exact nd.1.2.2.2 (List.mem_flatMap.mpr ⟨f,hf,hc⟩)
theorem bG.says{K:av}{H H':Hp}{CF C:Addr}{wt:Bool}{m:Mc}{sd:List Int}(h:bG K H CF C wt m)(k:ay [m.sd] H H')(e:H' m.sd=some (.lst (sd.map V.int))):bG K H' CF C wt {m with said:=sd}:=by
 have nd:=h.nd
 simp only[foot,List.nodup_cons,List.mem_cons,not_or]at nd
 have sub:∀c∈[m.sd],c∈foot m:=λc hc=>by rw[bJ hc];simp[foot]
 have mu:=h.jV.sub sub
 obtain⟨dx,ev,h1,h2⟩:=h.ob
 refine⟨⟨dx,ev,k _ _ ?_ h1,h2.keep k mu⟩,h.bk.to (k.sub sub) (λc hc=>hc),k _ _ ?_ h.lv,h.rc.keep k mu ?_,e,λf hf=>(h.fr f hf).keep k mu ?_,h.nd⟩
 ·exact λz=>nd.1.2.2.1 (bJ z)
 ·exact λz=>nd.2.1.2.1 (bJ z)
 ·exact λz=>nd.2.2.1.1 (bJ z)
 ·intro c hc z
  rw[bJ z]at hc
  exact nd.2.2.2.1 (List.mem_flatMap.mpr ⟨f,hf,hc⟩)
theorem cE{m:Mc}{fs:List Fm}{f:Fm}(hf:m.aV=fs++[f]):foot m=m.ma::m.lv::m.rc::m.sd::(fs.flatMap dF++dF f):=by
 unfold foot;rw[hf];simp
theorem bG.top{K:av}{H H':Hp}{CF C:Addr}{wt:Bool}{m:Mc}{fs:List Fm}{f f':Fm}(h:bG K H CF C wt m)(hf:m.aV=fs++[f])(a1:f'.fa=f.fa)(a2:f'.bl=f.bl)(a3:f'.sl=f.sl)(k:ay (dF f) H H')(hF:fN K H' CF wt f'):bG K H' CF C wt {m with aV:=fs++[f']}:=by
 have nd:=h.nd
 rw[cE hf]at nd
 have ef:foot {m with aV:=fs++[f']}=foot m:=by
  rw[cE (m:={m with aV:=fs++[f']}) rfl,cE hf]
  show m.ma::m.lv::m.rc::m.sd::(fs.flatMap dF++dF f')=_
  unfold dF
  rw[a1,a2,a3]
 have sub:∀c∈dF f,c∈foot m:=λc hc=>by rw[cE hf];simp[hc]
 have mu:=h.jV.sub sub
 simp only[List.nodup_cons,List.mem_cons,List.mem_append,not_or]at nd
 obtain⟨dx,ev,h1,h2⟩:=h.ob
 refine⟨⟨dx,ev,k _ _ (λz=>nd.1.2.2.2.2 z) h1,h2.keep k mu⟩,h.bk.to (k.sub sub) (λc hc=>by rw[← ef];exact hc),k _ _ (λz=>nd.2.1.2.2.2 z) ?_,h.rc.keep k mu (λz=>nd.2.2.1.2.2 z),k _ _ (λz=>nd.2.2.2.1.2 z) h.sd,λg hg=>?_,by rw[ef];exact h.nd⟩
 ·have:=h.lv
  rw[hf]at this
  show H m.lv=some (.lst ((fs++[f']).map λf=>.ref f.fa))
  rw[this,List.map_append,List.map_append]
  simp[a1]
 ·rcases List.mem_append.mp hg with z | z
  ·refine(h.fr g (by rw[hf];exact List.mem_append_left _ z)).keep k mu (λc hc hz=>?_)
   have nn:=nd.2.2.2.2
   rw[List.nodup_append]at nn
   exact nn.2.2 c (List.mem_flatMap.mpr ⟨g,z,hc⟩) c hz rfl
  ·rw[bJ z]
   exact hF
theorem fN.fs{K:av}{H:Hp}{CF:Addr}{wt:Bool}{f:Fm}(h:fN K H CF wt f):f.fa≠f.bl/\f.fa≠f.sl:=by
 obtain⟨⟨dx,h1⟩,⟨ys,h2,_⟩,⟨zs,h4,_⟩,_⟩:=h
 exact⟨FU h1 h2 (by intro z;cases z),FU h1 h4 (by intro z;cases z)⟩
theorem fN.fC{K:av}{H H1:Hp}{CF:Addr}{wt:Bool}{f:Fm}{ys:List V}{st:List Vl}(h:fN K H CF wt f)(s:aB H H1)(hy:fA K H1 wt ys st):fN K (upd H1 f.sl (.lst ys)) CF wt {f with st:=st}/\ay (dF f) H (upd H1 f.sl (.lst ys)):=by
 obtain⟨n1,n2⟩:=h.fs
 have h1:=h.same s
 have kx:ay [f.sl] H1 (upd H1 f.sl (.lst ys)):=aI
 have mu:aU H1 [f.sl]:=h1.jV.sub (λc hc=>by rw[bJ hc];simp[dF])
 obtain⟨⟨dx,e1⟩,⟨bs,e2,e3⟩,⟨zs,e4,e5⟩,ne⟩:=h1
 refine⟨⟨⟨dx,(uN n2).trans e1⟩,⟨bs,(uN ne).trans e2,e3.keep kx mu⟩,⟨ys,uS,hy.keep kx mu⟩,ne⟩,λc o hc e=>?_⟩
 rw[uN (λz=>hc (by rw[z];simp[dF]))]
 exact s c o e
theorem fN.Ue{K:av}{H H1:Hp}{CF:Addr}{wt:Bool}{f:Fm}{ys:List V}{bx:List Vl}(h:fN K H CF wt f)(s:aB H H1)(hy:fA K H1 wt ys bx):fN K (upd H1 f.bl (.lst ys)) CF wt {f with bx:=bx}/\ay (dF f) H (upd H1 f.bl (.lst ys)):=by
 obtain⟨n1,n2⟩:=h.fs
 have h1:=h.same s
 have kx:ay [f.bl] H1 (upd H1 f.bl (.lst ys)):=aI
 have mu:aU H1 [f.bl]:=h1.jV.sub (λc hc=>by rw[bJ hc];simp[dF])
 obtain⟨⟨dx,e1⟩,⟨bs,e2,e3⟩,⟨zs,e4,e5⟩,ne⟩:=h1
 refine⟨⟨⟨dx,(uN n1).trans e1⟩,⟨ys,uS,hy.keep kx mu⟩,⟨zs,(uN ne.symm).trans e4,e5.keep kx mu⟩,ne⟩,λc o hc e=>?_⟩
 rw[uN (λz=>hc (by rw[z];simp[dF]))]
 exact s c o e
theorem fN.setAt{K:av}{H:Hp}{CF dx:Addr}{wt:Bool}{f:Fm}{a:Nat}(h:fN K H CF wt f):fN K (upd H f.fa (.ins CF dx (se f.part a f.bl f.sl))) CF wt {f with at':=a}/\ay (dF f) H (upd H f.fa (.ins CF dx (se f.part a f.bl f.sl))):=by
 obtain⟨n1,n2⟩:=h.fs
 have kx:ay [f.fa] H (upd H f.fa (.ins CF dx (se f.part a f.bl f.sl))):=aI
 have mu:aU H [f.fa]:=h.jV.sub (λc hc=>by rw[bJ hc];simp[dF])
 obtain⟨⟨dx',e1⟩,⟨bs,e2,e3⟩,⟨zs,e4,e5⟩,ne⟩:=h
 refine⟨⟨⟨dx,uS⟩,⟨bs,(uN n1.symm).trans e2,e3.keep kx mu⟩,⟨zs,(uN n2.symm).trans e4,e5.keep kx mu⟩,ne⟩,λc o hc e=>?_⟩
 rw[uN (λz=>hc (by rw[z];simp[dF]))]
 exact e
theorem bG.last{K:av}{H:Hp}{CF C:Addr}{wt:Bool}{m:Mc}{fs:List Fm}{f:Fm}(h:bG K H CF C wt m)(hf:m.aV=fs++[f]):fN K H CF wt f:=h.fr f (by rw[hf];simp)
theorem e7{m:Mc}{fs:List Fm}{f:Fm}(hf:m.aV=fs++[f]):∀c∈dF f,c∈foot m:=λc hc=>by rw[cE hf];simp[hc]
theorem cQ{m:Mc}{fs:List Fm}{f f':Fm}(hf:m.aV=fs++[f])(a1:f'.fa=f.fa)(a2:f'.bl=f.bl)(a3:f'.sl=f.sl):foot {m with aV:=fs++[f']}=foot m:=by
 rw[cE (m:={m with aV:=fs++[f']}) rfl,cE hf]
 show m.ma::m.lv::m.rc::m.sd::(fs.flatMap dF++dF f')=_
 unfold dF
 rw[a1,a2,a3]
structure PF where
 part:Nat
 at':Nat
 bx:List Vl
 st:List Vl
def Fm.pf(f:Fm):PF:=⟨f.part,f.at',f.bx,f.st⟩
structure PM where
 ms:bY
 ps:List Pt
 aV:List PF
 recs:List Rk
 said:List Int
 left:Int
 fin:List (Str ⊕ Int)
def Mc.pm(m:Mc):PM:=⟨m.ms,m.ps,m.aV.map Fm.pf,m.recs,m.said,m.left,m.fin⟩
inductive zQ:Rw->PF->List Int->PF->List Int->Prop
 | push {w:Int} {f:PF} {sd:List Int}:zQ (.push w) f sd {f with st:=f.st++[.num w]} sd
 | load {b:Nat} {f:PF} {sd:List Int} {x:Vl}:f.bx[b]?=some x->zQ (.load b) f sd {f with st:=f.st++[x]} sd
 | store {b:Nat} {f:PF} {sd:List Int} {st:List Vl} {x:Vl}:f.st=st++[x]->b < f.bx.length->zQ (.store b) f sd {f with bx:=f.bx.set b x,st:=st} sd
 | dup {f:PF} {sd:List Int} {st:List Vl} {x:Vl}:f.st=st++[x]->zQ (.bare "dup") f sd {f with st:=f.st++[x]} sd
 | swap {f:PF} {sd:List Int} {st:List Vl} {x y:Vl}:f.st=st++[x,y]->zQ (.bare "swap") f sd {f with st:=st++[y,x]} sd
 | drop {f:PF} {sd:List Int} {st:List Vl} {x:Vl}:f.st=st++[x]->zQ (.bare "drop") f sd {f with st:=st} sd
 | say {f:PF} {sd:List Int} {st:List Vl} {x:Vl}:f.st=st++[x]->x≠.none->zQ (.bare "say") f sd {f with st:=st} (sd++[eZ x])
theorem ej{α:Type}{l:List α}{x:α}:(l++[x])[(l++[x]).length - 1]?=some x:=by simp
theorem fA.lastOf{K:av}{H:Hp}{wt:Bool}{ys:List V}{st:List Vl}{x:Vl}(h:fA K H wt ys (st++[x])):∃zs y,ys=zs++[y]/\fA K H wt zs st/\uJ K H wt y x:=by
 have hl:=h.1
 rw[List.length_append,List.length_singleton]at hl
 obtain⟨y,hy,hv⟩:=h.at (i:=st.length) (x:=x) (by simp)
 refine⟨ys.take st.length,y,?_,?_,hv⟩
 ·have e:=List.take_append_drop st.length ys
  have d:ys.drop st.length=[y]:=by
   rw[List.drop_eq_getElem?_toList_append,hy,List.drop_of_length_le (by omega)]
   rfl
  rw[d]at e
  exact e.symm
 ·have:=h.take st.length
  rw[List.take_left' rfl]at this
  exact this
theorem cj{l:List V}{y:V}:rO (l++[y]) (-1)=some y:=by
 unfold rO Fw
 rw[if_neg (by omega),if_pos (by simp;omega)]
 have:((-1:Int) + (((l++[y]).length:Nat):Int)).toNat=l.length:=by simp;omega
 show((l++[y])[((-1:Int) + (((l++[y]).length:Nat):Int)).toNat]?)=some y
 rw[this]
 simp
theorem qF{H H':Hp}{a:Addr}(s:aB H H')(hn:H a=none)(o:HO):aB H (upd H' a o):=λc p e=>by
 rw[uN (nN e hn)]
 exact s c p e
theorem fN.putSt{K:av}{H H':Hp}{CF:Addr}{wt:Bool}{f:Fm}{ys:List V}{st:List Vl}(h:fN K H CF wt f)(k:ay [f.sl] H H')(e:H' f.sl=some (.lst ys))(hy:fA K H' wt ys st):fN K H' CF wt {f with st:=st}/\ay (dF f) H H':=by
 obtain⟨n1,n2⟩:=h.fs
 have mu:aU H [f.sl]:=h.jV.sub (λc hc=>by rw[bJ hc];simp[dF])
 obtain⟨⟨dx,e1⟩,⟨bs,e2,e3⟩,⟨zs,e4,e5⟩,ne⟩:=h
 exact⟨⟨⟨dx,k _ _ (λz=>n2 (bJ z)) e1⟩,⟨bs,k _ _ (λz=>ne (bJ z)) e2,e3.keep k mu⟩,⟨ys,e,hy⟩,ne⟩,k.sub (λc hc=>by rw[bJ hc];simp[dF])⟩
theorem fA.Hz{K:av}{H:Hp}{wt:Bool}{ys:List V}{st:List Vl}{x y:Vl}(h:fA K H wt ys (st++[x,y])):∃zs a b,ys=zs++[a,b]/\fA K H wt zs st/\uJ K H wt a x/\uJ K H wt b y:=by
 have e:st++[x,y]=(st++[x])++[y]:=by simp
 rw[e]at h
 obtain⟨zs,b,rfl,hz,hb⟩:=h.lastOf
 obtain⟨zs,a,rfl,hz,ha⟩:=hz.lastOf
 exact⟨zs,a,b,by simp,hz,ha,hb⟩
theorem Vo{α:Type}{zs:List α}{a b:α}:(zs++[a,b]).drop ((zs++[a,b]).length - 2)=[a,b]/\(zs++[a,b]).take ((zs++[a,b]).length - 2)=zs:=by
 have e:(zs++[a,b]).length - 2=zs.length:=by simp
 rw[e]
 exact⟨List.drop_left' rfl,List.take_left' rfl⟩
abbrev Sk:=List (Int×Int×Int)
def Sl(K:av)(H:Hp)(ys:List V)(ss:Sk):Prop:=ys.length=ss.length/\∀(j:Nat) y x,ys[j]?=some y->ss[j]?=some x->∃t:Addr,y=.ref t/\ba K H t [.int x.1,.int x.2.1,.int x.2.2]
theorem Sl.at{K:av}{H:Hp}{ys:List V}{ss:Sk}(h:Sl K H ys ss){i:Nat}{y:V}(hy:ys[i]?=some y):∃x,ss[i]?=some x/\∃t:Addr,y=.ref t/\ba K H t [.int x.1,.int x.2.1,.int x.2.2]:=by
 have hi:i < ss.length:=by rw[← h.1];exact(bN hy).1
 exact⟨ss[i],cV hi,h.2 i y _ hy (cV hi)⟩
def Wv:Option Int->V
 | none=>.non
 | some i=>.int i
def pA(ss:Sk)(p:Int):Option Int:=(ss.find? λx=>decide (x.1<=p)&&decide (p < x.2.1)).map (·.2.2)
theorem caught_here{ss:Sk}{p:Int}{i:Nat}{x:Int×Int×Int}(hx:ss[i]?=some x)(ha:∀j,j < i->∀y,ss[j]?=some y->¬ (y.1<=p/\p < y.2.1))(hp:x.1<=p/\p < x.2.1):pA ss p=some x.2.2:=by
 have:ss.find? (λx=>decide (x.1<=p)&&decide (p < x.2.1))=some x:=by
  rw[List.find?_eq_some_iff_getElem]
  refine⟨by simp[hp],i,(bN hx).1,(bN hx).2,λj hj=>?_⟩
  have hjl:j < ss.length:=Nat.lt_trans hj (bN hx).1
  have:=ha j hj ss[j] (cV hjl)
  simp only[Bool.not_eq_true',Bool.and_eq_false_iff,decide_eq_false_iff_not]
  by_cases z:ss[j].1<=p
  ·exact .inr λy=>this ⟨z,y⟩
  ·exact .inl z
 unfold pA
 rw[this]
 rfl
theorem Aq{ss:Sk}{p:Int}(ha:∀j,j < ss.length->∀y,ss[j]?=some y->¬ (y.1<=p/\p < y.2.1)):pA ss p=none:=by
 have:ss.find? (λx=>decide (x.1<=p)&&decide (p < x.2.1))=none:=by
  rw[List.find?_eq_none]
  intro x hx
  obtain⟨j,hj,e⟩:=List.mem_iff_getElem.mp hx
  have:=ha j hj x (by rw[cV hj,e])
  simp only[Bool.and_eq_true,decide_eq_true_eq]
  exact this
 unfold pA
 rw[this]
 rfl
def Ej(ss:List (Nat×Nat×Nat)):List (Int×Int×Int):=ss.map λx=>((x.1:Int),(x.2.1:Int),(x.2.2:Int))
theorem Sl.wM{K:av}{H:Hp}{ys:List V}{ss:List (Nat×Nat×Nat)}(h:aF K H ys (ss.map O5)):Sl K H ys (Ej ss):=by
 refine⟨by rw[h.1,List.length_map];unfold Ej;rw[List.length_map],λj y x hy hx=>?_⟩
 unfold Ej at hx
 rw[List.getElem?_map]at hx
 cases e:ss[j]? with
 | none=>rw[e]at hx;cases hx
 | some s =>
  rw[e]at hx
  cases hx
  obtain⟨t,xs,rfl,hT,hR⟩:=aS.bX (h.2 j y (O5 s) hy (by rw[List.getElem?_map,e];rfl))
  have hl:=hR.1
  match xs,hl,hT,hR with
  | [x0,x1,x2],_,hT,hR =>
   have z0:=aS.aM (hR.2 0 x0 _ rfl rfl)
   have z1:=aS.aM (hR.2 1 x1 _ rfl rfl)
   have z2:=aS.aM (hR.2 2 x2 _ rfl rfl)
   subst z0;subst z1;subst z2
   exact⟨t,rfl,hT⟩
theorem lE{p a:Int}{b s:Addr}:(se p a b s).length < 1000:=by show 4 < 1000;decide
theorem vE{b lv rc sd:Addr}{l:Int}{e:V}:(px b lv rc sd l e).length < 1000:=by show 6 < 1000;decide
theorem yX{K:av}{H:Hp}{v:V}{k:Kd}(h:aS K H v (.tuple (yS k))):Z8 K H v k:=by
 obtain⟨t,xs,rfl,hT,hR⟩:=aS.bX h
 refine⟨t,rfl,?_⟩
 have e:xs=O4 k:=by
  have hl:=hR.1
  have at':∀(i:Nat) (x:V) (d:PyData),xs[i]?=some x->(yS k)[i]?=some d->aS K H x d:=hR.2
  cases k with
  | any =>
   obtain⟨x0,rfl⟩:=Sj hl
   have z:=at' 0 x0 _ rfl rfl
   cases z
   rfl
  | num =>
   obtain⟨x0,rfl⟩:=Sj hl
   have z:=at' 0 x0 _ rfl rfl
   cases z
   rfl
  | whole c =>
   obtain⟨x0,x1,rfl⟩:=Vk hl
   have z:=at' 0 x0 _ rfl rfl
   have z1:=aS.aM (at' 1 x1 _ rfl rfl)
   cases z
   rw[z1]
   rfl
  | raw c m =>
   obtain⟨x0,x1,x2,rfl⟩:=Wn hl
   have z:=at' 0 x0 _ rfl rfl
   have z1:=aS.aM (at' 1 x1 _ rfl rfl)
   have z2:=aS.aM (at' 2 x2 _ rfl rfl)
   cases z
   rw[z1,z2]
   rfl
 rw[← e]
 exact hT
theorem MD.wM{K:av}{H:Hp}{ys:List V}{ks:List Kd}(h:aF K H ys (fM ks)):MD K H ys ks:=by
 refine⟨by rw[h.1,List.length_map],λj y k hy hk=>?_⟩
 exact yX (h.2 j y _ hy (by rw[List.getElem?_map,hk];rfl))
theorem Ar{xs:List V}{n:Nat}(h:n<=xs.length):jr xs (some (n:Int)) none=xs.drop n:=by
 unfold jr
 rw[HT.kR,HT.ql]
 have:min n xs.length=n:=by omega
 rw[this,List.take_of_length_le (by simp)]
theorem ML{K:av}{H:Hp}{ss:List Str}{xs:List V}(h:aF K H xs (ss.map PyData.str)):xs=ss.map V.str:=by
 have hl:=h.1
 rw[List.length_map]at hl
 apply List.ext_getElem?
 intro i
 by_cases hi:i < xs.length
 ·have z:=h.2 i xs[i] (.str (ss[i]'(by omega))) (cV hi) (by rw[List.getElem?_map,cV (by omega)];rfl)
  have e:xs[i]=.str (ss[i]'(by omega)):=by
   generalize xs[i]=y at z ⊢
   cases z
   rfl
  rw[cV hi,e,List.getElem?_map,cV (by omega)]
  rfl
 ·rw[List.getElem?_eq_none (by omega),List.getElem?_eq_none (by simp;omega)]
theorem sg{K:av}{d:Addr}{l:List Str}(c:∀H:Hp,aS K H (.ref d) (.tuple (l.map PyData.str)))(H:Hp):ba K H d (l.map V.str):=by
 obtain⟨a,xs,e,h1,h2⟩:=aS.bX (c H)
 cases e
 have z:=ML (ss:=l) h2
 rw[← z]
 exact h1
def FD:List Str:=["jump","zero","kin"]
def dX:List Str:=["make","fill","begin","get","put"]
def qG:List Str:=["add","sub","mul","div","rem","less","same"]
def HD(s:Str):Prop:=s="add"∨s="sub"∨s="mul"∨s="less"∨s="same"∨parts s
def iV(ss:List (Nat×Nat×Nat))(p:Nat):Option Nat:=(ss.find? λx=>decide (x.1<=p)&&decide (p < x.2.1)).map (·.2.2)
theorem vF(p:Nat):∀ss:List (Nat×Nat×Nat),pA (Ej ss) (p:Int)=(iV ss p).map λn=>(n:Int)
 | []=>rfl
 | x::r=>by
  have ih:=vF p r
  unfold pA iV at ih ⊢
  unfold Ej at ih ⊢
  rw[List.map_cons,List.find?_cons,List.find?_cons]
  have e:(decide ((x.1:Int)<=(p:Int))&&decide ((p:Int) < (x.2.1:Int)))=(decide (x.1<=p)&&decide (p < x.2.1)):=by
   rw[decide_eq_decide.mpr Int.ofNat_le,decide_eq_decide.mpr Int.ofNat_lt]
  show Option.map _ (match (decide ((x.1:Int)<=(p:Int))&&decide ((p:Int) < (x.2.1:Int)))with | true=>_ | false=>_)=_
  rw[e]
  cases (decide (x.1<=p)&&decide (p < x.2.1))with
  | true=>rfl
  | false=>exact ih
def MM(p:PM)(fs:List PF)(f:PF)(t:Nat):PM :=
 if f.at' < t then {p with aV:=fs++[{f with at':=t}]}
 else if 0 < p.left then {p with aV:=fs++[{f with at':=t}],left:=p.left - 1}
 else {p with aV:=fs++[f],fin:=[.inl "weary"]}
def jc(ps:List Pt):List PF->Option (List PF×PF×Nat)
 | []=>none
 | f::r=>match (ps[f.part]?).bind λp=>iV p.spans f.at' with
  | some t=>some (r.reverse,f,t)
  | none=>jc ps r
def lF(p:PM)(n:Int):PM:=match jc p.ps p.aV.reverse with
 | none=>{p with aV:=[],fin:=[.inl "fault",.inr n]}
 | some (fs,f,t)=>MM p fs {f with st:=[.num n]} t
def dY:List Str:=["push","load","store","dup","swap","drop","say"]
theorem zQ.sign{r:Rw}{f f':PF}{sd sd':List Int}(h:zQ r f sd f' sd'):qg r∈dY:=by
 cases h with
 | push=>exact(by decide +kernel:("push" : Str)∈dY)
 | load _=>exact(by decide +kernel:("load" : Str)∈dY)
 | store _ _=>exact(by decide +kernel:("store" : Str)∈dY)
 | dup _=>exact(by decide +kernel:("dup" : Str)∈dY)
 | swap _=>exact(by decide +kernel:("swap" : Str)∈dY)
 | drop _=>exact(by decide +kernel:("drop" : Str)∈dY)
 | say _ _=>exact(by decide +kernel:("say" : Str)∈dY)
theorem HD.mem{s:Str}(h:HD s):s∈qG:=by
 rcases h with rfl | rfl | rfl | rfl | rfl | rfl | rfl<;>decide +kernel
theorem rw_inv{K:av}{H:Hp}{v:V}{r:Rw}(h:aS K H v (wL r)):∃t,v=.ref t/\ba K H t (xJ r):=by
 obtain⟨rt,rx,rfl,hRT,hRR⟩:=aS.bX h
 have hrx:rx=xJ r:=by
  match rx,hRR with
  | [],hRR=>have:=hRR.1;simp at this
  | y::ys,hRR =>
   have z:=hRR.2 0 y _ rfl rfl
   cases z
   have el:ys=(QB r).map V.int:=by
    have hl:=hRR.1
    simp at hl
    apply List.ext_getElem?
    intro n
    by_cases hn:n < ys.length
    ·have zz:=hRR.2 (n + 1) ys[n] (.int ((QB r)[n]'(by omega))) (by rw[List.getElem?_cons_succ];exact cV hn) (by rw[List.getElem?_cons_succ,List.getElem?_map,cV (by omega)];rfl)
     rw[cV hn,aS.aM zz,List.getElem?_map,cV (by omega)]
     rfl
    ·rw[List.getElem?_eq_none (by omega),List.getElem?_eq_none (by simp;omega)]
   rw[el]
   rfl
 subst hrx
 exact⟨rt,rfl,hRT⟩
theorem big{n:Nat}(h:n<=1000000):n < sizeLine:=Nat.lt_of_le_of_lt h (by decide)
theorem Ug{H:Hp}{G:List Addr}{c:Addr}(m:aU H G)(n:H c=none):c∉G:=λz=>by
 obtain⟨o,e,_⟩:=m c z
 rw[n]at e
 cases e
theorem aU.same{H H':Hp}{F:List Addr}(m:aU H F)(s:aB H H'):aU H' F:=λc hc=>by
 obtain⟨o,e,z⟩:=m c hc
 exact⟨o,s _ _ e,z⟩
theorem bC{m:Mc}:m.ma∈foot m/\m.lv∈foot m/\m.rc∈foot m/\m.sd∈foot m:=by simp[foot]
theorem yY{m:Mc}{f:Fm}{c:Addr}(hf:f∈m.aV)(hc:c∈dF f):c∈foot m:=by
 simp only[foot,List.mem_cons,List.mem_flatMap]
 exact .inr (.inr (.inr (.inr ⟨f,hf,hc⟩)))
theorem bG.MN{K:av}{H H':Hp}{CF C:Addr}{wt:Bool}{m:Mc}{ys:List V}{rs:List Rk}(h:bG K H CF C wt m)(k:ay [m.rc] H H')(e:H' m.rc=some (.lst ys))(hr:wD (uK K H' wt) ys rs):bG K H' CF C wt {m with recs:=rs}:=by
 have nd:=h.nd
 simp only[foot,List.nodup_cons,List.mem_cons,not_or]at nd
 have sub:∀c∈[m.rc],c∈foot m:=λc hc=>by rw[bJ hc];exact bC.2.2.1
 have mu:=h.jV.sub sub
 obtain⟨dx,ev,h1,h2⟩:=h.ob
 refine⟨⟨dx,ev,k _ _ ?_ h1,h2.keep k mu⟩,h.bk.to (k.sub sub) (λc hc=>hc),k _ _ ?_ h.lv,⟨ys,e,hr⟩,k _ _ ?_ h.sd,λf hf=>(h.fr f hf).keep k mu ?_,h.nd⟩
 ·exact λz=>nd.1.2.1 (bJ z)
 ·exact λz=>nd.2.1.1 (bJ z)
 ·exact λz=>nd.2.2.1.1 (bJ z).symm
 ·intro c hc z
  rw[bJ z]at hc
  exact nd.2.2.1.2 (List.mem_flatMap.mpr ⟨f,hf,hc⟩)
theorem xK{H H':Hp}{x dx C:Addr}(nx:H x=none)(ndx:H dx=none)(ne:dx≠x)(k:ay [x] (upd (upd H dx (.own x)) x (.ins C dx [])) H'):aB H (upd (upd H dx (.own x)) x (.ins C dx []))/\aB H H':=by
 have y:aB H (upd (upd H dx (.own x)) x (.ins C dx [])):=(sN ndx _).trans (sN ((uN ne.symm).trans nx) _)
 exact⟨y,λc o e=>k c o (λz=>nN e nx (bJ z)) (y c o e)⟩
theorem Ek(m n:Nat):Builtin.bitOr (m:Int) (n:Int)=((m ||| n:Nat):Int):=by
 have b:∀k:Nat,decide (0<=Builtin.bitNot (k:Int))=false:=λk=>decide_eq_false (by unfold Builtin.bitNot;omega)
 have d:∀x:Int,Builtin.bitNot (Builtin.bitNot x)=x:=λx=>by unfold Builtin.bitNot;omega
 unfold Builtin.bitOr Builtin.bitAnd
 rw[b,b]
 show Builtin.bitNot (Builtin.bitNot (((Builtin.bitNot (Builtin.bitNot (m:Int))).toNat ||| (Builtin.bitNot (Builtin.bitNot (n:Int))).toNat:Nat):Int))=_
 rw[d,d,d,Int.toNat_natCast,Int.toNat_natCast]
inductive sZ(ms:bY)(recs:List Rk):Rw->PF->PF->Nat->Bool->Prop
 | jump {f:PF} {t:Nat}:sZ ms recs (.jump t) f f t true
 | zero {f:PF} {t:Nat} {st:List Vl} {x:Vl}:f.st=st++[x]->x≠.none->sZ ms recs (.zero t) f {f with st:=st} t (decide (eZ x=0))
 | kin {f:PF} {c t n:Nat} {st:List Vl} {r:Rk}:f.st=st++[.rcd n]->recs[n]?=some r->r.c < ms.length->sZ ms recs (.kin c t) f f t (decide (c∈bt ms r.c))
def HE(p:PM)(fs:List PF)(g:PF)(t:Nat)(b:Bool):PM:=if b=true then MM p fs g t else {p with aV:=fs++[{g with at':=g.at' + 1}]}
def xM(p:PM)(fs:List PF)(f:PF)(q:Nat)(st us:List Vl)(pq:Pt):PM :=
 if 0 < p.left then
  if fs.length + 1 < 12 then {p with left:=p.left - 1,aV:=fs++[{f with st:=st},⟨q,0,us++List.replicate (pq.boxes - us.length) .none,[]⟩]}
  else lF {p with left:=p.left - 1} 2
 else {p with fin:=[.inl "weary"]}
def As(p:PM)(fs:List PF)(x:Vl):PM:=match fs.reverse with
 | []=>{p with aV:=[],fin:=[.inl "gave",.inr (eZ x)]}
 | g::r=>{p with aV:=r.reverse++[{g with st:=g.st++[x],at':=g.at' + 1}]}
inductive zR(ms:bY):Rw->PF->List Rk->PF->List Rk->Prop
 | make {c:Nat} {f:PF} {rs:List Rk}:c < ms.length->zR ms (.make c) f rs {f with st:=f.st++[.rcd rs.length]} (rs++[⟨c,false,0,List.replicate (fields ms c).length .none⟩])
 | beg {c n:Nat} {f:PF} {rs:List Rk} {st:List Vl} {r:Rk}:f.st=st++[.rcd n]->rs[n]?=some r->zR ms (.beg c) f rs f (rs.set n {r with begun:=true})
 | get {c fl n:Nat} {f:PF} {rs:List Rk} {st:List Vl} {r:Rk} {x:Vl}:f.st=st++[.rcd n]->rs[n]?=some r->r.fs[fl]?=some x->zR ms (.get c fl) f rs {f with st:=st++[x]} rs
 | fill {c fl n:Nat} {f:PF} {rs:List Rk} {st:List Vl} {r:Rk} {x:Vl}:f.st=st++[.rcd n,x]->rs[n]?=some r->fl < r.fs.length->r.fs.length<=100->zR ms (.fill c fl) f rs {f with st:=st++[.rcd n]} (rs.set n {r with mask:=r.mask ||| 2 ^ fl,fs:=r.fs.set fl x})
 | put {c fl n:Nat} {f:PF} {rs:List Rk} {st:List Vl} {r:Rk} {x:Vl}:f.st=st++[.rcd n,x]->rs[n]?=some r->fl < r.fs.length->r.fs.length<=100->zR ms (.put c fl) f rs {f with st:=st} (rs.set n {r with mask:=r.mask ||| 2 ^ fl,fs:=r.fs.set fl x})
inductive uk(p:PM)(fs:List PF)(f:PF):Rw->PM->Prop
 | str {r:Rw} {g:PF} {sd:List Int}:zQ r f p.said g sd->uk p fs f r {p with aV:=fs++[{g with at':=g.at' + 1}],said:=sd}
 | rcd {r:Rw} {g:PF} {rs:List Rk}:zR p.ms r f p.recs g rs->uk p fs f r {p with aV:=fs++[{g with at':=g.at' + 1}],recs:=rs}
 | go {r:Rw} {g:PF} {t:Nat} {b:Bool}:sZ p.ms p.recs r f g t b->uk p fs f r (HE p fs g t b)
 | rek {s:Str} {st:List Vl} {a b:Int}:f.st=st++[.num a,.num b]->HD s->Hy a->Hy b->(parts s->b≠0)->uk p fs f (.bare s) {p with aV:=fs++[{f with st:=st++[.num (rk s a b)],at':=f.at' + 1}]}
 | call {q:Nat} {pq:Pt} {st us:List Vl}:p.ps[q]?=some pq->f.st=st++us->us.length=pq.takes.length->us.length<=pq.boxes->pq.boxes<=8->uk p fs f (.call q) (xM p fs f q st us pq)
 | give {st:List Vl} {x:Vl}:f.st=st++[x]->(fs=[]->x≠.none)->uk p fs f (.bare "give") (As p fs x)
 | toss {st:List Vl} {x:Vl}:f.st=st++[x]->x≠.none->uk p fs f (.bare "toss") (lF {p with aV:=fs++[{f with st:=st}]} (eZ x))
structure HG(p:PM):Prop where
 wf:Wf p.ms
 oC:Fy p.ms
 fr:p.aV.length<=12
 sd:p.said.length<=900000
 rl:p.recs.length<=900000
 st:∀f∈p.aV,f.st.length<=1000/\∃q,p.ps[f.part]?=some q
theorem zR.sign{ms:bY}{r:Rw}{f g:PF}{rs rs':List Rk}(h:zR ms r f rs g rs'):qg r∈dX:=by
 cases h with
 | make _=>exact(by decide +kernel:("make" : Str)∈dX)
 | beg _ _=>exact(by decide +kernel:("begin" : Str)∈dX)
 | get _ _ _=>exact(by decide +kernel:("get" : Str)∈dX)
 | fill _ _ _ _=>exact(by decide +kernel:("fill" : Str)∈dX)
 | put _ _ _ _=>exact(by decide +kernel:("put" : Str)∈dX)
theorem sZ.sign{ms:bY}{rs:List Rk}{r:Rw}{f g:PF}{t:Nat}{b:Bool}(h:sZ ms rs r f g t b):qg r∈FD:=by
 cases h with
 | jump=>exact(by decide +kernel:("jump" : Str)∈FD)
 | zero _ _=>exact(by decide +kernel:("zero" : Str)∈FD)
 | kin _ _ _=>exact(by decide +kernel:("kin" : Str)∈FD)
theorem zQ.at'{r:Rw}{f g:PF}{sd sd':List Int}(h:zQ r f sd g sd'):g.at'=f.at':=by cases h<;>rfl
theorem zR.at'{ms:bY}{r:Rw}{f g:PF}{rs rs':List Rk}(h:zR ms r f rs g rs'):g.at'=f.at':=by cases h<;>rfl
def HH(K:av)(ms:bY)(ps:List Pt)(part:Nat)(r:Rw)(ks:List Kd):Prop:=∀(H:Hp) (mk pl:Addr) (xs:List V),cC K H mk ms->bc K H pl xs->aF K H xs (ps.map BB)->vA K H mk pl part (qg r) ((QB r).map V.int) ks
def e9(ms:bY)(recs:List Rk)(h:Nat)(st:List Vl)(ks:List Kd)(sign:Str):Option Str :=
 if st.length < ks.length then some "empty"
 else if ((st.drop (st.length - ks.length)).zip ks).all (λx=>hasB ms recs x.1 x.2)=true then
  (if (h:Int) < ((st.length - ks.length:Nat):Int) + pk sign then some "high" else none)
 else some "kind"
def Uh:Option Str->V
 | none=>.non
 | some s=>.str s
structure HI(K:av)(p:PM)(f:PF)(r:Rw)(ks:List Kd):Prop where
 oC:ks.length<=1000
 rc:∀r∈p.recs,r.c < p.ms.length
 st:∀n,.rcd n∈f.st->n < p.recs.length
 ask:HH K p.ms p.ps f.part r ks
def vG(K:av)(wt:Bool)(p p':PM):Prop:=(p.fin≠[]/\p'=p)∨(p.fin=[]/\HG p/\∃(fs:List PF) (f:PF) (r:Rw) (pt:Pt) (ks:List Kd),p.aV=fs++[f]/\p.ps[f.part]?=some pt/\pt.rows[f.at']?=some r/\HI K p f r ks /\
 ((∃w,wt=true/\e9 p.ms p.recs pt.height f.st ks (qg r)=some w/\p'={p with fin:=[.inl "look",.inr f.part,.inr f.at',.inl w]})∨((wt=true->e9 p.ms p.recs pt.height f.st ks (qg r)=none)/\uk p fs f r p')))
inductive QK(K:av)(wt:Bool):Nat->PM->PM->Prop
 | done {p:PM}:p.fin≠[]->QK K wt 0 p p
 | next {n:Nat} {p p1 p2:PM}:p.fin=[]->vG K wt p p1->QK K wt n p1 p2->QK K wt (n + 1) p p2
def lG(ms:bY)(ps:List Pt)(j:Nat)(p:Pt)(ws:List Int)(bud:Int):PM:=⟨ms,ps,[⟨j,0,ws.map Vl.num++List.replicate (p.boxes - ws.length) .none,[]⟩],[],[],bud,[]⟩
def FE(ps:List Pt)(f:PF):Option Nat:=(ps[f.part]?).bind λp=>iV p.spans f.at'
theorem xN{ps:List Pt}:∀l:List PF,(∀f∈l,FE ps f=none)->jc ps l=none
 | [],_=>rfl
 | f::r,h=>by
  unfold jc
  have e:=h f List.mem_cons_self
  unfold FE at e
  rw[e]
  exact xN r λg hg=>h g (List.mem_cons_of_mem _ hg)
theorem xO{ps:List Pt}{f:PF}{t:Nat}(hf:FE ps f=some t)(fs:List PF):∀l:List PF,(∀g∈l,FE ps g=none)->jc ps (l++f::fs)=some (fs.reverse,f,t)
 | [],_=>by
  unfold FE at hf
  show(match (ps[f.part]?).bind λp=>iV p.spans f.at' with | some t=>some (fs.reverse,f,t) | none=>jc ps fs)=_
  rw[hf]
 | g::r,h=>by
  have e:=h g List.mem_cons_self
  unfold FE at e
  show(match (ps[g.part]?).bind λp=>iV p.spans g.at' with | some t=>some ((r++f::fs).reverse,g,t) | none=>jc ps (r++f::fs))=_
  rw[e]
  exact xO hf fs r λg hg=>h g (List.mem_cons_of_mem _ hg)
def TK(K:av)(H H':Hp):Prop:=∀t xs,ba K H t xs->ba K H' t xs
theorem Ui{K:av}{P P':Addr->Prop}{H H':Hp}(hP:∀c,P c->∃o,H c=some o/\oS o)(s:aB (cutH P H) (cutH P' H')):TK K H H':=λt xs h=>by
 have n:∀o,H t=some o->¬ oS o->¬ P t:=λo e m z=>by
  obtain⟨o',e',m'⟩:=hP t z
  rw[e]at e'
  cases e'
  exact m m'
 rcases h with(h | ⟨o,h⟩) | h
 ·exact .inl (.inl (aX.mp (s t _ (aX.mpr ⟨n _ h (λm=>by rcases m with⟨ys,m⟩ | ⟨C,dx,fs,m⟩<;>cases m),h⟩))).2)
 ·exact .inl (.inr ⟨o,(aX.mp (s t _ (aX.mpr ⟨n _ h (λm=>by rcases m with⟨ys,m⟩ | ⟨C,dx,fs,m⟩<;>cases m),h⟩))).2⟩)
 ·exact .inr h
theorem Uj{K:av}{H H':Hp}{v:V}{x:Vl}(k:TK K H H')(h:aS K H v (wC x)):aS K H' v (wC x):=by
 cases x with
 | none=>rw[uI h];exact .non
 | num w =>
  obtain⟨t,rfl,ht⟩:=vB h
  exact .i6 (k _ _ ht) (.cons (.str _) (.cons (.int _) .nil))
 | rcd n =>
  obtain⟨t,rfl,ht⟩:=vC h
  exact .i6 (k _ _ ht) (.cons (.str _) (.cons (.int _) .nil))
theorem uJ.tk{K:av}{H H':Hp}{wt:Bool}{v:V}{x:Vl}(k:TK K H H')(h:uJ K H wt v x):uJ K H' wt v x:=by
 cases wt with
 | true=>exact Uj k (show aS K H v (wC x)from h)
 | false=>exact h
theorem fA.tk{K:av}{H H':Hp}{wt:Bool}{ys:List V}{xs:List Vl}(k:TK K H H')(h:fA K H wt ys xs):fA K H' wt ys xs:=⟨h.1,λj y x h1 h2=>(h.2 j y x h1 h2).tk k⟩
theorem uK.tk{K:av}{H H':Hp}{wt:Bool}{v:V}{r:Rk}(k:TK K H H')(h:uK K H wt v r):uK K H' wt v r:=by
 obtain⟨t,ft,ys,h1,h2,h3,h4⟩:=h
 exact⟨t,ft,ys,h1,k _ _ h2,k _ _ h3,h4.tk k⟩
theorem jw.tk{K:av}{H H':Hp}{ev:V}{l:List (Str ⊕ Int)}(k:TK K H H')(h:jw K H ev l):jw K H' ev l:=by
 rcases h with h | ⟨n,t,h1,h2⟩
 ·exact .inl h
 ·exact .inr ⟨n,t,h1,k _ _ h2⟩
theorem bG.tk{K:av}{H H':Hp}{CF C:Addr}{wt:Bool}{m:Mc}(h:bG K H CF C wt m)(k:TK K H H')(kp:∀a∈foot m,∀o,H a=some o->H' a=some o)(b:QJ K (foot m) H' m.b m.ms m.ps):bG K H' CF C wt m:=by
 obtain⟨⟨dx,ev,h1,h2⟩,bk,lv,⟨ys,rc,rp⟩,sd,fr,nd⟩:=h
 obtain⟨i0,i1,i2,i3⟩:=bC (m:=m)
 refine⟨⟨dx,ev,kp _ i0 _ h1,h2.tk k⟩,b,kp _ i1 _ lv,⟨ys,kp _ i2 _ rc,rp.imp λy x z=>z.tk k⟩,kp _ i3 _ sd,λf hf=>?_,nd⟩
 obtain⟨⟨dx,g1⟩,⟨bs,g2,g3⟩,⟨zs,g4,g5⟩,ne⟩:=fr f hf
 exact⟨⟨dx,kp _ (yY hf (by simp[dF])) _ g1⟩,⟨bs,kp _ (yY hf (by simp[dF])) _ g2,g3.tk k⟩,⟨zs,kp _ (yY hf (by simp[dF])) _ g4,g5.tk k⟩,ne⟩
theorem QL{K:av}{P:Addr->Prop}{fp:List Addr}{H:Hp}{b:Addr}{ms:bY}{ps:List Pt}(h:aP K (λc=>P c∨c∈fp) H (.ref b) (ME ms ps)):QJ K fp H b ms ps:=by
 obtain⟨b',mk,pl,xs,e,h1,h2,h3,h4⟩:=yT (show aS K _ _ (ME ms ps)from h)
 cases e
 refine⟨mk,pl,xs,λHX kX=>?_⟩
 have s:aB (cutH (λc=>P c∨c∈fp) H) HX:=λc o e=>by
  obtain⟨n,e⟩:=aX.mp e
  exact kX c o (λz=>n (.inr z)) e
 exact⟨s.tup h1,h2.same s,s.seq h3,h4.same s⟩
def MO(CF C:Addr)(wt:Bool)(p:PM):Ob where
 lies K P H fp:=∃m:Mc,foot m=fp/\m.pm=p/\bG K H CF C wt m/\aP K (λc=>P c∨c∈fp) H (.ref m.b) (ME m.ms m.ps)
 keep K P H fp P' H' h hP kp s:=by
  obtain⟨m,rfl,e,hM,hB⟩:=h
  have hB':aP K (λc=>P' c∨c∈foot m) H' (.ref m.b) (ME m.ms m.ps):=aS.same (λc o q=>by
   obtain⟨n,q⟩:=aX.mp q
   obtain⟨n',q'⟩:=aX.mp (s c o (aX.mpr ⟨λz=>n (.inl z),q⟩))
   exact aX.mpr ⟨λz=>by rcases z with z | z;exact n' z;exact n (.inr z),q'⟩) hB
  exact⟨m,rfl,e,hM.tk (Ui hP s) kp (QL hB'),hB'⟩
 mu K P H fp h:=by
  obtain⟨m,rfl,e,hM,hB⟩:=h
  exact hM.jV
def Uk(wt:Bool)(x:Vl):PyData:=if wt=true then wC x else .int (eZ x)
def Vp(wt:Bool)(r:Rk):PyData:=if wt=true then .tuple [.int (r.c:Int),.bool r.begun,.int (r.mask:Int),.tuple (r.fs.map (Uk wt))]else .tuple [.int (r.c:Int),.tuple (r.fs.map (Uk wt))]
def O7(p:PM):PyData:=.tuple [HB p.fin,.list (p.said.map PyData.int),.int p.left]
section
variable {K:av} {H0:Hp} {A0:Addr->Prop} {G:Addr->Prop} {al:List (List Addr)} {H:Hp} {st:aQ} {wt:Bool}
theorem QM(I:DI K H0 A0 G al H st){v:V}{x:Vl}(h:uJ K H wt v x):aP K (Fb G al st) H v (Uk wt x):=by
 cases wt with
 | false=>rw[show v=.int (eZ x)from h];exact .int _
 | true =>
  have h:aS K H v (wC x):=h
  cases x with
  | none=>rw[uI h];exact .non
  | num w =>
   obtain⟨t,rfl,ht⟩:=vB h
   exact aS.i6 (I.yC ht) (.cons (.str _) (.cons (.int _) .nil))
  | rcd n =>
   obtain⟨t,rfl,ht⟩:=vC h
   exact aS.i6 (I.yC ht) (.cons (.str _) (.cons (.int _) .nil))
theorem MP(I:DI K H0 A0 G al H st){t:Addr}{ys:List V}{xs:List Vl}(ht:ba K H t ys)(h:fA K H wt ys xs):aP K (Fb G al st) H (.ref t) (.tuple (xs.map (Uk wt))):=by
 have z:df (aP K (Fb G al st) H) ys (xs.map (Uk wt)):=df.map ⟨h.1,λi y x a b=>QM I (h.2 i y x a b)⟩
 exact aS.tup (I.yC ht) z.1 z.2
theorem QN(I:DI K H0 A0 G al H st){v:V}{r:Rk}(h:uK K H wt v r):aP K (Fb G al st) H v (Vp wt r):=by
 obtain⟨t,ft,ys,rfl,h2,h3,h4⟩:=h
 have z:=MP I h3 h4
 unfold Vp
 cases wt with
 | true=>exact aS.i6 (I.yC h2) (.cons (.int _) (.cons (.bl _) (.cons (.int _) (.cons z .nil))))
 | false=>exact aS.i6 (I.yC h2) (.cons (.int _) (.cons z .nil))
theorem MQ(I:DI K H0 A0 G al H st){ev:V}{l:List (Str ⊕ Int)}(h:jw K H ev l):aP K (Fb G al st) H ev (HB l):=by
 rcases h with⟨h1,h2⟩ | ⟨n,t,h1,h2⟩
 ·subst h1;subst h2;exact .non
 ·subst h1
  unfold HB
  rw[if_neg n]
  exact aS.i6 (I.yC h2) (Ck l)
end
theorem yZ{m:Mc}{a:Addr}{r:List Addr}(h:foot m=a::r):m.ma=a:=by
 unfold foot at h
 cases h
 rfl
@[reducible] def Cn(CF C:Addr)(wt:Bool)(k:Nat)(st:aQ)(Q:DC):Prop:=match st[k]? with
 | some (.obj o)=>∃p:PM,o=MO CF C wt p/\p.said.length<=900000/\Q (.dat (O7 p)) st
 | _=>False
@[reducible] def y2(CF C:Addr)(wt:Bool)(k:Nat)(st:aQ)(Q:DC):Prop:=match st[k]? with
 | some (.obj o)=>∃p:PM,o=MO CF C wt p/\Q (.dat (.list (p.recs.map (Vp wt)))) st
 | _=>False
@[reducible] def Co(K:av)(CF C:Addr)(wt:Bool)(k:Nat)(st:aQ)(Q:DC):Prop:=match st[k]? with
 | some (.obj o)=>∃p p':PM,o=MO CF C wt p/\vG K wt p p'/\Q (.dat .none) (st.set k (.obj (MO CF C wt p')))
 | _=>False
theorem Au{p:PM}{fs:List PF}{f:PF}{t:Nat}:(MM p fs f t).ms=p.ms/\(MM p fs f t).ps=p.ps:=by
 unfold MM
 split
 ·exact⟨rfl,rfl⟩
 ·split<;>exact⟨rfl,rfl⟩
theorem tm{p:PM}{n:Int}:(lF p n).ms=p.ms/\(lF p n).ps=p.ps:=by
 unfold lF
 split
 ·exact⟨rfl,rfl⟩
 ·exact Au
theorem uk.book{p p':PM}{fs:List PF}{f:PF}{r:Rw}(h:uk p fs f r p'):p'.ms=p.ms/\p'.ps=p.ps:=by
 cases h with
 | str _=>exact⟨rfl,rfl⟩
 | rcd _=>exact⟨rfl,rfl⟩
 | go _ =>
  unfold HE
  split
  ·exact Au
  ·exact⟨rfl,rfl⟩
 | rek _ _ _ _ _=>exact⟨rfl,rfl⟩
 | call _ _ _ _ _ =>
  unfold xM
  split
  ·split
   ·exact⟨rfl,rfl⟩
   ·exact tm (p:={p with left:=p.left - 1})
  ·exact⟨rfl,rfl⟩
 | give _ _ =>
  unfold As
  split<;>exact⟨rfl,rfl⟩
 | toss hst _=>exact tm (p:={p with aV:=fs++[{f with st:=_}]})
theorem vG.book{K:av}{wt:Bool}{p p':PM}(h:vG K wt p p'):p'.ms=p.ms/\p'.ps=p.ps:=by
 rcases h with⟨_,rfl⟩ | ⟨_,_,fs,f,r,pt,ks,_,_,_,_,h⟩
 ·exact⟨rfl,rfl⟩
 ·rcases h with⟨w,_,_,rfl⟩ | ⟨_,h⟩
  ·exact⟨rfl,rfl⟩
  ·exact h.book
def lH:List Str:=["add","sub","mul","div","rem","less","same"]
def qH(ms:bY)(ps:List Pt)(p:Pt):Rw->List Kd
 | .push _=>[]
 | .load _=>[]
 | .jump _=>[]
 | .make _=>[]
 | .store _=>[.any]
 | .zero _=>[.num]
 | .kin _ _=>[.whole 0]
 | .beg c=>[.raw c (2 ^ (fields ms c).length - 1)]
 | .get c _=>[.whole c]
 | .fill c f=>[.raw c 0,((fields ms c)[f]?).getD .any]
 | .put c f=>[.whole c,((fields ms c)[f]?).getD .any]
 | .call q=>((ps[q]?).map Pt.takes).getD []
 | .bare s=>if s∈(["dup","drop"]:List Str)then [.any]else if s="swap" then [.any,.any]else if s∈lH then [.num,.num]else if s∈(["toss","say"]:List Str)then [.num]else [p.gives]
theorem HJ:∀s∈oE,s≠"give"->eS bu s=some (.tuple (fM (if s∈(["dup","drop"]:List Str)then [.any]else if s="swap" then [.any,.any]else if s∈lH then [.num,.num]else if s∈(["toss","say"]:List Str)then [.num]else []))):=by
 intro s hs hg
 simp only[oE,List.mem_cons,List.not_mem_nil,or_false]at hs
 rcases hs with rfl | rfl | rfl | rfl | rfl | rfl | rfl | rfl | rfl | rfl | rfl | rfl | rfl
 all_goals first | rfl | exact absurd rfl hg
theorem MR{K:av}{H:Hp}{mk pl:Addr}{ms:bY}{zs:List Nat}{ps:List Pt}{xs:List V}{j:Nat}{p:Pt}{r:Rw}(hM:cC K H mk ms)(hg:Good ms zs)(hL:bc K H pl xs)(hP:aF K H xs (ps.map BB))(hp:ps[j]?=some p)(hr:r.Ok zs ps.length p.boxes p.rows.length):vA K H mk pl j (qg r) ((QB r).map V.int) (qH ms ps p r):=by
 have cl:∀c,c < zs.length->c < ms.length:=λc h=>by rw[hg.len];exact h
 have fl:∀c f z,zs[c]?=some z->f < z->c < ms.length/\(fields ms c)[f]?=some (((fields ms c)[f]?).getD .any):=λc f z hz hf=>by
  have hc:=cl c (bN hz).1
  obtain⟨z',h1,h2⟩:=hg.iG c hc
  rw[hz]at h1
  cases h1
  refine⟨hc,?_⟩
  rw[cV (by omega)]
  rfl
 cases r with
 | push w=>exact .always (by show eS bu "push"=some (.tuple (fM []));rfl)
 | load w=>exact .always (by show eS bu "load"=some (.tuple (fM []));rfl)
 | store w=>exact .always (by show eS bu "store"=some (.tuple (fM [.any]));rfl)
 | jump w=>exact .always (by show eS bu "jump"=some (.tuple (fM []));rfl)
 | zero w=>exact .always (by show eS bu "zero"=some (.tuple (fM [.num]));rfl)
 | kin c w=>exact .always (by show eS bu "kin"=some (.tuple (fM [.whole 0]));rfl)
 | make c=>exact .always (by show eS bu "make"=some (.tuple (fM []));rfl)
 | beg c=>exact .ofR hM hg.wf hg.Hv (.begin (cl c hr))
 | get c f=>exact .ofR hM hg.wf hg.Hv .get
 | fill c f =>
  obtain⟨z,h1,h2⟩:∃z,zs[c]?=some z/\f < z:=hr
  obtain⟨h3,h4⟩:=fl c f z h1 h2
  exact .ofR hM hg.wf hg.Hv (.fill h3 h4)
 | put c f =>
  obtain⟨z,h1,h2⟩:∃z,zs[c]?=some z/\f < z:=hr
  obtain⟨h3,h4⟩:=fl c f z h1 h2
  exact .ofR hM hg.wf hg.Hv (.put h3 h4)
 | call q =>
  have hq:q < ps.length:=hr
  obtain⟨v,hv,hvr⟩:=iT hP (cV hq)
  obtain⟨t,l0,l4,l5,ks,zP,yU,f1,rfl,hTt,Cg,hk,rg,Fz,FA,FC,Dh⟩:=jU hvr
  have e:qH ms ps p (.call q)=ps[q].takes:=by
   show((ps[q]?).map Pt.takes).getD []=_
   rw[cV hq]
   rfl
  rw[e]
  exact .call hL hv hTt Cg hk
 | bare s =>
  by_cases hgv:s="give"
  ·subst hgv
   obtain⟨v,hv,hvr⟩:=iT hP hp
   obtain⟨t,l0,l4,l5,ks,zP,yU,f1,rfl,hTt,Cg,hk,rg,Fz,FA,FC,Dh⟩:=jU hvr
   have e:qH ms ps p (.bare "give")=[p.gives]:=by
    show(if ("give" : Str)∈(["dup","drop"]:List Str)then [Kd.any]else if ("give" : Str)="swap" then [Kd.any,.any]else if ("give" : Str)∈lH then [Kd.num,.num]else if ("give" : Str)∈(["toss","say"]:List Str)then [Kd.num]else [p.gives])=[p.gives]
    rw[if_neg (by decide +kernel),if_neg (by decide +kernel),if_neg (by decide +kernel),if_neg (by decide +kernel)]
   rw[e]
   exact .give hL hv hTt rg
  ·have z:=HJ s hr hgv
   refine .always ?_
   show eS bu s=some (.tuple (fM (if s∈(["dup","drop"]:List Str)then [.any]else if s="swap" then [.any,.any]else if s∈lH then [.num,.num]else if s∈(["toss","say"]:List Str)then [.num]else [p.gives])))
   have hin:s∈(["dup","drop"]:List Str)∨s="swap"∨s∈lH∨s∈(["toss","say"]:List Str):=by
    have all:∀s∈oE,s≠"give"->s∈(["dup","drop"]:List Str)∨s="swap"∨s∈lH∨s∈(["toss","say"]:List Str):=by decide +kernel
    exact all s hr hgv
   rw[z]
   by_cases a1:s∈(["dup","drop"]:List Str)
   ·rw[if_pos a1,if_pos a1]
   ·rw[if_neg a1,if_neg a1]
    by_cases a2:s="swap"
    ·rw[if_pos a2,if_pos a2]
    ·rw[if_neg a2,if_neg a2]
     by_cases a3:s∈lH
     ·rw[if_pos a3,if_pos a3]
     ·rw[if_neg a3,if_neg a3]
      have a4:s∈(["toss","say"]:List Str):=by
       rcases hin with h | h | h | h
       ·exact absurd h a1
       ·exact absurd h a2
       ·exact absurd h a3
       ·exact h
      rw[if_pos a4,if_pos a4]
theorem El{ms:bY}(w:Wf ms):∀c,c < ms.length->∀d∈bt ms c,(fields ms d).length<=(fields ms c).length:=by
 intro c
 induction c using Nat.strongRecOn with
 | ind c ih =>
  intro hc d hd
  rw[gc w hc]at hd
  rcases List.mem_cons.mp hd with z | z
  ·rw[z];exact Nat.le_refl _
  ·obtain⟨m,hm,e,hj⟩:=w.el hc
   rw[sY w hc,List.length_append]
   cases q:qB ms c with
   | none=>rw[q]at z;cases z
   | some j =>
    rw[q]at z
    have hlt:j < c:=hj j (by rw[← e,q])
    have:=ih j hlt (by omega) d z
    show _<=(cD ms (bt ms j)).length + _
    have e2:(cD ms (bt ms j)).length=(fields ms j).length:=rfl
    omega
structure wQ(ms:bY)(n:Nat)(r:Rk):Prop where
 c:r.c < ms.length
 fs:r.fs.length=(fields ms r.c).length
 hi:r.mask < 2 ^ r.fs.length
 no:∀f x,r.fs[f]?=some x->r.mask.testBit f=false->x=.none
 all:r.begun=true->∀f,f < r.fs.length->r.mask.testBit f=true
 vs:∀k,.rcd k∈r.fs->k < n
structure HK(p:PM):Prop where
 rc:∀r∈p.recs,wQ p.ms p.recs.length r
 st:∀f∈p.aV,(∀k,.rcd k∈f.st->k < p.recs.length)/\(∀k,.rcd k∈f.bx->k < p.recs.length)
theorem ik{ms:bY}{ps:List Pt}{p:Pt}{s:Str}:qH ms ps p (.bare s)=if s∈(["dup","drop"]:List Str)then [.any]else if s="swap" then [.any,.any]else if s∈lH then [.num,.num]else if s∈(["toss","say"]:List Str)then [.num]else [p.gives]:=rfl
theorem xP{ms:bY}{recs:List Rk}{h:Nat}{st:List Vl}{ks:List Kd}{s:Str}(hl:e9 ms recs h st ks s=none):∃lo tk,st=lo++tk/\tk.length=ks.length/\(∀(i:Nat) x k,tk[i]?=some x->ks[i]?=some k->hasB ms recs x k=true)/\(lo.length:Int) + pk s<=h:=by
 unfold e9 at hl
 split at hl
 ·cases hl
 rename_i h1
 split at hl
 ·rename_i h2
  split at hl
  ·cases hl
  rename_i h3
  refine⟨st.take (st.length - ks.length),st.drop (st.length - ks.length),(List.take_append_drop _ _).symm,by rw[List.length_drop];omega,λi x k hx hk=>?_,by rw[List.length_take];omega⟩
  rw[List.all_eq_true]at h2
  exact h2 (x,k) (List.mem_of_getElem? (i:=i) (by rw[List.getElem?_zip_eq_some];exact⟨hx,hk⟩))
 ·cases hl
theorem si{ms:bY}{recs:List Rk}{x:Vl}{c:Nat}(h:hasB ms recs x (.whole c)=true):∃n r,x=.rcd n/\recs[n]?=some r/\r.begun=true/\c∈bt ms r.c:=by
 have h:wN ms recs (.whole c) x=true:=h
 cases x with
 | none=>cases h
 | num w=>cases h
 | rcd n =>
  cases e:recs[n]? with
  | none =>
   have h:(match recs[n]? with | some r=>Cj ms r (.whole c) | none=>false)=true:=h
   rw[e]at h
   cases h
  | some r =>
   rw[iH e]at h
   have h:(r.begun&&decide (c∈bt ms r.c))=true:=h
   rw[Bool.and_eq_true]at h
   exact⟨n,r,rfl,e,h.1,of_decide_eq_true h.2⟩
theorem uL{ms:bY}{recs:List Rk}{x:Vl}{c m:Nat}(h:hasB ms recs x (.raw c m)=true):∃n r,x=.rcd n/\recs[n]?=some r/\r.c=c/\r.mask&&&m=m:=by
 have h:wN ms recs (.raw c m) x=true:=h
 cases x with
 | none=>cases h
 | num w=>cases h
 | rcd n =>
  cases e:recs[n]? with
  | none =>
   have h:(match recs[n]? with | some r=>Cj ms r (.raw c m) | none=>false)=true:=h
   rw[e]at h
   cases h
  | some r =>
   rw[iH e]at h
   have h:(decide (r.c=c)&&decide (r.mask&&&m=m))=true:=h
   rw[Bool.and_eq_true]at h
   exact⟨n,r,rfl,e,of_decide_eq_true h.1,of_decide_eq_true h.2⟩
theorem vH{ms:bY}{recs:List Rk}{x:Vl}(h:hasB ms recs x .num=true):∃w,x=.num w:=by
 have h:wN ms recs .num x=true:=h
 cases x with
 | none=>cases h
 | num w=>exact⟨w,rfl⟩
 | rcd n =>
  cases e:recs[n]? with
  | none =>
   have h:(match recs[n]? with | some r=>Cj ms r .num | none=>false)=true:=h
   rw[e]at h
   cases h
  | some r=>rw[iH e]at h;cases h
theorem progress{p:PM}{fs:List PF}{f:PF}{r:Rw}{pt:Pt}{zs:List Nat}(hg:Good p.ms zs)(hok:r.Ok zs p.ps.length pt.boxes pt.rows.length)(hb:f.bx.length=pt.boxes)(S:HK p)(hl:e9 p.ms p.recs pt.height f.st (qH p.ms p.ps pt r) (qg r)=none)(hs:qg r∈dY∨qg r∈dX):(∃g sd,zQ r f p.said g sd)∨∃g rs,zR p.ms r f p.recs g rs:=by
 obtain⟨lo,tk,est,ltk,hk,_⟩:=xP hl
 have cl:∀c,c < zs.length->c < p.ms.length:=λc h=>by rw[hg.len];exact h
 have one:∀k,qH p.ms p.ps pt r=[k]->∃x,tk=[x]/\hasB p.ms p.recs x k=true:=λk e=>by
  rw[e]at ltk hk
  obtain⟨x,rfl⟩:=Sj ltk
  exact⟨x,rfl,hk 0 x k rfl rfl⟩
 have two:∀k k',qH p.ms p.ps pt r=[k,k']->∃x y,tk=[x,y]/\hasB p.ms p.recs x k=true/\hasB p.ms p.recs y k'=true:=λk k' e=>by
  rw[e]at ltk hk
  obtain⟨x,y,rfl⟩:=Vk ltk
  exact⟨x,y,rfl,hk 0 x k rfl rfl,hk 1 y k' rfl rfl⟩
 have fin:∀{c fl:Nat} {q:Rk},(∃z,zs[c]?=some z/\fl < z)->q∈p.recs->c∈bt p.ms q.c->fl < q.fs.length/\q.fs.length<=100:=λ{c fl q} h hq he=>by
  obtain⟨z,h1,h2⟩:=h
  have ok:=S.rc q hq
  obtain⟨z',h3,h4⟩:=hg.iG c (cl c (bN h1).1)
  rw[h1]at h3
  cases h3
  have h5:=El hg.wf q.c ok.c c he
  obtain⟨z2,h6,h7⟩:=hg.iG q.c ok.c
  have h8:=hg.six z2 (List.mem_of_getElem? h6)
  have:=ok.fs
  omega
 cases r with
 | push w=>exact .inl ⟨_,_,.push⟩
 | load b =>
  have hb':b < f.bx.length:=by rw[hb];exact hok
  exact .inl ⟨_,_,.load (cV hb')⟩
 | store b =>
  obtain⟨x,rfl,_⟩:=one _ rfl
  exact .inl ⟨_,_,.store est (by rw[hb];exact hok)⟩
 | make c=>exact .inr ⟨_,_,.make (cl c hok)⟩
 | beg c =>
  obtain⟨x,rfl,hx⟩:=one _ rfl
  obtain⟨n,q,rfl,hq,_⟩:=uL hx
  exact .inr ⟨_,_,.beg est hq⟩
 | get c fl =>
  obtain⟨x,rfl,hx⟩:=one _ rfl
  obtain⟨n,q,rfl,hq,_,he⟩:=si hx
  have hh:=fin hok (List.mem_of_getElem? hq) he
  exact .inr ⟨_,_,.get est hq (cV hh.1)⟩
 | fill c fl =>
  obtain⟨x,y,rfl,hx,_⟩:=two _ _ rfl
  obtain⟨n,q,rfl,hq,rfl,_⟩:=uL hx
  have hc:=(S.rc q (List.mem_of_getElem? hq)).c
  have hh:=fin hok (List.mem_of_getElem? hq) (by rw[gc hg.wf hc];exact List.mem_cons_self)
  exact .inr ⟨_,_,.fill est hq hh.1 hh.2⟩
 | put c fl =>
  obtain⟨x,y,rfl,hx,_⟩:=two _ _ rfl
  obtain⟨n,q,rfl,hq,_,he⟩:=si hx
  have hh:=fin hok (List.mem_of_getElem? hq) he
  exact .inr ⟨_,_,.put est hq hh.1 hh.2⟩
 | bare s =>
  have hs:s∈dY∨s∈dX:=hs
  have hbl:s∈oE:=hok
  have:s="dup"∨s="swap"∨s="drop"∨s="say":=(by decide +kernel:∀s∈oE,s∈dY∨s∈dX->s="dup"∨s="swap"∨s="drop"∨s="say") s hbl hs
  rcases this with rfl | rfl | rfl | rfl
  ·obtain⟨x,rfl,_⟩:=one .any (by rw[ik];rw[if_pos (by decide +kernel)])
   exact .inl ⟨_,_,.dup est⟩
  ·obtain⟨x,y,rfl,_⟩:=two .any .any (by rw[ik];rw[if_neg (by decide +kernel),if_pos rfl])
   exact .inl ⟨_,_,.swap est⟩
  ·obtain⟨x,rfl,_⟩:=one .any (by rw[ik];rw[if_pos (by decide +kernel)])
   exact .inl ⟨_,_,.drop est⟩
  ·obtain⟨x,rfl,hx⟩:=one .num (by rw[ik];rw[if_neg (by decide +kernel),if_neg (by decide +kernel),if_neg (by decide +kernel),if_pos (by decide +kernel)])
   obtain⟨w,rfl⟩:=vH hx
   exact .inl ⟨_,_,.say est (λz=>nomatch z)⟩
 | jump t=>exact absurd hs (by show ¬ (("jump" : Str)∈dY∨("jump" : Str)∈dX);decide +kernel)
 | zero t=>exact absurd hs (by show ¬ (("zero" : Str)∈dY∨("zero" : Str)∈dX);decide +kernel)
 | kin c t=>exact absurd hs (by show ¬ (("kin" : Str)∈dY∨("kin" : Str)∈dX);decide +kernel)
 | call q=>exact absurd hs (by show ¬ (("call" : Str)∈dY∨("call" : Str)∈dX);decide +kernel)
structure gC(rs rs':List Rk):Prop where
 le:rs.length<=rs'.length
 at':∀(i:Nat) r,rs[i]?=some r->∃r',rs'[i]?=some r'/\r'.c=r.c/\(r.begun=true->r'.begun=true)/\r.mask&&&r'.mask=r.mask/\r'.fs.length=r.fs.length
theorem gC.refl(rs:List Rk):gC rs rs:=⟨Nat.le_refl _,λi r h=>⟨r,h,rfl,id,Nat.and_self _,rfl⟩⟩
theorem tp(a b:Nat):a&&&(a ||| b)=a:=by
 apply Nat.eq_of_testBit_eq
 intro i
 rw[Nat.testBit_and,Nat.testBit_or]
 cases a.testBit i<;>cases b.testBit i<;>rfl
theorem gC.set{rs:List Rk}{n:Nat}{r r':Rk}(h:rs[n]?=some r)(h1:r'.c=r.c)(h2:r.begun=true->r'.begun=true)(h3:r.mask&&&r'.mask=r.mask)(h4:r'.fs.length=r.fs.length):gC rs (rs.set n r'):=by
 refine⟨by rw[List.length_set];exact Nat.le_refl _,λi q hq=>?_⟩
 have hn:=(bN h).1
 by_cases e:n=i
 ·subst e
  rw[h]at hq
  cases hq
  exact⟨r',by rw[List.getElem?_set_self hn],h1,h2,h3,h4⟩
 ·exact⟨q,by rw[List.getElem?_set_ne e];exact hq,rfl,id,Nat.and_self _,rfl⟩
theorem gC.snoc{rs:List Rk}{r:Rk}:gC rs (rs++[r]):=⟨by simp,λi q hq=>⟨q,by rw[List.getElem?_append_left (bN hq).1];exact hq,rfl,id,Nat.and_self _,rfl⟩⟩
theorem zR.grown{ms:bY}{r:Rw}{f g:PF}{rs rs':List Rk}(h:zR ms r f rs g rs'):gC rs rs':=by
 cases h with
 | make _=>exact .snoc
 | beg _ hr=>exact .set hr rfl (λ_=>rfl) (Nat.and_self _) rfl
 | get _ _ _=>exact .refl _
 | fill _ hr _ _=>exact .set hr rfl id (tp _ _) (List.length_set ..)
 | put _ hr _ _=>exact .set hr rfl id (tp _ _) (List.length_set ..)
theorem gC.has{ms:bY}{rs rs':List Rk}(h:gC rs rs'){n:Nat}{k:Kd}(hk:hasB ms rs (.rcd n) k=true):hasB ms rs' (.rcd n) k=true:=by
 cases k with
 | any=>rfl
 | num =>
  obtain⟨w,z⟩:=vH hk
  cases z
 | whole c =>
  obtain⟨n',r,e,hr,hb,he⟩:=si hk
  cases e
  obtain⟨r',hr',h1,h2,h3,_⟩:=h.at' n r hr
  show wN ms rs' (.whole c) (.rcd n)=true
  rw[iH hr']
  show(r'.begun&&decide (c∈bt ms r'.c))=true
  rw[h2 hb,h1,decide_eq_true he]
  rfl
 | raw c m =>
  obtain⟨n',r,e,hr,hc,hm⟩:=uL hk
  cases e
  obtain⟨r',hr',h1,h2,h3,_⟩:=h.at' n r hr
  show wN ms rs' (.raw c m) (.rcd n)=true
  rw[iH hr']
  show(decide (r'.c=c)&&decide (r'.mask&&&m=m))=true
  have e1:r'.mask&&&m=m:=by
   have z:m=r.mask&&&m:=hm.symm
   apply Nat.eq_of_testBit_eq
   intro i
   have a1:=congrArg (λx=>x.testBit i) h3
   have a2:=congrArg (λx=>x.testBit i) hm
   simp only[Nat.testBit_and]at a1 a2 ⊢
   revert a1 a2
   cases r.mask.testBit i<;>cases r'.mask.testBit i<;>cases m.testBit i<;>simp
  rw[decide_eq_true (h1.trans hc),decide_eq_true e1]
  rfl
theorem wQ.mono{ms:bY}{n n':Nat}{r:Rk}(h:wQ ms n r)(hn:n<=n'):wQ ms n' r:=⟨h.c,h.fs,h.hi,h.no,h.all,λk hk=>Nat.lt_of_lt_of_le (h.vs k hk) hn⟩
theorem wQ.put{ms:bY}{n fl:Nat}{r:Rk}{x:Vl}(h:wQ ms n r)(hf:fl < r.fs.length)(hx:∀k,x=.rcd k->k < n):wQ ms n {r with mask:=r.mask ||| 2 ^ fl,fs:=r.fs.set fl x}:=by
 refine⟨h.c,by rw[List.length_set];exact h.fs,?_,λg y hy hm=>?_,λhb g hg=>?_,λk hk=>?_⟩
 ·show r.mask ||| 2 ^ fl < 2 ^ (r.fs.set fl x).length
  rw[List.length_set]
  exact Nat.or_lt_two_pow h.hi (Nat.pow_lt_pow_right (by decide) hf)
 ·have hy:(r.fs.set fl x)[g]?=some y:=hy
  have hm:(r.mask ||| 2 ^ fl).testBit g=false:=hm
  rw[Nat.testBit_or,Nat.testBit_two_pow,Bool.or_eq_false_iff,decide_eq_false_iff_not]at hm
  rw[List.getElem?_set_ne hm.2]at hy
  exact h.no g y hy hm.1
 ·have hg:g < (r.fs.set fl x).length:=hg
  rw[List.length_set]at hg
  show(r.mask ||| 2 ^ fl).testBit g=true
  rw[Nat.testBit_or,h.all hb g hg]
  rfl
 ·rcases List.mem_or_eq_of_mem_set hk with z | z
  ·exact h.vs k z
  ·exact hx k z.symm
theorem zR.sound{ms:bY}{zs:List Nat}(hg:Good ms zs){r:Rw}{f g:PF}{rs rs':List Rk}(h:zR ms r f rs g rs')(hr:∀q∈rs,wQ ms rs.length q)(hs:∀k,.rcd k∈f.st->k < rs.length)(hx:∀k,.rcd k∈f.bx->k < rs.length)
  (hf:∀c n q st,r=.beg c->f.st=st++[.rcd n]->rs[n]?=some q->∀i,i < q.fs.length->q.mask.testBit i=true):(∀q∈rs',wQ ms rs'.length q)/\(∀k,.rcd k∈g.st->k < rs'.length)/\(∀k,.rcd k∈g.bx->k < rs'.length):=by
 cases h with
 | make hc =>
  rename_i c
  refine⟨λq hq=>?_,λk hk=>?_,λk hk=>?_⟩
  ·rcases List.mem_append.mp hq with z | z
   ·exact(hr q z).mono (by simp)
   ·rw[bJ z]
    refine⟨hc,by simp,by show 0 < 2 ^ _;exact Nat.two_pow_pos _,λf x hx _=>?_,(λz=>nomatch z),λk hk=>?_⟩
    ·exact List.eq_of_mem_replicate (List.mem_of_getElem? hx)
    ·have:=List.eq_of_mem_replicate hk
     cases this
  ·rcases List.mem_append.mp hk with z | z
   ·have:=hs k z;simp;omega
   ·have:=bJ z
    cases this
    simp
  ·have:=hx k hk;simp;omega
 | beg hst hq =>
  rename_i c n st q
  have hn:=(bN hq).1
  refine⟨λq' hq'=>?_,λk hk=>by rw[List.length_set];exact hs k hk,λk hk=>by rw[List.length_set];exact hx k hk⟩
  rw[List.length_set]
  rcases List.mem_or_eq_of_mem_set hq' with z | z
  ·exact hr q' z
  ·have ok:=hr q (List.mem_of_getElem? hq)
   rw[z]
   exact⟨ok.c,ok.fs,ok.hi,ok.no,λ_ i hi=>hf c n q st rfl hst hq i hi,ok.vs⟩
 | get hst hq hfx =>
  rename_i c fl n st q x
  refine⟨hr,λk hk=>?_,hx⟩
  rcases List.mem_append.mp hk with z | z
  ·exact hs k (by rw[hst];exact List.mem_append_left _ z)
  ·have:=bJ z
   exact(hr q (List.mem_of_getElem? hq)).vs k (by rw[this];exact List.mem_of_getElem? hfx)
 | fill hst hq hfl fB =>
  rename_i c fl n st q x
  refine⟨λq' hq'=>?_,λk hk=>?_,λk hk=>by rw[List.length_set];exact hx k hk⟩
  ·rw[List.length_set]
   rcases List.mem_or_eq_of_mem_set hq' with z | z
   ·exact hr q' z
   ·rw[z]
    exact(hr q (List.mem_of_getElem? hq)).put hfl λk e=>hs k (by rw[hst,e];simp)
  ·rw[List.length_set]
   refine hs k ?_
   rw[hst]
   simp only[List.mem_append,List.mem_cons,List.not_mem_nil,or_false]at hk ⊢
   rcases hk with z | z
   ·exact .inl z
   ·exact .inr (.inl z)
 | put hst hq hfl fB =>
  rename_i c fl n st q x
  refine⟨λq' hq'=>?_,λk hk=>?_,λk hk=>by rw[List.length_set];exact hx k hk⟩
  ·rw[List.length_set]
   rcases List.mem_or_eq_of_mem_set hq' with z | z
   ·exact hr q' z
   ·rw[z]
    exact(hr q (List.mem_of_getElem? hq)).put hfl λk e=>hs k (by rw[hst,e];simp)
  ·rw[List.length_set]
   exact hs k (by rw[hst];exact List.mem_append_left _ hk)
theorem zQ.sound{r:Rw}{f g:PF}{sd sd':List Int}{n:Nat}(h:zQ r f sd g sd')(hs:∀k,.rcd k∈f.st->k < n)(hx:∀k,.rcd k∈f.bx->k < n):(∀k,.rcd k∈g.st->k < n)/\(∀k,.rcd k∈g.bx->k < n):=by
 cases h with
 | push =>
  refine⟨λk hk=>?_,hx⟩
  rcases List.mem_append.mp hk with z | z
  ·exact hs k z
  ·have:=bJ z;cases this
 | load hb =>
  refine⟨λk hk=>?_,hx⟩
  rcases List.mem_append.mp hk with z | z
  ·exact hs k z
  ·have:=bJ z
   exact hx k (by rw[this];exact List.mem_of_getElem? hb)
 | store hst _ =>
  refine⟨λk hk=>hs k (by rw[hst];exact List.mem_append_left _ hk),λk hk=>?_⟩
  rcases List.mem_or_eq_of_mem_set hk with z | z
  ·exact hx k z
  ·exact hs k (by rw[hst,z];simp)
 | dup hst =>
  refine⟨λk hk=>?_,hx⟩
  rcases List.mem_append.mp hk with z | z
  ·exact hs k z
  ·have:=bJ z
   exact hs k (by rw[hst,this];simp)
 | swap hst =>
  refine⟨λk hk=>hs k ?_,hx⟩
  rw[hst]
  simp only[List.mem_append,List.mem_cons,List.not_mem_nil,or_false]at hk ⊢
  rcases hk with z | z | z
  ·exact .inl z
  ·exact .inr (.inr z)
  ·exact .inr (.inl z)
 | drop hst=>exact⟨λk hk=>hs k (by rw[hst];exact List.mem_append_left _ hk),hx⟩
 | say hst _=>exact⟨λk hk=>hs k (by rw[hst];exact List.mem_append_left _ hk),hx⟩
def MS(K:av)(H:Hp)(v:V)(r:Rw):Prop:=∃t:Addr,v=.ref t/\ba K H t (xJ r)
theorem MS.same{K:av}{H H':Hp}{v:V}{r:Rw}(e:aB H H')(h:MS K H v r):MS K H' v r:=by
 obtain⟨t,h1,h2⟩:=h
 exact⟨t,h1,e.tup h2⟩
theorem MS.keep{K:av}{H H':Hp}{F:List Addr}{v:V}{r:Rw}(k:ay F H H')(m:aU H F)(h:MS K H v r):MS K H' v r:=by
 obtain⟨t,h1,h2⟩:=h
 exact⟨t,h1,ba.keep k m h2⟩
def vI(zs:List Nat)(x:Rw):Prop:=(∀nr,x.Ok zs 1 8 nr)/\(qg x∈dY∨qg x∈dX)
structure Rows(K:av)(zs:List Nat)(n:Nat)(H H':Hp)(l:Addr)(ys:List V)(rs:List Rw):Prop where
 s:aB H H'
 nw:H l=none
 g:H' l=some (.lst ys)
 it:wD (MS K H') ys rs
 ok:∀x∈rs,vI zs x
 oC:rs.length<=n
theorem Rows.same{K:av}{zs:List Nat}{n:Nat}{H H1 H2:Hp}{l:Addr}{ys:List V}{rs:List Rw}(h:Rows K zs n H H1 l ys rs)(e:aB H1 H2):Rows K zs n H H2 l ys rs:=⟨h.s.trans e,h.nw,e _ _ h.g,h.it.imp λy x z=>z.same e,h.ok,h.oC⟩
theorem Rows.app{K:av}{zs:List Nat}{n:Nat}{H H1:Hp}{l t:Addr}{ys:List V}{rs:List Rw}{r:Rw}(h:Rows K zs n H H1 l ys rs)(ht:ba K H1 t (xJ r))(hr:vI zs r):Rows K zs (n + 1) H (upd H1 l (.lst (ys++[.ref t]))) l (ys++[.ref t]) (rs++[r]):=by
 have k:ay [l] H1 (upd H1 l (.lst (ys++[.ref t]))):=aI
 have mu:aU H1 [l]:=λc hc=>by rw[bJ hc];exact⟨_,h.g,.inl ⟨_,rfl⟩⟩
 refine⟨qF h.s h.nw _,h.nw,uS,(h.it.imp λy x z=>z.keep k mu).snoc ⟨t,rfl,ba.keep k mu ht⟩,λx hx=>?_,by simp;have:=h.oC;omega⟩
 rcases List.mem_append.mp hx with z | z
 ·exact h.ok x z
 ·rw[bJ z];exact hr
theorem Rows.Ww{K:av}{zs:List Nat}{n:Nat}{H H1 H2:Hp}{l l2 t1 t2:Addr}{ys:List V}{rs:List Rw}{r1 r2:Rw}(h:Rows K zs n H H1 l ys rs)(s:aB H1 H2)(nl:H2 l2=none)(h1:ba K H2 t1 (xJ r1))(h2:ba K H2 t2 (xJ r2))(g1:vI zs r1)(g2:vI zs r2):Rows K zs (n + 2) H (upd H2 l2 (.lst (ys++[.ref t1,.ref t2]))) l2 (ys++[.ref t1,.ref t2]) (rs++[r1,r2]):=by
 have sn:=sN nl (.lst (ys++[.ref t1,.ref t2]))
 refine⟨(h.s.trans s).trans sn,(h.s.trans s).free nl,uS,?_,λx hx=>?_,by simp;have:=h.oC;omega⟩
 ·have z:=((h.it.imp λy x z=>(z.same s).same sn).snoc (⟨t1,rfl,sn.tup h1⟩:MS K _ (.ref t1) r1)).snoc (⟨t2,rfl,sn.tup h2⟩:MS K _ (.ref t2) r2)
  rw[List.append_assoc,List.append_assoc]at z
  exact z
 ·simp only[List.mem_append,List.mem_cons,List.not_mem_nil,or_false]at hx
  rcases hx with z | z | z
  ·exact h.ok x z
  ·rw[z];exact g1
  ·rw[z];exact g2
def tq(r:Rk):PyData:=.tuple [.int (r.c:Int),.bool r.begun,.int (r.mask:Int),.tuple (r.fs.map wC)]
theorem vJ(r:Rk):tq r=.tuple [.int (r.c:Int),.bool r.begun,.int (r.mask:Int),.tuple (r.fs.map wC)]:=rfl
theorem uK.wM{K:av}{H:Hp}{v:V}{r:Rk}(h:aS K H v (tq r)):uK K H true v r:=by
 obtain⟨t,xs,rfl,hT,hR⟩:=aS.bX h
 obtain⟨x0,x1,x2,x3,rfl⟩:=Wo hR.1
 have z0:=aS.aM (hR.2 0 x0 _ rfl rfl)
 have z1:x1=.bl r.begun:=by have:=hR.2 1 x1 _ rfl rfl;cases this;rfl
 have z2:=aS.aM (hR.2 2 x2 _ rfl rfl)
 obtain⟨ft,ys,rfl,hF,hY⟩:=aS.bX (hR.2 3 x3 _ rfl rfl)
 subst z0;subst z1;subst z2
 refine⟨t,ft,ys,rfl,hT,hF,by rw[hY.1,List.length_map],λj y x hy hx=>?_⟩
 exact hY.2 j y (wC x) hy (by rw[List.getElem?_map,hx];rfl)
theorem QO{K:av}{H:Hp}{ys:List V}{rs:List Rk}(h:df (aS K H) ys (rs.map tq)):wD (uK K H true) ys rs:=⟨by rw[h.1,List.length_map],λj y x hy hx=>uK.wM (h.2 j y (tq x) hy (by rw[List.getElem?_map,hx];rfl))⟩
theorem zQ.oC{r:Rw}{f g:PF}{sd sd':List Int}(h:zQ r f sd g sd'):g.st.length<=f.st.length + 1/\g.bx.length=f.bx.length/\sd'.length<=sd.length + 1/\g.part=f.part:=by
 cases h with
 | push=>exact⟨by simp,rfl,by omega,rfl⟩
 | load _=>exact⟨by simp,rfl,by omega,rfl⟩
 | store e _=>exact⟨by rw[e];simp;omega,by simp,by omega,rfl⟩
 | dup e=>exact⟨by simp,rfl,by omega,rfl⟩
 | swap e=>exact⟨by rw[e];simp,rfl,by omega,rfl⟩
 | drop e=>exact⟨by rw[e];simp;omega,rfl,by omega,rfl⟩
 | say e _=>exact⟨by rw[e];simp;omega,rfl,by simp,rfl⟩
theorem zR.oC{ms:bY}{r:Rw}{f g:PF}{rs rs':List Rk}(h:zR ms r f rs g rs'):g.st.length<=f.st.length + 1/\g.bx.length=f.bx.length/\rs'.length<=rs.length + 1/\g.part=f.part:=by
 cases h with
 | make _=>exact⟨by simp,rfl,by simp,rfl⟩
 | beg e _=>exact⟨by omega,rfl,by simp,rfl⟩
 | get e _ _=>exact⟨by rw[e];simp,rfl,by omega,rfl⟩
 | fill e _ _ _=>exact⟨by rw[e];simp,rfl,by simp,rfl⟩
 | put e _ _ _=>exact⟨by rw[e];simp;omega,rfl,by simp,rfl⟩
structure DJ(ms:bY)(pt:Pt)(i:Nat)(p:PM):Prop where
 ms:p.ms=ms
 ps:p.ps=[pt]
 fin:p.fin=[]
 fr:∃bx st,p.aV=[⟨0,i,bx,st⟩]/\bx.length=8/\st.length<=i
 snd:HK p
 sd:p.said.length<=i
 rl:p.recs.length<=i
theorem HL{m n i:Nat}(h:m&&&(2 ^ n - 1)=2 ^ n - 1)(hi:i < n):m.testBit i=true:=by
 have z:=congrArg (λx=>x.testBit i) h
 simp only[Nat.testBit_and,Nat.testBit_two_pow_sub_one,decide_eq_true hi,Bool.and_true]at z
 exact z
theorem HM(K:av){ms:bY}{zs:List Nat}(hg:Good ms zs){rs:List Rw}(hr:∀x∈rs,vI zs x)(hl:rs.length<=98){pt:Pt}(hp:pt=⟨[],.num,8,8,rs++[.push 1,.bare "give"],[]⟩){i:Nat}(hi:i < rs.length + 2){p:PM}(L:DJ ms pt i p):
  ∃p',vG K true p p'/\p'.said.length<=1000/\(p'.fin≠[]∨(DJ ms pt (i + 1) p'/\i + 1 < rs.length + 2/\gC p.recs p'.recs)):=by
 obtain⟨bx,st,ef,lb,ls⟩:=L.fr
 have em:=L.ms
 have eps:=L.ps
 have hrows:pt.rows=rs++[.push 1,.bare "give"]:=by rw[hp]
 have hil:i < pt.rows.length:=by rw[hrows];simp;exact hi
 obtain⟨r,hri⟩:∃r,pt.rows[i]?=some r:=⟨pt.rows[i],cV hil⟩
 have cas:(vI zs r/\i + 1 < rs.length + 2)∨r=.bare "give":=by
  rw[hrows]at hri
  by_cases z:i < rs.length
  ·rw[List.getElem?_append_left z]at hri
   exact .inl ⟨hr r (List.mem_of_getElem? hri),by omega⟩
  ·rw[List.getElem?_append_right (by omega)]at hri
   by_cases z2:i=rs.length
   ·subst z2
    rw[Nat.sub_self]at hri
    cases hri
    exact .inl ⟨⟨λnr=>⟨by decide,by decide⟩,.inl (by decide +kernel:("push" : Str)∈dY)⟩,by omega⟩
   ·have:i - rs.length=1:=by omega
    rw[this]at hri
    cases hri
    exact .inr rfl
 have hok:r.Ok zs p.ps.length pt.boxes pt.rows.length:=by
  rw[eps,show pt.boxes=8 by rw[hp]]
  rcases cas with z | z
  ·exact z.1.1 _
  ·rw[z];exact(by decide +kernel:("give" : Str)∈oE)
 have hpj:p.ps[0]?=some pt:=by rw[eps];rfl
 have hg':Good p.ms zs:=by rw[em];exact hg
 have fine:HG p:=⟨hg'.wf,hg'.Hv,by rw[ef];simp,by have:=L.sd;omega,by have:=L.rl;omega,λf hf=>by
  rw[ef]at hf
  rw[bJ hf]
  exact⟨by show st.length<=1000;omega,pt,hpj⟩⟩
 have ask:HH K p.ms p.ps 0 r (qH p.ms p.ps pt r):=λH mk pl xs h1 h2 h3=>MR h1 hg' h2 h3 hpj hok
 have oC:(qH p.ms p.ps pt r).length<=1000:=by
  cases r with
  | bare s =>
   rw[ik]
   split
   ·decide
   ·split
    ·decide
    ·split
     ·decide
     ·split
      ·decide
      ·show 1<=1000;decide
  | call q=>rcases cas with z | z;exact absurd z.1.2 (by show ¬ (("call" : Str)∈dY∨("call" : Str)∈dX);decide +kernel);cases z
  | _=>first | (show 0<=1000;decide) | (show 1<=1000;decide) | (show 2<=1000;decide)
 have S:=L.snd
 have Sst:=S.st ⟨0,i,bx,st⟩ (by rw[ef];exact List.mem_singleton.mpr rfl)
 have look:HI K p ⟨0,i,bx,st⟩ r (qH p.ms p.ps pt r):=⟨oC,λq hq=>(S.rc q hq).c,λn hn=>Sst.1 n hn,ask⟩
 have go:∀p',((∃w,(true=true)/\e9 p.ms p.recs pt.height st (qH p.ms p.ps pt r) (qg r)=some w/\p'={p with fin:=[.inl "look",.inr ((0:Nat):Int),.inr (i:Int),.inl w]})∨((true=true->e9 p.ms p.recs pt.height st (qH p.ms p.ps pt r) (qg r)=none)/\uk p [] ⟨0,i,bx,st⟩ r p'))->vG K true p p':=λp' h=>.inr ⟨L.fin,fine,[],⟨0,i,bx,st⟩,r,pt,_,ef,hpj,hri,look,h⟩
 cases hw:e9 p.ms p.recs pt.height st (qH p.ms p.ps pt r) (qg r)with
 | some w=>exact⟨_,go _ (.inl ⟨w,rfl,hw,rfl⟩),(by show p.said.length<=1000;have:=L.sd;omega),.inl (by simp)⟩
 | none =>
  obtain⟨lo,tk,est,ltk,hk,_⟩:=xP hw
  rcases cas with⟨⟨_,hs⟩,hi2⟩ | rfl
  ·rcases progress (fs:=[]) (f:=⟨0,i,bx,st⟩) hg' hok (by show bx.length=pt.boxes;rw[lb,hp]) S hw hs with⟨g,sd,h⟩ | ⟨g,rs',h⟩
   ·refine⟨_,go _ (.inr ⟨λ_=>hw,.str h⟩),(by show sd.length<=1000;have:=h.oC.2.2.1;have:=L.sd;omega),.inr ⟨⟨em,eps,L.fin,?_,?_,?_,?_⟩,hi2,.refl _⟩⟩
    ·obtain⟨f1,f2,f3,f4⟩:=h.oC
     have ea:=h.at'
     refine⟨g.bx,g.st,?_,by rw[f2];exact lb,by have:g.st.length<=st.length + 1:=f1;omega⟩
     show [({g with at':=g.at' + 1}:PF)]=_
     rw[ea,f4]
    ·have z:=h.sound (n:=p.recs.length) Sst.1 Sst.2
     refine⟨S.rc,λf hf=>?_⟩
     have hf:f∈[({g with at':=g.at' + 1}:PF)]:=hf
     rw[bJ hf]
     exact z
    ·have:=h.oC.2.2.1
     show sd.length<=i + 1
     have:=L.sd
     omega
    ·show p.recs.length<=i + 1
     have:=L.rl
     omega
   ·refine⟨_,go _ (.inr ⟨λ_=>hw,.rcd h⟩),(by show p.said.length<=1000;have:=L.sd;omega),.inr ⟨⟨em,eps,L.fin,?_,?_,?_,?_⟩,hi2,h.grown⟩⟩
    ·obtain⟨f1,f2,f3,f4⟩:=h.oC
     have ea:=h.at'
     refine⟨g.bx,g.st,?_,by rw[f2];exact lb,by have:g.st.length<=st.length + 1:=f1;omega⟩
     show [({g with at':=g.at' + 1}:PF)]=_
     rw[ea,f4]
    ·have z:=h.sound hg' S.rc Sst.1 Sst.2 (λc n q s0 er es eq k hk'=>?_)
     ·refine⟨z.1,λf hf=>?_⟩
      have hf:f∈[({g with at':=g.at' + 1}:PF)]:=hf
      rw[bJ hf]
      exact z.2
     ·subst er
      obtain⟨x,rfl⟩:=Sj (xs:=tk) ltk
      have hx:=hk 0 x _ rfl rfl
      obtain⟨n',q',rfl,hq',hc,hm⟩:=uL hx
      have e2:st=s0++[.rcd n]:=es
      rw[est]at e2
      have e3:=List.append_inj_right' e2 rfl
      cases e3
      rw[eq]at hq'
      cases hq'
      have ok:=S.rc q (List.mem_of_getElem? eq)
      refine HL hm ?_
      have:=ok.fs
      rw[hc]at this
      omega
    ·show p.said.length<=i + 1
     have:=L.sd
     omega
    ·have:=h.oC.2.2.1
     show rs'.length<=i + 1
     have:=L.rl
     omega
  ·have ea:qH p.ms p.ps pt (.bare "give")=[.num]:=by
    rw[ik,if_neg (by decide +kernel),if_neg (by decide +kernel),if_neg (by decide +kernel),if_neg (by decide +kernel),hp]
   rw[ea]at ltk hk
   obtain⟨x,rfl⟩:=Sj (xs:=tk) ltk
   obtain⟨w,rfl⟩:=vH (hk 0 x _ rfl rfl)
   exact⟨_,go _ (.inr ⟨λ_=>hw,.give est (λ_ z=>nomatch z)⟩),(by show p.said.length<=1000;have:=L.sd;omega),.inl (by simp[As])⟩
theorem Av:Vp true=tq:=by
 funext r
 rfl
theorem Ul(x:Vl):Sh 1 (wC x):=by
 cases x with
 | none=>exact Qw
 | num w=>exact yN (iS Hs (iS yM Cd))
 | rcd n=>exact yN (iS Hs (iS yM Cd))
theorem Um(r:Rk):Sh 3 (tq r):=yN (iS yM (iS Ua (iS yM (iS (yN (Ht λx _=>Ul x)) Cd))))
theorem Cp(rs:List Rk):Sh 4 (.list (rs.map tq)):=MA (Ht λr _=>Um r)
theorem HN(ns:List Int)(lo hi:Option Int):∃ms:List Int,cutD (ns.map PyData.int) lo hi=ms.map PyData.int/\ms.length<=ns.length:=by
 unfold cutD
 rw[← List.map_drop,← List.map_take]
 exact⟨_,rfl,by rw[List.length_take,List.length_drop];omega⟩
theorem MT{α:Type}{f:α->PyData}(xs:List α)(n:Nat):cutD (xs.map f) none (some (n:Int))=(xs.take n).map f:=by
 unfold cutD
 rw[HT.kR,HT.ql,List.drop_zero,Nat.sub_zero,← List.map_take,List.length_map]
 congr 1
 exact List.take_eq_take_iff.mpr (by omega)
theorem Wx(ns:List Int):jr (ns.map V.int) none (some 8)=(ns.take 8).map V.int:=by
 unfold jr
 rw[HT.kR,show(some (8:Int))=some ((8:Nat):Int)from rfl,HT.ql,List.drop_zero,List.length_map,Nat.sub_zero,← List.map_take]
 exact congrArg (List.map V.int) (List.take_eq_take_iff.mpr (by omega))
def eN(K:av):Sp:=λvs H Q _=>∃(a:Addr) (ns:List Int) (k:Int),vs=[.ref a,.int k]/\bc K H a (ns.map V.int)/\0<=k/\k<=1000/\∀(v:Int) (H':Hp),aB H H'->Q (.int v) H'
def vK:xD:=λds Q=>∃(ns:List Int) (k:Int),ds=[.list (ns.map PyData.int),.int k]/\0<=k/\k<=1000/\∀v:Int,Q (.int v)
theorem gf:qw vK:=by
 rintro ds Q Q' f ⟨ns,k,e,h0,h1,q⟩
 exact⟨ns,k,e,h0,h1,λv=>f _ (q v)⟩
theorem gh{K:av}:B9 K (eN K) vK:=by
 rintro vs H Q P ds hP hv ⟨ns,k,rfl,h0,h1,q⟩
 obtain⟨v,u,rfl,r1,r2⟩:=Ml hv
 obtain⟨a,ys,rfl,g1,_,g2⟩:=aP.dI r1
 rw[yF g2]at g1
 rw[aP.aM r2]
 exact⟨a,ns,k,rfl,g1,h0,h1,λv H' s=>q v _ H' s (.int _)⟩
def cJ(K:av):Sp:=λvs H Q _=>∃(a:Addr) (ms:bY) (zs:List Nat) (c z:Nat),vs=[.ref a,.int (c:Int)]/\cC K H a ms/\Good ms zs/\zs[c]?=some z/\Q (.int (z:Int)) H
def vL:xD:=λds Q=>∃(ms:bY) (zs:List Nat) (c z:Nat),ds=[.list (ms.map xG),.int (c:Int)]/\Good ms zs/\zs[c]?=some z/\Q (.int (z:Int))
theorem iW:qw vL:=by
 rintro ds Q Q' f ⟨ms,zs,c,z,e,h0,h1,q⟩
 exact⟨ms,zs,c,z,e,h0,h1,f _ q⟩
theorem iX{K:av}:B9 K (cJ K) vL:=by
 rintro vs H Q P ds hP hv ⟨ms,zs,c,z,rfl,h0,h1,q⟩
 obtain⟨v,u,rfl,r1,r2⟩:=Ml hv
 obtain⟨a,rfl,hM⟩:=cC.wM (ms:=ms) r1.now
 rw[aP.aM r2]
 exact⟨a,ms,zs,c,z,rfl,hM,h0,h1,q _ H (.refl _) (.int _)⟩
def pB:xD:=λds Q=>∃(ms:bY) (zs:List Nat) (cell:Int),ds=[.list (ms.map xG),.int cell]/\Good ms zs/\∀r,vI zs r->Q (wL r)
def iY(K:av):Sp:=Qj K pB
theorem Aw:qw pB:=by
 rintro ds Q Q' f ⟨ms,zs,cell,z3,hg,q⟩
 exact⟨ms,zs,cell,z3,hg,by intros;apply f;apply q<;>assumption⟩
theorem Ax{K:av}:B9 K (iY K) pB:=xE
def lI:xD:=λds Q=>∃(rs rs':List Rk),ds=[.list (rs.map tq),.list (rs'.map tq)]/\gC rs rs'/\rs'.length<=1000/\Q (.bool true)
def gY(K:av):Sp:=Qj K lI
theorem y3:qw lI:=by
 rintro ds Q Q' f ⟨rs,rs',z2,hG,hl,q⟩
 exact⟨rs,rs',z2,hG,hl,by intros;apply f;apply q<;>assumption⟩
theorem y4{K:av}:B9 K (gY K) lI:=xE
theorem Good.one:Good [(none,[])] [0]:=⟨⟨by decide,by decide,(λm hm=>by cases hm;rfl),(λi m hm h=>by cases i with | zero=>omega | succ i=>simp at hm)⟩,rfl,(λm hm=>by cases hm;rfl),rfl,(λz hz=>by simp at hz;omega),(λi m h hm=>by cases i with | zero=>omega | succ i=>simp at hm),(λi m hm k hk=>by cases i with | zero=>(cases hm;cases hk) | succ i=>simp at hm)⟩
theorem Good.snoc{ms:bY}{zs:List Nat}(hg:Good ms zs){e z:Nat}{ks:List Kd}(he:zs[e]?=some z)(h8:ms.length < 8)(hw:z + ks.length<=6)(hO:∀k∈ks,Eg (zs++[z + ks.length]) k):Good (ms++[(some e,ks)]) (zs++[z + ks.length]):=by
 have lz:=hg.len
 have hez:=(bN he).1
 have kup:∀k,Eg zs k->Eg (zs++[z + ks.length]) k:=λk hk=>by
  cases k with
  | any=>exact trivial
  | num=>exact trivial
  | whole c=>show c < _;have:c < zs.length:=hk;rw[List.length_append];omega
  | raw c m =>
   obtain⟨z',h1,h2⟩:∃z,zs[c]?=some z/\m < 2 ^ z:=hk
   exact⟨z',by rw[List.getElem?_append_left (bN h1).1];exact h1,h2⟩
 have get:∀(i':Nat) m,(ms++[(some e,ks)])[i']?=some m->(i' < ms.length/\ms[i']?=some m)∨(i'=ms.length/\m=(some e,ks)):=λi' m hm=>by
  by_cases hlt:i' < ms.length
  ·rw[List.getElem?_append_left hlt]at hm
   exact .inl ⟨hlt,hm⟩
  ·have h2:=(bN hm).1
   have e':i'=ms.length:=by simp at h2;omega
   subst e'
   rw[List.getElem?_append_right (Nat.le_refl _),Nat.sub_self]at hm
   cases hm
   exact .inr ⟨rfl,rfl⟩
 have h0:=hg.wf.ne
 refine⟨⟨by simp,by simp;omega,λm hm=>?_,λi' m hm hi'=>?_⟩,by simp[lz],λm hm=>?_,?_,λz' hz'=>?_,λi' m hi' hm=>?_,λi' m hm k hk=>?_⟩
 ·rcases get 0 m hm with⟨_,h⟩ | ⟨h,_⟩
  ·exact hg.wf.first m h
  ·omega
 ·rcases get i' m hm with⟨_,h⟩ | ⟨h,rfl⟩
  ·exact hg.wf.ahead i' m h hi'
  ·exact⟨e,rfl,by omega⟩
 ·rcases get 0 m hm with⟨_,h⟩ | ⟨h,_⟩
  ·exact hg.MC m h
  ·omega
 ·rw[List.getElem?_append_left (by omega)]
  exact hg.z0
 ·rcases List.mem_append.mp hz' with h | h
  ·exact hg.six z' h
  ·simp at h;omega
 ·rcases get i' m hm with⟨hl',h⟩ | ⟨h,rfl⟩
  ·obtain⟨j',z',f1,f2,f3,f4'⟩:=hg.go i' m hi' h
   exact⟨j',z',f1,f2,by rw[List.getElem?_append_left (by omega)];exact f3,by rw[List.getElem?_append_left (by omega)];exact f4'⟩
  ·refine⟨e,z,rfl,by omega,by rw[List.getElem?_append_left hez];exact he,?_⟩
   rw[h,lz,List.getElem?_append_right (Nat.le_refl _),Nat.sub_self]
   rfl
 ·rcases get i' m hm with⟨_,h⟩ | ⟨_,rfl⟩
  ·exact kup k (hg.kds i' m h k hk)
  ·exact hO k hk
theorem all_map{α:Type}{f:α->PyData}{p:α->Prop}:∀{ys:List PyData},(∀y∈ys,∃k,y=f k/\p k)->∃ks:List α,ys=ks.map f/\∀k∈ks,p k
 | [],_=>⟨[],rfl,λ_ h=>nomatch h⟩
 | y::ys,h=>by
  obtain⟨k,e,hk⟩:=h y List.mem_cons_self
  obtain⟨ks,e2,h2⟩:=all_map (ys:=ys) λz hz=>h z (List.mem_cons_of_mem _ hz)
  exact⟨k::ks,by rw[e,e2];rfl,λz hz=>by
   rcases List.mem_cons.mp hz with w | w
   ·rw[w];exact hk
   ·exact h2 z w⟩
def lJ:xD:=λds Q=>∃(ns:List Int) (k:Int),ds=[.list (ns.map PyData.int),.int k]/\0<=k/\k<=900/\∀ms zs,Good ms zs->Q (.list (ms.map xG))
def gZ(K:av):Sp:=Qj K lJ
theorem y6:qw lJ:=by
 rintro ds Q Q' f ⟨ns,k0,z2,h0,h1,q⟩
 exact⟨ns,k0,z2,h0,h1,by intros;apply f;apply q<;>assumption⟩
theorem y8{K:av}:B9 K (gZ K) lJ:=xE
def fV(K:av):Sp:=λvs H Q _=>∃(a:Addr) (ms:bY) (zs:List Nat) (cell:Int) (k:Nat),vs=[.ref a,.int cell,.int (k:Int)]/\cC K H a ms/\Good ms zs/\k<=5 /\
 ∀(l:Addr) (ys:List V) (rs:List Rw) (H':Hp),Rows K zs 16 H H' l ys rs->Q (.ref l) H'
def qI:xD:=λds Q=>∃(ms:bY) (zs:List Nat) (cell:Int) (k:Nat),ds=[.list (ms.map xG),.int cell,.int (k:Int)]/\Good ms zs/\k<=5/\∀rs:List Rw,(∀x∈rs,vI zs x)->rs.length<=16->Q (.list (rs.map wL))
theorem wR:qw qI:=by
 rintro ds Q Q' f ⟨ms,zs,cell,k,e,h0,h1,q⟩
 exact⟨ms,zs,cell,k,e,h0,h1,λrs h l=>f _ (q rs h l)⟩
theorem MU{K:av}{P:Addr->Prop}{H H':Hp}{t:Addr}{xs:List V}(hP:∀c,P c->∃o,H c=some o/\oS o)(s:aB H H')(h:ba K H' t xs):ba K (cutH P H') t xs:=by
 have n:∀o,H' t=some o->¬ oS o->¬ P t:=λo e m z=>by
  obtain⟨o',e',m'⟩:=hP t z
  rw[s _ _ e']at e
  cases e
  exact m m'
 rcases h with(h | ⟨o,h⟩) | h
 ·exact .inl (.inl (aX.mpr ⟨n _ h (λm=>by rcases m with⟨ys,m⟩ | ⟨C,dx,fs,m⟩<;>cases m),h⟩))
 ·exact .inl (.inr ⟨o,aX.mpr ⟨n _ h (λm=>by rcases m with⟨ys,m⟩ | ⟨C,dx,fs,m⟩<;>cases m),h⟩⟩)
 ·exact .inr h
theorem rw_rdF{K:av}{P:Addr->Prop}{H:Hp}{t:Addr}{r:Rw}(h:ba K (cutH P H) t (xJ r)):aP K P H (.ref t) (wL r):=by
 have z:∀ns:List Int,aF K (cutH P H) (ns.map V.int) (ns.map PyData.int):=λns=>(vp (K:=K) (P:=λ_=>False) (H:=cutH P H) (ns:=ns)).imp λy x q=>q.now
 exact aS.i6 h (.cons (.str _) (z _))
theorem wU{K:av}:B9 K (fV K) qI:=by
 rintro vs H Q P ds hP hv ⟨ms,zs,cell,k,rfl,h0,h1,q⟩
 obtain⟨v0,v1,v2,rfl⟩:=Wn hv.1
 obtain⟨a,rfl,hM⟩:=cC.wM (ms:=ms) (hv.2 0 v0 _ rfl rfl).now
 rw[aP.aM (hv.2 1 v1 _ rfl rfl),aP.aM (hv.2 2 v2 _ rfl rfl)]
 refine⟨a,ms,zs,cell,k,rfl,hM,h0,h1,λl ys rs H' RW=>q rs RW.ok RW.oC _ H' RW.s ?_⟩
 refine aP.lst (λz=>?_) RW.g (df.map ⟨RW.it.1,λi y x hy hx=>?_⟩)
 ·obtain⟨o,e,_⟩:=hP l z
  rw[RW.nw]at e;cases e
 ·obtain⟨t,rfl,ht⟩:=RW.it.2 i y x hy hx
  exact rw_rdF (MU hP RW.s ht)
theorem QP(m f:Nat):Builtin.bitAnd ((m:Int) / 2 ^ ((f:Nat):Int).toNat) 1=if m.testBit f=true then 1 else 0:=by
 rw[Int.toNat_natCast,show((2:Int) ^ f)=((2 ^ f:Nat):Int)by rw[Int.natCast_pow];rfl,← Int.natCast_ediv,show(1:Int)=((1:Nat):Int)from rfl,pj,Nat.and_one_is_mod,Nat.testBit_eq_decide_div_mod_eq]
 by_cases h:m / 2 ^ f % 2=1
 ·rw[if_pos (decide_eq_true h),h]
 ·rw[if_neg (by rw[decide_eq_false h];exact Bool.false_ne_true)]
  have:m / 2 ^ f % 2=0:=by omega
  rw[this];rfl
def lK:xD:=λds Q=>∃(ms:bY) (zs:List Nat) (rs:List Rk),ds=[.list (ms.map xG),.list (rs.map tq)]/\Good ms zs/\(∀r∈rs,wQ ms rs.length r)/\Q (.bool true)
def g7(K:av):Sp:=Qj K lK
theorem y9:qw lK:=by
 rintro ds Q Q' f ⟨ms,zs,rs,z3,hg,hO,q⟩
 exact⟨ms,zs,rs,z3,hg,hO,by intros;apply f;apply q<;>assumption⟩
theorem za{K:av}:B9 K (g7 K) lK:=xE
def lL:xD:=λds Q=>∃(ns:List Int) (ms:bY) (zs:List Nat) (rs:List Rk) (k:Nat) (r:Rk),ds=[.list (ns.map PyData.int),.list (ms.map xG),.list (rs.map tq),.int (k:Int)]/\Good ms zs/\rs[k]?=some r/\r.c < ms.length/\∀ks:List Kd,ks.length=5->Q (.list (fM ks))
def g8(K:av):Sp:=Qj K lL
theorem zb:qw lL:=by
 rintro ds Q Q' f ⟨ns,ms,zs,rs,k,r,z6,hg,hrk,hc,q⟩
 exact⟨ns,ms,zs,rs,k,r,z6,hg,hrk,hc,by intros;apply f;apply q<;>assumption⟩
theorem zc{K:av}:B9 K (g8 K) lL:=xE
def hJ(K:av):Sp:=λvs H Q _=>∃(a:Addr) (ms:bY) (c:Nat),vs=[.ref a,.int c]/\cC K H a ms/\Wf ms/\c < ms.length/\∀(r:Addr) (H':Hp),aB H H'->H r=none->H' r=some (.lst (kC (bt ms c)))->Q (.ref r) H'
def iZ(K:av):Sp:=λvs H Q _=>∃(a:Addr) (ms:bY) (c o:Nat),vs=[.ref a,.int c,.int o]/\cC K H a ms/\Wf ms/\c < ms.length/\∀(H':Hp),aB H H'->Q (.bl (decide (o∈bt ms c))) H'
def eE(K:av):Sp:=λvs H Q _=>∃(a:Addr) (ms:bY) (v:V) (t:Addr) (r:Rk) (k:Kd),vs=[.ref a,v,.ref t]/\cC K H a ms/\Wf ms/\uK K H true v r/\r.c < ms.length/\ba K H t (O4 k)/\k≠.any/\k≠.num/\∀(H':Hp),aB H H'->Q (.bl (Cj ms r k)) H'
def gm(K:av):Sp:=λvs H Q _=>∃(a:Addr) (ms:bY) (hp:Addr) (rs:List V) (rcs:List Rk) (v:V) (x:Vl) (t:Addr) (k:Kd),vs=[.ref a,.ref hp,v,.ref t]/\cC K H a ms/\Wf ms/\bc K H hp rs/\wD (uK K H true) rs rcs/\(∀r∈rcs,r.c < ms.length)/\aS K H v (wC x)/\(∀n,x=.rcd n->n < rcs.length)/\ba K H t (O4 k) /\
 ∀(H':Hp),aB H H'->Q (.bl (hasB ms rcs x k)) H'
def vM:xD:=λds Q=>∃(ms:bY) (rcs:List Rk) (x:Vl) (k:Kd),ds=[.list (ms.map xG),.list (rcs.map tq),wC x,.tuple (yS k)]/\Wf ms/\(∀r∈rcs,r.c < ms.length)/\(∀n,x=.rcd n->n < rcs.length)/\Q (.bool (hasB ms rcs x k))
theorem tw:qw vM:=by
 rintro ds Q Q' f ⟨ms,rcs,x,k,e,h0,h1,h2,q⟩
 exact⟨ms,rcs,x,k,e,h0,h1,h2,f _ q⟩
theorem tx{K:av}:B9 K (gm K) vM:=by
 rintro vs H Q P ds hP hv ⟨ms,rcs,x,k,rfl,h0,h1,h2,q⟩
 have hl:=hv.1
 obtain⟨v0,v1,v2,v3,rfl⟩:=Wo hl
 obtain⟨a,rfl,hM⟩:=cC.wM (ms:=ms) (hv.2 0 v0 _ rfl rfl).now
 obtain⟨hp,rs,rfl,hS,_,hR⟩:=aP.dI (hv.2 1 v1 _ rfl rfl)
 obtain⟨t,rfl,ht⟩:=yX (k:=k) (hv.2 3 v3 _ rfl rfl).now
 exact⟨a,ms,hp,rs,rcs,v2,x,t,k,rfl,hM,h0,hS,QO (hR.imp λy x z=>z.now),h1,(hv.2 2 v2 _ rfl rfl).now,h2,ht,λH' s=>q _ H' s (.bl _)⟩
def lM:xD:=λds Q=>∃(ns:List Int) (ms:bY) (zs:List Nat) (rs rs':List Rk),ds=[.list (ns.map PyData.int),.list (ms.map xG),.list (rs.map tq),.list (rs'.map tq)]/\Good ms zs/\gC rs rs'/\(∀r∈rs,r.c < ms.length)/\(∀r∈rs',r.c < ms.length)/\rs.length<=1000000/\Q (.bool true)
def hZ(K:av):Sp:=Qj K lM
theorem zd:qw lM:=by
 rintro ds Q Q' f ⟨ns,ms,zs,rs,rs',z5,hg,hG,h1,h2,hl,q⟩
 exact⟨ns,ms,zs,rs,rs',z5,hg,hG,h1,h2,hl,by intros;apply f;apply q<;>assumption⟩
theorem ze{K:av}:B9 K (hZ K) lM:=xE
def uM(K:av)(aa:Addr)(C:Addr)(wt:Bool):Sp:=λvs H Q _=>∃(mm:Mc),vs=[.ref mm.ma]/\bG K H aa C wt mm /\
 ∀(l:Addr) (ys:List V) (H':Hp),aB H H'->H l=none->H' l=some (.lst ys)->wD (uK K H' wt) ys mm.recs->Q (.ref l) H'
theorem DK{K:av}{CF C:Addr}{wt:Bool}:AM K C "heap" (uM K CF C wt) (y2 CF C wt):=by
 intro H0 A0 G al H st k a r Q R I ha q kn
 unfold y2 at q
 split at q
 ·rename_i o hs
  obtain⟨p,rfl,q⟩:=q
  obtain⟨_,m,ef,rfl,hM,hB⟩:=I.cel k _ _ ha hs
  have ea:=yZ ef
  subst ea
  obtain⟨dx,ev,h1,h2⟩:=hM.ob
  refine⟨dx,_,h1,mc_no (by decide +kernel),m,rfl,hM,λl ys H' s nl g hF=>kn.laid I s (.d ?_) q⟩
  have I':=I.same s
  exact aP.lst (I'.Tj nl s I) g (df.map ⟨hF.1,λi y x hy hx=>QN I' (hF.2 i y x hy hx)⟩)
 ·exact q.elim
def i4(K:av)(wt:Bool):Sp:=λvs H Q _=>∃(x v:V) (y:Vl),vs=[x,v]/\uJ K H wt v y/\y≠.none/\Q (.int (eZ y)) H
theorem MV{α:Type}{xs:List α}{i:Nat}(h:i < xs.length):(xs.take (xs.length - i))[(xs.take (xs.length - i)).length - 1]?=some (xs[xs.length - i - 1]'(by omega)):=by
 rw[List.length_take,show min (xs.length - i) xs.length - 1=xs.length - i - 1 by omega,List.getElem?_take_of_lt (by omega)]
 exact cV (by omega)
theorem MW{α:Type}{xs:List α}{i:Nat}(h:i < xs.length):(xs.take (xs.length - i)).dropLast=xs.take (xs.length - (i + 1)):=by
 rw[List.dropLast_eq_take,List.take_take,List.length_take]
 congr 1
 omega
theorem QQ{α:Type}{xs:List α}{i:Nat}(h:i < xs.length):(xs.drop (xs.length - i)).reverse++[xs[xs.length - i - 1]'(by omega)]=(xs.drop (xs.length - (i + 1))).reverse:=by
 have e:xs.drop (xs.length - (i + 1))=xs[xs.length - i - 1]'(by omega)::xs.drop (xs.length - i):=by
  rw[show xs.length - (i + 1)=xs.length - i - 1 by omega,List.drop_eq_getElem_cons (by omega)]
  congr 2
  omega
 rw[e,List.reverse_cons]
def lN(K:av):Sp:=λvs H Q _=>∃(sl:Addr) (xs:List V) (n:Nat),vs=[.ref sl,.int (n:Int)]/\H sl=some (.lst xs)/\n<=xs.length/\n<=100 /\
 ∀(l:Addr) (H':Hp),H l=none->H' l=some (.lst (xs.drop (xs.length - n)))->H' sl=some (.lst (xs.take (xs.length - n)))->(∀c o,c≠sl->H c=some o->H' c=some o)->Q (.ref l) H'
def jd(_K:av)(C:Addr):Sp:=λvs H Q _=>∃(x dx bl:Addr) (p:Int),vs=[.ref x,.int p,.ref bl]/\H x=some (.ins C dx []) /\
 ∀(sl:Addr) (H':Hp),H sl=none->H' x=some (.ins C dx (se p 0 bl sl))->H' sl=some (.lst [])->(∀c o,c≠x->H c=some o->H' c=some o)->Q .non H'
theorem DL{α:Type}(a:α)(n:Nat):(List.replicate n [a]).flatten=List.replicate n a:=by
 induction n with
 | zero=>rfl
 | succ n ih=>rw[List.replicate_succ,List.flatten_cons,ih,List.replicate_succ];rfl
def pC(K:av)(aa:Addr):Sp:=λvs H Q _=>∃(pl vl:Addr) (ps:List Pt) (xs ys:List V) (j:Nat) (p:Pt) (n:V),vs=[.ref pl,.int (j:Int),.ref vl,n]/\bc K H pl xs/\aF K H xs (ps.map BB)/\ps[j]?=some p/\bc K H vl ys/\ys.length<=p.boxes/\p.boxes<=8 /\
 ∀(fa bl sl:Addr) (H':Hp),H fa=none->H bl=none->H sl=none->bl≠sl->(∃dx,H' fa=some (.ins aa dx (se (j:Int) 0 bl sl)))->H' bl=some (.lst (ys++List.replicate (p.boxes - ys.length) n))->H' sl=some (.lst [])->aB H H'->Q (.ref fa) H'
def pD(K:av)(wt:Bool):Sp:=λvs H Q _=>∃(x:V),vs=[x]/\∀v,uJ K H wt v .none->Q v H
theorem bG.push{K:av}{H H1:Hp}{CF C:Addr}{wt:Bool}{m:Mc}{f:Fm}(h:bG K H CF C wt m)(s:aB H H1)(hF:fN K H1 CF wt f)(fr:∀c∈dF f,H c=none)(nf:(dF f).Nodup):bG K (upd H1 m.lv (.lst ((m.aV++[f]).map λf=>.ref f.fa))) CF C wt {m with aV:=m.aV++[f]}/\ay (foot m) H (upd H1 m.lv (.lst ((m.aV++[f]).map λf=>.ref f.fa))):=by
 have M1:=h.same s
 have Wy:=h.jV
 have nd:=M1.nd
 have kx:ay [m.lv] H1 (upd H1 m.lv (.lst ((m.aV++[f]).map λf=>.ref f.fa))):=aI
 have sub:∀c∈[m.lv],c∈foot m:=λc hc=>by rw[bJ hc];simp[foot]
 have mu:=M1.jV.sub sub
 have kA:ay (foot m) H (upd H1 m.lv (.lst ((m.aV++[f]).map λf=>.ref f.fa))):=(cg s).trans (kx.sub sub)
 have ef:foot {m with aV:=m.aV++[f]}=foot m++dF f:=by simp[foot]
 have dis:∀c∈dF f,c∉foot m:=λc hc hz=>by
  obtain⟨o,e,_⟩:=Wy c hz
  rw[fr c hc]at e
  cases e
 have Uo:=nd
 simp only[foot,List.nodup_cons,List.mem_cons,not_or]at Uo
 obtain⟨dx,ev,h1,h2⟩:=M1.ob
 refine⟨⟨⟨dx,ev,kx _ _ (λz=>Uo.1.1 (bJ z)) h1,h2.keep kx mu⟩,?_,uS,M1.rc.keep kx mu (λz=>Uo.2.1.1 (bJ z).symm),kx _ _ (λz=>Uo.2.1.2.1 (bJ z).symm) M1.sd,λg hg=>?_,?_⟩,kA⟩
 ·obtain⟨mk,pl,xs,hb⟩:=h.bk
  refine⟨mk,pl,xs,λHX kX=>hb HX λc o n e=>kX c o ?_ (kA c o n e)⟩
  rw[ef,List.mem_append,not_or]
  exact⟨n,λhz=>by rw[fr c hz]at e;cases e⟩
 ·rcases List.mem_append.mp hg with z | z
  ·refine(M1.fr g z).keep kx mu (λc hc hz=>?_)
   rw[bJ hz]at hc
   exact Uo.2.1.2.2 (List.mem_flatMap.mpr ⟨g,z,hc⟩)
  ·rw[bJ z]
   refine hF.keep kx mu (λc hc hz=>dis c hc (sub c hz))
 ·rw[ef,List.nodup_append]
  exact⟨nd,nf,λc hc d hd e=>dis d hd (by rw[← e];exact hc)⟩
def ia(K:av)(aa:Addr)(C:Addr)(wt:Bool):Sp:=λvs H Q _=>∃(mm:Mc) (vl:Addr) (ys:List V) (us:List Vl) (j:Nat) (p:Pt),vs=[.ref mm.ma,.int (j:Int),.ref vl]/\bG K H aa C wt mm/\mm.ps[j]?=some p/\bc K H vl ys/\fA K H wt ys us/\us.length<=p.boxes/\p.boxes<=8/\mm.aV.length<=100 /\
 ∀(f:Fm) (H':Hp),bG K H' aa C wt {mm with aV:=mm.aV++[f]}->f.part=j->f.at'=0->f.bx=us++List.replicate (p.boxes - us.length) .none->f.st=[]->(∀c∈dF f,H c=none)->ay (foot mm) H H'->Q .non H'
def pE(K:av):Sp:=λvs H Q _=>∃(a:Addr) (ys:List V) (ss:Sk) (p:Int),vs=[.ref a,.int p]/\bc K H a ys/\Sl K H ys ss/\Q (Wv (pA ss p)) H
def HP(H:Hp)(l:Addr):Nat:=match H l with
 | some (.lst xs)=>xs.length
 | _=>0
theorem Ay{H:Hp}{l:Addr}{xs:List V}(h:H l=some (.lst xs)):HP H l=xs.length:=by unfold HP;rw[h]
def jW(K:av)(aa:Addr):Sp:=λvs H Q _=>∃(pl lv:Addr) (xs:List V) (ps:List Pt) (aV:List Fm),vs=[.ref pl,.ref lv]/\H lv=some (.lst (aV.map λf=>.ref f.fa))/\(∀HX,ay [lv] H HX->bc K HX pl xs/\aF K HX xs (ps.map BB))/\(∀f∈aV,(∃dx,H f.fa=some (.ins aa dx (se f.part f.at' f.bl f.sl)))/\∃p,ps[f.part]?=some p) /\
 (∀(H':Hp),(∀f∈aV,FE ps f.pf=none)->H' lv=some (.lst [])->ay [lv] H H'->Q .non H') /\
 ∀(fs gs:List Fm) (f:Fm) (t:Nat) (H':Hp),aV=fs++f::gs->(∀g∈gs,FE ps g.pf=none)->FE ps f.pf=some t->H' lv=some (.lst ((fs++[f]).map λf=>.ref f.fa))->ay [lv] H H'->Q (.int (t:Int)) H'
def qJ(K:av)(aa:Addr)(C:Addr)(wt:Bool):Sp:=λvs H Q _=>∃(mm:Mc),vs=[.ref mm.ma]/\bG K H aa C wt mm /\
 (0 < mm.left->∀H',bG K H' aa C wt {mm with left:=mm.left - 1}->ay [mm.ma] H H'->Q (.bl true) H')/\(mm.left<=0->∀H',bG K H' aa C wt {mm with fin:=[.inl "weary"]}->ay [mm.ma] H H'->Q (.bl false) H')
def After(K:av)(CF C:Addr)(wt:Bool)(H:Hp)(mm:Mc)(p':PM)(Q:Hp->Prop):Prop:=∀(m':Mc) (H':Hp),m'.pm=p'->(m'.ma=mm.ma/\m'.b=mm.b)->bG K H' CF C wt m'->(∀c∈foot m',c∈foot mm∨H c=none)->ay (foot mm) H H'->Q H'
theorem lO{m:Mc}{fs:List Fm}{f:Fm}:({m with aV:=fs++[f]}:Mc).pm={m.pm with aV:=fs.map Fm.pf++[f.pf]}:=by
 unfold Mc.pm
 simp
def qL(K:av)(aa:Addr)(C:Addr)(wt:Bool):Sp:=λvs H Q _=>∃(mm:Mc) (fs:List Fm) (f:Fm) (t:Nat),vs=[.ref mm.ma,.ref f.fa,.int (t:Int)]/\bG K H aa C wt mm/\mm.aV=fs++[f] /\
 After K aa C wt H mm (MM mm.pm (fs.map Fm.pf) f.pf t) (Q .non)
def Wz:Vl->Str
 | .rcd _=>"record"
 | _=>"number"
def fO(K:av)(wt:Bool):Sp:=λvs H Q _=>∃(x:V) (y:Vl),y≠.none/\vs=[x,.str (Wz y),.int (eZ y)]/\∀v H',aB H H'->uJ K H' wt v y->Q v H'
theorem bG.cut{K:av}{H H':Hp}{CF C:Addr}{wt:Bool}{m:Mc}{fs gs:List Fm}(h:bG K H CF C wt m)(hf:m.aV=fs++gs)(k:ay [m.lv] H H')(e:H' m.lv=some (.lst (fs.map λf=>.ref f.fa))):bG K H' CF C wt {m with aV:=fs}/\∀c∈foot {m with aV:=fs},c∈foot m:=by
 have nd:=h.nd
 have ef:foot m=m.ma::m.lv::m.rc::m.sd::(fs.flatMap dF++gs.flatMap dF):=by unfold foot;rw[hf];simp
 have Vq:foot {m with aV:=fs}=m.ma::m.lv::m.rc::m.sd::fs.flatMap dF:=rfl
 rw[ef]at nd
 simp only[List.nodup_cons,List.mem_cons,List.mem_append,not_or]at nd
 have sub:∀c∈[m.lv],c∈foot m:=λc hc=>by rw[bJ hc];exact bC.2.1
 have zf:∀c∈foot {m with aV:=fs},c∈foot m:=λc hc=>by
  rw[Vq]at hc
  rw[ef]
  simp only[List.mem_cons]at hc
  simp only[List.mem_cons,List.mem_append]
  rcases hc with hc | hc | hc | hc | hc
  ·exact .inl hc
  ·exact .inr (.inl hc)
  ·exact .inr (.inr (.inl hc))
  ·exact .inr (.inr (.inr (.inl hc)))
  ·exact .inr (.inr (.inr (.inr (.inl hc))))
 have mu:=h.jV.sub sub
 obtain⟨dx,ev,h1,h2⟩:=h.ob
 refine⟨⟨⟨dx,ev,k _ _ (λz=>nd.1.1 (bJ z)) h1,h2.keep k mu⟩,h.bk.to (k.sub sub) zf,e,h.rc.keep k mu (λz=>nd.2.1.1 (bJ z).symm),k _ _ (λz=>nd.2.1.2.1 (bJ z).symm) h.sd,λg hg=>(h.fr g (by rw[hf];exact List.mem_append_left _ hg)).keep k mu (λc hc hz=>?_),?_⟩,zf⟩
 ·rw[bJ hz]at hc
  exact nd.2.1.2.2.1 (List.mem_flatMap.mpr ⟨g,hg,hc⟩)
 ·have nn:=nd.2.2.2.2
  rw[List.nodup_append]at nn
  rw[Vq]
  simp only[List.nodup_cons,List.mem_cons,not_or]
  exact⟨⟨nd.1.1,nd.1.2.1,nd.1.2.2.1,nd.1.2.2.2.1⟩,⟨nd.2.1.1,nd.2.1.2.1,nd.2.1.2.2.1⟩,⟨nd.2.2.1.1,nd.2.2.1.2.1⟩,nd.2.2.2.1.1,nn.1⟩
theorem bG.Up{K:av}{H H1:Hp}{CF C dx l:Addr}{wt:Bool}{m:Mc}{fs:List Fm}{f:Fm}{ys:List V}{st:List Vl}(h:bG K H CF C wt m)(hf:m.aV=fs++[f])(s:aB H H1)(nl:H l=none)(g:H1 l=some (.lst ys))(hy:fA K H1 wt ys st)(ob:H1 f.fa=some (.ins CF dx (se f.part f.at' f.bl f.sl))):bG K (upd H1 f.fa (.ins CF dx (se f.part f.at' f.bl l))) CF C wt {m with aV:=fs++[{f with sl:=l,st:=st}]}/\ay (foot m) H (upd H1 f.fa (.ins CF dx (se f.part f.at' f.bl l))):=by
 have M1:=h.same s
 have Wy:=h.jV
 have nd:=h.nd
 have mu:aU H1 [f.fa]:=M1.jV.sub (λc hc=>by rw[bJ hc];exact e7 hf _ (by simp[dF]))
 have k:ay [f.fa] H1 (upd H1 f.fa (.ins CF dx (se f.part f.at' f.bl l))):=aI
 have nlf:l∉foot m:=Ug Wy nl
 have ef:∀c,c∈foot {m with aV:=fs++[{f with sl:=l,st:=st}]}->c∈foot m∨c=l:=λc hc=>by
  rw[cE (m:={m with aV:=fs++[{f with sl:=l,st:=st}]}) rfl]at hc
  rw[cE hf]
  simp only[dF,List.mem_cons,List.mem_append,List.not_mem_nil,or_false]at hc ⊢
  rcases hc with z | z | z | z | z | z | z | z
  ·exact .inl (.inl z)
  ·exact .inl (.inr (.inl z))
  ·exact .inl (.inr (.inr (.inl z)))
  ·exact .inl (.inr (.inr (.inr (.inl z))))
  ·exact .inl (.inr (.inr (.inr (.inr (.inl z)))))
  ·exact .inl (.inr (.inr (.inr (.inr (.inr (.inl z))))))
  ·exact .inl (.inr (.inr (.inr (.inr (.inr (.inr (.inl z)))))))
  ·exact .inr z
 have kA:ay (foot m) H (upd H1 f.fa (.ins CF dx (se f.part f.at' f.bl l))):=(cg s).trans (k.sub λc hc=>by rw[bJ hc];exact e7 hf _ (by simp[dF]))
 rw[cE hf]at nd nlf
 simp only[dF,List.nodup_cons,List.nodup_append,List.mem_cons,List.mem_append,List.not_mem_nil,or_false,not_or,not_false_eq_true,List.nodup_nil,and_true]at nd nlf
 obtain⟨⟨dx',ev,h1,h2⟩,bk,lv,rc,sd,fr,_⟩:=M1
 have hF:=fr f (by rw[hf];simp)
 have nfl:l≠f.fa:=nlf.2.2.2.2.2.1
 have hne:f.bl≠l:=λe=>nlf.2.2.2.2.2.2.1 e.symm
 refine⟨⟨⟨dx',ev,k _ _ (λz=>nd.1.2.2.2.2.1 (bJ z)) h1,h2.keep k mu⟩,?_,?_,rc.keep k mu (λz=>nd.2.2.1.2.2.1 (bJ z)),k _ _ (λz=>nd.2.2.2.1.2.1 (bJ z)) sd,λg' hg=>?_,?_⟩,kA⟩
 ·obtain⟨mk,pl,xs,hb⟩:=h.bk
  refine⟨mk,pl,xs,λHX kX=>hb HX λc o n e=>kX c o (λhc=>?_) (kA c o n e)⟩
  rcases ef c hc with z | z
  ·exact n z
  ·rw[z,nl]at e;cases e
 ·have z:=k _ _ (λz=>nd.2.1.2.2.2.1 (bJ z)) lv
  rw[hf]at z
  show _=some (HO.lst ((fs++[{f with sl:=l,st:=st}]).map λf:Fm=>V.ref f.fa))
  rw[z,List.map_append,List.map_append]
  rfl
 ·rcases List.mem_append.mp hg with z | z
  ·refine(fr g' (by rw[hf];exact List.mem_append_left _ z)).keep k mu (λc hc hz=>?_)
   rw[bJ hz]at hc
   exact nd.2.2.2.2.2.2 f.fa (List.mem_flatMap.mpr ⟨g',z,hc⟩) f.fa (.inl rfl) rfl
  ·rw[bJ z]
   obtain⟨_,⟨bs,e2,e3⟩,_,_⟩:=hF
   obtain⟨n1,n2⟩:=(fr f (by rw[hf];simp)).fs
   exact⟨⟨dx,uS⟩,⟨bs,(uN n1.symm).trans e2,e3.keep k mu⟩,⟨ys,(uN nfl).trans g,hy.keep k mu⟩,hne⟩
 ·rw[cE (m:={m with aV:=fs++[{f with sl:=l,st:=st}]}) rfl]
  simp only[dF,List.nodup_cons,List.nodup_append,List.mem_cons,List.mem_append,List.not_mem_nil,or_false,not_or,not_false_eq_true,List.nodup_nil,and_true]
  obtain⟨a1,a2,a3,a4,b1,b2,b3⟩:=nd
  refine⟨⟨a1.1,a1.2.1,a1.2.2.1,a1.2.2.2.1,a1.2.2.2.2.1,a1.2.2.2.2.2.1,λe=>nlf.1 e.symm⟩,⟨a2.1,a2.2.1,a2.2.2.1,a2.2.2.2.1,a2.2.2.2.2.1,λe=>nlf.2.1 e.symm⟩,⟨a3.1,a3.2.1,a3.2.2.1,a3.2.2.2.1,λe=>nlf.2.2.1 e.symm⟩,⟨a4.1,a4.2.1,a4.2.2.1,λe=>nlf.2.2.2.1 e.symm⟩,b1,⟨⟨b2.1.1,λe=>nfl e.symm⟩,λe=>hne e⟩,λc hc d hd e=>?_⟩
  rcases hd with z | z | z
  ·exact b3 c hc d (.inl z) e
  ·exact b3 c hc d (.inr (.inl z)) e
  ·rw[e,z]at hc;exact nlf.2.2.2.2.1 hc
def qM(K:av)(aa:Addr)(C:Addr)(wt:Bool):Sp:=λvs H Q _=>∃(mm:Mc) (n:Int),vs=[.ref mm.ma,.int n]/\bG K H aa C wt mm/\(∀f∈mm.aV,∃p,mm.ps[f.part]?=some p) /\
 After K aa C wt H mm (lF mm.pm n) (Q .non)
def pF(K:av)(aa:Addr)(C:Addr)(wt:Bool):Sp:=λvs H Q _=>∃(mm:Mc) (fs:List Fm) (f:Fm) (k:Nat) (st us:List Vl) (pq:Pt),vs=[.ref mm.ma,.ref f.fa,.int (k:Int)]/\bG K H aa C wt mm/\mm.aV=fs++[f]/\mm.ps[k]?=some pq/\f.st=st++us/\us.length=pq.takes.length/\us.length<=pq.boxes/\pq.boxes<=8/\(∀f∈mm.aV,∃p,mm.ps[f.part]?=some p)/\mm.aV.length<=12 /\
 After K aa C wt H mm (xM mm.pm (fs.map Fm.pf) f.pf k st us pq) (Q .non)
def pG(K:av)(aa:Addr)(C:Addr)(wt:Bool):Sp:=λvs H Q _=>∃(mm:Mc) (fs:List Fm) (f:Fm) (st:List Vl) (x:Vl),vs=[.ref mm.ma,.ref f.fa]/\bG K H aa C wt mm/\mm.aV=fs++[f]/\f.st=st++[x]/\(fs=[]->x≠.none)/\(∀g∈fs,g.st.length<=1000)/\mm.aV.length<=12 /\
 After K aa C wt H mm (As mm.pm (fs.map Fm.pf) x) (Q .non)
def zg(K:av)(aa:Addr)(C:Addr)(wt:Bool):Sp:=λvs H Q _=>∃(mm:Mc) (fs:List Fm) (f:Fm) (g:PF) (r:Rw) (rt:Addr) (t:Nat) (b:Bool),vs=[.ref mm.ma,.ref f.sl,.ref rt]/\bG K H aa C wt mm/\mm.aV=fs++[f]/\ba K H rt (xJ r)/\Wf mm.ms/\sZ mm.ms mm.recs r f.pf g t b /\
 ∀(f':Fm) (H':Hp),f'.pf=g->f'.fa=f.fa->f'.bl=f.bl->f'.sl=f.sl->bG K H' aa C wt {mm with aV:=fs++[f']}->ay (dF f) H H'->Q (.bl b) H'
def lP(K:av)(aa:Addr)(C:Addr)(wt:Bool):Sp:=λvs H Q _=>∃(mm:Mc) (fs:List Fm) (f:Fm) (g:PF) (r:Rw) (rt:Addr) (t:Nat) (b:Bool),vs=[.ref mm.ma,.ref f.fa,.ref rt]/\bG K H aa C wt mm/\mm.aV=fs++[f]/\ba K H rt (xJ r)/\Wf mm.ms/\sZ mm.ms mm.recs r f.pf g t b /\
 After K aa C wt H mm (HE mm.pm (fs.map Fm.pf) g t b) (Q .non)
def lQ(K:av)(wt:Bool):Sp:=λvs H Q _=>∃(x v:V) (r:Rk),vs=[x,v]/\uK K H wt v r/\∀(v':V) (H':Hp),aB H H'->uK K H' wt v' {r with begun:=true}->Q v' H'
def fc(K:av):Sp:=λvs H Q _=>∃(a:Addr) (ms:bY) (c:Nat),vs=[.ref a,.int c]/\cC K H a ms/\Wf ms/\Fy ms/\c < ms.length /\
 ∀(r:Addr) (ks:List V) (H':Hp),aB H H'->H r=none->H' r=some (.lst ks)->aF K H ks (fM (fields ms c))->Q (.ref r) H'
def je(K:av)(aa:Addr)(C:Addr)(wt:Bool):Sp:=λvs H Q _=>∃(mm:Mc) (c:Nat),vs=[.ref mm.ma,.int (c:Int)]/\bG K H aa C wt mm/\Wf mm.ms/\Fy mm.ms/\c < mm.ms.length /\
 ∀(v:V) (H':Hp),aB H H'->uK K H' wt v ⟨c,false,0,List.replicate (fields mm.ms c).length .none⟩->Q v H'
theorem Em{xs:List V}{i:Nat}{v:V}(h:i < xs.length):xs.take i++[v]++xs.drop (i + 1)=xs.set i v:=by
 rw[List.set_eq_take_append_cons_drop,if_pos h,List.append_assoc]
 rfl
theorem HQ{xs:List V}{n:Nat}:jr xs none (some (n:Int))=xs.take n:=Qz
def lR(K:av):Sp:=λvs H Q _=>∃(t:Addr) (xs:List V) (i:Nat) (v:V),vs=[.ref t,.int (i:Int),v]/\ba K H t xs/\i < xs.length/\xs.length<=100/\∀(r:Addr) (H':Hp),aB H H'->ba K H' r (xs.set i v)->Q (.ref r) H'
def jf(K:av)(wt:Bool):Sp:=λvs H Q _=>∃(x v u:V) (r:Rk) (f:Nat) (y:Vl),vs=[x,v,.int (f:Int),u]/\uK K H wt v r/\uJ K H wt u y/\f < r.fs.length/\r.fs.length<=100/\∀(v':V) (H':Hp),aB H H'->uK K H' wt v' {r with mask:=r.mask ||| 2 ^ f,fs:=r.fs.set f y}->Q v' H'
def fP(K:av)(aa:Addr)(C:Addr)(wt:Bool):Sp:=λvs H Q _=>∃(mm:Mc) (fs:List Fm) (f:Fm) (g:PF) (r:Rw) (rt:Addr) (rs:List Rk),vs=[.ref mm.ma,.ref f.sl,.ref rt]/\bG K H aa C wt mm/\mm.aV=fs++[f]/\ba K H rt (xJ r)/\Wf mm.ms/\Fy mm.ms/\zR mm.ms r f.pf mm.recs g rs/\f.st.length<=1000/\mm.recs.length<=900000 /\
 ∀(f':Fm) (H':Hp),f'.pf=g->f'.fa=f.fa->f'.bl=f.bl->f'.sl=f.sl->bG K H' aa C wt {mm with aV:=fs++[f'],recs:=rs}->ay (foot mm) H H'->Q .non H'
def jX(_K:av):Sp:=λvs H Q _=>∃n:Int,vs=[.int n]/\Q (.int (qC n)) H
def pH(_K:av):Sp:=λvs H Q _=>∃(sign:Str) (a b:Int),vs=[.str sign,.int a,.int b]/\parts sign/\Hy a/\Hy b/\b≠0/\Q (.int (rk sign a b)) H
def lS(_K:av):Sp:=λvs H Q _=>∃(sign:Str) (a b:Int),vs=[.str sign,.int a,.int b]/\(sign="add"∨sign="sub"∨sign="mul"∨sign="less"∨sign="same"∨parts sign)/\Hy a/\Hy b/\(parts sign->b≠0)/\Q (.int (rk sign a b)) H
def gE(K:av)(aa:Addr)(C:Addr)(wt:Bool):Sp:=λvs H Q _=>∃(mm:Mc) (fs:List Fm) (f:Fm) (s:Str) (st:List Vl) (a b:Int),vs=[.ref mm.ma,.ref f.fa,.str s]/\bG K H aa C wt mm/\mm.aV=fs++[f]/\f.st=st++[.num a,.num b]/\(s="add"∨s="sub"∨s="mul"∨s="less"∨s="same"∨parts s)/\Hy a/\Hy b/\(parts s->b≠0)/\f.st.length<=1000 /\
 ∀(H':Hp),bG K H' aa C wt {mm with aV:=fs++[{f with st:=st++[.num (rk s a b)],at':=f.at' + 1}]}->ay (foot mm) H H'->Q .non H'
def iJ(K:av)(aa:Addr)(C:Addr)(wt:Bool):Sp:=λvs H Q _=>∃(mm:Mc) (fs:List Fm) (f:Fm) (g:PF) (r:Rw) (rt:Addr) (sd:List Int),vs=[.ref mm.ma,.ref f.fa,.ref rt]/\bG K H aa C wt mm/\mm.aV=fs++[f]/\ba K H rt (xJ r)/\zQ r f.pf mm.said g sd/\f.st.length<=1000/\mm.said.length<=900000 /\
 ∀(f':Fm) (H':Hp),f'.pf=g->f'.fa=f.fa->f'.bl=f.bl->f'.sl=f.sl->bG K H' aa C wt {mm with aV:=fs++[f'],said:=sd}->ay (foot mm) H H'->Q .non H'
def sj(K:av)(aa:Addr)(C:Addr)(wt:Bool):Sp:=λvs H Q _=>∃(mm:Mc) (fs:List Fm) (f:Fm) (r:Rw) (rt:Addr) (p':PM),vs=[.ref mm.ma,.ref f.fa,.ref rt]/\bG K H aa C wt mm/\mm.aV=fs++[f]/\ba K H rt (xJ r)/\HG mm.pm/\uk mm.pm (fs.map Fm.pf) f.pf r p' /\
 After K aa C wt H mm p' (Q .non)
def sq(K:av)(aa:Addr)(C:Addr)(wt:Bool):Sp:=λvs H Q _=>∃(mm:Mc) (fs:List Fm) (f:Fm) (r:Rw) (rt:Addr) (p:Pt) (ks:List Kd),vs=[.ref mm.ma,.ref f.fa,.ref rt]/\bG K H aa C wt mm/\mm.aV=fs++[f]/\ba K H rt (xJ r)/\mm.ps[f.part]?=some p/\Wf mm.ms/\f.st.length<=1000/\ks.length<=1000/\(∀r∈mm.recs,r.c < mm.ms.length)/\(∀n,.rcd n∈f.st->n < mm.recs.length)/\HH K mm.ms mm.ps f.part r ks /\
 ∀(H':Hp),aB H H'->Q (Uh (if wt=true then e9 mm.ms mm.recs p.height f.st ks (qg r)else none)) H'
def jY(K:av):Sp:=λvs H Q _=>∃(a:Addr) (ms:bY) (c:Nat),vs=[.ref a,.int c]/\cC K H a ms/\Wf ms/\Fy ms/\c < ms.length /\
 ∀(H':Hp),aB H H'->Q (.int (2 ^ (fields ms c).length - 1)) H'
def dM(K:av):Sp:=λvs H Q _=>∃(mk rw:Addr) (ms:bY) (sign:Str) (xs:List V) (ks:List Kd),vs=[.ref mk,.ref rw]/\cC K H mk ms/\Wf ms/\Fy ms/\ba K H rw (.str sign::xs)/\Ci ms sign xs ks /\
 ∀(r:Addr) (ys:List V) (H':Hp),aB H H'->H r=none->H' r=some (.lst ys)->aF K H' ys (fM ks)->Q (.ref r) H'
theorem MX:eS bu "call"=none:=by decide +kernel
theorem MY:eS bu "give"=none:=by decide +kernel
theorem QR{ms:bY}{sign:Str}{xs:List V}{ks:List Kd}(h:Ci ms sign xs ks):eS bu sign=none/\¬ (V.str sign=V.str "call")/\¬ (V.str sign=V.str "give"):=by
 cases h<;>exact⟨by decide +kernel,by decide +kernel,by decide +kernel⟩
def vN(K:av):Sp:=λvs H Q _=>∃(b mk pl rw:Addr) (part:Nat) (sign:Str) (xs:List V) (ks:List Kd),vs=[.ref b,.int part,.ref rw]/\ba K H b [.ref mk,.ref pl]/\ba K H rw (.str sign::xs)/\vA K H mk pl part sign xs ks /\
 ∀(r:Addr) (ys:List V) (H':Hp),aB H H'->H r=none->H' r=some (.lst ys)->aF K H' ys (fM ks)->Q (.ref r) H'
def su(K:av):Sp:=λvs H Q _=>∃(rw:Addr) (sign:Str) (xs:List V),vs=[.ref rw]/\ba K H rw (.str sign::xs)/\Q (.int (pk sign)) H
def uO(K:av)(aa:Addr)(C:Addr)(wt:Bool):Sp:=λvs H Q _=>∃(mm:Mc) (p':PM),vs=[.ref mm.ma]/\bG K H aa C wt mm/\vG K wt mm.pm p' /\
 After K aa C wt H mm p' (Q .non)
theorem MZ{K:av}{CF C:Addr}{wt:Bool}:AM K C "step" (uO K CF C wt) (Co K CF C wt):=by
 intro H0 A0 G al H st k a r Q R I ha q kn
 unfold Co at q
 split at q
 ·rename_i o hs
  obtain⟨p,p',rfl,hS,q⟩:=q
  obtain⟨_,m,ef,rfl,hM,hB⟩:=I.cel k _ _ ha hs
  have ea:=yZ ef
  subst ea
  obtain⟨dx,ev,h1,h2⟩:=hM.ob
  refine⟨dx,_,h1,mc_no (by decide +kernel),m,p',rfl,hM,hS,λm' H' e1 e2 M' fr' kp'=>?_⟩
  have kms:p'.ms=m.ms/\p'.ps=m.ps:=hS.book
  obtain⟨r',er⟩:∃r',foot m'=m.ma::r':=⟨_,by unfold foot;rw[e2.1]⟩
  have nd':=M'.nd
  rw[er]at nd' fr'
  rw[ef]at kp' fr'
  have ems:m'.ms=m.ms:=by rw[← kms.1,← e1];rfl
  have eps:m'.ps=m.ps:=by rw[← kms.2,← e1];rfl
  obtain⟨E1,I1⟩:=I.turn (H1:=H') (r':=r') (c':=.obj (MO CF C wt p')) ha hs rfl (λb o n e=>kp' b o n e) (λb hb=>fr' b (List.mem_cons_of_mem _ hb)) (λb hb=>by
    obtain⟨o,e,_⟩:=M'.jV b (by rw[er];exact hb)
    exact⟨o,e⟩) nd' (λb hb n=>by
    rcases fr' b (List.mem_cons_of_mem _ hb)with z | z
    ·exact absurd z n
    ·exact z) (λs=>⟨(by simp),m',er,e1,M',by
    rw[e2.2,ems,eps]
    refine aS.same (λc o q=>?_) hB
    obtain⟨n,q⟩:=aX.mp q
    obtain⟨n',q'⟩:=aX.mp (s c o (aX.mpr ⟨λz=>n (.inl z),q⟩))
    refine aX.mpr ⟨λz=>?_,q'⟩
    rcases z with z | z
    ·exact n' z
    ·rcases fr' c z with w | w
     ·exact n (.inr w)
     ·rw[w]at q;cases q⟩) (λb hb=>hM.jV b (by rw[ef];exact hb))
  exact kn _ _ _ _ _ E1 I1 (.d .non) q
 ·exact q.elim
def uP(K:av)(aa:Addr)(C:Addr)(wt:Bool):Sp:=λvs H Q _=>∃(mm:Mc),vs=[.ref mm.ma]/\bG K H aa C wt mm/\mm.said.length<=900000 /\
 ∀(t l:Addr) (ev:V) (H':Hp),aB H H'->H l=none->H' l=some (.lst (mm.said.map V.int))->ba K H' t [ev,.ref l,.int mm.left]->jw K H' ev mm.fin->Q (.ref t) H'
theorem M6{K:av}{CF C:Addr}{wt:Bool}:AM K C "told" (uP K CF C wt) (Cn CF C wt):=by
 intro H0 A0 G al H st k a r Q R I ha q kn
 unfold Cn at q
 split at q
 ·rename_i o hs
  obtain⟨p,rfl,h9,q⟩:=q
  obtain⟨_,m,ef,rfl,hM,hB⟩:=I.cel k _ _ ha hs
  have ea:=yZ ef
  subst ea
  obtain⟨dx,ev,h1,h2⟩:=hM.ob
  refine⟨dx,_,h1,mc_no (by decide +kernel),m,rfl,hM,h9,λt l ev H' s nl g gt hE=>kn.laid I s (.d ?_) q⟩
  have I':=I.same s
  refine aS.i6 (I'.yC gt) (.cons (MQ I' hE) (.cons ?_ (.cons (.int _) .nil)))
  exact aP.lst (I'.Tj nl s I) g vp
 ·exact q.elim
def sv:Kd->Bool
 | .num=>true
 | _=>false
theorem HR(k:Kd):PyData.eqv (.tuple (yS k)) (.tuple [.str "number"])=sv k:=by
 cases k with
 | any=>decide +kernel
 | num=>decide +kernel
 | whole c=>rfl
 | raw c m=>rfl
def pJ(K:av):Sp:=λvs H Q _=>∃(tl:Addr) (g:V) (ys:List V) (ks:List Kd) (gk:Kd),vs=[.ref tl,g]/\bc K H tl ys/\aF K H ys (fM ks)/\aS K H g (.tuple (yS gk))/\ks.length<=100 /\
 ∀(H':Hp),aB H H'->Q (.bl ((ks++[gk]).all sv)) H'
def jg(K:av):Sp:=λvs H Q _=>∃(pl il:Addr) (xs zs:List V) (ps:List Pt) (j:Nat) (p:Pt),vs=[.ref pl,.int (j:Int),.ref il]/\bc K H pl xs/\aF K H xs (ps.map BB)/\ps[j]?=some p/\(p.takes++[p.gives]).all sv=true/\p.takes.length<=100/\bc K H il zs/\zs.length=p.takes.length /\
 ∀(H':Hp),aB H H'->Q .non H'
def En(D:List Addr)(H H' HX:Hp):Prop:=∀c o,c∉D->H' c=some o->(∀z,H c=some z->¬ wO z)->HX c=some o
theorem ba.xQ{K:av}{H HX:Hp}{t:Addr}{xs:List V}(e:∀c o,H c=some o->¬ wO o->HX c=some o)(h:ba K H t xs):ba K HX t xs:=by
 rcases h with(h | ⟨u,h⟩) | h
 ·exact .inl (.inl (e _ _ h (by rintro(⟨xs,z⟩ | ⟨C,dx,fs,z⟩)<;>cases z)))
 ·exact .inl (.inr ⟨u,e _ _ h (by rintro(⟨xs,z⟩ | ⟨C,dx,fs,z⟩)<;>cases z)⟩)
 ·exact .inr h
theorem aF.xQ{K:av}{H HX:Hp}{α:Type}{f:α->PyData}{g:α->List V}{xs:List V}{ks:List α}(inv:∀v k,aS K H v (f k)->∃t:Addr,v=.ref t/\ba K H t (g k))(mk:∀(t:Addr) k,ba K HX t (g k)->aS K HX (.ref t) (f k))(e:∀c o,H c=some o->¬ wO o->HX c=some o)(h:aF K H xs (ks.map f)):aF K HX xs (ks.map f):=by
 refine aF.of (by rw[h.1,List.length_map]) λj k hk=>?_
 obtain⟨v,hv,hr⟩:=aF.at h (i:=j) (d:=f k) (by rw[List.getElem?_map,hk];rfl)
 obtain⟨t,rfl,ht⟩:=inv v k hr
 exact⟨_,hv,mk t k (ba.xQ e ht)⟩
theorem QS{K:av}{H:Hp}(v:V)(s:Nat×Nat×Nat)(h:aS K H v (O5 s)):∃t:Addr,v=.ref t/\ba K H t (Wq s):=by
 obtain⟨t,xs,rfl,hT,hR⟩:=aS.bX h
 have hl:=hR.1
 obtain⟨x0,x1,x2,rfl⟩:=Wn hl
 have z0:=aS.aM (hR.2 0 x0 _ rfl rfl)
 have z1:=aS.aM (hR.2 1 x1 _ rfl rfl)
 have z2:=aS.aM (hR.2 2 x2 _ rfl rfl)
 subst z0;subst z1;subst z2
 exact⟨t,rfl,hT⟩
theorem xR{K:av}{H HX:Hp}{xs:List V}{ks:List Kd}(e:∀c o,H c=some o->¬ wO o->HX c=some o)(h:aF K H xs (fM ks)):aF K HX xs (fM ks) :=
 aF.xQ (g:=O4) (λ_ _ z=>yX z) (λ_ _ z=>xI z) e h
theorem Eo{K:av}{H HX:Hp}{xs:List V}{ks:List Rw}(e:∀c o,H c=some o->¬ wO o->HX c=some o)(h:aF K H xs (ks.map wL)):aF K HX xs (ks.map wL) :=
 aF.xQ (g:=xJ) (λ_ _ z=>rw_inv z) (λ_ _ z=>Ub z) e h
theorem Ep{K:av}{H HX:Hp}{xs:List V}{ks:List (Nat×Nat×Nat)}(e:∀c o,H c=some o->¬ wO o->HX c=some o)(h:aF K H xs (ks.map O5)):aF K HX xs (ks.map O5) :=
 aF.xQ (g:=Wq) QS (λ_ _ z=>Uc z) e h
theorem En.sub{D G:List Addr}{H H1 H2 HX:Hp}(k:En D H H2 HX)(s:∀c o,c∉G->H1 c=some o->H2 c=some o)(g:∀c∈D,c∈G∨H1 c=none):En G H H1 HX:=λc o n e m =>
 k c o (λz=>(g c z).elim n (λy=>by rw[y]at e;cases e)) (s c o n e) m
def sy(K:av):Sp:=λvs H Q _=>∃(b:Addr) (ms:bY) (ps:List Pt),vs=[.ref b]/\aS K H (.ref b) (ME ms ps)/\ms.length<=8/\ps.length<=8 /\
 ∀(r:Addr) (H':Hp),aB H H'->(∃(mk pl:Addr) (xs:List V),∀HX,En [] H H' HX->ba K HX r [.ref mk,.ref pl]/\cC K HX mk ms/\bc K HX pl xs/\aF K HX xs (ps.map BB))->Q (.ref r) H'
theorem QT{b lv rc sd:Addr}{l:Int}{e:V}:br "end" e (br "left" (.int l) (br "said" (.ref sd) (br "records" (.ref rc) (br "live" (.ref lv) (br "book" (.ref b) [])))))=px b lv rc sd l e:=by
 have e1:br "book" (.ref b) []=([("book",.ref b)]:List (Str×V)):=rfl
 have e2:br "live" (.ref lv) ([("book",.ref b)]:List (Str×V))=([("book",.ref b),("live",.ref lv)]:List (Str×V)):=by rw[n5 (by decide +kernel)];rfl
 have e3:br "records" (.ref rc) ([("book",.ref b),("live",.ref lv)]:List (Str×V))=([("book",.ref b),("live",.ref lv),("records",.ref rc)]:List (Str×V)):=by rw[n5 (by decide +kernel),n5 (by decide +kernel)];rfl
 have e4:br "said" (.ref sd) ([("book",.ref b),("live",.ref lv),("records",.ref rc)]:List (Str×V))=([("book",.ref b),("live",.ref lv),("records",.ref rc),("said",.ref sd)]:List (Str×V)):=by rw[n5 (by decide +kernel),n5 (by decide +kernel),n5 (by decide +kernel)];rfl
 have e5:br "left" (.int l) ([("book",.ref b),("live",.ref lv),("records",.ref rc),("said",.ref sd)]:List (Str×V))=([("book",.ref b),("live",.ref lv),("records",.ref rc),("said",.ref sd),("left",.int l)]:List (Str×V)):=by rw[n5 (by decide +kernel),n5 (by decide +kernel),n5 (by decide +kernel),n5 (by decide +kernel)];rfl
 rw[e1,e2,e3,e4,e5,n5 (by decide +kernel),n5 (by decide +kernel),n5 (by decide +kernel),n5 (by decide +kernel),n5 (by decide +kernel)]
 rfl
theorem lT{f:Str}{v:V}{l:List (Str×V)}{n:Nat}(h:l.length<=n):(br f v l).length<=n + 1:=Nat.le_trans (eL _ _ _) (by omega)
theorem QU{H2 H3:Hp}{x l:Addr}{o o':HO}(k:ay [x] H2 H3)(hx:H3 x=some o)(hl:H3 l=none):ay [x] H2 (upd (upd H3 l (.lst [])) x o')/\upd (upd H3 l (.lst [])) x o' x=some o'/\upd (upd H3 l (.lst [])) x o' l=some (.lst [])/\H2 l=none/\l≠x/\(∀c p,c≠x->H3 c=some p->upd (upd H3 l (.lst [])) x o' c=some p):=by
 have ne:=nN hx hl
 have k':∀c p,c≠x->H3 c=some p->upd (upd H3 l (.lst [])) x o' c=some p:=λc p n e=>by
  rw[uN n,uN (nN e hl)]
  exact e
 refine⟨λc p n e=>k' c p (λz=>n (by rw[z];exact List.mem_singleton.mpr rfl)) (k c p n e),uS,(uN ne.symm).trans uS,?_,ne.symm,k'⟩
 cases e:H2 l with
 | none=>rfl
 | some p=>rw[k l p (λz=>ne (bJ z).symm) e]at hl;cases hl
def fW(K:av)(aa:Addr)(C:Addr)(wt:Bool):Sp:=λvs H Q _=>∃(x dx b il:Addr) (j:Nat) (bud:Int) (ms:bY) (ps:List Pt) (p:Pt) (ws:List Int),vs=[.ref x,.ref b,.int (j:Int),.ref il,.int bud]/\H x=some (.ins C dx [])/\aS K H (.ref b) (ME ms ps)/\ms.length<=8/\ps.length<=8/\ps[j]?=some p/\(p.takes++[p.gives]).all sv=true/\bc K H il (ws.map V.int)/\ws.length=p.takes.length/\ws.length<=p.boxes/\p.boxes<=8 /\
 ∀(bb lv rc sd:Addr) (f:Fm) (H':Hp),f.part=j->f.at'=0->f.bx=ws.map Vl.num++List.replicate (p.boxes - ws.length) .none->f.st=[]->bG K H' aa C wt ⟨x,bb,lv,rc,sd,ms,ps,[f],[],[],bud,[]⟩->(∀c∈foot ⟨x,bb,lv,rc,sd,ms,ps,[f],[],[],bud,[]⟩,c≠x->H c=none)->ay [x] H H'->(∀G,aU H G->QJ K (foot ⟨x,bb,lv,rc,sd,ms,ps,[f],[],[],bud,[]⟩++G) H' bb ms ps)->(∀HX,(∀c o,c∉foot ⟨x,bb,lv,rc,sd,ms,ps,[f],[],[],bud,[]⟩->(∀z,H c=some z->¬ wO z)->H' c=some o->HX c=some o)->aS K HX (.ref bb) (ME ms ps))->Q .non H'
@[reducible] def HS(CF C:Addr)(wt:Bool)(xs:List DV)(st:aQ)(Q:DC):Prop:=match rS st xs with
 | some ds=>∃(ms:bY) (ps:List Pt) (j:Nat) (p:Pt) (ws:List Int) (bud:Int),ds=[ME ms ps,.int (j:Int),.list (ws.map PyData.int),.int bud]/\(ms.length<=8/\ps.length<=8/\ps[j]?=some p/\(p.takes++[p.gives]).all sv=true/\ws.length=p.takes.length/\ws.length<=p.boxes/\p.boxes<=8)/\Q (.ref st.length) (st++[.obj (MO CF C wt (lG ms ps j p ws bud))])
 | none=>False
theorem M7{K:av}{CF C:Addr}{wt:Bool}:AN K C (fW K CF C wt) (HS CF C wt):=by
 intro H0 A0 G al H st vs ds Q R I hp q kn x dx nx ndx ne
 unfold HS at q
 split at q
 ·rename_i es e
  obtain⟨ms,ps,j,p,ws,bud,rfl,⟨c1,c2,c3,c4,c5,c6,c7⟩,q⟩:=q
  have rd:=yH I hp e
  obtain⟨v0,v1,v2,v3,rfl⟩:=Wo rd.1
  have y:=(xK (H':=upd (upd H dx (.own x)) x (.ins C dx [])) nx ndx ne ay.refl).1
  have r0:=rd.2 0 v0 _ rfl rfl
  have r1:=rd.2 1 v1 _ rfl rfl
  have r2:=rd.2 2 v2 _ rfl rfl
  have r3:=rd.2 3 v3 _ rfl rfl
  obtain⟨b,_,_,_,rfl,_⟩:=yT r0
  rw[aS.aM r1,aS.aM r3]
  obtain⟨il,ys,rfl,g1,_,g2⟩:=aP.dI (Ca r2)
  rw[yF g2]at g1
  refine⟨x,dx,b,il,j,bud,ms,ps,p,ws,rfl,uS,aS.same y r0,c1,c2,c3,c4,y.seq g1,c5,c6,c7,λbb lv rc sd f H' e1 e2 e3 e4 M fr k1 _ bk=>⟨rfl,?_⟩⟩
  have s1:=(xK nx ndx ne k1).2
  have z1:∀c∈foot ⟨x,bb,lv,rc,sd,ms,ps,[f],[],[],bud,[]⟩,H c=none:=λc hc=>by
   by_cases e:c=x
   ·rw[e];exact nx
   ·exact y.free (fr c hc e)
  have ep:(⟨x,bb,lv,rc,sd,ms,ps,[f],[],[],bud,[]⟩:Mc).pm=lG ms ps j p ws bud:=by
   unfold Mc.pm lG
   show(⟨ms,ps,[f.pf],[],[],bud,[]⟩:PM)=_
   unfold Fm.pf
   rw[e1,e2,e3,e4]
  have apart:∀(c:Addr),c∉foot ⟨x,bb,lv,rc,sd,ms,ps,[f],[],[],bud,[]⟩->(∀z,upd (upd H dx (.own x)) x (.ins C dx []) c=some z->¬ wO z)->¬ (Fb G (al++[foot ⟨x,bb,lv,rc,sd,ms,ps,[f],[],[],bud,[]⟩]) (st++[.obj (MO CF C wt (lG ms ps j p ws bud))]) c∨c∈foot ⟨x,bb,lv,rc,sd,ms,ps,[f],[],[],bud,[]⟩):=λc n m z=>by
   rcases z with(z | ⟨jj,fp,ce,w1,w2,w3,w4⟩) | z
   ·obtain⟨o',e',m'⟩:=I.gs c z
    exact m o' (y _ _ e') m'
   ·by_cases w:jj < al.length
    ·rw[List.getElem?_append_left w]at w1
     rw[List.getElem?_append_left (by rw[← I.len];exact w)]at w3
     obtain⟨o',e',m'⟩:=I.wJ (.inr ⟨jj,fp,ce,w1,w2,w3,w4⟩)
     exact m o' (y _ _ e') m'
    ·rw[List.getElem?_append_right (by omega)]at w1
     rw[bJ (List.mem_of_getElem? w1)]at w2
     exact n w2
   ·exact n z
  obtain⟨E1,I1⟩:=I.more (c:=.obj (MO CF C wt (lG ms ps j p ws bud))) z1 M.nd s1 (λa ha=>by obtain⟨o,e,_⟩:=M.jV a ha;exact⟨o,e⟩) ⟨(by simp[foot]),_,rfl,ep,M,bk _ λc o n m e=>aX.mpr ⟨apart c n m,e⟩⟩
  exact kn (.ref st.length) _ _ _ _ E1 I1 ⟨x,_,by rw[← I.len,List.getElem?_append_right (Nat.le_refl _),Nat.sub_self];rfl,rfl⟩ q
 ·exact q.elim
def zh(K:av):Sp:=λvs H Q _=>∃(a:Addr) (ns:List Int),vs=[.ref a]/\bc K H a (ns.map V.int)/\ns.length<=63/\∀H',Q (.bl true) H'
section
variable {P:Program} {w:World} {K:av} {mg:Str->Option Value} {base:Heap}
theorem ib:az ["_law_script","_law_k","_law_far","_law_cell_here"] ["_law_script","_law_k"] (dS oW):=by walk_at "sc"
theorem zi{f:Addr}{fd:FuncData}(F:eO K "_law_cell" "_law_cell" oW f fd)(bq:mg "len"=none){aa:Addr}(ah:ak K aa):bw P w K mg base aL 1 f fd ["_law_script","_law_k"] (eN K):=by
 refine F.ok ib (λvs H Q E h=>?_) (λcdv A outer s H vs Q E hr h=>?_)
 ·obtain⟨a,ns,k,rfl,hS,h0,h1,q⟩:=h
  rfl
 obtain⟨a,ns,k,rfl,hS,h0,h1,q⟩:=h
 refine⟨_,(qK (aY (tR xp (pv 1) (bH aT rfl bq dh (pK (pv 0) pN)) (aC _)) (qO (aE (au aR (pv 0) (pv 1) (λ_ _=>rfl)))) aK)
   (qK (bf (i:=2) ib.nd rfl (Or.inl rfl) (bh BL pI (bh ey (pv 1) pI)))
   (qK (rL PassesOwn.never rfl (iQ (kS yo (pv 0) qo (qp pI))) (c9 (i:=3) ib.nd rfl (Or.inl rfl)) (qO (bf (i:=2) ib.nd rfl (Or.inl rfl) (bh ey (bh BL (pv 2) pI) (bh i5 (pv 3) pI)))))
   (qO (aE (bh i5 (bh LP (pv 2) (pv 2)) pI)))))),?_⟩
 refine⟨_,rfl,_,rfl,a,_,rfl,.inl hS,_,_,rfl,rfl,_,rfl,?_⟩
 refine qs (λc=>?_) (λc=>?_)
 ·have c':k < (((ns.map V.int).length:Nat):Int):=of_decide_eq_true c
  rw[List.length_map]at c'
  have hk:k.toNat < ns.length:=by omega
  have ek:((k.toNat:Nat):Int)=k:=by omega
  refine⟨_,rfl,_,rfl,a,_,_,_,rfl,rfl,hS,(?_:rO (ns.map V.int) k=some (.int ns[k.toNat])),q _ _ (aB.refl _)⟩
  have z:rO (ns.map V.int) ((k.toNat:Nat):Int)=some (.int ns[k.toNat]):=aN (by rw[List.getElem?_map,cV hk];rfl)
  rw[ek]at z
  exact z
 ·walk_at "rd"
  refine⟨a,_,rfl,hS,λp hp=>?_⟩
  refine⟨p,rfl,⟨_,bc.of uS⟩,?_⟩
  have sm:aB H (upd H p (.lst (jr (ns.map V.int) none (some 8)))):=λb o e=>by rw[uN (nN e hp)];exact e
  rw[Wx]at sm ⊢
  refine uZ (xs:=(ns.take 8).map V.int) (λi σ H2=>∃(far:Int) (v:Option V),σ=[some (.ref a),some (.int k),some (.int far),v]/\H2=upd H p (.lst ((ns.take 8).map V.int))/\0<=far/\far < 2000000000 * (32:Int) ^ i) ?_ ?_ ?_ ?_
  ·exact⟨_,none,rfl,rfl,by omega,by simp;omega⟩
  ·rintro i σ H2 hi ⟨far,v,rfl,rfl,_⟩
   exact bc.of uS
  ·rintro i y σ H2 hi ⟨far,v,rfl,rfl,f0,f1⟩
   obtain⟨z,rfl⟩:∃z,y=V.int z:=by
    rw[List.getElem?_map]at hi
    cases e:(ns.take 8)[i]? with
    | none=>rw[e]at hi;cases hi
    | some z=>rw[e]at hi;exact⟨z,(Option.some.inj hi).symm⟩
   have hp1:(1:Int)<=32 ^ i:=by
    have:=Int.pow_pos (n:=32) (m:=i) (by decide)
    omega
   have hm0:=Int.emod_nonneg z (show(1000033:Int)≠0 by decide)
   have hm1:=Int.emod_lt_of_pos z (show(0:Int) < 1000033 by decide)
   walk_at "rd"
   rw[Int.pow_succ]
   omega
  ·rintro σ H2 ⟨far,v,rfl,rfl,f0,f1⟩
   have hl:((ns.take 8).map V.int).length<=8:=by simp;omega
   have Sm:(32:Int) ^ ((ns.take 8).map V.int).length<=32 ^ 8:=by
    have:=Nat.pow_le_pow_right (n:=32) (by decide) hl
    exact_mod_cast this
   have e8:(32:Int) ^ 8=1099511627776:=by decide
   rw[e8]at Sm
   refine⟨_,rfl,_,rfl,_,_,rfl,rfl,⟨⟨by omega,by omega⟩,by omega,by omega⟩,_,_,rfl,rfl,(by show(0:Int) < 998244353;decide),q _ _ sm⟩
theorem ic:az ["_law_makes_here","_law_c","_law_many_here"] ["_law_makes_here","_law_c"] (dS oX):=by walk_at "sc"
theorem zj{f:Addr}{fd:FuncData}(F:eO K "_law_many" "_law_many" oX f fd)(bq:mg "len"=none){aa:Addr}(ah:ak K aa):bw P w K mg base aL 1 f fd ["_law_makes_here","_law_c"] (cJ K):=by
 refine F.ok ic (λvs H Q E h=>?_) (λcdv A outer s H vs Q E hr h=>?_)
 ·obtain⟨a,ms,zs,c,z,rfl,hM,hg,hz,q⟩:=h
  rfl
 obtain⟨a,ms,zs,c,z,rfl,hM,hg,hz,q⟩:=h
 refine⟨_,(qK (bf (i:=2) ic.nd rfl (Or.inl rfl) pI)
   (qK (uW PassesOwn.never (tR qk (pv 1) eP (aC _)) (qK (bf (i:=2) ic.nd rfl (Or.inl rfl) (bh ey (pv 2) (bH aT rfl bq dh (pK (au aw (au aR (pv 0) (pv 1) (λ_ _=>rfl)) pI (λ_ _=>rfl)) pN))))
   (qO (bf (i:=1) ic.nd rfl (Or.inl rfl) (au aw (au aR (pv 0) (pv 1) (λ_ _=>rfl)) pI (λ_ _=>rfl))))))
   (qO (aE (pv 2))))),?_⟩
 have hw:=hg.wf
 refine va (λσ H2=>∃(cur:Option Nat) (acc y:Nat),σ=[some (.ref a),some (KC cur),some (.int (acc:Int))]/\H2=H/\(cur=none->y=0)/\(∀j,cur=some j->zs[j]?=some y)/\acc + y=z)
  (λ(σ:St) (_:Hp)=>match σ[1]? with | some (some (V.int j))=>j.toNat + 1 | _=>0) ⟨some c,0,z,rfl,rfl,(λh=>nomatch h),(λj hj=>by cases hj;exact hz),by omega⟩ ?_ ?_
 ·rintro σ H2 ⟨cur,acc,y,rfl,rfl,hn,hj,he⟩
  cases cur with
  | none =>
   refine⟨_,rfl,rfl,_,rfl,bV ?_⟩
   have e0:acc=z:=by have:=hn rfl;omega
   subst e0
   exact⟨_,rfl,q⟩
  | some j =>
   refine⟨_,rfl,rfl,_,rfl,fG ?_⟩
   have hjz:=hj j rfl
   have hjl:j < ms.length:=by rw[hg.len];exact(bN hjz).1
   obtain⟨xs,hS,hI⟩:=id hM
   obtain⟨m,hm,hel,hlt⟩:=hw.el hjl
   have hxl:j < xs.length:=by rw[hI.1];exact hjl
   obtain⟨t,l,ks,hx,ht,hl,hk⟩:=hI.2 j _ m (cV hxl) hm
   have lk:=hk.1
   rw[List.length_map]at lk
   refine⟨_,rfl,_,rfl,_,rfl,a,xs,_,_,rfl,rfl,hS,aN (cV hxl),t,_,_,_,hx,rfl,ht,aN (j:=1) rfl,l,ks,rfl,.inl hl,_,_,rfl,rfl,?_⟩
   refine⟨_,rfl,_,rfl,a,xs,_,_,rfl,rfl,hS,aN (cV hxl),t,_,_,_,hx,rfl,ht,aN (j:=0) rfl,?_⟩
   have next:∃y',(m.1=none->y'=0)/\(∀i,m.1=some i->zs[i]?=some y')/\y=y' + m.2.length:=by
    by_cases h0:j=0
    ·subst h0
     have e1:=hw.first m hm
     have e2:=hg.MC m hm
     have e3:=hg.z0
     rw[hjz]at e3
     cases e3
     exact⟨0,λ_=>rfl,(λi hi=>by rw[e1]at hi;cases hi),by rw[e2];rfl⟩
    ·obtain⟨i,z',f1,f2,f3,f4⟩:=hg.go j m (by omega) hm
     rw[hjz]at f4
     cases f4
     exact⟨z',(λhi=>by rw[f1]at hi;cases hi),(λi' hi=>by rw[f1]at hi;cases hi;exact f3),rfl⟩
   obtain⟨y',n1,n2,n3⟩:=next
   refine⟨⟨m.1,acc + ks.length,y',?_,rfl,n1,n2,by omega⟩,?_⟩
   ·show [some (V.ref a),some (KC m.1),some (V.int ((acc:Int) + ((ks.length:Nat):Int)))]=_
    rw[show((acc:Int) + ((ks.length:Nat):Int))=((acc + ks.length:Nat):Int)by omega]
   ·show(match (some (some (KC m.1)):Option (Option V))with | some (some (V.int j))=>j.toNat + 1 | _=>0) < ((j:Int).toNat + 1)
    cases e:m.1 with
    | none=>show 0 < _;omega
    | some i =>
     have:=hlt i e
     show(i:Int).toNat + 1 < _
     omega
 ·rintro σ H2 Q1 Q2 f ⟨v,e1,e2,k,e3,q1⟩
  exact⟨v,e1,e2,k,e3,f _ _ q1⟩
theorem fe:az ["_law_makes_here","_law_cell_here","_law_c","_law_many_here","_law_sign"] ["_law_makes_here","_law_cell_here"] (dS oY):=by walk_at "sc"
theorem zk{f:Addr}{fd:FuncData}(F:eO K "_law_free" "_law_free" oY f fd)(bq:mg "len"=none){aa:Addr}(ah:ak K aa)(ck:cX P w K mg base aL "_law_many" 1 ["_law_makes_here","_law_c"] (cJ K)):bw P w K mg base aL 2 f fd ["_law_makes_here","_law_cell_here"] (iY K):=by
 refine F.ok fe (λvs H Q E h=>?_) (λcdv A outer s H vs Q E hr h=>?_)
 ·obtain⟨PP,ds,hP,hv,ms,zs,cell,rfl,hg,q⟩:=h
  exact hv.1
 obtain⟨PP,ds,hP,hv,ms,zs,cell,rfl,hg,q⟩:=h
 refine iD hP hv ?_
 show Fx _ _ _ [some _,some _,none,none,none] []
 clear hP hv
 have h0:=hg.wf.ne
 have lz:=hg.len
 refine bj (cB (i:=2) fe.nd rfl (Or.inl rfl) (eV (gS (aq 1) aZ) (gy rfl bq (aj (aq 0) ax)))) (λR kk=>?_)
 walk_at "vc"
 rw[List.length_map]
 obtain⟨c,ec,hc⟩:=jL (cell / 16) (n:=(ms.length:Int)) (by omega)
 refine⟨qx (by decide) (by decide),by omega,kk _ _ ?_⟩
 rw[ec]
 clear kk R
 refine bj (cB (i:=3) fe.nd rfl (Or.inl rfl) (cf ck iX iW (hr.mono (by decide)) rfl (aj (aq 0) (aj (aq 2) ax)))) (λR kk=>?_)
 walk_at "vc"
 have hcz:c < zs.length:=by omega
 refine⟨ms,zs,c,zs[c],rfl,hg,cV hcz,kk _ _ ?_⟩
 have hz:=cV hcz
 generalize zs[c]=z at hz ⊢
 clear kk R
 refine bj (cB (i:=4) fe.nd rfl (Or.inl rfl) (vm (gx (aj bg (aj bg (aj bg (aj bg (aj bg (aj bg (aj bg (aj bg ax))))))))) (eV (gS (aq 1) aZ) aZ) (λ_ _=>rfl))) (λR kk=>?_)
 walk_at "vc"
 obtain⟨s1,hs1,e1⟩:=vo (ss:=["make","fill","begin","get","put","load","store","load"]) (n:=8) rfl (by decide) (cell / 2)
 refine⟨qx (by decide) (by decide),by decide,_,e1,kk _ _ ?_⟩
 clear kk R
 refine bj (iR (Ha (hr.units) (eV (aq 1) aZ) aZ) (bE (cB (i:=4) fe.nd rfl (Or.inl rfl) (vm (gx (aj bg (aj bg (aj bg (aj bg (aj bg (aj bg (aj bg (aj bg ax))))))))) (eV (gS (aq 1) aZ) aZ) (λ_ _=>rfl)))) da) (λR kk=>?_)
 walk_at "vc"
 have nxt:∀s:Str,s∈(["make","fill","begin","get","put","load","store","dup","swap","drop","push"]:List Str)->R [some (.dat (.list (ms.map xG))),some (.dat (.int cell)),some (.dat (.int (c:Int))),some (.dat (.int (z:Int))),some (.dat (.str s))] []:=by
  intro s hs
  refine kk _ _ ?_
  clear kk R
  refine bj (iR (Hb (aq 4) (bQ (aj bg (aj bg ax))) rfl) (bE (cM (bQ (aj (aq 4) (aj (eV (gS (aq 1) aZ) aZ) ax))))) da) (λR kk=>?_)
  walk_at "vc"
  refine⟨⟨rfl,rfl⟩,Hr (l:=["load","store"]) (λhm=>?_) (λn1=>?_)⟩
  ·obtain⟨b,eb,hb⟩:=jL (cell / 16) (n:=8) (by decide)
   refine⟨qx (by decide) (by decide),by decide,?_⟩
   rw[eb]
   simp only[List.mem_cons,List.not_mem_nil,or_false]at hm
   rcases hm with rfl | rfl
   ·exact q (.load b) ⟨λnr=>(by show b < 8;omega),.inl (by decide +kernel:("load" : Str)∈dY)⟩
   ·exact q (.store b) ⟨λnr=>(by show b < 8;omega),.inl (by decide +kernel:("store" : Str)∈dY)⟩
  refine kk _ _ ?_
  clear kk R
  refine bj (iR (Ha (hr.units) (aq 4) bg) (bE (cM (bQ (aj (aq 4) (aj (eV (gS (aq 1) aZ) aZ) ax))))) da) (λR kk=>?_)
  walk_at "vc"
  refine rT (λhm=>?_) (λn2=>?_)
  ·obtain⟨b,eb,hb⟩:=jL (cell / 16) (n:=100) (by decide)
   refine⟨qx (by decide) (by decide),by decide,?_⟩
   rw[eb,hm]
   exact q (.push b) ⟨λnr=>⟨by omega,by omega⟩,.inl (by decide +kernel:("push" : Str)∈dY)⟩
  refine kk _ _ ?_
  clear kk R
  refine bj (iR (Hb (aq 4) (bQ (aj bg (aj bg ax))) rfl) (bE (cM (bQ (aj (aq 4) (aj (aq 2) ax))))) da) (λR kk=>?_)
  walk_at "vc"
  refine⟨⟨rfl,rfl⟩,Hr (l:=["make","begin"]) (λhm=>?_) (λn3=>?_)⟩
  ·simp only[List.mem_cons,List.not_mem_nil,or_false]at hm
   rcases hm with rfl | rfl
   ·exact q (.make c) ⟨λnr=>hcz,.inr (by decide +kernel:("make" : Str)∈dX)⟩
   ·exact q (.beg c) ⟨λnr=>hcz,.inr (by decide +kernel:("begin" : Str)∈dX)⟩
  refine kk _ _ ?_
  clear kk R
  refine bj (iR (Af.dt (yE (Hb (aq 4) (bQ (aj bg (aj bg (aj bg ax)))) rfl) (uG (Tx (aq 3) aZ)))) (bE (cM (bQ (aj (aq 4) (aj (aq 2) (aj (eV (gS (aq 1) aZ) (aq 3)) ax)))))) da) (λR kk=>?_)
  walk_at "vc"
  have fin:R [some (.dat (.list (ms.map xG))),some (.dat (.int cell)),some (.dat (.int (c:Int))),some (.dat (.int (z:Int))),some (.dat (.str s))] []:=by
   refine kk _ _ ?_
   clear kk R
   refine nX (cM (bQ (aj (vm (gx (aj bg (aj bg (aj bg ax)))) (eV (gS (aq 1) aZ) aZ) (λ_ _=>rfl)) ax))) ?_
   walk_at "vc"
   obtain⟨s2,BQ,e2⟩:=vo (ss:=["dup","swap","drop"]) (n:=3) rfl (by decide) (cell / 32)
   refine⟨qx (by decide) (by decide),by decide,_,e2,?_⟩
   simp only[List.mem_cons,List.not_mem_nil,or_false]at BQ
   rcases BQ with rfl | rfl | rfl
   ·exact q (.bare "dup") ⟨λnr=>(by decide +kernel:("dup" : Str)∈oE),.inl (by decide +kernel:("dup" : Str)∈dY)⟩
   ·exact q (.bare "swap") ⟨λnr=>(by decide +kernel:("swap" : Str)∈oE),.inl (by decide +kernel:("swap" : Str)∈dY)⟩
   ·exact q (.bare "drop") ⟨λnr=>(by decide +kernel:("drop" : Str)∈oE),.inl (by decide +kernel:("drop" : Str)∈dY)⟩
  refine⟨⟨rfl,rfl⟩,Hr (l:=["fill","get","put"]) (λhm=>rT (λhp=>?_) (λ_=>?_)) (λ_=>?_)⟩
  rotate_left
  ·exact fin
  ·first | exact fin | exact bV fin
  obtain⟨f,ef,hf⟩:=jL (cell / 128) (n:=(z:Int)) hp
  refine⟨qx (by decide) (by decide),hp,?_⟩
  rw[ef]
  have hfz:f < z:=by omega
  simp only[List.mem_cons,List.not_mem_nil,or_false]at hm
  rcases hm with rfl | rfl | rfl
  ·exact q (.fill c f) ⟨λnr=>⟨z,hz,hfz⟩,.inr (by decide +kernel:("fill" : Str)∈dX)⟩
  ·exact q (.get c f) ⟨λnr=>⟨z,hz,hfz⟩,.inr (by decide +kernel:("get" : Str)∈dX)⟩
  ·exact q (.put c f) ⟨λnr=>⟨z,hz,hfz⟩,.inr (by decide +kernel:("put" : Str)∈dX)⟩
 refine⟨by decide,rT (λ_=>?_) (λ_=>nxt s1 ((by decide +kernel:∀s∈(["make","fill","begin","get","put","load","store","load"]:List Str),s∈(["make","fill","begin","get","put","load","store","dup","swap","drop","push"]:List Str)) s1 hs1))⟩
 obtain⟨s2,BQ,e2⟩:=vo (ss:=["load","dup","swap","drop","push","fill","begin","load"]) (n:=8) rfl (by decide) (cell / 2)
 exact⟨qx (by decide) (by decide),by decide,_,e2,nxt s2 ((by decide +kernel:∀s∈(["load","dup","swap","drop","push","fill","begin","load"]:List Str),s∈(["make","fill","begin","get","put","load","store","dup","swap","drop","push"]:List Str)) s2 BQ)⟩
theorem jh:az ["_law_old","_law_new","_law_one","_law_other"] ["_law_old","_law_new"] (dS kZ):=by walk_at "sc"
theorem wV{f:Addr}{fd:FuncData}(F:eO K "_law_grown" "_law_grown" kZ f fd)(bq:mg "len"=none)(vO:mg "zip"=none){aa:Addr}(ah:ak K aa):bw P w K mg base aL 1 f fd ["_law_old","_law_new"] (gY K):=by
 refine F.ok jh (λvs H Q E h=>?_) (λcdv A outer s H vs Q E hr h=>?_)
 ·obtain⟨PP,ds,hP,hv,rs,rs',rfl,hG,hl,q⟩:=h
  exact hv.1
 obtain⟨PP,ds,hP,hv,rs,rs',rfl,hG,hl,q⟩:=h
 refine iD hP hv ?_
 show Fx _ _ _ [some _,some _,none,none] []
 clear hP hv
 have hle:=hG.le
 refine bj (iR (OW (gy rfl bq (aj (aq 1) ax)) (gy rfl bq (aj (aq 0) ax))) (bE (cM kY)) da) (λR kk=>?_)
 walk_at "vc"
 rw[List.length_map,List.length_map]
 refine rT (λz=>by omega) (λ_=>kk _ _ ?_)
 clear kk R
 refine bj (jK PassesOwn.never rfl (Qm rfl vO (aj (aq 0) (aj (G7 (aq 1) Dq (uF (gy rfl bq (aj (aq 0) ax)))) ax))) (Hj (m:=2) rfl (jv (dD (i:=2) jh.nd rfl (Or.inl rfl)) (jv (dD (i:=3) jh.nd rfl (Or.inl rfl)) Dy))) (dm (iR (Af.dt (sX (Ai (hr.units) (gz (n:=0) (aq 2)) (gz (n:=0) (aq 3))) (sX (Af.dt (yE (i7 (gz (n:=1) (aq 2))) (uG (oV (i7 (gz (n:=1) (aq 3))))))) (vn (Ai (hr.units) (G2 (gz (n:=2) (aq 2)) (gz (n:=2) (aq 3))) (gz (n:=2) (aq 2))))))) (bE (cM kY)) da)
   (bE (iR (Ai (hr.units) (gy rfl bq (aj (gz (n:=3) (aq 2)) ax)) (gy rfl bq (aj (gz (n:=3) (aq 3)) ax))) (bE (cM kY)) da)))) (λR kk=>?_)
 walk_at "vc"
 rw[List.length_map]
 have ec:cutD (rs'.map tq) none (some (rs.length:Int))=(rs'.take rs.length).map tq:=by
  unfold cutD
  rw[HT.kR,HT.ql,List.drop_zero,List.length_map,Nat.sub_zero,← List.map_take,Nat.min_eq_left hle]
 rw[ec]
 refine gU (λi env st=>∃o2 o3,env=[some (.dat (.list (rs.map tq))),some (.dat (.list (rs'.map tq))),o2,o3]/\st=[]) ⟨_,_,rfl,rfl⟩ (λ_ _ _ _=>trivial) ?_ ?_
 ·rintro i env st d hd ⟨o2,o3,rfl,rfl⟩
  obtain⟨x,y,hx,hy,rfl⟩:=Mz hd
  obtain⟨r,e3,rfl⟩:=rV hx
  obtain⟨r1,e4,rfl⟩:=rV hy
  obtain⟨r',hr',hc,hb,hm,hf⟩:=hG.at' i r e3
  have hi:=(bN e3).1
  rw[List.getElem?_take_of_lt hi,hr']at e4
  cases e4
  rw[vJ r,vJ r1]
  walk_at "vc"
  rw[pj,hm,hc,List.length_map,List.length_map,hf]
  have fin:∀{A B:Prop},B->if (!decide ((r.mask:Int)=(r.mask:Int)))=true then A else B:=λb=>qy (λz=>absurd rfl z) (λ_=>b)
  have Uq:∀{A B:Prop},B->if (!decide ((r.fs.length:Int)=(r.fs.length:Int)))=true then A else B:=λb=>qy (λz=>absurd rfl z) (λ_=>b)
  refine⟨rfl,qy (λz=>absurd rfl z) (λ_=>O3 (λz=>?_) (λz=>?_))⟩
  ·rw[hb z]
   exact bV (fin (Uq ⟨_,_,rfl,rfl⟩))
  ·exact bV (fin (Uq ⟨_,_,rfl,rfl⟩))
 ·rintro env st ⟨o2,o3,rfl,rfl⟩
  refine kk _ _ ?_
  clear kk R
  refine nX (cM kY) ?_
  exact q
theorem cT:az ["_law_script","_law_at","_law_makes_here","_law_k","_law_cell_here","_law_elder","_law_own"] ["_law_script","_law_at"] (dS lh):=by walk_at "sc"
theorem wW{f:Addr}{fd:FuncData}(F:eO K "_law_makes" "_law_makes" lh f fd)(bq:mg "len"=none)(Az:mg "min"=none)(cm:mg "range"=none){aa:Addr}(ah:ak K aa)(dw:cX P w K mg base aL "_law_cell" 1 ["_law_script","_law_k"] (eN K))(ck:cX P w K mg base aL "_law_many" 1 ["_law_makes_here","_law_c"] (cJ K)):bw P w K mg base aL 2 f fd ["_law_script","_law_at"] (gZ K):=by
 refine F.ok cT (λvs H Q E h=>?_) (λcdv A outer s H vs Q E hr h=>?_)
 ·obtain⟨PP,ds,hP,hv,ns,k0,rfl,h0,h1,q⟩:=h
  exact hv.1
 obtain⟨PP,ds,hP,hv,ns,k0,rfl,h0,h1,q⟩:=h
 refine iD hP hv ?_
 show Fx _ _ _ [some _,some _,none,none,none,none,none] []
 clear hP hv
 refine bj (cB (i:=2) cT.nd rfl (Or.inl rfl) (Dk (aj (bQ (aj B8 (aj (gx ax) ax))) ax))) (λR kk=>?_)
 walk_at "vc"
 refine kk _ _ ?_
 clear kk R
 refine bj (jK PassesOwn.never rfl (ij rfl cm (aj (eV (cf dw gh gf (hr.mono (by decide)) rfl (aj (aq 0) (aj (aq 1) ax))) aZ) ax)) (dD (i:=3) cT.nd rfl (Or.inl rfl)) (dm (cB (i:=4) cT.nd rfl (Or.inr rfl) (cf dw gh gf (hr.mono (by decide)) rfl (aj (aq 0) (aj (vk (vk (aq 1) aZ) (aq 3)) ax))))
   (dm (cB (i:=5) cT.nd rfl (Or.inl rfl) (eV (aq 4) (gy rfl bq (aj (aq 2) ax))))
   (dm (cB (i:=6) cT.nd rfl (Or.inl rfl) (Qi rfl rfl Az (aj (eV (gS (aq 4) aZ) aZ) (aj (Qc aZ (Ee ck iX iW (hr.mono (by decide)) rfl (aj (aq 2) (aj (aq 5) ax)))) ax))))
   (bE (yK (xF (aq 2) (aj (bQ (aj (aq 5) (aj (TQ 1 ["_law_j","_law_cell_here"] [4] ⟨rfl,rfl,rfl,rfl,rfl,rfl,rfl,rfl⟩ (ij rfl cm (aj (aq 6) ax)) (λ_ _ _ _=>(c9 (i:=0) (show List.Nodup (["_law_j","_law_cell_here"]:List Str)by decide +kernel) rfl (Or.inl rfl))) (Qn (i:=0)) (Wg (by decide)) (λ_ _ _ _=>⟨Qp,(vm (gx (aj (bQ (aj bg ax)) (aj (bQ (aj bg ax)) ax))) (eV (gS (aq 1) (vk aZ (aq 0))) aZ) (λ_ _=>rfl))⟩)) ax))) ax)))))))) (λR kk=>?_)
 walk_at "vc"
 refine⟨ns,k0,rfl,h0,by omega,λv=>⟨by decide,?_⟩⟩
 obtain⟨n8,en,hn⟩:=jL v (n:=8) (by decide)
 rw[en,Int.toNat_natCast]
 refine⟨⟨by omega,by omega⟩,?_⟩
 refine gU (λi env st=>∃(ms:bY) (zs:List Nat) (o3 o4 o5 o6:Option DV),env=[some (.dat (.list (ns.map PyData.int))),some (.dat (.int k0)),some (.ref 0),o3,o4,o5,o6]/\st=[.live (ms.map xG)]/\Good ms zs/\ms.length=i + 1) ⟨[(none,[])],[0],_,_,_,_,rfl,rfl,Good.one,rfl⟩ (λ_ _ _ _=>trivial) ?_ ?_
 ·rintro i env st d hd ⟨ms,zs,o3,o4,o5,o6,rfl,rfl,hg,lm⟩
  obtain⟨hi,rfl⟩:=nW hd
  have lz:=hg.len
  walk_at "vc"
  refine⟨ns,_,rfl,by omega,by omega,λc=>?_⟩
  walk_at "vc"
  rw[List.length_map]
  refine⟨by omega,?_⟩
  obtain⟨e,ee,he⟩:=jL c (n:=(ms.length:Int)) (by omega)
  rw[ee]
  have hez:e < zs.length:=by omega
  have hz:=cV hez
  have z6:=hg.six _ (List.getElem_mem hez)
  generalize zs[e]=z at hz z6
  obtain⟨m4,em,hm4⟩:=jL (c / 8) (n:=4) (by decide)
  refine⟨qx (by decide) (by decide),by decide,ms,zs,e,z,rfl,hg,hz,rfl,?_⟩
  walk_at "vc"
  rw[em]
  obtain⟨ow,eo,hw⟩:∃ow:Nat,(if 6 - (z:Int) < (m4:Int)then 6 - (z:Int)else(m4:Int))=(ow:Int)/\z + ow<=6:=by
   by_cases h:(6:Int) - (z:Int) < (m4:Int)
   ·rw[if_pos h];exact⟨6 - z,by omega,by omega⟩
   ·rw[if_neg h];exact⟨m4,rfl,by omega⟩
  rw[eo,Int.toNat_natCast]
  refine⟨rfl,⟨by omega,by omega⟩,?_⟩
  refine TJ (λj ys=>ys.length=j/\∀y∈ys,∃k:Kd,y=.tuple (yS k)/\(k=.num∨k=.any)) (by rw[ju];omega) ⟨rfl,λy hy=>nomatch hy⟩ ?_ ?_
  ·rintro j ys d hd ⟨hl,hy⟩
   obtain⟨hj,rfl⟩:=nW hd
   walk_at "vc"
   refine⟨rfl,rfl,fG ⟨qx (by omega) (by omega),by decide,?_⟩⟩
   obtain⟨x,hx,ex⟩:=DB (xs:=[PyData.tuple [.str "number"],PyData.tuple [.str "any"]]) (n:=2) rfl (by decide) (c / (32 + (0 + (j:Int))))
   refine⟨x,ex,rfl,by simp[hl],λy hy'=>?_⟩
   rcases List.mem_append.mp hy' with w | w
   ·exact hy y w
   ·rw[bJ w]
    simp only[List.mem_cons,List.not_mem_nil,or_false]at hx
    rcases hx with rfl | rfl
    ·exact⟨.num,rfl,.inl rfl⟩
    ·exact⟨.any,rfl,.inr rfl⟩
  ·rintro ys ⟨hl,hy⟩
   rw[ju]at hl
   obtain⟨ks,rfl,hk⟩:=all_map hy
   rw[List.length_map]at hl
   walk_at "vc"
   rw[List.length_map]
   refine⟨by omega,ms++[(some e,ks)],zs++[z + ks.length],_,_,_,_,rfl,by rw[List.map_append];rfl,hg.snoc hz (by omega) (by omega) λk h=>?_,by simp[lm]⟩
   rcases hk k h with w | w<;>(rw[w];exact trivial)
 ·rintro env st ⟨ms,zs,o3,o4,o5,o6,rfl,rfl,hg,lm⟩
  refine kk _ _ ?_
  clear kk R
  refine nX (cM (aq 2)) ?_
  walk_at "vc"
  exact q ms zs hg
theorem cG:az ["_law_makes_here","_law_cell_here","_law_k","_law_c","_law_many_here","_law_rows","_law_f"] ["_law_makes_here","_law_cell_here","_law_k"] (dS jM):=by walk_at "sc"
theorem vP{f:Addr}{fd:FuncData}(F:eO K "_law_recipe" "_law_recipe" jM f fd)(bq:mg "len"=none)(cm:mg "range"=none){aa:Addr}(ah:ak K aa)(ck:cX P w K mg base aL "_law_many" 1 ["_law_makes_here","_law_c"] (cJ K)):bw P w K mg base aL 2 f fd ["_law_makes_here","_law_cell_here","_law_k"] (fV K):=by
 refine F.ok cG (λvs H Q E h=>?_) (λcdv A outer s H vs Q E hr h=>?_)
 ·obtain⟨a,ms,zs,cell,k,rfl,hM,hg,hk,q⟩:=h
  rfl
 obtain⟨a,ms,zs,cell,k,rfl,hM,hg,hk,q⟩:=h
 obtain⟨xs,hS,hI⟩:=id hM
 have lx:=hI.1
 have h0:=hg.wf.ne
 refine Sf (@yB _ 3 _ _ _ _ _ cG.nd rfl (Or.inl rfl) (bh i5 (pv 1) (bH aT rfl bq dh (pK (pv 0) pN))) rfl (.inr rfl)) (λR kk=>?_)
 refine⟨_,rfl,_,rfl,a,xs,rfl,.inl hS,_,_,rfl,rfl,(by omega),?_⟩
 obtain⟨c,ec,hc⟩:∃c:Nat,cell % ((xs.length:Nat):Int)=(c:Int)/\c < ms.length:=⟨(cell % ((xs.length:Nat):Int)).toNat,by have:=Int.emod_nonneg cell (b:=((xs.length:Nat):Int)) (by omega);omega,by have:=Int.emod_nonneg cell (b:=((xs.length:Nat):Int)) (by omega);have:=Int.emod_lt_of_pos cell (b:=((xs.length:Nat):Int)) (by omega);omega⟩
 rw[show(λi j:Int=>V.int (i % j)) cell ((xs.length:Nat):Int)=V.int (c:Int)from congrArg V.int ec]
 refine kk [some (.ref a),some (.int cell),some (.int (k:Int)),some (.int (c:Int)),none,none,none] H ?_
 clear kk R
 have hcz:c < zs.length:=by rw[← hg.len];exact hc
 refine Sf (@yB _ 4 _ _ _ _ _ cG.nd rfl (Or.inl rfl) (bR ck (hr.mono (by decide)) rfl (pK (pv 0) (pK (pv 3) pN))) rfl (.inr rfl)) (λR kk=>?_)
 refine⟨_,rfl,_,rfl,a,ms,zs,c,zs[c],rfl,hM,hg,cV hcz,?_⟩
 have z6:=hg.six _ (List.getElem_mem hcz)
 have hz:=cV hcz
 generalize zs[c]=z at z6 hz ⊢
 refine kk [some (.ref a),some (.int cell),some (.int (k:Int)),some (.int (c:Int)),some (.int (z:Int)),none,none] H ?_
 clear kk R
 refine Sf (@yB _ 5 _ _ _ _ _ cG.nd rfl (Or.inl rfl) (cL (pK (bP (pK aH (pK (pv 3) pN))) pN)) rfl (.inr rfl)) (λR kk=>?_)
 refine⟨_,rfl,By,λt0 nt0=>⟨FT,λl0 nl0=>?_⟩⟩
 have s1:=sN nt0 (.tup [.str "make",.int (c:Int)])
 have s2:=sN nl0 (.lst [.ref t0])
 have R0:Rows K zs 1 H (upd (upd H t0 (.tup [.str "make",.int (c:Int)])) l0 (.lst [.ref t0])) l0 [.ref t0] [.make c]:=⟨s1.trans s2,s1.free nl0,uS,wD.snoc (ys:=[]) (xs:=[]) wD.nil ⟨t0,rfl,s2.tup (ba.of uS)⟩,λx hx=>by
  rw[bJ hx]
  exact⟨λnr=>hcz,.inr (by decide +kernel:("make" : Str)∈dX)⟩,Nat.le_refl _⟩
 generalize upd (upd H t0 (.tup [.str "make",.int (c:Int)])) l0 _=H1 at R0 ⊢
 refine kk [some (.ref a),some (.int cell),some (.int (k:Int)),some (.int (c:Int)),some (.int (z:Int)),some (.ref l0),none] H1 ?_
 clear kk R
 refine Sf (rL PassesOwn.never rfl (rK rfl cm (pK (pv 4) pN)) (c9 (i:=6) cG.nd rfl (Or.inl rfl)) (qO (aY (PW.pt (pw_or (tR xq (bh i5 (bh uB (pv 1) (bh ey (pv 6) pI)) pI) pI (aC _)) (pw_or1 (tR bD (bh i5 (bh uB (pv 1) pI) pI) pI (aC _))))) (qO (bf (i:=5) cG.nd rfl (Or.inl rfl) (bh uD (pv 5) (cL (pK (bP (pK aH (pK (bh ey (bh i5 (pv 1) pI) (pv 6)) pN))) (pK (bP (pK aH (pK (pv 3) (pK (pv 6) pN)))) pN)))))) aK))) (λR kk=>?_)
 refine⟨_,rfl,_,rfl,by omega,by omega,?_⟩
 refine DQ (lo:=0) (n:=((z:Nat):Int).toNat) (λi σ H2=>∃(l:Addr) (ys:List V) (rs:List Rw) (o6:Option V),σ=[some (.ref a),some (.int cell),some (.int (k:Int)),some (.int (c:Int)),some (.int (z:Int)),some (.ref l),o6]/\Rows K zs (1 + 2 * i) H H2 l ys rs) ⟨l0,_,_,_,rfl,R0⟩ ?_ ?_
 ·rintro i σ H2 hi ⟨l,ys,rs,o6,rfl,RW⟩
  rw[Int.zero_add]
  have hi6:i < z:=by omega
  have lys:=RW.it.1
  have oC:=RW.oC
  refine⟨_,rfl,_,rfl,_,_,rfl,rfl,_,_,rfl,rfl,⟨by omega,by omega⟩,_,_,rfl,rfl,(by show(0:Int) < 4;decide),_,_,rfl,rfl,_,rfl,qs (λ_=>fG ?_) (λ_=>⟨_,rfl,_,_,rfl,rfl,(by show(0:Int) < 7/\(7:Int) < 1073741824;decide),_,_,rfl,rfl,(by show(0:Int) < 2;decide),rfl,_,rfl,qs (λ_=>?_) (λ_=>?_)⟩)⟩
  rotate_left 2
  ·exact⟨l,ys,rs,_,rfl,RW.s,RW.nw,RW.g,RW.it,RW.ok,by have:=RW.oC;omega⟩
  all_goals
   refine⟨_,rfl,_,rfl,_,_,rfl,rfl,(by show(0:Int) < 1000;decide),_,rfl,_,_,rfl,rfl,By,λt1 n1=>⟨_,rfl,_,rfl,UY,λt2 n2=>⟨By,λl1 n3=>?_⟩⟩⟩
   have u1:=sN n1 (.tup [.str "push",.int (cell % 1000 + (i:Int))])
   have u2:=sN n2 (.tup [.str "fill",.int (c:Int),.int (i:Int)])
   have u3:=sN n3 (.lst [.ref t1,.ref t2])
   have v1:ba K _ t1 (xJ (.push (cell % 1000 + (i:Int)))):=(u2.trans u3).tup (ba.of uS)
   have v2:ba K _ t2 (xJ (.fill c i)):=u3.tup (ba.of uS)
   have v3:=uS (H:=upd (upd H2 t1 (.tup [.str "push",.int (cell % 1000 + (i:Int))])) t2 (.tup [.str "fill",.int (c:Int),.int (i:Int)])) (a:=l1) (o:=.lst [.ref t1,.ref t2])
   have U:=u1.trans (u2.trans u3)
   refine⟨l,l1,_,_,rfl,rfl,bc.of (U _ _ RW.g),bc.of v3,Nat.le_of_lt (big (by rw[lys];show rs.length + 2<=1000000;omega)),λl2 n4=>?_⟩
   have m1:=Int.emod_nonneg cell (b:=1000) (by decide)
   have m2:=Int.emod_lt_of_pos cell (b:=1000) (by decide)
   exact⟨l2,_,_,_,rfl,RW.Ww U n4 v1 v2 ⟨λnr=>⟨by omega,by omega⟩,.inl (by decide +kernel:("push" : Str)∈dY)⟩ ⟨λnr=>⟨z,hz,hi6⟩,.inr (by decide +kernel:("fill" : Str)∈dX)⟩⟩
 ·rintro σ H2 ⟨l,ys,rs,o6,rfl,RW⟩
  refine kk _ H2 ?_
  clear kk R
  have oC:rs.length<=13:=by have:=RW.oC;omega
  have RW:Rows K zs 13 H H2 l ys rs:=⟨RW.s,RW.nw,RW.g,RW.it,RW.ok,oC⟩
  have lys:=RW.it.1
  refine Sf (aY (tR bD (bh i5 (bh uB (pv 1) pI) pI) pI (aC _)) (qO (aW (iy PySem.F.plainAttrs_list PySem.F.slot_list_append PySem.F.type_list_append bK (pv 5) (pK (bP (pK aH (pK (pv 3) pN))) pN)))) aK) (λR kk=>?_)
  have nxt:∀(H3:Hp) (WA:List V) (WB:List Rw),Rows K zs 14 H H3 l WA WB->R [some (.ref a),some (.int cell),some (.int (k:Int)),some (.int (c:Int)),some (.int (z:Int)),some (.ref l),o6] H3:=by
   intro H3 WA WB R3
   refine kk _ H3 ?_
   clear kk R
   have l3:=R3.it.1
   have f3:=R3.oC
   refine Sf (aY (PW.pt (pw_or (tR bD (bh i5 (bh uB (pv 1) pI) pI) pI (aC _)) (pw_or1 (tR xq (pv 2) pI (aC _))))) (qO (aW (iy PySem.F.plainAttrs_list PySem.F.slot_list_append PySem.F.type_list_append bK (pv 5) (pK (bP (pK aH (pK (pv 2) pN))) pN)))) aK) (λR kk=>?_)
   have las:∀(H4:Hp) (WC:List V) (WD:List Rw),Rows K zs 15 H H4 l WC WD->R [some (.ref a),some (.int cell),some (.int (k:Int)),some (.int (c:Int)),some (.int (z:Int)),some (.ref l),o6] H4:=by
    intro H4 WC WD R4
    refine kk _ H4 ?_
    clear kk R
    refine goE (aE (pv 5)) ?_
    exact⟨_,rfl,q l WC WD H4 ⟨R4.s,R4.nw,R4.g,R4.it,R4.ok,by have:=R4.oC;omega⟩⟩
   refine⟨_,rfl,_,_,rfl,rfl,(by show(0:Int) < 14/\(14:Int) < 1073741824;decide),_,_,rfl,rfl,(by show(0:Int) < 2;decide),rfl,_,rfl,qs (λ_=>fG ?_) (λ_=>⟨_,rfl,_,_,rfl,rfl,_,rfl,qs (λ_=>?_) (λ_=>?_)⟩)⟩
   rotate_left 2
   ·exact las H3 WA WB ⟨R3.s,R3.nw,R3.g,R3.it,R3.ok,by omega⟩
   all_goals
    refine⟨_,rfl,.inl ⟨rfl,_,bc.of R3.g⟩,_,rfl,By,λt1 n1=>?_⟩
    have u1:=sN n1 (.tup [.str "store",.int (k:Int)])
    have v1:ba K _ t1 (xJ (.store k)):=ba.of (uS (H:=H3) (a:=t1) (o:=.tup [.str "store",.int (k:Int)]))
    have R4:=(R3.same u1).app v1 ⟨λnr=>(by show k < 8;omega),.inl (by decide +kernel:("store" : Str)∈dY)⟩
    exact⟨l,_,_,rfl,rfl,u1 _ _ R3.g,big (by rw[l3];omega),las _ _ _ R4⟩
  refine⟨_,rfl,_,_,rfl,rfl,(by show(0:Int) < 7/\(7:Int) < 1073741824;decide),_,_,rfl,rfl,(by show(0:Int) < 2;decide),rfl,_,rfl,qs (λ_=>?_) (λ_=>nxt H2 ys rs ⟨RW.s,RW.nw,RW.g,RW.it,RW.ok,by omega⟩)⟩
  refine⟨_,rfl,.inl ⟨rfl,_,bc.of RW.g⟩,_,rfl,By,λt1 n1=>?_⟩
  have u1:=sN n1 (.tup [.str "begin",.int (c:Int)])
  have v1:ba K _ t1 (xJ (.beg c)):=ba.of (uS (H:=H2) (a:=t1) (o:=.tup [.str "begin",.int (c:Int)]))
  have R4:=(RW.same u1).app v1 ⟨λnr=>hcz,.inr (by decide +kernel:("begin" : Str)∈dX)⟩
  exact⟨l,_,_,rfl,rfl,u1 _ _ RW.g,big (by rw[lys];omega),nxt _ _ _ R4⟩
theorem cU:az ["_law_makes_here","_law_heap","_law_make","_law_begun","_law_mask","_law_some","_law_f"] ["_law_makes_here","_law_heap"] (dS lj):=by walk_at "sc"
theorem wX{f:Addr}{fd:FuncData}(F:eO K "_law_sound" "_law_sound" lj f fd)(vQ:mg "bool"=none)(dG:mg "isinstance"=none)(bq:mg "len"=none)(cm:mg "range"=none)(qN:mg "tuple"=none){aa:Addr}(ah:ak K aa)(ck:cX P w K mg base aL "_law_many" 1 ["_law_makes_here","_law_c"] (cJ K))(qP:IsT K "bool" (Am "bool"))(lU:IsT K "tuple" (Am "tuple")):bw P w K mg base aL 2 f fd ["_law_makes_here","_law_heap"] (g7 K):=by
 refine F.ok cU (λvs H Q E h=>?_) (λcdv A outer s H vs Q E hr h=>?_)
 ·obtain⟨PP,ds,hP,hv,ms,zs,rs,rfl,hg,hO,q⟩:=h
  exact hv.1
 obtain⟨PP,ds,hP,hv,ms,zs,rs,rfl,hg,hO,q⟩:=h
 refine iD hP hv ?_
 show Fx _ _ _ [some _,some _,none,none,none,none,none] []
 clear hP hv
 refine bj (jK PassesOwn.never rfl (Cb (aq 1)) (Hj (m:=4) rfl (jv (dD (i:=2) cU.nd rfl (Or.inl rfl)) (jv (dD (i:=3) cU.nd rfl (Or.inl rfl)) (jv (dD (i:=4) cU.nd rfl (Or.inl rfl)) (jv (dD (i:=5) cU.nd rfl (Or.inl rfl)) Dy))))) (dm (iR (Af.dt (sX (oV (i7 (Ho qP rfl dG rfl vQ LN (aq 3)))) (sX (oV (i7 (Ho lU rfl dG rfl qN GD (aq 5)))) (vn (Ai (hr.units) (gy rfl bq (aj (aq 5) ax)) (cf ck iX iW (hr.mono (by decide)) rfl (aj (aq 0) (aj (aq 2) ax)))))))) (bE (cM kY)) da)
   (dm (jK PassesOwn.never rfl (ij rfl cm (aj (gy rfl bq (aj (aq 5) ax)) ax)) (dD (i:=6) cU.nd rfl (Or.inl rfl)) (bE (iR (Af.dt (yE (Ha (hr.units) (G2 (G0 (aq 4) (aq 6)) aZ) aZ) (uG (Af.dt (sX (i7 (aq 3)) (vn (Ds (vm (aq 5) (aq 6) (λ_ _=>rfl)) B8))))))) (bE (cM kY)) da)))
   (bE (iR (Af.dt (sX (OW (aq 4) aZ) (vn (Ai (hr.units) (G0 (aq 4) (gy rfl bq (aj (aq 5) ax))) aZ)))) (bE (cM kY)) da))))) (λR kk=>?_)
 walk_at "vc"
 refine gU (λi env st=>∃o2 o3 o4 o5 o6,env=[some (.dat (.list (ms.map xG))),some (.dat (.list (rs.map tq))),o2,o3,o4,o5,o6]/\st=[]) ⟨_,_,_,_,_,rfl,rfl⟩ (λ_ _ _ _=>trivial) ?_ ?_
 ·rintro i env st d hd ⟨o2,o3,o4,o5,o6,rfl,rfl⟩
  obtain⟨r,hr,rfl⟩:=rV hd
  have ok:=hO r (List.mem_of_getElem? hr)
  obtain⟨z,hz,ez⟩:=hg.iG r.c ok.c
  have ef:r.fs.length=z:=by rw[ok.fs];exact ez
  have z6:=hg.six z (List.mem_of_getElem? hz)
  rw[vJ r]
  walk_at "vc"
  refine⟨rfl,bV (bV ?_)⟩
  refine⟨ms,zs,r.c,z,rfl,hg,hz,?_⟩
  rw[List.length_map,ef]
  refine qy (λz=>absurd rfl z) (λ_=>?_)
  refine⟨⟨by omega,by omega⟩,?_⟩
  rw[Int.toNat_natCast]
  refine gU (λi env st=>∃o6,env=[some (.dat (.list (ms.map xG))),some (.dat (.list (rs.map tq))),some (.dat (.int (r.c:Int))),some (.dat (.bool r.begun)),some (.dat (.int (r.mask:Int))),some (.dat (.tuple (r.fs.map wC))),o6]/\st=[]) ⟨_,rfl,rfl⟩ (λ_ _ _ _=>trivial) ?_ ?_
  ·rintro j env st d hd ⟨o6,rfl,rfl⟩
   obtain⟨hj,rfl⟩:=nW hd
   walk_at "vc"
   rw[Int.zero_add,QP]
   have hjl:j < r.fs.length:=by omega
   have hx:=cV hjl
   refine⟨by omega,rT (λhb=>?_) (λ_=>?_)⟩
   ·have nb:r.mask.testBit j=false:=by
     cases e:r.mask.testBit j with
     | false=>rfl
     | true=>rw[e,if_pos rfl]at hb;exact absurd hb (by decide)
    have ng:r.begun=false:=by
     cases e:r.begun with
     | false=>rfl
     | true=>have:=ok.all e j hjl;rw[nb]at this;cases this
    rw[ng]
    refine bV ⟨wC r.fs[j],yL hx,?_⟩
    rw[ok.no j _ hx nb]
    exact bV ⟨_,rfl,rfl⟩
   ·exact bV ⟨_,rfl,rfl⟩
  ·rintro env st ⟨o6,rfl,rfl⟩
   walk_at "vc"
   rw[List.length_map,ef,Int.toNat_natCast]
   refine rT (λz=>by omega) (λ_=>⟨by omega,?_⟩)
   have e0:(r.mask:Int) / 2 ^ z=0:=by
    rw[show((2:Int) ^ z)=((2 ^ z:Nat):Int)by rw[Int.natCast_pow];rfl,← Int.natCast_ediv,Nat.div_eq_of_lt (by rw[← ef];exact ok.hi)]
    rfl
   rw[e0]
   exact qy (λz=>absurd rfl z) (λ_=>⟨_,_,_,_,_,rfl,rfl⟩)
 ·rintro env st ⟨o2,o3,o4,o5,o6,rfl,rfl⟩
  refine kk _ _ ?_
  clear kk R
  refine nX (cM kY) ?_
  exact q
theorem ji:az ["_law_script","_law_makes_here","_law_heap","_law_k","_law_c","_law_some"] ["_law_script","_law_makes_here","_law_heap","_law_k"] (dS ll):=by walk_at "sc"
theorem wY{f:Addr}{fd:FuncData}(F:eO K "_law_kinds" "_law_kinds" ll f fd){aa:Addr}(ah:ak K aa)(dw:cX P w K mg base aL "_law_cell" 1 ["_law_script","_law_k"] (eN K))(ck:cX P w K mg base aL "_law_many" 1 ["_law_makes_here","_law_c"] (cJ K)):bw P w K mg base aL 2 f fd ["_law_script","_law_makes_here","_law_heap","_law_k"] (g8 K):=by
 refine F.ok ji (λvs H Q E h=>?_) (λcdv A outer s H vs Q E hr h=>?_)
 ·obtain⟨PP,ds,hP,hv,ns,ms,zs,rs,k,r,rfl,hg,hrk,hc,q⟩:=h
  exact hv.1
 obtain⟨PP,ds,hP,hv,ns,ms,zs,rs,k,r,rfl,hg,hrk,hc,q⟩:=h
 refine iD hP hv ?_
 show Fx _ _ _ [some _,some _,some _,some _,none,none] []
 clear hP hv
 obtain⟨z,hz,ez⟩:=hg.iG r.c hc
 have z6:=hg.six z (List.mem_of_getElem? hz)
 refine bj (cB (i:=4) ji.nd rfl (Or.inl rfl) (gz (n:=0) (vm (aq 2) (aq 3) (λ_ _=>rfl)))) (λR kk=>?_)
 walk_at "vc"
 refine⟨_,yL hrk,?_⟩
 rw[vJ r]
 walk_at "vc"
 refine kk _ _ ?_
 clear kk R
 refine bj (cB (i:=5) ji.nd rfl (Or.inl rfl) (gx (aj (bQ (aj bg ax)) (aj (bQ (aj bg (aj (aq 4) ax))) (aj (bQ (aj bg (aj aZ ax))) (aj (bQ (aj bg (aj (aq 4) (aj (gz (n:=2) (vm (aq 2) (aq 3) (λ_ _=>rfl))) ax)))) ax)))))) (λR kk=>?_)
 walk_at "vc"
 refine⟨_,yL hrk,?_⟩
 rw[vJ r]
 walk_at "vc"
 refine kk _ _ ?_
 clear kk R
 refine nX (cM (vk (aq 5) (gx (aj (bQ (aj bg (aj (aq 4) (aj (eV (cf dw gh gf (hr.mono (by decide)) rfl (aj (aq 0) (aj aZ ax))) (Qd aZ (cf ck iX iW (hr.mono (by decide)) rfl (aj (aq 1) (aj (aq 4) ax))))) ax)))) ax)))) ?_
 walk_at "vc"
 refine⟨ns,10,rfl,by decide,by decide,λv=>?_⟩
 refine⟨ms,zs,r.c,z,rfl,hg,hz,?_⟩
 refine⟨⟨by omega,by omega,by decide⟩,?_⟩
 have p2:(1:Int) * 2 ^ ((z:Int)).toNat=((2 ^ z:Nat):Int):=by rw[Int.toNat_natCast];simp
 rw[p2]
 walk_at "vc"
 have pz:0 < 2 ^ z:=Nat.pow_pos (by decide)
 obtain⟨m,em,hm⟩:=jL v (n:=((2 ^ z:Nat):Int)) (by omega)
 rw[em]
 exact⟨by omega,by decide,q [.any,.whole r.c,.whole 0,.raw r.c r.mask,.raw r.c m] rfl⟩
theorem jZ:az ["makes","c","elders"] ["makes","c"] (dS lp):=by walk_at "sc"
theorem zl{f:Addr}{fd:FuncData}(F:eO K "elders_of" "elders_of" lp f fd){aa:Addr}(ah:ak K aa):bw P w K mg base aL 1 f fd ["makes","c"] (hJ K):=by
 refine F.ok jZ (λvs H Q E h=>?_) (λcdv A outer s H vs Q E hr h=>?_)
 ·obtain⟨a,ms,c,rfl,hM,hw,hc,q⟩:=h
  rfl
 obtain⟨a,ms,c,rfl,hM,hw,hc,q⟩:=h
 refine⟨_,(qK (bf (i:=2) jZ.nd rfl (Or.inl rfl) (cL pN))
   (qK (uW PassesOwn.never (tR qk (pv 1) eP (aC _)) (qK (aW (iy PySem.F.plainAttrs_list PySem.F.slot_list_append PySem.F.type_list_append bK (pv 2) (pK (pv 1) pN)))
   (qO (bf (i:=1) jZ.nd rfl (Or.inl rfl) (au aw (au aR (pv 0) (pv 1) (λ_ _=>rfl)) pI (λ_ _=>rfl))))))
   (qO (aE (pv 2))))),?_⟩
 refine⟨R8,λr hr'=>?_⟩
 refine va (λσ H2=>∃(cur:Option Nat) (pre:List Nat),σ=[some (.ref a),some (KC cur),some (.ref r)]/\aB H H2/\H2 r=some (.lst (kC pre))/\(∀j,cur=some j->j < ms.length)/\pre++rest ms cur=bt ms c)
  (λ(σ:St) (_:Hp)=>match σ[1]? with | some (some (V.int j))=>j.toNat + 1 | _=>0) ⟨some c,[],rfl,λb o e=>by rw[uN (nN e hr')];exact e,uS,λj hj=>by cases hj;exact hc,rfl⟩ ?_ ?_
 ·rintro σ H2 ⟨cur,pre,rfl,sm,Sn,hj,he⟩
  cases cur with
  | none =>
   refine⟨_,rfl,rfl,_,rfl,bV ?_⟩
   have e':pre=bt ms c:=by rw[← he];simp[rest]
   rw[e']at Sn
   exact⟨_,rfl,q r H2 sm hr' Sn⟩
  | some j =>
   refine⟨_,rfl,rfl,_,rfl,fG ?_⟩
   have hjl:=hj j rfl
   have hlen:(kC pre).length < sizeLine:=by
    have h1:=(nZ hw c hc).1
    have h2:(pre++rest ms (some j)).length=(bt ms c).length:=by rw[he]
    have h3:=hw.oC
    rw[List.length_append]at h2
    rw[List.length_map]
    exact sK (by omega)
   refine⟨_,rfl,.inl ⟨rfl,_,bc.of Sn⟩,_,rfl,r,_,_,rfl,rfl,Sn,hlen,?_⟩
   have QV:aB H (upd H2 r (.lst (kC pre++[.int (j:Int)]))):=λb o e=>by rw[uN (nN e hr')];exact sm b o e
   obtain⟨xs,hS,hI⟩:=hM.same QV
   obtain⟨m,hm,hel,hlt⟩:=hw.el hjl
   have hxl:j < xs.length:=by rw[hI.1];exact hjl
   obtain⟨t,l,ks,hx,ht,_⟩:=hI.2 j _ m (cV hxl) hm
   refine⟨_,rfl,_,rfl,a,xs,_,_,rfl,rfl,hS,aN (cV hxl),t,_,_,_,hx,rfl,ht,aN (j:=0) rfl,?_⟩
   refine⟨⟨m.1,pre++[j],rfl,QV,?_,λi hi=>?_,?_⟩,?_⟩
   ·rw[uS];show _=some (HO.lst (List.map _ (pre++[j])));rw[List.map_append];rfl
   ·have:=hlt i hi
    omega
   ·rw[← he]
    show(pre++[j])++rest ms m.1=pre++bt ms j
    rw[gc hw hjl,hel]
    simp
   ·show(match (some (some (KC m.1)):Option (Option V))with | some (some (V.int j))=>j.toNat + 1 | _=>0) < ((j:Int).toNat + 1)
    cases e:m.1 with
    | none=>show 0 < _;omega
    | some i =>
     have:=hlt i e
     show(i:Int).toNat + 1 < _
     omega
 ·rintro σ H2 Q1 Q2 f ⟨v,e1,e2,k,e3,q1⟩
  exact⟨v,e1,e2,k,e3,f _ _ q1⟩
theorem AD:az ["makes","c","other"] ["makes","c","other"] (dS oZ):=by walk_at "sc"
theorem AF{f:Addr}{fd:FuncData}(F:eO K "is_under" "is_under" oZ f fd){aa:Addr}(ah:ak K aa)(lV:cX P w K mg base aL "elders_of" 1 ["makes","c"] (hJ K)):bw P w K mg base aL 2 f fd ["makes","c","other"] (iZ K):=by
 refine F.ok AD (λvs H Q E h=>?_) (λcdv A outer s H vs Q E hr h=>?_)
 ·obtain⟨a,ms,c,o,rfl,hM,hw,hc,q⟩:=h
  rfl
 obtain⟨a,ms,c,o,rfl,hM,hw,hc,q⟩:=h
 refine⟨_,(qO (aE (jF js (pv 2) (bR lV (hr.mono (by decide)) rfl (pK (pv 0) (pK (pv 1) pN))) rfl))),?_⟩
 refine⟨_,rfl,_,rfl,_,rfl,a,ms,c,rfl,hM,hw,hc,λr H2 sm _ Sn=>?_⟩
 refine⟨r,_,rfl,.inl (bc.of Sn),rfl,xH _,?_⟩
 show Q (.bl (Gy (.int (o:Int)) (kC (bt ms c)))) H2
 rw[Ao]
 exact q H2 sm
theorem pL:az ["makes","record","kind"] ["makes","record","kind"] (dS eW):=by walk_at "sc"
theorem pM{f:Addr}{fd:FuncData}(F:eO K "record_has_kind" "record_has_kind" eW f fd){aa:Addr}(ah:ak K aa)(pO:cX P w K mg base aL "is_under" 2 ["makes","c","other"] (iZ K)):bw P w K mg base aL 3 f fd ["makes","record","kind"] (eE K):=by
 refine F.ok pL (λvs H Q E h=>?_) (λcdv A outer s H vs Q E hr h=>?_)
 ·obtain⟨a,ms,v,t,r,k,rfl,hM,hw,hv,hc,ht,n1,n2,q⟩:=h
  rfl
 obtain⟨a,ms,v,t,r,k,rfl,hM,hw,hv,hc,ht,n1,n2,q⟩:=h
 refine⟨_,(qK (aY (tR bD (au aw (pv 2) pI (λ_ _=>rfl)) aH (aC _)) (qO (aE (FY (au aw (pv 1) pI (λ_ _=>rfl)) (FX (bR pO (hr.mono (by decide)) rfl (pK (pv 0) (pK (au aw (pv 1) pI (λ_ _=>rfl)) (pK (au aw (pv 2) pI (λ_ _=>rfl)) pN)))))))) aK)
   (qO (aE (FY (jF bD (au aw (pv 1) pI (λ_ _=>rfl)) (au aw (pv 2) pI (λ_ _=>rfl)) (aC _)) (FX (jF bD (bh Gj (au aw (pv 1) pI (λ_ _=>rfl)) (au aw (pv 2) pI (λ_ _=>rfl))) (au aw (pv 2) pI (λ_ _=>rfl)) (aC _))))))),?_⟩
 obtain⟨u,ft,fys,rfl,hu,_,_⟩:=hv
 have hu:ba K H u [.int (r.c:Int),.bl r.begun,.int (r.mask:Int),.ref ft]:=hu
 cases k with
 | any=>exact absurd rfl n1
 | num=>exact absurd rfl n2
 | whole c =>
  refine⟨_,rfl,t,_,_,_,rfl,rfl,ht,aN (j:=0) rfl,rfl,_,rfl,kT rfl ?_⟩
  refine⟨_,rfl,u,_,_,_,rfl,rfl,hu,aN (j:=1) rfl,_,rfl,?_⟩
  have q':∀(H':Hp),aB H H'->Q (.bl (r.begun&&decide (c∈bt ms r.c))) H':=q
  cases hb:r.begun with
  | true =>
   rw[hb]at q'
   exact fG ⟨_,rfl,_,rfl,u,_,_,_,rfl,rfl,hu,aN (j:=0) rfl,_,rfl,t,_,_,_,rfl,rfl,ht,aN (j:=1) rfl,a,ms,r.c,c,rfl,hM,hw,hc,q'⟩
  | false =>
   rw[hb]at q'
   exact bV (q' H (aB.refl _))
 | raw c m =>
  refine⟨_,rfl,t,_,_,_,rfl,rfl,ht,aN (j:=0) rfl,rfl,_,rfl,cP nRW ?_⟩
  dsimp only[dR]
  have qq:Q (.bl (decide (r.c=c)&&decide (r.mask&&&m=m))) H:=q H (aB.refl _)
  refine⟨_,rfl,u,_,_,_,rfl,rfl,hu,aN (j:=0) rfl,_,rfl,t,_,_,_,rfl,rfl,ht,aN (j:=1) rfl,rfl,_,rfl,?_⟩
  rw[DF]
  by_cases e:r.c=c
  ·rw[decide_eq_true e]at qq ⊢
   refine fG ⟨_,rfl,u,_,_,_,rfl,rfl,hu,aN (j:=2) rfl,_,rfl,t,_,_,_,rfl,rfl,ht,aN (j:=2) rfl,_,_,rfl,rfl,_,rfl,t,_,_,_,rfl,rfl,ht,aN (j:=2) rfl,rfl,?_⟩
   show Q (.bl (decide (V.int (Builtin.bitAnd (r.mask:Int) (m:Int))=V.int (m:Int)))) H
   rw[pj,DF]
   simpa using qq
  ·rw[decide_eq_false e]at qq ⊢
   exact bV qq
theorem AH:az ["makes","heap","value","kind"] ["makes","heap","value","kind"] (dS pb):=by walk_at "sc"
theorem AJ{f:Addr}{fd:FuncData}(F:eO K "has_kind" "has_kind" pb f fd){aa:Addr}(ah:ak K aa)(qQ:cX P w K mg base aL "record_has_kind" 3 ["makes","record","kind"] (eE K)):bw P w K mg base aL 4 f fd ["makes","heap","value","kind"] (gm K):=by
 refine F.ok AH (λvs H Q E h=>?_) (λcdv A outer s H vs Q E hr h=>?_)
 ·obtain⟨a,ms,hp,rs,rcs,v,x,t,k,rfl,hM,hw,hS,hR,hC,hv,hn,ht,q⟩:=h
  rfl
 obtain⟨a,ms,hp,rs,rcs,v,x,t,k,rfl,hM,hw,hS,hR,hC,hv,hn,ht,q⟩:=h
 refine⟨_,(qK (aY (tR bD (au aw (pv 3) pI (λ_ _=>rfl)) aH (aC _)) (qO (aE sO)) aK)
   (qK (aY (tR BN (pv 2) eP (aC _)) (qO (aE sO)) aK)
   (qK (aY (PW.pt (pw_or (tR bD (au aw (pv 3) pI (λ_ _=>rfl)) aH (aC _)) (pw_or1 (tR bD (au aw (pv 2) pI (λ_ _=>rfl)) aH (aC _))))) (qO (aE (jF bD (au aw (pv 3) pI (λ_ _=>rfl)) (au aw (pv 2) pI (λ_ _=>rfl)) (aC _)))) aK)
   (qO (aE (bR qQ (hr.mono (by decide)) rfl (pK (pv 0) (pK (au aR (pv 1) (au aw (pv 2) pI (λ_ _=>rfl)) (λ_ _=>rfl)) (pK (pv 3) pN))))))))),?_⟩
 refine⟨_,rfl,t,_,_,_,rfl,rfl,ht,r9 k,rfl,_,rfl,?_⟩
 by_cases ka:k=.any
 ·subst ka
  exact kT rfl (q H (aB.refl _))
 refine cP (MG ka) ?_
 dsimp only[dR]
 rw[MF ka]at q
 cases x with
 | none =>
  have e:=uI hv
  subst e
  exact⟨_,rfl,rfl,_,rfl,fG (q H (aB.refl _))⟩
 | num w =>
  obtain⟨u,rfl,hu⟩:=vB hv
  refine⟨_,rfl,rfl,_,rfl,bV ?_⟩
  dsimp only[dR]
  refine⟨_,rfl,t,_,_,_,rfl,rfl,ht,r9 k,rfl,_,rfl,?_⟩
  have fin:Q (.bl (decide (V.str (QC k)=V.str "number"))) H:=by
   have z:=q H (aB.refl _)
   rw[show decide (V.str (QC k)=V.str "number")=decide (k=.num)from decide_eq_decide.mpr yV]
   exact z
  by_cases kn:V.str (QC k)=V.str "number"
  ·refine kT kn ?_
   exact⟨_,rfl,t,_,_,_,rfl,rfl,ht,r9 k,_,rfl,u,_,_,_,rfl,rfl,hu,aN (j:=0) rfl,rfl,fin⟩
  ·refine cP kn ?_
   refine⟨_,rfl,u,_,_,_,rfl,rfl,hu,aN (j:=0) rfl,rfl,_,rfl,kT rfl ?_⟩
   exact⟨_,rfl,t,_,_,_,rfl,rfl,ht,r9 k,_,rfl,u,_,_,_,rfl,rfl,hu,aN (j:=0) rfl,rfl,fin⟩
 | rcd n =>
  obtain⟨u,rfl,hu⟩:=vC hv
  have hnl:=hn n rfl
  refine⟨_,rfl,rfl,_,rfl,bV ?_⟩
  dsimp only[dR]
  refine⟨_,rfl,t,_,_,_,rfl,rfl,ht,r9 k,rfl,_,rfl,?_⟩
  have hrn:=cV hnl
  by_cases kn:k=.num
  ·refine kT (yV.mpr kn) ?_
   refine⟨_,rfl,t,_,_,_,rfl,rfl,ht,r9 k,_,rfl,u,_,_,_,rfl,rfl,hu,aN (j:=0) rfl,rfl,?_⟩
   subst kn
   have z:=q H (aB.refl _)
   rw[iH hrn]at z
   have z2:decide (V.str (QC Kd.num)=V.str "record")=false:=decide_eq_false Wt
   rw[z2]
   exact z
  ·refine cP (λh=>kn (yV.mp h)) ?_
   refine⟨_,rfl,u,_,_,_,rfl,rfl,hu,aN (j:=0) rfl,rfl,_,rfl,cP Ws ?_⟩
   dsimp only[dR]
   rw[iH hrn]at q
   obtain⟨y,hy1,hy2⟩:=hR.at hrn
   exact⟨_,rfl,_,rfl,_,rfl,u,_,_,_,rfl,rfl,hu,aN (j:=1) rfl,hp,rs,_,_,rfl,rfl,hS,aN hy1,_,rfl,a,ms,y,t,rcs[n],k,rfl,hM,hw,hy2,hC _ (List.getElem_mem hnl),ht,ka,kn,q⟩
theorem jk:az ["_law_script","_law_makes_here","_law_old","_law_new","_law_k","_law_kind"] ["_law_script","_law_makes_here","_law_old","_law_new"] (dS lu):=by walk_at "sc"
theorem wZ{f:Addr}{fd:FuncData}(F:eO K "_law_stays" "_law_stays" lu f fd)(bq:mg "len"=none)(cm:mg "range"=none){aa:Addr}(ah:ak K aa)(zm:cX P w K mg base aL "_law_kinds" 2 ["_law_script","_law_makes_here","_law_heap","_law_k"] (g8 K))(j0:cX P w K mg base aL "has_kind" 4 ["makes","heap","value","kind"] (gm K)):bw P w K mg base aL 5 f fd ["_law_script","_law_makes_here","_law_old","_law_new"] (hZ K):=by
 refine F.ok jk (λvs H Q E h=>?_) (λcdv A outer s H vs Q E hr h=>?_)
 ·obtain⟨PP,ds,hP,hv,ns,ms,zs,rs,rs',rfl,hg,hG,h1,h2,hl,q⟩:=h
  exact hv.1
 obtain⟨PP,ds,hP,hv,ns,ms,zs,rs,rs',rfl,hg,hG,h1,h2,hl,q⟩:=h
 refine iD hP hv ?_
 show Fx _ _ _ [some _,some _,some _,some _,none,none] []
 clear hP hv
 have hle:=hG.le
 refine bj (jK PassesOwn.never rfl (ij rfl cm (aj (gy rfl bq (aj (aq 2) ax)) ax)) (dD (i:=4) jk.nd rfl (Or.inl rfl)) (bE (jK PassesOwn.never rfl (Cb (cf zm zc zb (hr.mono (by decide)) rfl (aj (aq 0) (aj (aq 1) (aj (aq 2) (aj (aq 4) ax)))))) (dD (i:=5) jk.nd rfl (Or.inl rfl)) (bE (iR (Af.dt (yE (i7 (cf j0 tx tw (hr.mono (by decide)) rfl (aj (aq 1) (aj (aq 2) (aj (bQ (aj bg (aj (aq 4) ax))) (aj (aq 5) ax)))))) (uG (oV (i7 (cf j0 tx tw (hr.mono (by decide)) rfl (aj (aq 1) (aj (aq 3) (aj (bQ (aj bg (aj (aq 4) ax))) (aj (aq 5) ax)))))))))) (bE (cM kY)) da))))) (λR kk=>?_)
 walk_at "vc"
 rw[List.length_map,Int.toNat_natCast]
 refine⟨⟨by omega,by omega⟩,?_⟩
 refine gU (λi env st=>∃o4 o5,env=[some (.dat (.list (ns.map PyData.int))),some (.dat (.list (ms.map xG))),some (.dat (.list (rs.map tq))),some (.dat (.list (rs'.map tq))),o4,o5]/\st=[]) ⟨_,_,rfl,rfl⟩ (λ_ _ _ _=>trivial) ?_ ?_
 ·rintro i env st d hd ⟨o4,o5,rfl,rfl⟩
  obtain⟨hi,rfl⟩:=nW hd
  rw[Int.zero_add]
  have hrk:=cV hi
  walk_at "vc"
  refine⟨ns,ms,zs,rs,i,rs[i],rfl,hg,hrk,h1 _ (List.getElem_mem hi),λks hk=>?_⟩
  walk_at "vc"
  refine gU (λj env st=>∃o5,env=[some (.dat (.list (ns.map PyData.int))),some (.dat (.list (ms.map xG))),some (.dat (.list (rs.map tq))),some (.dat (.list (rs'.map tq))),some (.dat (.int (i:Int))),o5]/\st=[]) ⟨_,rfl,rfl⟩ (λ_ _ _ _=>trivial) ?_ ?_
  ·rintro j env st d hd ⟨o5,rfl,rfl⟩
   obtain⟨k,hk,rfl⟩:=rV hd
   walk_at "vc"
   refine⟨ms,rs,.rcd i,k,rfl,hg.wf,h1,(λn e=>by cases e;exact hi),O3 (λhb=>?_) (λ_=>bV ⟨_,rfl,rfl⟩)⟩
   refine⟨ms,rs',.rcd i,k,rfl,hg.wf,h2,(λn e=>by cases e;omega),?_⟩
   rw[hG.has hb]
   exact bV ⟨_,rfl,rfl⟩
  ·rintro env st ⟨o5,rfl,rfl⟩
   exact⟨_,_,rfl,rfl⟩
 ·rintro env st ⟨o4,o5,rfl,rfl⟩
  refine kk _ _ ?_
  clear kk R
  refine nX (cM kY) ?_
  exact q
theorem w6:az ["self"] ["self"] (dS jN):=by walk_at "sc"
theorem w8{f:Addr}{fd:FuncData}(F:eO K "heap" "Plain.heap" jN f fd)(cH:mg "list"=none){aa:Addr}(ah:ak K aa){C:Addr}{wt:Bool}(ac:bp K C):bw P w K mg base aL 1 f fd ["self"] (uM K aa C wt):=by
 refine F.ok w6 (λvs H Q E h=>?_) (λcdv A outer s H vs Q E hr h=>?_)
 ·obtain⟨mm,rfl,hM,q⟩:=h
  rfl
 obtain⟨mm,rfl,hM,q⟩:=h
 refine⟨_,(qO (aE (cR bL rfl cH fU (pK (aD (pv 0) rfl) pN)))),?_⟩
 obtain⟨dx,ev,h1,h2⟩:=hM.ob
 obtain⟨ys,g,hr'⟩:=hM.rc
 refine⟨_,rfl,mm.ma,C,dx,_,_,rfl,h1,ac.cl,ac.bU,eh,mm.rc,_,rfl,.inl (bc.of g),λl hl=>?_⟩
 have s:=sN hl (.lst ys)
 exact q l _ _ s hl uS (hr'.imp λy x h=>h.same s)
theorem um:az ["self","value"] ["self","value"] (dS iE):=by walk_at "sc"
theorem uo{f:Addr}{fd:FuncData}(F:eO K "bare" "Watched.bare" iE f fd){aa:Addr}(ah:ak K aa){C:Addr}(ac:bp K C):bw P w K mg base aL 1 f fd ["self","value"] (i4 K true):=by
 refine F.ok um (λvs H Q E h=>?_) (λcdv A outer s H vs Q E hr h=>?_)
 ·obtain⟨x,v,y,rfl,hv,hy,q⟩:=h
  rfl
 obtain⟨x,v,y,rfl,hv,hy,q⟩:=h
 refine⟨_,(qO (aE (au aw (pv 1) pI (λ_ _=>rfl)))),?_⟩
 cases y with
 | none=>exact absurd rfl hy
 | num w =>
  obtain⟨t,rfl,ht⟩:=vB hv
  exact⟨_,rfl,t,_,_,_,rfl,rfl,ht,aN (j:=1) rfl,q⟩
 | rcd n =>
  obtain⟨t,rfl,ht⟩:=vC hv
  exact⟨_,rfl,t,_,_,_,rfl,rfl,ht,aN (j:=1) rfl,q⟩
theorem AK:az ["stack","many","values"] ["stack","many"] (dS yP):=by walk_at "sc"
theorem HU{f:Addr}{fd:FuncData}(F:eO K "taken" "taken" yP f fd)(cm:mg "range"=none){aa:Addr}(ah:ak K aa):bw P w K mg base aL 1 f fd ["stack","many"] (lN K):=by
 refine F.ok AK (λvs H Q E h=>?_) (λcdv A outer s H vs Q E hr h=>?_)
 ·obtain⟨sl,xs,n,rfl,hS,hn,fB,q⟩:=h
  rfl
 obtain⟨sl,xs,n,rfl,hS,hn,fB,q⟩:=h
 refine⟨_,(qK (qu (i:=2) AK.nd rfl (Or.inl rfl) 1 ["k","stack"] [0] ⟨rfl,rfl,rfl,rfl,rfl,rfl,rfl,rfl⟩ (rK rfl cm (pK (pv 1) pN)) (λ_ _ _ _=>⟨(c9 (i:=0) (show List.Nodup (["k","stack"]:List Str)by decide +kernel) rfl (Or.inl rfl)),jG,(show PE _ _ (SX K _ _ _)from (fF PySem.F.plainAttrs_list PySem.F.slot_list_pop PySem.F.type_list_pop gw (pv 1)))⟩))
   (qK (aW (fF PySem.F.plainAttrs_list PySem.F.slot_list_reverse PySem.F.type_list_reverse B2 (pv 2)))
   (qO (aE (pv 2))))),?_⟩
 refine⟨_,rfl,_,rfl,by omega,by omega,λD hD=>?_⟩
 have nD:sl≠D:=nN hS hD
 refine GJ (lo:=0) (n:=((n:Nat):Int).toNat) (λi ws H2=>H2 D=some (.lst ws)/\ws=(xs.drop (xs.length - i)).reverse/\H2 sl=some (.lst (xs.take (xs.length - i)))/\∀c o,c≠sl->H c=some o->H2 c=some o) (Nat.le_of_lt (sK (by omega))) ⟨uS,by simp,(uN nD).trans (by rw[hS];simp),λc o h1 e=>by rw[uN (nN e hD)];exact e⟩ ?_ ?_ ?_
 ·rintro i ws H2 ⟨e1,rfl,_⟩
  refine⟨e1,?_⟩
  rw[List.length_reverse,List.length_drop]
  omega
 ·rintro i ws H2 hi ⟨e1,rfl,e3,e4⟩
  have hix:i < xs.length:=by omega
  refine⟨rfl,_,rfl,.inl ⟨rfl,_,bc.of e3⟩,sl,_,_,rfl,rfl,e3,MV hix,(uN nD.symm).trans e1,uS,QQ hix,?_,λc o h1 e=>?_⟩
  ·rw[uN nD,uS,MW hix]
  ·rw[uN (nN e hD),uN h1]
   exact e4 c o h1 e
 rintro ws H2 ⟨e1,rfl,e3,e4⟩
 rw[Int.toNat_natCast]at e1 e3
 refine⟨_,rfl,.inl ⟨rfl,_,bc.of e1⟩,D,_,rfl,rfl,e1,?_⟩
 refine⟨_,rfl,q D _ hD ?_ ((uN nD).trans e3) (λc o h1 e=>?_)⟩
 ·rw[uS,List.reverse_reverse]
 ·rw[uN (nN e hD)]
  exact e4 c o h1 e
theorem qR:az ["self","part","boxes"] ["self","part","boxes"] (dS fH):=by walk_at "sc"
theorem qS{f:Addr}{fd:FuncData}(F:eO K "__init__" "Frame.__init__" fH f fd){aa:Addr}(ah:ak K aa):bw P w K mg base aL 1 f fd ["self","part","boxes"] (jd K aa):=by
 refine F.ok qR (λvs H Q E h=>?_) (λcdv A outer s H vs Q E hr h=>?_)
 ·obtain⟨x,dx,bl,p,rfl,hx,q⟩:=h
  rfl
 obtain⟨x,dx,bl,p,rfl,hx,q⟩:=h
 refine⟨_,(qK (bW (pv 0) (pv 1) rfl)
   (qK (bW (pv 0) pI rfl)
   (qK (bW (pv 0) (pv 2) rfl)
   (qO (bW (pv 0) (cL pN) rfl))))),?_⟩
 refine⟨_,rfl,_,rfl,x,aa,dx,_,rfl,hx,ah.cl,ah.r8,(by show 0 < 1000;decide),?_⟩
 refine⟨_,rfl,x,aa,dx,_,rfl,uS,ah.cl,ah.lD,(by show 1 < 1000;decide),?_⟩
 refine⟨_,rfl,_,rfl,x,aa,dx,_,rfl,uS,ah.cl,ah.yR,(by show(br _ _ _).length < 1000;exact Nat.lt_of_le_of_lt (eL _ _ _) (by show 2 < 1000;decide)),?_⟩
 refine⟨R8,λsl hsl=>?_⟩
 have ne:x≠sl:=λe=>by subst e;rw[uS]at hsl;cases hsl
 have hs0:H sl=none:=by rw[uN ne.symm,uN ne.symm,uN ne.symm]at hsl;exact hsl
 refine⟨_,rfl,x,aa,dx,_,rfl,(uN ne).trans uS,ah.cl,ah.dE,(by show(br _ _ _).length < 1000;exact Nat.lt_of_le_of_lt (eL _ _ _) (Nat.succ_lt_succ (Nat.lt_of_le_of_lt (eL _ _ _) (by show 2 < 999;decide)))),?_⟩
 refine q sl _ hs0 ?_ ((uN ne.symm).trans uS) (λc o hc e=>?_)
 ·rw[uS,QI]
 ·rw[uN hc,uN (nN e hs0),uN hc,uN hc,uN hc]
  exact e
theorem Cq:az ["parts","part","values","nothing"] ["parts","part","values","nothing"] (dS rW):=by walk_at "sc"
theorem Cr{f:Addr}{fd:FuncData}(F:eO K "started" "started" rW f fd)(bq:mg "len"=none){aa:Addr}(ah:ak K aa)(HV:Ea P w K mg base aL aa "Frame" 1 ["self","part","boxes"] (jd K aa)):bw P w K mg base aL 3 f fd ["parts","part","values","nothing"] (pC K aa):=by
 refine F.ok Cq (λvs H Q E h=>?_) (λcdv A outer s H vs Q E hr h=>?_)
 ·obtain⟨pl,vl,ps,xs,ys,j,p,n,rfl,hL,hP,hp,hV,hl,h8,q⟩:=h
  rfl
 obtain⟨pl,vl,ps,xs,ys,j,p,n,rfl,hL,hP,hp,hV,hl,h8,q⟩:=h
 refine⟨_,(qO (aE (OP HV bI (hr.mono (by decide)) rfl (pK (pv 1) (pK (bh uD (pv 2) (bh PD (cL (pK (pv 3) pN)) (bh oQ (au aw (au aR (pv 0) (pv 1) (λ_ _=>rfl)) pI (λ_ _=>rfl)) (bH aT rfl bq dh (pK (pv 2) pN))))) pN))))),?_⟩
 obtain⟨w0,Er,hwr⟩:=iT hP hp
 obtain⟨t,l0,l4,l5,ks,zP,yU,f1,rfl,hTt,Cg,hk,rg,Fz,FA,FC,Dh⟩:=jU hwr
 refine⟨_,rfl,_,rfl,_,rfl,FT,λl1 h1=>?_⟩
 have u1:=sN h1 (.lst [n])
 have g1:=uS (H:=H) (a:=l1) (o:=.lst [n])
 generalize upd H l1 (.lst [n])=H1 at u1 g1 ⊢
 refine⟨_,rfl,_,rfl,pl,_,_,_,rfl,rfl,u1.seq hL,aN Er,t,_,_,_,rfl,rfl,u1.tup hTt,aN (j:=2) rfl,_,rfl,vl,ys,rfl,.inl (u1.seq hV),_,_,rfl,rfl,l1,_,_,rfl,rfl,g1,by omega,by omega,?_,λl2 h2=>?_⟩
 ·show 1 * ((p.boxes:Int) - ((ys.length:Nat):Int)).toNat<=sizeLine
  exact Nat.le_of_lt (sK (by omega))
 rw[DL,show((p.boxes:Int) - ((ys.length:Nat):Int)).toNat=p.boxes - ys.length by omega]
 have u2:=sN h2 (.lst (List.replicate (p.boxes - ys.length) n))
 have g2:=uS (H:=H1) (a:=l2) (o:=.lst (List.replicate (p.boxes - ys.length) n))
 generalize upd H1 l2 _=H2 at u2 g2 ⊢
 have U2:=u1.trans u2
 refine⟨vl,l2,_,_,rfl,rfl,U2.seq hV,bc.of g2,Nat.le_of_lt (sK (by simp;omega)),λl3 h3=>?_⟩
 have u3:=sN h3 (.lst (ys++List.replicate (p.boxes - ys.length) n))
 have g3:=uS (H:=H2) (a:=l3) (o:=.lst (ys++List.replicate (p.boxes - ys.length) n))
 have n3:H l3=none:=U2.free h3
 generalize upd H2 l3 _=H3 at u3 g3 ⊢
 have U3:=U2.trans u3
 intro x dx nx ndx ne
 refine⟨x,dx,l3,(j:Int),rfl,uS,λsl H' nsl hx hsl hk=>⟨rfl,?_⟩⟩
 have xl:x≠l3:=λe=>by subst e;rw[g3]at nx;cases nx
 have dl:dx≠l3:=λe=>by subst e;rw[g3]at ndx;cases ndx
 have sx:sl≠x:=λe=>by subst e;rw[uS]at nsl;cases nsl
 have sd:sl≠dx:=λe=>by subst e;rw[uN sx,uS]at nsl;cases nsl
 have WE:H3 sl=none:=by rw[uN sx,uN sd]at nsl;exact nsl
 have ls:l3≠sl:=λe=>by subst e;rw[g3]at WE;cases WE
 have k3:∀c o,H3 c=some o->H' c=some o:=λc o e=>by
  have cx:c≠x:=λz=>by subst z;rw[nx]at e;cases e
  have cd:c≠dx:=λz=>by subst z;rw[ndx]at e;cases e
  exact hk c o cx (by rw[uN cx,uN cd];exact e)
 exact q x l3 sl H' (U3.free nx) n3 (U3.free WE) ls ⟨dx,hx⟩ (k3 _ _ g3) hsl (λc o e=>k3 c o (U3 c o e))
theorem pP:az ["self"] ["self"] (dS eX):=by walk_at "sc"
theorem pQ{f:Addr}{fd:FuncData}(F:eO K "nothing" "Watched.nothing" eX f fd){aa:Addr}(ah:ak K aa){C:Addr}(ac:bp K C):bw P w K mg base aL 1 f fd ["self"] (pD K true):=by
 refine F.ok pP (λvs H Q E h=>?_) (λcdv A outer s H vs Q E hr h=>?_)
 ·obtain⟨x,rfl,q⟩:=h
  rfl
 obtain⟨x,rfl,q⟩:=h
 refine⟨_,(qO (aE eP)),?_⟩
 exact q _ .non
theorem pR:az ["self","part","values"] ["self","part","values"] (dS eY):=by walk_at "sc"
theorem pS{f:Addr}{fd:FuncData}(F:eO K "add_frame" "Plain.add_frame" eY f fd){aa:Addr}(ah:ak K aa){C:Addr}{wt:Bool}(ac:bp K C)(Es:cX P w K mg base aL "started" 3 ["parts","part","values","nothing"] (pC K aa))(Cs:bF P w K mg base aL C "nothing" 1 ["self"] (pD K wt)):bw P w K mg base aL 4 f fd ["self","part","values"] (ia K aa C wt):=by
 refine F.ok pR (λvs H Q E h=>?_) (λcdv A outer s H vs Q E hr h=>?_)
 ·obtain⟨mm,vl,ys,us,j,p,rfl,hM,hp,hV,hU,hl,h8,fB,q⟩:=h
  rfl
 obtain⟨mm,vl,ys,us,j,p,rfl,hM,hp,hV,hU,hl,h8,fB,q⟩:=h
 refine⟨_,(qO (aW (iy PySem.F.plainAttrs_list PySem.F.slot_list_append PySem.F.type_list_append bK (aD (pv 0) rfl) (pK (bR Es (hr.mono (by decide)) rfl (pK (au aw (aD (pv 0) rfl) pI (λ_ _=>rfl)) (pK (pv 1) (pK (pv 2) (pK (yA (pv 0) Cs bI (hr.mono (by decide))) pN))))) pN)))),?_⟩
 obtain⟨mdx,ev,m1,m2⟩:=hM.ob
 obtain⟨mk,pl,xs,hb⟩:=hM.bk
 obtain⟨hT,hMk,hL,hP⟩:=hb H ay.refl
 have ly:=hU.1
 refine⟨_,rfl,mm.ma,C,mdx,_,_,rfl,m1,ac.cl,ac.jS,iU,.inl ⟨rfl,_,bc.of hM.lv⟩,_,rfl,mm.ma,C,mdx,_,_,rfl,m1,ac.cl,ac.jb,gX,mm.b,_,_,_,rfl,rfl,hT,aN (j:=1) rfl,_,rfl,_,rfl,_,rfl,mm.ma,mdx,_,rfl,m1,mc_no (by decide +kernel),_,rfl,λv hv=>?_⟩
 refine⟨pl,vl,mm.ps,xs,ys,j,p,v,rfl,hL,hP,hp,hV,by omega,h8,λfa bl sl H1 n1 n2 n3 ne ob g2 g3 s1=>?_⟩
 obtain⟨dx,g1⟩:=ob
 have hU1:=(hU.same s1).append (fA.rep (hv.same s1) (p.boxes - ys.length))
 have hF:fN K H1 aa wt ⟨fa,bl,sl,j,0,us++List.replicate (p.boxes - us.length) .none,[]⟩:=by
  refine⟨⟨dx,g1⟩,⟨_,g2,?_⟩,⟨_,g3,fA.nil⟩,ne⟩
  rw[← ly]
  exact hU1
 obtain⟨z1,z2⟩:=hF.fs
 have fr:∀c∈dF ⟨fa,bl,sl,j,0,us++List.replicate (p.boxes - us.length) .none,[]⟩,H c=none:=by
  intro c hc
  simp only[dF,List.mem_cons,List.not_mem_nil,or_false]at hc
  rcases hc with rfl | rfl | rfl
  ·exact n1
  ·exact n2
  ·exact n3
 have P:=hM.push s1 hF fr (by simp only[dF,List.nodup_cons,List.mem_cons,List.not_mem_nil,or_false,not_or,not_false_eq_true,List.nodup_nil,and_true];exact⟨⟨z1,z2⟩,ne⟩)
 rw[List.map_append]at P
 exact⟨mm.lv,_,_,rfl,rfl,s1 _ _ hM.lv,sK (by rw[List.length_map];show mm.aV.length<=1000;omega),q _ _ P.1 rfl rfl rfl rfl fr P.2⟩
theorem vR:az ["stretches","at","stretch"] ["stretches","at"] (dS rX):=by walk_at "sc"
theorem Ct{f:Addr}{fd:FuncData}(F:eO K "catcher" "catcher" rX f fd){aa:Addr}(ah:ak K aa):bw P w K mg base aL 1 f fd ["stretches","at"] (pE K):=by
 refine F.ok vR (λvs H Q E h=>?_) (λcdv A outer s H vs Q E hr h=>?_)
 ·obtain⟨a,ys,ss,p,rfl,hS,hI,q⟩:=h
  rfl
 obtain⟨a,ys,ss,p,rfl,hS,hI,q⟩:=h
 refine⟨_,(qK (rL PassesOwn.never rfl (iQ (pv 0)) (c9 (i:=2) vR.nd rfl (Or.inl rfl)) (qO (aY (zV Gm xp (au aw (pv 2) pI (λ_ _=>rfl)) (pv 1) (au aw (pv 2) pI (λ_ _=>rfl))) (qO (aE (au aw (pv 2) pI (λ_ _=>rfl)))) aK)))
   (qO (aE eP))),?_⟩
 refine⟨_,rfl,a,rfl,⟨_,hS⟩,?_⟩
 refine uZ (xs:=ys) (λi σ H2=>∃(o2:Option V),σ=[some (.ref a),some (.int p),o2]/\H2=H/\∀j,j < i->∀y,ss[j]?=some y->¬ (y.1<=p/\p < y.2.1)) ⟨_,rfl,rfl,λj h=>absurd h (Nat.not_lt_zero _)⟩ ?_ ?_ ?_
 ·rintro i σ H2 hi ⟨o2,rfl,rfl,_⟩
  exact hS
 ·rintro i y σ H2 hy ⟨o2,rfl,rfl,ha⟩
  obtain⟨x,hx,t,rfl,hT⟩:=hI.at hy
  refine⟨_,rfl,t,_,_,_,rfl,rfl,hT,aN (j:=0) rfl,_,rfl,_,_,rfl,rfl,_,rfl,?_⟩
  have nxt:¬ (x.1<=p/\p < x.2.1)->∀j,j < i + 1->∀y,ss[j]?=some y->¬ (y.1<=p/\p < y.2.1):=λz j hj y hy'=>by
   by_cases e:j=i
   ·subst e
    rw[hx]at hy'
    cases hy'
    exact z
   ·exact ha j (by omega) y hy'
  refine qs (λz1=>?_) (λz1=>?_)
  ·have z1':x.1<=p:=of_decide_eq_true z1
   refine⟨_,rfl,t,_,_,_,rfl,rfl,hT,aN (j:=1) rfl,_,_,rfl,rfl,_,rfl,?_⟩
   refine qs (λz2=>?_) (λz2=>?_)
   ·have z2':p < x.2.1:=of_decide_eq_true z2
    rw[caught_here hx ha ⟨z1',z2'⟩]at q
    exact⟨_,rfl,t,_,_,_,rfl,rfl,hT,aN (j:=2) rfl,q⟩
   ·exact⟨_,rfl,rfl,nxt λh=>z2 (decide_eq_true h.2)⟩
  ·exact⟨_,rfl,bV ⟨_,rfl,rfl,nxt λh=>z1 (decide_eq_true h.1)⟩⟩
 ·rintro σ H2 ⟨o2,rfl,rfl,ha⟩
  rw[Aq λj hj=>ha j (by rw[hI.1];exact hj)]at q
  exact q
theorem qT:az ["parts","live","at"] ["parts","live"] (dS lA):=by walk_at "sc"
theorem zo{f:Addr}{fd:FuncData}(F:eO K "caught_at" "caught_at" lA f fd)(bq:mg "len"=none){aa:Addr}(ah:ak K aa)(Eu:cX P w K mg base aL "catcher" 1 ["stretches","at"] (pE K)):bw P w K mg base aL 2 f fd ["parts","live"] (jW K aa):=by
 refine F.ok qT (λvs H Q E h=>?_) (λcdv A outer s H vs Q E hr h=>?_)
 ·obtain⟨pl,lv,xs,ps,aV,rfl,hL,hB,hF,q1,q2⟩:=h
  rfl
 obtain⟨pl,lv,xs,ps,aV,rfl,hL,hB,hF,q1,q2⟩:=h
 refine⟨_,(qK (uW PassesOwn.never (tR xq (bH aT rfl bq dh (pK (pv 1) pN)) pI (aC _)) (qK (bf (i:=2) qT.nd rfl (Or.inl rfl) (bR Eu (hr.mono (by decide)) rfl (pK (au aw (au aR (pv 0) (aD (au aR (pv 1) (kQ iu pI) (λ_ _=>rfl)) rfl) (λ_ _=>rfl)) pI (λ_ _=>rfl)) (pK (aD (au aR (pv 1) (kQ iu pI) (λ_ _=>rfl)) rfl) pN))))
   (qK (aY (tR qk (pv 2) eP (aC _)) (qO (aE (pv 2))) aK)
   (qO (aW (fF PySem.F.plainAttrs_list PySem.F.slot_list_pop PySem.F.type_list_pop gw (pv 1)))))))
   (qO (aE eP))),?_⟩
 refine va (λσ H2=>∃(k:Nat) (o:Option V),k<=aV.length/\σ=[some (.ref pl),some (.ref lv),o]/\H2 lv=some (.lst ((aV.take k).map λf=>.ref f.fa))/\ay [lv] H H2/\∀g∈aV.drop k,FE ps g.pf=none) (λ(_:St) (H2:Hp)=>HP H2 lv) ⟨aV.length,none,Nat.le_refl _,rfl,by rw[List.take_length];exact hL,ay.refl,λg hg=>by simp at hg⟩ ?_ ?_
 ·rintro σ H2 ⟨k,o,hk,rfl,g2,k2,hno⟩
  refine⟨_,rfl,lv,_,rfl,.inl (bc.of g2),_,_,rfl,rfl,_,rfl,qs (λz=>?_) (λz=>?_)⟩
  ·have z':(0:Int) < ((((aV.take k).map λf=>V.ref f.fa).length:Nat):Int):=of_decide_eq_true z
   rw[List.length_map,List.length_take]at z'
   obtain⟨k,rfl⟩:∃j,k=j + 1:=⟨k - 1,by omega⟩
   have hkl:k < aV.length:=by omega
   have et:aV.take (k + 1)=aV.take k++[aV[k]]:=by rw[List.take_succ_eq_append_getElem hkl]
   have ed:aV.drop k=aV[k]::aV.drop (k + 1):=List.drop_eq_getElem_cons hkl
   have ea:aV=aV.take k++aV[k]::aV.drop (k + 1):=by rw[← ed,List.take_append_drop]
   obtain⟨⟨dx,e1⟩,p,hp⟩:=hF _ (List.getElem_mem hkl)
   generalize aV[k]=f' at et ed ea e1 hp
   have nf:f'.fa≠lv:=FU e1 hL (by intro z;cases z)
   have e2:=k2 _ _ (λz=>nf (bJ z)) e1
   obtain⟨hS,hR⟩:=hB H2 k2
   obtain⟨w0,Er,hwr⟩:=iT hR hp
   obtain⟨t,l0,l4,l5,ks,zP,yU,f1,rfl,hTt,Cg,hkk,rg,Fz,FA,FC,Dh⟩:=jU hwr
   have ct:FE ps f'.pf=iV p.spans f'.at':=by
    unfold FE
    show(ps[f'.part]?).bind _=_
    rw[hp]
    rfl
   have g2':=g2
   rw[et,List.map_append,show([f'].map λf=>V.ref f.fa)=[V.ref f'.fa]from rfl]at g2
   refine⟨_,rfl,_,rfl,_,rfl,lv,_,_,_,rfl,rfl,bc.of g2,cj,f'.fa,aa,dx,_,_,rfl,e2,ah.cl,ah.r8,qD,pl,_,_,_,rfl,rfl,hS,aN Er,t,_,_,_,rfl,rfl,hTt,aN (j:=5) rfl,_,rfl,_,rfl,lv,_,_,_,rfl,rfl,bc.of g2,cj,f'.fa,aa,dx,_,_,rfl,e2,ah.cl,ah.lD,qE,l5,yU,Ej p.spans,(f'.at':Int),rfl,FC,Sl.wM Dh,?_⟩
   rw[vF]
   cases hc:iV p.spans f'.at' with
   | none =>
    refine⟨_,rfl,rfl,_,rfl,?_⟩
    show if (!decide (V.non=V.non))=true then _ else _
    rw[if_neg (by simp)]
    dsimp only[dR]
    refine⟨_,rfl,.inl ⟨rfl,_,bc.of g2⟩,lv,_,_,rfl,rfl,g2,ej,?_⟩
    rw[List.dropLast_concat]
    refine⟨⟨k,_,by omega,rfl,uS,k2.trans aI,λg hg=>?_⟩,?_⟩
    ·rw[ed]at hg
     rcases List.mem_cons.mp hg with z | z
     ·rw[z,ct,hc]
     ·exact hno g z
    ·rw[Ay uS,Ay g2]
     simp
   | some n =>
    refine⟨_,rfl,rfl,_,rfl,?_⟩
    show if (!decide (V.int (n:Int)=V.non))=true then _ else _
    rw[if_pos (by simp)]
    refine⟨_,rfl,q2 (aV.take k) (aV.drop (k + 1)) f' n H2 ea hno (by rw[ct,hc]) ?_ k2⟩
    rw[← et]
    exact g2'
  ·have z':¬ (0:Int) < ((((aV.take k).map λf=>V.ref f.fa).length:Nat):Int):=λe=>z (decide_eq_true e)
   rw[List.length_map,List.length_take]at z'
   have e0:aV.take k=[]:=List.eq_nil_of_length_eq_zero (by rw[List.length_take];omega)
   rw[e0]at g2
   refine q1 H2 (λf hf=>hno f ?_) g2 k2
   have:aV.drop k=aV:=by
    have:=List.take_append_drop k aV
    rw[e0]at this
    exact this
   rw[this]
   exact hf
 ·rintro σ H2 Q1 Q2 f ⟨v,e1,l,ys,e2,e3,i,j,e4,e5,b,e6,q1⟩
  exact⟨v,e1,l,ys,e2,e3,i,j,e4,e5,b,e6,f _ _ q1⟩
theorem vS:az ["self"] ["self"] (dS i8):=by walk_at "sc"
theorem vT{f:Addr}{fd:FuncData}(F:eO K "spend" "Plain.spend" i8 f fd){aa:Addr}(ah:ak K aa){C:Addr}{wt:Bool}(ac:bp K C):bw P w K mg base aL 1 f fd ["self"] (qJ K aa C wt):=by
 refine F.ok vS (λvs H Q E h=>?_) (λcdv A outer s H vs Q E hr h=>?_)
 ·obtain⟨mm,rfl,hM,q1,q2⟩:=h
  rfl
 obtain⟨mm,rfl,hM,q1,q2⟩:=h
 refine⟨_,(qK (aY (tR Gm (aD (pv 0) rfl) pI (aC _)) (qK (bW (pv 0) (bP (pK aH pN)) rfl)
   (qO (aE sO))) aK)
   (qK (bW (pv 0) (bh oQ (aD (pv 0) rfl) pI) rfl)
   (qO (aE sO)))),?_⟩
 obtain⟨dx,ev,h1,h2⟩:=hM.ob
 have mu:aU H [mm.ma]:=hM.jV.sub (λc hc=>by rw[bJ hc];exact bC.1)
 refine⟨_,rfl,mm.ma,C,dx,_,_,rfl,h1,ac.cl,ac.vx,yW,_,_,rfl,rfl,_,rfl,qs (λz=>?_) (λz=>?_)⟩
 ·have z':mm.left<=0:=of_decide_eq_true z
  refine⟨FT,λt ht=>?_⟩
  have s1:=sN ht (.tup [.str "weary"])
  have g1:ba K (upd H t (.tup [.str "weary"])) t [.str "weary"]:=ba.of uS
  have M1:=hM.same s1
  have Ur:=mu.same s1
  have h1':=s1 _ _ h1
  generalize upd H t _=H1 at s1 g1 M1 Ur h1' ⊢
  refine⟨_,rfl,mm.ma,C,dx,_,rfl,h1',ac.cl,ac.vy,vE,?_⟩
  rw[n9]
  have kx:ay [mm.ma] H1 (upd H1 mm.ma (.ins C dx (px mm.b mm.lv mm.rc mm.sd mm.left (.ref t)))):=aI
  exact q2 z' _ (M1.own kx uS (.inr ⟨(λz=>nomatch z),t,rfl,ba.keep kx Ur g1⟩)) ((cg s1).trans kx)
 ·have z':0 < mm.left:=by
   have:¬ mm.left<=0:=λe=>z (decide_eq_true e)
   omega
  dsimp only[dR]
  refine⟨_,rfl,mm.ma,C,dx,_,_,rfl,h1,ac.cl,ac.vx,yW,_,_,rfl,rfl,_,rfl,mm.ma,C,dx,_,rfl,h1,ac.cl,ac.vx,vE,?_⟩
  rw[Cm]
  have kx:ay [mm.ma] H (upd H mm.ma (.ins C dx (px mm.b mm.lv mm.rc mm.sd (mm.left - 1) ev))):=aI
  exact q1 z' _ (hM.own kx uS (h2.keep kx mu)) kx
theorem vU:az ["self","frame","at"] ["self","frame","at"] (dS i9):=by walk_at "sc"
theorem vV{f:Addr}{fd:FuncData}(F:eO K "go_on" "Plain.go_on" i9 f fd){aa:Addr}(ah:ak K aa){C:Addr}{wt:Bool}(ac:bp K C)(vW:bF P w K mg base aL C "spend" 1 ["self"] (qJ K aa C wt)):bw P w K mg base aL 2 f fd ["self","frame","at"] (qL K aa C wt):=by
 refine F.ok vU (λvs H Q E h=>?_) (λcdv A outer s H vs Q E hr h=>?_)
 ·obtain⟨mm,fs,f',t,rfl,hM,hf,q⟩:=h
  rfl
 obtain⟨mm,fs,f',t,rfl,hM,hf,q⟩:=h
 refine⟨_,(qO (aY (PW.pt (pw_or (tR xq (pv 2) (aD (pv 1) rfl) (aC _)) (pw_or1 (rJ (yA (pv 0) vW bI (hr.mono (by decide))))))) (qO (bW (pv 1) (pv 2) rfl)) aK)),?_⟩
 have hF:=hM.last hf
 obtain⟨⟨fdx,f1⟩,_⟩:=id hF
 obtain⟨mdx,ev,m1,m2⟩:=id hM.ob
 have ff:=e7 hf
 have ep:(f'.pf).at'=f'.at':=rfl
 have el:(mm.pm).left=mm.left:=rfl
 refine⟨_,rfl,_,rfl,f'.fa,aa,fdx,_,_,rfl,f1,ah.cl,ah.lD,qE,_,_,rfl,rfl,_,rfl,qs (λz=>?_) (λz=>?_)⟩
 ·have z':f'.at' < t:=by have:=of_decide_eq_true z;omega
  refine fG ?_
  refine⟨_,rfl,_,rfl,f'.fa,aa,fdx,_,rfl,f1,ah.cl,ah.lD,lE,?_⟩
  rw[iI]
  obtain⟨c1,c2⟩:=hF.setAt (dx:=fdx) (a:=t)
  have M1:=hM.top hf (f':={f' with at':=t}) rfl rfl rfl c2 c1
  refine q {mm with aV:=fs++[{f' with at':=t}]} _ ?_ ⟨rfl,rfl⟩ M1 (λc hc=>.inl (by rw[cQ (f':={f' with at':=t}) hf rfl rfl rfl]at hc;exact hc)) (c2.sub ff)
  rw[lO]
  unfold MM
  rw[if_pos (by rw[ep];exact z')]
  rfl
 ·have z':¬ f'.at' < t:=λe=>z (decide_eq_true (by omega))
  refine⟨_,rfl,mm.ma,mdx,_,rfl,m1,mc_no (by decide +kernel),mm,rfl,hM,λhl H1 M1 k1=>?_,λhl H1 M1 k1=>?_⟩
  ·have K1:ay (foot mm) H H1:=k1.sub (λc hc=>by rw[bJ hc];exact bC.1)
   refine⟨_,rfl,fG ?_⟩
   have F1:=M1.last hf
   obtain⟨⟨gdx,g1⟩,_⟩:=id F1
   refine⟨_,rfl,_,rfl,f'.fa,aa,gdx,_,rfl,g1,ah.cl,ah.lD,lE,?_⟩
   rw[iI]
   obtain⟨c1,c2⟩:=F1.setAt (dx:=gdx) (a:=t)
   have M2:=M1.top hf (f':={f' with at':=t}) rfl rfl rfl c2 c1
   refine q {mm with aV:=fs++[{f' with at':=t}],left:=mm.left - 1} _ ?_ ⟨rfl,rfl⟩ M2 (λc hc=>.inl (by have e:=cQ (m:={mm with left:=mm.left - 1}) (f':={f' with at':=t}) hf rfl rfl rfl;rw[e]at hc;exact hc)) (K1.trans (c2.sub ff))
   show({mm with left:=mm.left - 1,aV:=fs++[{f' with at':=t}]}:Mc).pm=_
   rw[lO (m:={mm with left:=mm.left - 1})]
   unfold MM
   rw[if_neg (by rw[ep];exact z'),if_pos (by rw[el];exact hl)]
   rfl
  ·have K1:ay (foot mm) H H1:=k1.sub (λc hc=>by rw[bJ hc];exact bC.1)
   refine⟨_,rfl,bV ?_⟩
   refine q {mm with fin:=[.inl "weary"]} _ ?_ ⟨rfl,rfl⟩ M1 (λc hc=>.inl hc) K1
   unfold MM
   rw[if_neg (by rw[ep];exact z'),if_neg (by rw[el];omega)]
   show({mm with fin:=[.inl "weary"]}:Mc).pm=_
   unfold Mc.pm
   simp[hf]
theorem qU:az ["self","tag","number"] ["self","tag","number"] (dS fI):=by walk_at "sc"
theorem qV{f:Addr}{fd:FuncData}(F:eO K "tagged" "Watched.tagged" fI f fd){aa:Addr}(ah:ak K aa){C:Addr}(ac:bp K C):bw P w K mg base aL 1 f fd ["self","tag","number"] (fO K true):=by
 refine F.ok qU (λvs H Q E h=>?_) (λcdv A outer s H vs Q E hr h=>?_)
 ·obtain⟨x,y,hy,rfl,q⟩:=h
  rfl
 obtain⟨x,y,hy,rfl,q⟩:=h
 refine⟨_,(qO (aE (bP (pK (pv 1) (pK (pv 2) pN))))),?_⟩
 refine⟨_,rfl,_,rfl,By,λt ht=>?_⟩
 refine q _ _ (sN ht _) ?_
 show aS K _ (.ref t) (wC y)
 cases y with
 | none=>exact absurd rfl hy
 | num w=>exact .i6 (ba.of uS) (.cons (.str _) (.cons (.int _) .nil))
 | rcd n=>exact .i6 (ba.of uS) (.cons (.str _) (.cons (.int _) .nil))
theorem iK:az ["self","number","at","frame"] ["self","number"] (dS ja):=by walk_at "sc"
theorem vX{f:Addr}{fd:FuncData}(F:eO K "fault" "Plain.fault" ja f fd){aa:Addr}(ah:ak K aa){C:Addr}{wt:Bool}(ac:bp K C)(AL:cX P w K mg base aL "caught_at" 2 ["parts","live"] (jW K aa))(vY:bF P w K mg base aL C "go_on" 2 ["self","frame","at"] (qL K aa C wt))(dH:bF P w K mg base aL C "tagged" 1 ["self","tag","number"] (fO K wt)):bw P w K mg base aL 3 f fd ["self","number"] (qM K aa C wt):=by
 refine F.ok iK (λvs H Q E h=>?_) (λcdv A outer s H vs Q E hr h=>?_)
 ·obtain⟨mm,n,rfl,hM,hC,q⟩:=h
  rfl
 obtain⟨mm,n,rfl,hM,hC,q⟩:=h
 refine⟨_,(qK (bf (i:=2) iK.nd rfl (Or.inl rfl) (bR AL (hr.mono (by decide)) rfl (pK (au aw (aD (pv 0) rfl) pI (λ_ _=>rfl)) (pK (aD (pv 0) rfl) pN))))
   (qK (aY (tR BN (pv 2) eP (aC _)) (qK (bW (pv 0) (bP (pK aH (pK (pv 1) pN))) rfl)
   (qO qh)) aK)
   (qK (bf (i:=3) iK.nd rfl (Or.inl rfl) (au aR (aD (pv 0) rfl) (kQ iu pI) (λ_ _=>rfl)))
   (qK (bW (pv 3) (cL (pK (bS (pv 0) dH bI (hr.mono (by decide)) (pK aH (pK (pv 1) pN))) pN)) rfl)
   (qO (aW (bS (pv 0) vY bI (hr.mono (by decide)) (pK (pv 3) (pK (pv 2) pN))))))))),?_⟩
 obtain⟨mdx,ev,m1,m2⟩:=hM.ob
 obtain⟨mk,pl,xs,hb⟩:=hM.bk
 have sub:∀c∈[mm.lv],c∈foot mm:=λc hc=>by rw[bJ hc];exact bC.2.1
 refine⟨_,rfl,mm.ma,C,mdx,_,_,rfl,m1,ac.cl,ac.jb,gX,mm.b,_,_,_,rfl,rfl,(hb H ay.refl).1,aN (j:=1) rfl,_,rfl,mm.ma,C,mdx,_,_,rfl,m1,ac.cl,ac.jS,iU,pl,mm.lv,xs,mm.ps,mm.aV,rfl,hM.lv,λHX kx=>⟨(hb HX (kx.sub sub)).2.2.1,(hb HX (kx.sub sub)).2.2.2⟩,λf hf=>⟨(hM.fr f hf).ob,hC f hf⟩,λH1 hno g1 k1=>?_,λfs gs f' t H1 ea hno hc g1 k1=>?_⟩
 ·refine⟨_,rfl,rfl,_,rfl,fG ?_⟩
  obtain⟨M1,zf⟩:=hM.cut (fs:=[]) (gs:=mm.aV) rfl k1 g1
  have K1:ay (foot mm) H H1:=k1.sub sub
  obtain⟨ndx,nev,n1,n2⟩:=M1.ob
  refine⟨_,rfl,By,λt ht=>?_⟩
  have u3:=sN ht (.tup [.str "fault",.int n])
  have T3:ba K (upd H1 t (.tup [.str "fault",.int n])) t [.str "fault",.int n]:=ba.of uS
  have M3:=M1.same u3
  have K3:=K1.trans (cg u3)
  have n1':=u3 _ _ n1
  generalize upd H1 t (.tup [.str "fault",.int n])=H3 at u3 T3 M3 K3 n1' ⊢
  refine⟨_,rfl,mm.ma,C,ndx,_,rfl,n1',ac.cl,ac.vy,vE,?_⟩
  rw[n9]
  have So:aU H3 [mm.ma]:=M3.jV.sub (λc hc=>by rw[bJ hc];exact bC.1)
  have QW:ay [mm.ma] H3 (upd H3 mm.ma (.ins C ndx (px mm.b mm.lv mm.rc mm.sd mm.left (.ref t)))):=aI
  refine q {mm with aV:=[],fin:=[.inl "fault",.inr n]} _ ?_ ⟨rfl,rfl⟩ (M3.own QW uS (.inr ⟨(by simp),t,rfl,ba.keep QW So T3⟩)) (λc hc=>.inl (zf c hc)) (K3.trans (ay.sub QW (λc hc=>by rw[bJ hc];exact bC.1)))
  have e:jc mm.pm.ps mm.pm.aV.reverse=none:=xN _ λg hg=>by
   rw[List.mem_reverse]at hg
   obtain⟨f,hf,rfl⟩:=List.mem_map.mp hg
   exact hno f hf
  unfold lF
  rw[e]
  rfl
 ·refine⟨_,rfl,rfl,_,rfl,?_⟩
  show if decide (V.int (t:Int)=V.non)=true then _ else _
  rw[if_neg (by simp)]
  dsimp only[dR]
  have ea':mm.aV=(fs++[f'])++gs:=by rw[ea];simp
  obtain⟨M1,zf⟩:=hM.cut ea' k1 g1
  have K1:ay (foot mm) H H1:=k1.sub sub
  obtain⟨ndx,nev,n1,n2⟩:=M1.ob
  have L1:H1 mm.lv=some (.lst ((fs.map λf=>V.ref f.fa)++[.ref f'.fa])):=by
   have z:=M1.lv
   rw[List.map_append]at z
   exact z
  refine⟨_,rfl,mm.ma,C,ndx,_,_,rfl,n1,ac.cl,ac.jS,iU,_,rfl,mm.lv,_,_,_,rfl,rfl,bc.of L1,cj,?_⟩
  refine⟨_,rfl,mm.ma,ndx,_,rfl,n1,mc_no (by decide +kernel),_,rfl,_,.num n,(λz=>nomatch z),rfl,λv H2 s2 hv=>?_⟩
  refine⟨FT,λl nl=>?_⟩
  have s3:=sN nl (.lst [v])
  have g3:=uS (H:=H2) (a:=l) (o:=.lst [v])
  have hv3:=hv.same s3
  have S3:=s2.trans s3
  generalize upd H2 l _=H3 at s3 g3 hv3 S3 ⊢
  obtain⟨⟨fdx,f1⟩,_⟩:=M1.last (fs:=fs) (f:=f') rfl
  have f3:=S3 _ _ f1
  refine⟨_,rfl,f'.fa,aa,fdx,_,rfl,f3,ah.cl,ah.dE,lE,?_⟩
  rw[HA]
  obtain⟨M4,K4⟩:=M1.Up (fs:=fs) (f:=f') (l:=l) (ys:=[v]) (st:=[.num n]) rfl S3 (s2.free nl) g3 (fA.snoc fA.nil hv3) f3
  have K4':ay (foot mm) H _:=K1.trans (K4.sub zf)
  generalize upd H3 f'.fa _=H4 at M4 K4 K4' ⊢
  obtain⟨pdx,pev,p1,p2⟩:=M4.ob
  refine⟨_,rfl,mm.ma,pdx,_,rfl,p1,mc_no (by decide +kernel),_,rfl,_,rfl,{mm with aV:=fs++[{f' with sl:=l,st:=[.num n]}]},fs,{f' with sl:=l,st:=[.num n]},t,rfl,M4,rfl,λm' H' r1 r2 r3 r4 r5=>?_⟩
  have nlH:H l=none:=by
   cases hh:H l with
   | none=>rfl
   | some o =>
    have z:=s2.free nl
    by_cases e:l=mm.lv
    ·rw[e,g1]at z;cases z
    ·rw[k1 _ _ (λy=>e (bJ y)) hh]at z;cases z
  have Ew:∀c∈foot {mm with aV:=fs++[{f' with sl:=l,st:=[.num n]}]},c∈foot mm∨H c=none:=λc hc=>by
   rw[cE (m:={mm with aV:=fs++[{f' with sl:=l,st:=[.num n]}]}) rfl]at hc
   by_cases e:c=l
   ·rw[e];exact .inr nlH
   ·refine .inl (zf c ?_)
    rw[cE (m:={mm with aV:=fs++[f']}) rfl]
    simp only[dF,List.mem_cons,List.mem_append,List.not_mem_nil,or_false]at hc ⊢
    rcases hc with z | z | z | z | z | z | z | z
    ·exact .inl z
    ·exact .inr (.inl z)
    ·exact .inr (.inr (.inl z))
    ·exact .inr (.inr (.inr (.inl z)))
    ·exact .inr (.inr (.inr (.inr (.inl z))))
    ·exact .inr (.inr (.inr (.inr (.inr (.inl z)))))
    ·exact .inr (.inr (.inr (.inr (.inr (.inr (.inl z))))))
    ·exact absurd z e
  have fresh:∀c,H4 c=none->c∈foot mm∨H c=none:=λc hc=>by
   by_cases hz:c∈foot mm
   ·exact .inl hz
   ·refine .inr ?_
    cases hh:H c with
    | none=>rfl
    | some o=>rw[K4' c o hz hh]at hc;cases hc
  refine q m' H' ?_ r2 r3 (λc hc=>?_) (λc o hc e=>r5 c o (λhz=>?_) (K4' c o hc e))
  ·have e:jc mm.pm.ps mm.pm.aV.reverse=some ((fs.map Fm.pf).reverse.reverse,f'.pf,t):=by
    show jc mm.ps (mm.aV.map Fm.pf).reverse=_
    rw[ea,List.map_append,List.reverse_append,List.map_cons,List.reverse_cons,List.append_assoc]
    exact xO hc _ _ λg hg=>by
     rw[List.mem_reverse]at hg
     obtain⟨f,hf,rfl⟩:=List.mem_map.mp hg
     exact hno f hf
   rw[List.reverse_reverse]at e
   rw[r1]
   unfold lF
   rw[e]
   rfl
  ·rcases r4 c hc with z | z
   ·exact Ew c z
   ·exact fresh c z
  ·rcases Ew c hz with z | z
   ·exact hc z
   ·rw[z]at e;cases e
theorem sA:az ["self","frame","part"] ["self","frame","part"] (dS gA):=by walk_at "sc"
theorem sC{f:Addr}{fd:FuncData}(F:eO K "do_call" "Plain.do_call" gA f fd)(bq:mg "len"=none){fX:Tok}(dZ:mg "MOST_FRAMES"=some (.int 12 fX))(w9:RelV (.int 12) (.int 12 fX)){j1:Tok}(iL:mg "TOO_DEEP"=some (.int 2 j1))(Cu:RelV (.int 2) (.int 2 j1)){aa:Addr}(ah:ak K aa){C:Addr}{wt:Bool}(ac:bp K C)(qW:cX P w K mg base aL "taken" 1 ["stack","many"] (lN K))(j2:bF P w K mg base aL C "add_frame" 4 ["self","part","values"] (ia K aa C wt))(vZ:bF P w K mg base aL C "fault" 3 ["self","number"] (qM K aa C wt))(vW:bF P w K mg base aL C "spend" 1 ["self"] (qJ K aa C wt)):bw P w K mg base aL 5 f fd ["self","frame","part"] (pF K aa C wt):=by
 refine F.ok sA (λvs H Q E h=>?_) (λcdv A outer s H vs Q E hr h=>?_)
 ·obtain⟨mm,fs,f',k,st,us,pq,rfl,hM,hf,hq,hst,hu,hb,h8,hC,LY,q⟩:=h
  rfl
 obtain⟨mm,fs,f',k,st,us,pq,rfl,hM,hf,hq,hst,hu,hb,h8,hC,LY,q⟩:=h
 refine⟨_,(qK (aY (uT (rJ (yA (pv 0) vW bI (hr.mono (by decide))))) (qO qh) aK)
   (qK (aY (tR SJ (bH aT rfl bq dh (pK (aD (pv 0) rfl) pN)) (eQ rfl dZ w9) (aC _)) (qK (aW (bS (pv 0) vZ bI (hr.mono (by decide)) (pK (eQ rfl iL Cu) pN)))
   (qO qh)) aK)
   (qO (aW (bS (pv 0) j2 bI (hr.mono (by decide)) (pK (pv 2) (pK (bR qW (hr.mono (by decide)) rfl (pK (aD (pv 1) rfl) (pK (bH aT rfl bq dh (pK (au aw (au aR (au aw (aD (pv 0) rfl) pI (λ_ _=>rfl)) (pv 2) (λ_ _=>rfl)) pI (λ_ _=>rfl)) pN)) pN))) pN))))))),?_⟩
 obtain⟨mdx,ev,m1,m2⟩:=id hM.ob
 have lf:mm.aV.length=fs.length + 1:=by rw[hf];simp
 have el:mm.pm.left=mm.left:=rfl
 refine⟨_,rfl,mm.ma,mdx,_,rfl,m1,mc_no (by decide +kernel),mm,rfl,hM,λhl H1 M1 k1=>⟨_,rfl,bV ?_⟩,λhl H1 M1 k1=>⟨_,rfl,fG ?_⟩⟩
 rotate_left
 ·refine q {mm with fin:=[.inl "weary"]} _ ?_ ⟨rfl,rfl⟩ M1 (λc hc=>.inl hc) (k1.sub (λc hc=>by rw[bJ hc];exact bC.1))
  unfold xM
  rw[if_neg (by rw[el];omega)]
  rfl
 dsimp only[dR]
 have K1:ay (foot mm) H H1:=k1.sub (λc hc=>by rw[bJ hc];exact bC.1)
 obtain⟨ndx,nev,n1,n2⟩:=id M1.ob
 refine⟨_,rfl,mm.ma,C,ndx,_,_,rfl,n1,ac.cl,ac.jS,iU,mm.lv,_,rfl,.inl (bc.of M1.lv),_,_,rfl,rfl,_,rfl,qs (λz=>?_) (λz=>?_)⟩
 ·have z':12<=mm.aV.length:=by
   have:=of_decide_eq_true z
   rw[List.length_map]at this
   have:(12:Int)<=((mm.aV.length:Nat):Int):=this
   omega
  refine⟨_,rfl,mm.ma,ndx,_,rfl,n1,mc_no (by decide +kernel),{mm with left:=mm.left - 1},2,rfl,M1,hC,λm' H' r1 r2 r3 r4 r5=>?_⟩
  refine q m' H' ?_ r2 r3 (λc hc=>?_) (K1.trans r5)
  ·rw[r1]
   unfold xM
   rw[if_pos (by rw[el];exact hl),if_neg (by rw[List.length_map];omega)]
   rfl
  ·rcases r4 c hc with z | z
   ·exact .inl z
   ·by_cases hz:c∈foot mm
    ·exact .inl hz
    ·refine .inr ?_
     cases hh:H c with
     | none=>rfl
     | some o=>rw[K1 c o hz hh]at z;cases z
 ·have z':mm.aV.length < 12:=by
   have:¬ (12:Int)<=(((mm.aV.map λf=>V.ref f.fa).length:Nat):Int):=λe=>z (decide_eq_true e)
   rw[List.length_map]at this
   omega
  dsimp only[dR]
  have F1:=M1.last hf
  obtain⟨⟨fdx,f1⟩,⟨bys,f2,f3⟩,⟨sys,f4,f5⟩,fne⟩:=id F1
  obtain⟨mk,pl,xs,hbk⟩:=M1.bk
  obtain⟨hB,hMk,hL,hP⟩:=hbk H1 ay.refl
  obtain⟨w0,Er,hwr⟩:=iT hP hq
  obtain⟨t,l0,l4,l5,ks,zP,yU,g1,rfl,hTt,Cg,hk,rg,Fz,FA,FC,Dh⟩:=jU hwr
  have lk:=hk.1
  rw[List.length_map]at lk
  have ls:=f5.1
  rw[hst,List.length_append]at ls
  refine⟨_,rfl,mm.ma,ndx,_,rfl,n1,mc_no (by decide +kernel),_,rfl,_,rfl,f'.fa,aa,fdx,_,_,rfl,f1,ah.cl,ah.dE,du,_,rfl,mm.ma,C,ndx,_,_,rfl,n1,ac.cl,ac.jb,gX,mm.b,_,_,_,rfl,rfl,hB,aN (j:=1) rfl,_,rfl,pl,_,_,_,rfl,rfl,hL,aN Er,t,_,_,_,rfl,rfl,hTt,aN (j:=0) rfl,l0,ks,rfl,.inl Cg,f'.sl,sys,ks.length,rfl,f4,by omega,by omega,λl H2 nl g1' g2' k2=>?_⟩
  have en:sys.length - ks.length=st.length:=by omega
  rw[en]at g1' g2'
  have kx:ay [f'.sl] H1 H2:=λc o hc e=>k2 c o (λz=>hc (by rw[z];exact List.mem_singleton.mpr rfl)) e
  have mu:aU H1 [f'.sl]:=F1.jV.sub (λc hc=>by rw[bJ hc];simp[dF])
  have v1:=f5.take st.length
  have v2:=f5.drop st.length
  rw[hst,List.take_left' rfl]at v1
  rw[hst,List.drop_left' rfl]at v2
  obtain⟨a1,a2⟩:=F1.putSt kx g2' (v1.keep kx mu)
  have M2:=M1.top hf (f':={f' with st:=st}) rfl rfl rfl a2 a1
  have K2:=K1.trans (a2.sub (e7 (m:={mm with left:=mm.left - 1}) hf))
  have ef:=cQ (m:={mm with left:=mm.left - 1}) (f':={f' with st:=st}) hf rfl rfl rfl
  refine⟨{mm with left:=mm.left - 1,aV:=fs++[{f' with st:=st}]},l,_,us,k,pq,rfl,M2,hq,bc.of g1',v2.keep kx mu,hb,h8,(by show(fs++[{f' with st:=st}]).length<=100;simp;omega),λg H3 M3 e1 e2 e3 e4 e5 K3=>?_⟩
  refine q {mm with left:=mm.left - 1,aV:=(fs++[{f' with st:=st}])++[g]} H3 ?_ ⟨rfl,rfl⟩ M3 (λc hc=>?_) (λc o hc e=>K3 c o (λhz=>hc (by rw[ef]at hz;exact hz)) (K2 c o hc e))
  ·unfold xM
   rw[if_pos (by rw[el];exact hl),if_pos (by rw[List.length_map];omega)]
   have eg:g.pf=⟨k,0,us++List.replicate (pq.boxes - us.length) .none,[]⟩:=by unfold Fm.pf;rw[e1,e2,e3,e4]
   unfold Mc.pm
   simp only[List.map_append,List.map_cons,List.map_nil,List.append_assoc,eg]
   rfl
  ·have Vq:foot {mm with left:=mm.left - 1,aV:=(fs++[{f' with st:=st}])++[g]}=foot {mm with left:=mm.left - 1,aV:=fs++[{f' with st:=st}]}++dF g:=by simp[foot]
   rw[Vq,List.mem_append]at hc
   rcases hc with z | z
   ·rw[ef]at z;exact .inl z
   ·by_cases hz:c∈foot mm
    ·exact .inl hz
    ·refine .inr ?_
     cases hh:H c with
     | none=>rfl
     | some o =>
      have:=K2 c o hz hh
      rw[e5 c z]at this
      cases this
theorem fQ:az ["self","frame","value","beneath"] ["self","frame"] (dS gB):=by walk_at "sc"
theorem sD{f:Addr}{fd:FuncData}(F:eO K "do_give" "Plain.do_give" gB f fd)(bq:mg "len"=none){aa:Addr}(ah:ak K aa){C:Addr}{wt:Bool}(ac:bp K C)(dc:bF P w K mg base aL C "bare" 1 ["self","value"] (i4 K wt)):bw P w K mg base aL 2 f fd ["self","frame"] (pG K aa C wt):=by
 refine F.ok fQ (λvs H Q E h=>?_) (λcdv A outer s H vs Q E hr h=>?_)
 ·obtain⟨mm,fs,fr,st,x,rfl,hM,hf',hst,hn,lW,LY,q⟩:=h
  rfl
 obtain⟨mm,fs,fr,st,x,rfl,hM,hf',hst,hn,lW,LY,q⟩:=h
 refine⟨_,(qK (bf (i:=2) fQ.nd rfl (Or.inl rfl) (fF PySem.F.plainAttrs_list PySem.F.slot_list_pop PySem.F.type_list_pop gw (aD (pv 1) rfl)))
   (qK (aW (fF PySem.F.plainAttrs_list PySem.F.slot_list_pop PySem.F.type_list_pop gw (aD (pv 0) rfl)))
   (qK (aY (tR bD (bH aT rfl bq dh (pK (aD (pv 0) rfl) pN)) pI (aC _)) (qK (bW (pv 0) (bP (pK aH (pK (bS (pv 0) dc bI (hr.mono (by decide)) (pK (pv 2) pN)) pN))) rfl)
   (qO qh)) aK)
   (qK (bf (i:=3) fQ.nd rfl (Or.inl rfl) (au aR (aD (pv 0) rfl) (kQ iu pI) (λ_ _=>rfl)))
   (qK (aW (iy PySem.F.plainAttrs_list PySem.F.slot_list_append PySem.F.type_list_append bK (aD (pv 3) rfl) (pK (pv 2) pN)))
   (qO (bW (pv 3) (bh ey (aD (pv 3) rfl) pI) rfl))))))),?_⟩
 have hF:=hM.last hf'
 obtain⟨⟨fdx,f1⟩,⟨bys,f2,f3⟩,⟨sys,f4,f5⟩,fne⟩:=id hF
 have ff:=e7 hf'
 rw[hst]at f5
 obtain⟨zs,y,rfl,hz,hv⟩:=f5.lastOf
 refine⟨_,rfl,fr.fa,aa,fdx,_,_,rfl,f1,ah.cl,ah.dE,du,.inl ⟨rfl,_,bc.of f4⟩,fr.sl,_,y,rfl,rfl,f4,ej,?_⟩
 rw[List.dropLast_concat]
 obtain⟨a1,a2⟩:=hF.fC (aB.refl H) hz
 have M1:=hM.top hf' (f':={fr with st:=st}) rfl rfl rfl a2 a1
 have ef:=cQ (f':={fr with st:=st}) hf' rfl rfl rfl
 have kx:ay [fr.sl] H (upd H fr.sl (.lst zs)):=aI
 have mu:aU H [fr.sl]:=hF.jV.sub (λc hc=>by rw[bJ hc];simp[dF])
 have uQ:=hv.keep kx mu
 have K1:=a2.sub ff
 generalize upd H fr.sl (.lst zs)=H1 at M1 uQ K1 ⊢
 obtain⟨mdx,ev,m1,m2⟩:=M1.ob
 have L1:H1 mm.lv=some (.lst ((fs.map λf=>V.ref f.fa)++[.ref fr.fa])):=by
  have z:=M1.lv
  rw[List.map_append]at z
  exact z
 refine⟨_,rfl,mm.ma,C,mdx,_,_,rfl,m1,ac.cl,ac.jS,iU,.inl ⟨rfl,_,bc.of L1⟩,mm.lv,_,_,rfl,rfl,L1,ej,?_⟩
 rw[List.dropLast_concat]
 obtain⟨M2,zf⟩:=M1.cut (fs:=fs) (gs:=[{fr with st:=st}]) rfl (H':=upd H1 mm.lv (.lst (fs.map λf=>V.ref f.fa))) aI uS
 have BC:ay [mm.lv] H1 (upd H1 mm.lv (.lst (fs.map λf=>V.ref f.fa))):=aI
 have Na:aU H1 [mm.lv]:=M1.jV.sub (λc hc=>by rw[bJ hc];exact bC.2.1)
 have WG:=uQ.keep BC Na
 have K2:ay (foot mm) H (upd H1 mm.lv (.lst (fs.map λf=>V.ref f.fa))):=K1.trans (BC.sub (λc hc=>by rw[bJ hc];exact bC.2.1))
 have Ew:∀c∈foot {mm with aV:=fs},c∈foot mm:=λc hc=>by have:=zf c hc;rw[ef]at this;exact this
 generalize upd H1 mm.lv (.lst (fs.map λf=>V.ref f.fa))=H2 at M2 WG K2 ⊢
 obtain⟨ndx,nev,n1,n2⟩:=id M2.ob
 refine⟨_,rfl,mm.ma,C,ndx,_,_,rfl,n1,ac.cl,ac.jS,iU,mm.lv,_,rfl,.inl (bc.of M2.lv),rfl,_,rfl,?_⟩
 rcases List.eq_nil_or_concat fs with rfl | ⟨gs,g,rfl⟩
 ·refine kT rfl ?_
  refine⟨_,rfl,mm.ma,ndx,_,rfl,n1,mc_no (by decide +kernel),_,rfl,_,y,x,rfl,WG,hn rfl,By,λt ht=>?_⟩
  have u3:=sN ht (.tup [.str "gave",.int (eZ x)])
  have T3:ba K (upd H2 t (.tup [.str "gave",.int (eZ x)])) t [.str "gave",.int (eZ x)]:=ba.of uS
  have M3:=M2.same u3
  have K3:=K2.trans (cg u3)
  have n1':=u3 _ _ n1
  generalize upd H2 t (.tup [.str "gave",.int (eZ x)])=H3 at u3 T3 M3 K3 n1' ⊢
  refine⟨_,rfl,mm.ma,C,ndx,_,rfl,n1',ac.cl,ac.vy,vE,?_⟩
  rw[n9]
  have So:aU H3 [mm.ma]:=M3.jV.sub (λc hc=>by rw[bJ hc];exact bC.1)
  have QW:ay [mm.ma] H3 (upd H3 mm.ma (.ins C ndx (px mm.b mm.lv mm.rc mm.sd mm.left (.ref t)))):=aI
  exact q {mm with aV:=[],fin:=[.inl "gave",.inr (eZ x)]} _ rfl ⟨rfl,rfl⟩ (M3.own QW uS (.inr ⟨(by simp),t,rfl,ba.keep QW So T3⟩)) (λc hc=>.inl (Ew c hc)) (K3.trans (ay.sub QW (λc hc=>by rw[bJ hc];exact bC.1)))
 ·rw[List.concat_eq_append]at *
  refine cP (λe=>?_) ?_
  ·have:=V.int.inj e
   simp at this
   omega
  dsimp only[dR]
  have L2':H2 mm.lv=some (.lst ((gs.map λf=>V.ref f.fa)++[.ref g.fa])):=by
   have z:=M2.lv
   rw[List.map_append]at z
   exact z
  refine⟨_,rfl,mm.ma,C,ndx,_,_,rfl,n1,ac.cl,ac.jS,iU,_,rfl,mm.lv,_,_,_,rfl,rfl,bc.of L2',cj,?_⟩
  have F2:=M2.last (fs:=gs) (f:=g) rfl
  obtain⟨⟨gdx,g1⟩,_,⟨gys,g4,g5⟩,gne⟩:=id F2
  have lg:gys.length<=1000:=by rw[g5.1];exact lW g (by simp)
  refine⟨_,rfl,g.fa,aa,gdx,_,_,rfl,g1,ah.cl,ah.dE,du,.inl ⟨rfl,_,bc.of g4⟩,_,rfl,g.sl,_,y,rfl,rfl,g4,sK lg,?_⟩
  obtain⟨b1,b2⟩:=F2.fC (aB.refl H2) (g5.snoc WG)
  have M3:=M2.top (fs:=gs) (f:=g) (f':={g with st:=g.st++[x]}) rfl rfl rfl rfl b2 b1
  have e3:=cQ (m:={mm with aV:=gs++[g]}) (fs:=gs) (f:=g) (f':={g with st:=g.st++[x]}) rfl rfl rfl rfl
  have fg:∀c∈dF g,c∈foot mm:=λc hc=>Ew c (e7 (m:={mm with aV:=gs++[g]}) (fs:=gs) (f:=g) rfl c hc)
  have K3:=K2.trans (b2.sub fg)
  generalize upd H2 g.sl _=H3 at M3 K3 ⊢
  have F3:=M3.last (fs:=gs) rfl
  obtain⟨⟨hdx,i1⟩,_⟩:=id F3
  refine⟨_,rfl,g.fa,aa,hdx,_,_,rfl,i1,ah.cl,ah.lD,qE,_,_,rfl,rfl,_,rfl,g.fa,aa,hdx,_,rfl,i1,ah.cl,ah.lD,lE,?_⟩
  rw[iI]
  obtain⟨c1,c2⟩:=F3.setAt (dx:=hdx) (a:=g.at' + 1)
  have M4:=M3.top (fs:=gs) (f:={g with st:=g.st++[x]}) (f':={g with st:=g.st++[x],at':=g.at' + 1}) rfl rfl rfl rfl c2 c1
  have e4:=cQ (m:={mm with aV:=gs++[{g with st:=g.st++[x]}]}) (fs:=gs) (f:={g with st:=g.st++[x]}) (f':={g with st:=g.st++[x],at':=g.at' + 1}) rfl rfl rfl rfl
  refine q {mm with aV:=gs++[{g with st:=g.st++[x],at':=g.at' + 1}]} _ ?_ ⟨rfl,rfl⟩ M4 (λc hc=>.inl (Ew c (by rw[e4,e3]at hc;exact hc))) (K3.trans (c2.sub fg))
  unfold As Mc.pm
  simp[Fm.pf]
theorem oF:az ["self","stack","row","record"] ["self","stack","row"] (dS jO):=by walk_at "sc"
theorem xa{f:Addr}{fd:FuncData}(F:eO K "goes" "Plain.goes" jO f fd){aa:Addr}(ah:ak K aa){C:Addr}{wt:Bool}(ac:bp K C)(pO:cX P w K mg base aL "is_under" 2 ["makes","c","other"] (iZ K))(dc:bF P w K mg base aL C "bare" 1 ["self","value"] (i4 K wt)):bw P w K mg base aL 3 f fd ["self","stack","row"] (zg K aa C wt):=by
 refine F.ok oF (λvs H Q E h=>?_) (λcdv A outer s H vs Q E hr h=>?_)
 ·obtain⟨mm,fs,f',g,r,rt,t,b,rfl,hM,hf,hR,hw,hG,q⟩:=h
  rfl
 obtain⟨mm,fs,f',g,r,rt,t,b,rfl,hM,hf,hR,hw,hG,q⟩:=h
 refine⟨_,(qK (aY (tR bD (au aw (pv 2) pI (λ_ _=>rfl)) aH (aC _)) (qO (aE (jF bD (bS (pv 0) dc bI (hr.mono (by decide)) (pK (fF PySem.F.plainAttrs_list PySem.F.slot_list_pop PySem.F.type_list_pop gw (pv 1)) pN)) pI (aC _)))) aK)
   (qK (aY (tR bD (au aw (pv 2) pI (λ_ _=>rfl)) aH (aC _)) (qK (bf (i:=3) oF.nd rfl (Or.inl rfl) (au aR (aD (pv 0) rfl) (bS (pv 0) dc bI (hr.mono (by decide)) (pK (au aR (pv 1) (kQ iu pI) (λ_ _=>rfl)) pN)) (λ_ _=>rfl)))
   (qO (aE (bR pO (hr.mono (by decide)) rfl (pK (au aw (aD (pv 0) rfl) pI (λ_ _=>rfl)) (pK (au aw (pv 3) pI (λ_ _=>rfl)) (pK (au aw (pv 2) pI (λ_ _=>rfl)) pN))))))) aK)
   (qO (aE sO)))),?_⟩
 have hF:=hM.last hf
 obtain⟨⟨fdx,f1⟩,⟨bys,f2,f3⟩,⟨sys,f4,f5⟩,fne⟩:=id hF
 obtain⟨mdx,ev,m1,m2⟩:=id hM.ob
 obtain⟨mk,pl,xs,hb⟩:=hM.bk
 have M0:∀{H'},aB H H'->bG K H' aa C wt {mm with aV:=fs++[f']}:=λs=>by rw[← hf];exact hM.same s
 refine⟨_,rfl,rt,_,_,_,rfl,rfl,hR,aN (j:=0) rfl,rfl,_,rfl,?_⟩
 cases hG with
 | jump =>
  refine cP (show ¬ V.str "jump"=V.str "zero" by decide +kernel) ?_
  dsimp only[dR]
  refine⟨_,rfl,rt,_,_,_,rfl,rfl,hR,aN (j:=0) rfl,rfl,_,rfl,?_⟩
  refine cP (show ¬ V.str "jump"=V.str "kin" by decide +kernel) ?_
  dsimp only[dR]
  exact q f' H rfl rfl rfl rfl (M0 (aB.refl H)) ay.refl
 | zero hst hn =>
  rename_i st x
  refine kT rfl ?_
  have hst':f'.st=st++[x]:=hst
  rw[hst']at f5
  obtain⟨zs,y,rfl,hz,hv⟩:=f5.lastOf
  refine⟨_,rfl,mm.ma,mdx,_,rfl,m1,mc_no (by decide +kernel),_,rfl,.inl ⟨rfl,_,bc.of f4⟩,f'.sl,_,y,rfl,rfl,f4,ej,?_⟩
  rw[List.dropLast_concat]
  obtain⟨a1,a2⟩:=hF.fC (aB.refl H) hz
  have M1:=hM.top hf (f':={f' with st:=st}) rfl rfl rfl a2 a1
  have kx:ay [f'.sl] H (upd H f'.sl (.lst zs)):=aI
  have mu:aU H [f'.sl]:=hF.jV.sub (λc hc=>by rw[bJ hc];simp[dF])
  have uQ:=hv.keep kx mu
  refine⟨_,y,x,rfl,uQ,hn,rfl,?_⟩
  rw[show decide (V.int (eZ x)=V.int 0)=decide (eZ x=0)from decide_eq_decide.mpr ⟨λe=>V.int.inj e,λe=>by rw[e]⟩]
  exact q {f' with st:=st} _ rfl rfl rfl rfl M1 a2
 | kin hst hr' hc =>
  rename_i c n st r
  refine cP (show ¬ V.str "kin"=V.str "zero" by decide +kernel) ?_
  dsimp only[dR]
  refine⟨_,rfl,rt,_,_,_,rfl,rfl,hR,aN (j:=0) rfl,rfl,_,rfl,?_⟩
  refine kT rfl ?_
  have hst':f'.st=st++[.rcd n]:=hst
  rw[hst']at f5
  obtain⟨zs,y,rfl,hz,hv⟩:=f5.lastOf
  obtain⟨rys,g1,g2⟩:=hM.rc
  obtain⟨rv,hrv,rt',ft,fys,rfl,hT,hFt,hV⟩:=g2.at hr'
  have WH:∃rest,ba K H rt' (.int (r.c:Int)::rest):=by
   cases wt with
   | true=>exact⟨_,hT⟩
   | false=>exact⟨_,hT⟩
  obtain⟨rest,WH⟩:=WH
  obtain⟨hB,hMk,_,_⟩:=hb H ay.refl
  refine⟨_,rfl,mm.ma,C,mdx,_,_,rfl,m1,ac.cl,ac.bU,eh,_,rfl,mm.ma,mdx,_,rfl,m1,mc_no (by decide +kernel),_,rfl,_,rfl,f'.sl,_,_,_,rfl,rfl,bc.of f4,cj,_,y,.rcd n,rfl,hv,(λz=>nomatch z),mm.rc,_,_,_,rfl,rfl,bc.of g1,aN hrv,?_⟩
  exact⟨_,rfl,mm.ma,C,mdx,_,_,rfl,m1,ac.cl,ac.jb,gX,mm.b,_,_,_,rfl,rfl,hB,aN (j:=0) rfl,_,rfl,rt',_,_,_,rfl,rfl,WH,aN (j:=0) rfl,_,rfl,rt,_,_,_,rfl,rfl,hR,aN (j:=1) rfl,mk,mm.ms,r.c,c,rfl,hMk,hw,hc,λH' s=>q f' H' rfl rfl rfl rfl (M0 s) (cg s)⟩
theorem qX:az ["self","frame","row"] ["self","frame","row"] (dS fJ):=by walk_at "sc"
theorem qY{f:Addr}{fd:FuncData}(F:eO K "do_going" "Plain.do_going" fJ f fd){aa:Addr}(ah:ak K aa){C:Addr}{wt:Bool}(ac:bp K C)(vY:bF P w K mg base aL C "go_on" 2 ["self","frame","at"] (qL K aa C wt))(Nb:bF P w K mg base aL C "goes" 3 ["self","stack","row"] (zg K aa C wt)):bw P w K mg base aL 4 f fd ["self","frame","row"] (lP K aa C wt):=by
 refine F.ok qX (λvs H Q E h=>?_) (λcdv A outer s H vs Q E hr h=>?_)
 ·obtain⟨mm,fs,f',g,r,rt,t,b,rfl,hM,hf,hR,hw,hG,q⟩:=h
  rfl
 obtain⟨mm,fs,f',g,r,rt,t,b,rfl,hM,hf,hR,hw,hG,q⟩:=h
 refine⟨_,(qO (aY (rJ (bS (pv 0) Nb bI (hr.mono (by decide)) (pK (aD (pv 1) rfl) (pK (pv 2) pN)))) (qO (aW (bS (pv 0) vY bI (hr.mono (by decide)) (pK (pv 1) (pK (au aw (pv 2) (kQ iu pI) (λ_ _=>rfl)) pN))))) (qO (bW (pv 1) (bh ey (aD (pv 1) rfl) pI) rfl)))),?_⟩
 have hF:=hM.last hf
 obtain⟨⟨fdx,f1⟩,⟨bys,f2,f3⟩,⟨sys,f4,f5⟩,fne⟩:=id hF
 obtain⟨mdx,ev,m1,m2⟩:=id hM.ob
 have ff:=e7 hf
 have mu:=hM.jV
 have hlast:rO (xJ r) (-1)=some (.int (t:Int)):=by
  cases hG with
  | jump=>exact cj (l:=[.str "jump"])
  | zero _ _=>exact cj (l:=[.str "zero"])
  | kin _ _ _=>exact cj (l:=[.str "kin",.int _])
 refine⟨_,rfl,mm.ma,mdx,_,rfl,m1,mc_no (by decide +kernel),_,rfl,f'.fa,aa,fdx,_,_,rfl,f1,ah.cl,ah.dE,du,_,rfl,mm,fs,f',g,r,rt,t,b,rfl,hM,hf,hR,hw,hG,λf2' H1 e0 e1 e2 e3 M1 k1=>⟨_,rfl,?_⟩⟩
 have K1:ay (foot mm) H H1:=k1.sub ff
 have ef:=cQ (f':=f2') hf e1 e2 e3
 obtain⟨ndx,nev,n1,n2⟩:=id M1.ob
 have pe:({mm with aV:=fs++[f2']}:Mc).pm={mm.pm with aV:=fs.map Fm.pf++[g]}:=by rw[lO,e0]
 cases b with
 | true =>
  refine fG ?_
  refine⟨_,rfl,mm.ma,ndx,_,rfl,n1,mc_no (by decide +kernel),_,rfl,_,rfl,_,rfl,rt,_,_,_,rfl,rfl,ba.keep k1 hF.jV hR,hlast,{mm with aV:=fs++[f2']},fs,f2',t,(by rw[e1];rfl),M1,rfl,λm' H' p1 p2 p3 p4 p5=>?_⟩
  refine q m' H' ?_ p2 p3 (λc hc=>?_) (K1.trans (by rw[ef]at p5;exact p5))
  ·rw[p1,pe,e0]
   rfl
  ·rcases p4 c hc with z | z
   ·rw[ef]at z;exact .inl z
   ·by_cases hc':c∈foot mm
    ·exact .inl hc'
    ·refine .inr ?_
     cases hh:H c with
     | none=>rfl
     | some o=>rw[K1 c o hc' hh]at z;cases z
 | false =>
  refine bV ?_
  have F1:=M1.last rfl
  obtain⟨⟨gdx,g1⟩,_⟩:=id F1
  refine⟨_,rfl,f2'.fa,aa,gdx,_,_,by rw[e1],g1,ah.cl,ah.lD,qE,_,_,rfl,rfl,_,rfl,f2'.fa,aa,gdx,_,by rw[e1],g1,ah.cl,ah.lD,lE,?_⟩
  rw[iI]
  obtain⟨c1,c2⟩:=F1.setAt (dx:=gdx) (a:=f2'.at' + 1)
  have M2:=M1.top (fs:=fs) (f:=f2') (f':={f2' with at':=f2'.at' + 1}) rfl rfl rfl rfl c2 c1
  have ft:∀c∈dF f2',c∈foot mm:=λc hc=>ff c (by unfold dF at hc ⊢;rw[e1,e2,e3]at hc;exact hc)
  refine q {mm with aV:=fs++[{f2' with at':=f2'.at' + 1}]} _ ?_ ⟨rfl,rfl⟩ M2 (λc hc=>.inl ?_) (K1.trans (c2.sub ft))
  ·show({mm with aV:=fs++[{f2' with at':=f2'.at' + 1}]}:Mc).pm=_
   rw[lO,← e0]
   rfl
  ·have:=cQ (m:={mm with aV:=fs++[f2']}) (fs:=fs) (f:=f2') (f':={f2' with at':=f2'.at' + 1}) rfl rfl rfl rfl
   rw[this,ef]at hc
   exact hc
theorem oj:az ["self","record"] ["self","record"] (dS eB):=by walk_at "sc"
theorem om{f:Addr}{fd:FuncData}(F:eO K "as_begun" "Watched.as_begun" eB f fd){aa:Addr}(ah:ak K aa){C:Addr}(ac:bp K C):bw P w K mg base aL 1 f fd ["self","record"] (lQ K true):=by
 refine F.ok oj (λvs H Q E h=>?_) (λcdv A outer s H vs Q E hr h=>?_)
 ·obtain⟨x,v,r,rfl,hv,q⟩:=h
  rfl
 obtain⟨x,v,r,rfl,hv,q⟩:=h
 refine⟨_,(qO (aE (bP (pK (au aw (pv 1) pI (λ_ _=>rfl)) (pK sO (pK (au aw (pv 1) pI (λ_ _=>rfl)) (pK (au aw (pv 1) pI (λ_ _=>rfl)) pN))))))),?_⟩
 obtain⟨t,ft,ys,rfl,h1,h2,h3⟩:=hv
 have h1:ba K H t [.int (r.c:Int),.bl r.begun,.int (r.mask:Int),.ref ft]:=h1
 refine⟨_,rfl,t,_,_,_,rfl,rfl,h1,aN (j:=0) rfl,_,rfl,t,_,_,_,rfl,rfl,h1,aN (j:=2) rfl,_,rfl,t,_,_,_,rfl,rfl,h1,aN (j:=3) rfl,UZ,λu hu=>?_⟩
 have s:=sN hu (.tup [.int (r.c:Int),.bl true,.int (r.mask:Int),.ref ft])
 exact q _ _ s ⟨u,ft,ys,rfl,ba.of uS,s.tup h2,h3.same s⟩
theorem ie:az ["makes","c","fields","elder"] ["makes","c"] (dS lB):=by walk_at "sc"
theorem zp{f:Addr}{fd:FuncData}(F:eO K "fields_of" "fields_of" lB f fd)(cH:mg "list"=none){aa:Addr}(ah:ak K aa)(lV:cX P w K mg base aL "elders_of" 1 ["makes","c"] (hJ K)):bw P w K mg base aL 2 f fd ["makes","c"] (fc K):=by
 refine F.ok ie (λvs H Q E h=>?_) (λcdv A outer s H vs Q E hr h=>?_)
 ·obtain⟨a,ms,c,rfl,hM,hw,hf,hc,q⟩:=h
  rfl
 obtain⟨a,ms,c,rfl,hM,hw,hf,hc,q⟩:=h
 refine⟨_,(qK (bf (i:=2) ie.nd rfl (Or.inl rfl) (cL pN))
   (qK (rL PassesOwn.never rfl (iQ (bR lV (hr.mono (by decide)) rfl (pK (pv 0) (pK (pv 1) pN)))) (c9 (i:=3) ie.nd rfl (Or.inl rfl)) (qO (bf (i:=2) ie.nd rfl (Or.inl rfl) (bh PC (cR bL rfl cH fU (pK (au aw (au aR (pv 0) (pv 3) (λ_ _=>rfl)) pI (λ_ _=>rfl)) pN)) (pv 2)))))
   (qO (aE (pv 2))))),?_⟩
 obtain⟨xs,hS,hI⟩:=id hM
 have lx:=hI.1
 refine⟨R8,λr0 Us=>?_⟩
 have s0:=sN Us (.lst [])
 refine⟨_,rfl,_,rfl,a,ms,c,rfl,hM.same s0,hw,hc,λre H1 s1 _ he=>?_⟩
 have sm1:=s0.trans s1
 refine⟨re,rfl,⟨_,bc.of he⟩,?_⟩
 refine uZ (xs:=kC (bt ms c)) (λi σ H2=>∃(r:Addr) (ks:List V) (o3:Option V),σ=[some (.ref a),some (.int (c:Int)),some (.ref r),o3]/\aB H1 H2/\H r=none/\H2 r=some (.lst ks)/\aF K H ks (fM (cD ms ((bt ms c).take i)))/\ks.length<=50 * i) ?_ ?_ ?_ ?_
 ·exact⟨r0,[],none,rfl,aB.refl _,Us,s1 _ _ uS,.nil,by simp⟩
 ·rintro i σ H2 hi ⟨r,ks,o3,rfl,s2,_⟩
  exact bc.of (s2 _ _ he)
 ·rintro i y σ H2 hy ⟨r,ks,o3,rfl,s2,nr,g2,hR,h50⟩
  have hil:i < (bt ms c).length:=by
   have:=(bN hy).1
   simpa using this
  have hy':y=.int (((bt ms c)[i]:Nat):Int):=by
   rw[List.getElem?_map,cV hil]at hy
   exact(Option.some.inj hy).symm
  subst hy'
  have hel:(bt ms c)[i] < ms.length:=by
   have:=(nZ hw c hc).2 _ (List.getElem_mem hil)
   omega
  have hi8:i < 8:=by
   have:=(nZ hw c hc).1
   have:=hw.oC
   omega
  generalize hj:(bt ms c)[i]=j at hel
  have hjx:j < xs.length:=by omega
  obtain⟨t,l,kk,hx,e2,e3,e4⟩:=hI.2 j _ _ (cV hjx) (cV hel)
  have QV:=sm1.trans s2
  have own:ownOf ms j=(ms[j]).2:=by unfold ownOf;rw[cV hel]
  have l2:=e4.1
  have lk:kk.length<=50:=by
   rw[List.length_map]at l2
   have:=hf j _ (cV hel)
   omega
  refine⟨_,rfl,_,rfl,a,xs,_,_,rfl,rfl,QV.seq hS,(?_:rO xs ((j:Nat):Int)=some (.ref t)),t,_,_,_,rfl,rfl,QV.tup e2,aN (j:=1) rfl,l,kk,rfl,.inl (QV.seq e3),λp0 hp0=>?_⟩
  ·rw[← hx];exact aN (cV hjx)
  have s3:=sN hp0 (.lst kk)
  refine⟨_,rfl,p0,r,kk,ks,rfl,rfl,uS,s3 _ _ g2,Nat.le_of_lt (sK (by omega)),λp hp=>?_⟩
  refine⟨p,kk++ks,_,rfl,s2.trans (s3.trans (sN hp _)),(QV.trans s3).free hp,uS,?_,by rw[List.length_append];omega⟩
  have stp:cD ms ((bt ms c).take (i + 1))=ownOf ms j++cD ms ((bt ms c).take i):=by
   rw[jT,jT,List.take_succ_eq_append_getElem hil,hj]
   simp
  rw[stp,own,fM,List.map_append]
  exact aF.append e4 hR
 ·rintro σ H2 ⟨r,ks,o3,rfl,s2,nr,g2,hR,_⟩
  have e:(bt ms c).take (kC (bt ms c)).length=bt ms c:=List.take_of_length_le (by simp)
  rw[e]at hR
  exact⟨_,rfl,q r ks H2 (sm1.trans s2) nr g2 hR⟩
theorem kH:az ["self","c"] ["self","c"] (dS dn):=by walk_at "sc"
theorem kI{f:Addr}{fd:FuncData}(F:eO K "new_record" "Watched.new_record" dn f fd)(bq:mg "len"=none){aa:Addr}(ah:ak K aa){C:Addr}(ac:bp K C)(gn:cX P w K mg base aL "fields_of" 2 ["makes","c"] (fc K)):bw P w K mg base aL 3 f fd ["self","c"] (je K aa C true):=by
 refine F.ok kH (λvs H Q E h=>?_) (λcdv A outer s H vs Q E hr h=>?_)
 ·obtain⟨mm,c,rfl,hM,hw,hfw,hc,q⟩:=h
  rfl
 obtain⟨mm,c,rfl,hM,hw,hfw,hc,q⟩:=h
 refine⟨_,(qO (aE (bP (pK (pv 1) (pK sO (pK pI (pK (bh L5 (bP (pK eP pN)) (bH aT rfl bq dh (pK (bR gn (hr.mono (by decide)) rfl (pK (au aw (aD (pv 0) rfl) pI (λ_ _=>rfl)) (pK (pv 1) pN))) pN))) pN))))))),?_⟩
 obtain⟨mdx,ev,m1,m2⟩:=hM.ob
 obtain⟨mk,pl,xs,hb⟩:=hM.bk
 refine⟨_,rfl,FT,λt ht=>?_⟩
 have s1:=sN ht (.tup [.non])
 have g1:ba K (upd H t (.tup [.non])) t [.non]:=ba.of uS
 generalize upd H t _=H1 at s1 g1 ⊢
 obtain⟨hT,hMk,_,_⟩:=hb H1 (cg s1)
 refine⟨_,rfl,mm.ma,C,mdx,_,_,rfl,s1 _ _ m1,ac.cl,ac.jb,gX,mm.b,_,_,_,rfl,rfl,hT,aN (j:=0) rfl,_,rfl,mk,mm.ms,c,rfl,hMk,hw,hfw,hc,λr ks H2 s2 nr g2 hK=>?_⟩
 have lk:=hK.1
 rw[List.length_map]at lk
 have abT:=hfw.fields hw hc
 refine⟨r,ks,rfl,.inl (bc.of g2),t,_,(ks.length:Nat),rfl,rfl,s2.tup g1,(λz=>nomatch z),by omega,by omega,(by show 1 * ((ks.length:Nat):Int).toNat<=sizeLine;rw[Int.toNat_natCast,Nat.one_mul];exact Nat.le_of_lt (big (by omega))),λp H3 s3 hp=>⟨UZ,λu hu=>?_⟩⟩
 rw[DL,Int.toNat_natCast,lk]at hp
 have s4:=sN hu (.tup [.int (c:Int),.bl false,.int 0,.ref p])
 exact q _ _ (s1.trans (s2.trans (s3.trans s4))) ⟨u,p,_,rfl,ba.of uS,s4.tup hp,fA.rep (show uJ K _ true .non .none from .non) _⟩
theorem AQ:az ["some","spot","thing"] ["some","spot","thing"] (dS pd):=by walk_at "sc"
theorem AR{f:Addr}{fd:FuncData}(F:eO K "replaced" "replaced" pd f fd){aa:Addr}(ah:ak K aa):bw P w K mg base aL 1 f fd ["some","spot","thing"] (lR K):=by
 refine F.ok AQ (λvs H Q E h=>?_) (λcdv A outer s H vs Q E hr h=>?_)
 ·obtain⟨t,xs,i,v,rfl,hT,hi,fB,q⟩:=h
  rfl
 obtain⟨t,xs,i,v,rfl,hT,hi,fB,q⟩:=h
 refine⟨_,(qO (aE (bh yv (bh yv (kS yu (pv 0) qo (qp (pv 1))) (bP (pK (pv 2) pN))) (kS yu (pv 0) (qp (bh ey (pv 1) pI)) qo)))),?_⟩
 refine⟨_,rfl,_,rfl,_,rfl,t,xs,rfl,hT,λa1 H1 s1 h1=>?_⟩
 rw[HQ]at h1
 refine⟨_,rfl,FT,λu hu=>?_⟩
 have w1:=sN hu (.tup [v])
 have l1:(xs.take i).length<=100:=by rw[List.length_take];omega
 refine⟨a1,u,_,_,rfl,rfl,w1.tup h1,ba.of uS,Nat.le_of_lt (sK (by simp;omega)),λa2 H2 s2 h2=>?_⟩
 have S2:=s1.trans (w1.trans s2)
 refine⟨_,rfl,_,rfl,_,_,rfl,rfl,_,rfl,t,xs,rfl,S2.tup hT,λa3 H3 s3 h3=>?_⟩
 have e3:jr xs (some ((i:Int) + 1)) none=xs.drop (i + 1):=Ar (xs:=xs) (n:=i + 1) (by omega)
 rw[e3]at h3
 refine⟨a2,a3,_,_,rfl,rfl,s3.tup h2,h3,Nat.le_of_lt (sK (by simp;omega)),λr H4 s4 h4=>?_⟩
 rw[Em hi]at h4
 exact q r H4 (S2.trans (s3.trans s4)) h4
theorem kJ:az ["self","record","f","value"] ["self","record","f","value"] (dS dq):=by walk_at "sc"
theorem kK{f:Addr}{fd:FuncData}(F:eO K "with_field" "Watched.with_field" dq f fd){aa:Addr}(ah:ak K aa){C:Addr}(ac:bp K C)(Cv:cX P w K mg base aL "replaced" 1 ["some","spot","thing"] (lR K)):bw P w K mg base aL 2 f fd ["self","record","f","value"] (jf K true):=by
 refine F.ok kJ (λvs H Q E h=>?_) (λcdv A outer s H vs Q E hr h=>?_)
 ·obtain⟨x,v,u,r,k,y,rfl,hv,hu,hk,fB,q⟩:=h
  rfl
 obtain⟨x,v,u,r,k,y,rfl,hv,hu,hk,fB,q⟩:=h
 refine⟨_,(qO (aE (bP (pK (au aw (pv 1) pI (λ_ _=>rfl)) (pK (au aw (pv 1) pI (λ_ _=>rfl)) (pK (bh SG (au aw (pv 1) pI (λ_ _=>rfl)) (bh BM pI (pv 2))) (pK (bR Cv (hr.mono (by decide)) rfl (pK (au aw (pv 1) pI (λ_ _=>rfl)) (pK (pv 2) (pK (pv 3) pN)))) pN))))))),?_⟩
 obtain⟨t,ft,ys,rfl,h1,h2,h3⟩:=hv
 have h1:ba K H t [.int (r.c:Int),.bl r.begun,.int (r.mask:Int),.ref ft]:=h1
 have l:=h3.1
 refine⟨_,rfl,t,_,_,_,rfl,rfl,h1,aN (j:=0) rfl,_,rfl,t,_,_,_,rfl,rfl,h1,aN (j:=1) rfl,_,rfl,t,_,_,_,rfl,rfl,h1,aN (j:=2) rfl,_,rfl,_,_,rfl,rfl,⟨by omega,by omega,by decide⟩,_,_,rfl,rfl,_,rfl,t,_,_,_,rfl,rfl,h1,aN (j:=3) rfl,_,rfl,_,rfl,ft,ys,k,u,rfl,h2,by omega,by omega,λa H1 s1 g1=>⟨UZ,λb hb=>?_⟩⟩
 have eb:Builtin.bitOr (r.mask:Int) (1 * 2 ^ ((k:Nat):Int).toNat)=((r.mask ||| 2 ^ k:Nat):Int):=by
  rw[Int.toNat_natCast,Int.one_mul,← Ek]
  rfl
 show Q (.ref b) (upd H1 b (.tup [.int (r.c:Int),.bl r.begun,.int (Builtin.bitOr (r.mask:Int) (1 * 2 ^ ((k:Nat):Int).toNat)),.ref a]))
 rw[eb]
 have s2:=sN hb (.tup [.int (r.c:Int),.bl r.begun,.int ((r.mask ||| 2 ^ k:Nat):Int),.ref a])
 have S:=s1.trans s2
 exact q _ _ S ⟨b,a,_,rfl,ba.of uS,s2.tup g1,(h3.same S).set (hu.same S) k⟩
theorem bz:az ["self","stack","row","sign","number","record","value"] ["self","stack","row"] (dS cY):=by walk_at "sc"
theorem j3{f:Addr}{fd:FuncData}(F:eO K "do_of_records" "Plain.do_of_records" cY f fd)(bq:mg "len"=none){aa:Addr}(ah:ak K aa){C:Addr}{wt:Bool}(ac:bp K C)(AU:bF P w K mg base aL C "as_begun" 1 ["self","record"] (lQ K wt))(dc:bF P w K mg base aL C "bare" 1 ["self","value"] (i4 K wt))(xb:bF P w K mg base aL C "new_record" 3 ["self","c"] (je K aa C wt))(dH:bF P w K mg base aL C "tagged" 1 ["self","tag","number"] (fO K wt))(xc:bF P w K mg base aL C "with_field" 2 ["self","record","f","value"] (jf K wt)):bw P w K mg base aL 4 f fd ["self","stack","row"] (fP K aa C wt):=by
 refine F.ok bz (λvs H Q E h=>?_) (λcdv A outer s H vs Q E hr h=>?_)
 ·obtain⟨mm,fs,fr,g',r,rt,rs,rfl,hM,hf,hR,hw,hfw,hK,fB,QX,q⟩:=h
  rfl
 obtain⟨mm,fs,fr,g',r,rt,rs,rfl,hM,hf,hR,hw,hfw,hK,fB,QX,q⟩:=h
 refine⟨_,(qK (bf (i:=3) bz.nd rfl (Or.inl rfl) (au aw (pv 2) pI (λ_ _=>rfl)))
   (qO (aY (tR bD (pv 3) aH (aC _)) (qK (aW (iy PySem.F.plainAttrs_list PySem.F.slot_list_append PySem.F.type_list_append bK (pv 1) (pK (bS (pv 0) dH bI (hr.mono (by decide)) (pK aH (pK (bH aT rfl bq dh (pK (aD (pv 0) rfl) pN)) pN))) pN)))
   (qO (aW (iy PySem.F.plainAttrs_list PySem.F.slot_list_append PySem.F.type_list_append bK (aD (pv 0) rfl) (pK (bS (pv 0) xb bI (hr.mono (by decide)) (pK (au aw (pv 2) pI (λ_ _=>rfl)) pN)) pN))))) (qO (aY (tR bD (pv 3) aH (aC _)) (qK (bf (i:=4) bz.nd rfl (Or.inl rfl) (bS (pv 0) dc bI (hr.mono (by decide)) (pK (au aR (pv 1) (kQ iu pI) (λ_ _=>rfl)) pN)))
   (qO (BH (bS (pv 0) AU bI (hr.mono (by decide)) (pK (au aR (aD (pv 0) rfl) (pv 4) (λ_ _=>rfl)) pN)) (BG (aD (pv 0) rfl) (pv 4) set_list)))) (qO (aY (tR bD (pv 3) aH (aC _)) (qK (bf (i:=5) bz.nd rfl (Or.inl rfl) (au aR (aD (pv 0) rfl) (bS (pv 0) dc bI (hr.mono (by decide)) (pK (fF PySem.F.plainAttrs_list PySem.F.slot_list_pop PySem.F.type_list_pop gw (pv 1)) pN)) (λ_ _=>rfl)))
   (qO (aW (iy PySem.F.plainAttrs_list PySem.F.slot_list_append PySem.F.type_list_append bK (pv 1) (pK (au aw (au aw (pv 5) (kQ iu pI) (λ_ _=>rfl)) (au aw (pv 2) pI (λ_ _=>rfl)) (λ_ _=>rfl)) pN))))) (qK (bf (i:=6) bz.nd rfl (Or.inl rfl) (fF PySem.F.plainAttrs_list PySem.F.slot_list_pop PySem.F.type_list_pop gw (pv 1)))
   (qK (bf (i:=4) bz.nd rfl (Or.inl rfl) (bS (pv 0) dc bI (hr.mono (by decide)) (pK (au aR (pv 1) (kQ iu pI) (λ_ _=>rfl)) pN)))
   (qK (BH (bS (pv 0) xc bI (hr.mono (by decide)) (pK (au aR (aD (pv 0) rfl) (pv 4) (λ_ _=>rfl)) (pK (au aw (pv 2) pI (λ_ _=>rfl)) (pK (pv 6) pN)))) (BG (aD (pv 0) rfl) (pv 4) set_list))
   (qO (aY (tR bD (pv 3) aH (aC _)) (qO (aW (fF PySem.F.plainAttrs_list PySem.F.slot_list_pop PySem.F.type_list_pop gw (pv 1)))) aK)))))))))))),?_⟩
 have hF:=hM.last hf
 obtain⟨⟨fdx,f1⟩,⟨bys,f2,f3⟩,⟨sys,f4,f5⟩,fne⟩:=id hF
 have lst:=f5.1
 have ff:=e7 hf
 obtain⟨mdx,ev,m1,m2⟩:=id hM.ob
 obtain⟨rys,r1,r2⟩:=id hM.rc
 have lr:=r2.1
 refine⟨_,rfl,rt,_,_,_,rfl,rfl,hR,aN (j:=0) rfl,?_⟩
 have muf:aU H [fr.sl]:=hF.jV.sub (λc hc=>by rw[bJ hc];simp[dF])
 cases hK with
 | make hc =>
  rename_i c
  refine⟨_,rfl,rfl,_,rfl,kT rfl ?_⟩
  refine⟨_,rfl,.inl ⟨rfl,_,bc.of f4⟩,_,rfl,mm.ma,mdx,_,rfl,m1,mc_no (by decide +kernel),_,rfl,mm.ma,C,mdx,_,_,rfl,m1,ac.cl,ac.bU,eh,mm.rc,_,rfl,.inl (bc.of r1),_,.rcd mm.recs.length,(λz=>nomatch z),(by rw[lr];rfl),λv H1 s1 hv=>?_⟩
  obtain⟨a1,a2⟩:=hF.fC s1 ((f5.same s1).snoc hv)
  refine⟨fr.sl,sys,v,rfl,rfl,s1 _ _ f4,big (by omega),?_⟩
  have M1:=hM.top hf (f':={fr with st:=fr.st++[.rcd mm.recs.length]}) rfl rfl rfl a2 a1
  have K1:=a2.sub ff
  have R1:=ba.keep (aI (o:=.lst (sys++[v]))) (muf.same s1) (s1.tup hR)
  generalize upd H1 fr.sl _=H2 at M1 K1 R1 ⊢
  obtain⟨ndx,nev,n1,n2⟩:=id M1.ob
  obtain⟨qys,q1,q2⟩:=id M1.rc
  have lq:=q2.1
  refine⟨_,rfl,mm.ma,C,ndx,_,_,rfl,n1,ac.cl,ac.bU,eh,.inl ⟨rfl,_,bc.of q1⟩,_,rfl,mm.ma,ndx,_,rfl,n1,mc_no (by decide +kernel),_,rfl,rt,_,_,_,rfl,rfl,R1,aN (j:=1) rfl,{mm with aV:=fs++[{fr with st:=fr.st++[.rcd mm.recs.length]}]},c,rfl,M1,hw,hfw,hc,λu H3 s3 hu=>?_⟩
  refine⟨mm.rc,_,_,rfl,rfl,s3 _ _ q1,big (by rw[lq];show mm.recs.length<=1000000;omega),?_⟩
  have M3:=M1.same s3
  have kx:ay [mm.rc] H3 (upd H3 mm.rc (.lst (qys++[u]))):=aI
  have So:aU H3 [mm.rc]:=M3.jV.sub (λc hc=>by rw[bJ hc];exact bC.2.2.1)
  have M4:=M3.MN kx uS (((q2.imp λy x h=>(h.same s3).keep kx So)).snoc (hu.keep kx So))
  exact q {fr with st:=fr.st++[.rcd mm.recs.length]} _ rfl rfl rfl rfl M4 ((K1.trans (cg s3)).trans (kx.sub λc hc=>by rw[bJ hc];exact bC.2.2.1))
 | beg hst hr' =>
  rename_i c n st r
  have hst:fr.st=_:=hst
  have hn:n < rys.length:=by rw[lr];exact(bN hr').1
  obtain⟨rv,hrv,hRk⟩:=r2.at hr'
  refine⟨_,rfl,rfl,_,rfl,cP (show ¬ V.str "begin"=V.str "make" by decide +kernel) ?_⟩
  refine⟨_,rfl,rfl,_,rfl,kT rfl ?_⟩
  rw[hst]at f5
  obtain⟨zs,y,rfl,hz,hv⟩:=f5.lastOf
  refine⟨_,rfl,mm.ma,mdx,_,rfl,m1,mc_no (by decide +kernel),_,rfl,_,rfl,fr.sl,_,_,_,rfl,rfl,bc.of f4,cj,_,y,.rcd n,rfl,hv,(λz=>nomatch z),?_⟩
  refine⟨_,rfl,mm.ma,mdx,_,rfl,m1,mc_no (by decide +kernel),_,rfl,mm.ma,C,mdx,_,_,rfl,m1,ac.cl,ac.bU,eh,_,rfl,mm.rc,_,_,_,rfl,rfl,bc.of r1,aN hrv,_,rv,r,rfl,hRk,λu H1 s1 hu=>?_⟩
  refine⟨_,rfl,mm.ma,C,mdx,_,_,rfl,s1 _ _ m1,ac.cl,ac.bU,eh,_,rfl,mm.rc,rys,_,n,rfl,rfl,s1 _ _ r1,uH hn,?_⟩
  have M1:=hM.same s1
  have kx:ay [mm.rc] H1 (upd H1 mm.rc (.lst (rys.set n u))):=aI
  have Ur:aU H1 [mm.rc]:=M1.jV.sub (λc hc=>by rw[bJ hc];exact bC.2.2.1)
  have M2:=M1.MN kx uS (((r2.imp λy x h=>(h.same s1).keep kx Ur)).set (hu.keep kx Ur) n)
  exact q fr _ rfl rfl rfl rfl (by rw[← hf];exact M2) ((cg s1).trans (kx.sub λc hc=>by rw[bJ hc];exact bC.2.2.1))
 | get hst hr' hx =>
  rename_i c fl n st r x
  have hst:fr.st=_:=hst
  have hn:n < rys.length:=by rw[lr];exact(bN hr').1
  refine⟨_,rfl,rfl,_,rfl,cP (show ¬ V.str "get"=V.str "make" by decide +kernel) ?_⟩
  refine⟨_,rfl,rfl,_,rfl,cP (show ¬ V.str "get"=V.str "begin" by decide +kernel) ?_⟩
  refine⟨_,rfl,rfl,_,rfl,kT rfl ?_⟩
  rw[hst]at f5
  obtain⟨zs,y,rfl,hz,hv⟩:=f5.lastOf
  refine⟨_,rfl,mm.ma,C,mdx,_,_,rfl,m1,ac.cl,ac.bU,eh,_,rfl,mm.ma,mdx,_,rfl,m1,mc_no (by decide +kernel),_,rfl,.inl ⟨rfl,_,bc.of f4⟩,fr.sl,_,y,rfl,rfl,f4,ej,?_⟩
  rw[List.dropLast_concat]
  obtain⟨a1,a2⟩:=hF.fC (aB.refl H) hz
  have M1:=hM.top hf (f':={fr with st:=st}) rfl rfl rfl a2 a1
  have kx:ay [fr.sl] H (upd H fr.sl (.lst zs)):=aI
  have uQ:=hv.keep kx muf
  have R1:=ba.keep kx muf hR
  have K1:=a2.sub ff
  generalize upd H fr.sl _=H1 at M1 uQ R1 K1 ⊢
  obtain⟨qys,q1,q2⟩:=id M1.rc
  obtain⟨rv,hrv,t,ft,fys,rfl,hT,hFt,hV⟩:=q2.at hr'
  have hT':∃l,ba K H1 t (l++[.ref ft]):=by
   cases wt with
   | true=>exact⟨[_,_,_],hT⟩
   | false=>exact⟨[_],hT⟩
  obtain⟨l,hT'⟩:=hT'
  obtain⟨u,hu,hux⟩:=hV.at hx
  refine⟨_,y,.rcd n,rfl,uQ,(λz=>nomatch z),mm.rc,_,_,_,rfl,rfl,bc.of q1,aN hrv,?_⟩
  have F1:=M1.last rfl
  obtain⟨_,_,⟨gzs,e4,e5⟩,_⟩:=id F1
  have lz:=e5.1
  refine⟨_,rfl,.inl ⟨rfl,_,bc.of e4⟩,_,rfl,_,rfl,t,_,_,_,rfl,rfl,hT',cj,_,rfl,rt,_,_,_,rfl,rfl,R1,aN (j:=2) rfl,ft,_,_,_,rfl,rfl,hFt,aN hu,fr.sl,gzs,u,rfl,rfl,e4,big (by rw[lz];rw[hst]at fB;simp at fB;show st.length<=1000000;omega),?_⟩
  obtain⟨b1,b2⟩:=F1.fC (aB.refl H1) (e5.snoc hux)
  have M2:=M1.top (fs:=fs) (f:={fr with st:=st}) (f':={fr with st:=st++[x]}) rfl rfl rfl rfl b2 b1
  exact q {fr with st:=st++[x]} _ rfl rfl rfl rfl M2 (K1.trans (b2.sub ff))
 | fill hst hr' hx h100' =>
  rename_i c fl n st r x
  have hst:fr.st=_:=hst
  refine⟨_,rfl,rfl,_,rfl,cP (show ¬ V.str "fill"=V.str "make" by decide +kernel) ?_⟩
  refine⟨_,rfl,rfl,_,rfl,cP (show ¬ V.str "fill"=V.str "begin" by decide +kernel) ?_⟩
  refine⟨_,rfl,rfl,_,rfl,cP (show ¬ V.str "fill"=V.str "get" by decide +kernel) ?_⟩
  have e2:fr.st=(st++[.rcd n])++[x]:=by rw[hst];simp
  rw[e2]at f5
  obtain⟨zs,y,rfl,hz,hv⟩:=f5.lastOf
  obtain⟨zs',y',rfl,hz',hv'⟩:=hz.lastOf
  refine⟨_,rfl,.inl ⟨rfl,_,bc.of f4⟩,fr.sl,_,y,rfl,rfl,f4,ej,?_⟩
  rw[List.dropLast_concat]
  obtain⟨a1,a2⟩:=hF.fC (aB.refl H) hz
  have M1:=hM.top hf (f':={fr with st:=st++[.rcd n]}) rfl rfl rfl a2 a1
  have kx:ay [fr.sl] H (upd H fr.sl (.lst (zs'++[y']))):=aI
  have uQ:=hv.keep kx muf
  have hv1':=hv'.keep kx muf
  have R1:=ba.keep kx muf hR
  have K1:=a2.sub ff
  have g1:=uS (H:=H) (a:=fr.sl) (o:=.lst (zs'++[y']))
  generalize upd H fr.sl _=H1 at M1 uQ hv1' R1 K1 g1 ⊢
  obtain⟨ndx,nev,n1,n2⟩:=id M1.ob
  obtain⟨qys,q1,q2⟩:=id M1.rc
  have lq:=q2.1
  have hn:n < qys.length:=by rw[lq];exact(bN hr').1
  obtain⟨rv,hrv,hRk⟩:=q2.at hr'
  refine⟨_,rfl,mm.ma,ndx,_,rfl,n1,mc_no (by decide +kernel),_,rfl,_,rfl,fr.sl,_,_,_,rfl,rfl,bc.of g1,cj,_,y',.rcd n,rfl,hv1',(λz=>nomatch z),?_⟩
  refine⟨_,rfl,mm.ma,ndx,_,rfl,n1,mc_no (by decide +kernel),_,rfl,mm.ma,C,ndx,_,_,rfl,n1,ac.cl,ac.bU,eh,_,rfl,mm.rc,_,_,_,rfl,rfl,bc.of q1,aN hrv,_,rfl,rt,_,_,_,rfl,rfl,R1,aN (j:=2) rfl,_,rfl,_,rv,y,r,fl,x,rfl,hRk,uQ,hx,h100',λu H2 s2 hu=>?_⟩
  refine⟨_,rfl,mm.ma,C,ndx,_,_,rfl,s2 _ _ n1,ac.cl,ac.bU,eh,_,rfl,mm.rc,qys,_,n,rfl,rfl,s2 _ _ q1,uH hn,?_⟩
  have M2:=M1.same s2
  have BC:ay [mm.rc] H2 (upd H2 mm.rc (.lst (qys.set n u))):=aI
  have Na:aU H2 [mm.rc]:=M2.jV.sub (λc hc=>by rw[bJ hc];exact bC.2.2.1)
  have M3:=M2.MN BC uS (((q2.imp λy x h=>(h.same s2).keep BC Na)).set (hu.keep BC Na) n)
  refine⟨_,rfl,rfl,_,rfl,cP (show ¬ V.str "fill"=V.str "put" by decide +kernel) ?_⟩
  exact q {fr with st:=st++[.rcd n]} _ rfl rfl rfl rfl M3 ((K1.trans (cg s2)).trans (BC.sub λc hc=>by rw[bJ hc];exact bC.2.2.1))
 | put hst hr' hx h100' =>
  rename_i c fl n st r x
  have hst:fr.st=_:=hst
  refine⟨_,rfl,rfl,_,rfl,cP (show ¬ V.str "put"=V.str "make" by decide +kernel) ?_⟩
  refine⟨_,rfl,rfl,_,rfl,cP (show ¬ V.str "put"=V.str "begin" by decide +kernel) ?_⟩
  refine⟨_,rfl,rfl,_,rfl,cP (show ¬ V.str "put"=V.str "get" by decide +kernel) ?_⟩
  have e2:fr.st=(st++[.rcd n])++[x]:=by rw[hst];simp
  rw[e2]at f5
  obtain⟨zs,y,rfl,hz,hv⟩:=f5.lastOf
  obtain⟨zs',y',rfl,hz',hv'⟩:=hz.lastOf
  refine⟨_,rfl,.inl ⟨rfl,_,bc.of f4⟩,fr.sl,_,y,rfl,rfl,f4,ej,?_⟩
  rw[List.dropLast_concat]
  obtain⟨a1,a2⟩:=hF.fC (aB.refl H) hz
  have M1:=hM.top hf (f':={fr with st:=st++[.rcd n]}) rfl rfl rfl a2 a1
  have kx:ay [fr.sl] H (upd H fr.sl (.lst (zs'++[y']))):=aI
  have uQ:=hv.keep kx muf
  have hv1':=hv'.keep kx muf
  have R1:=ba.keep kx muf hR
  have K1:=a2.sub ff
  have g1:=uS (H:=H) (a:=fr.sl) (o:=.lst (zs'++[y']))
  generalize upd H fr.sl _=H1 at M1 uQ hv1' R1 K1 g1 ⊢
  obtain⟨ndx,nev,n1,n2⟩:=id M1.ob
  obtain⟨qys,q1,q2⟩:=id M1.rc
  have lq:=q2.1
  have hn:n < qys.length:=by rw[lq];exact(bN hr').1
  obtain⟨rv,hrv,hRk⟩:=q2.at hr'
  refine⟨_,rfl,mm.ma,ndx,_,rfl,n1,mc_no (by decide +kernel),_,rfl,_,rfl,fr.sl,_,_,_,rfl,rfl,bc.of g1,cj,_,y',.rcd n,rfl,hv1',(λz=>nomatch z),?_⟩
  refine⟨_,rfl,mm.ma,ndx,_,rfl,n1,mc_no (by decide +kernel),_,rfl,mm.ma,C,ndx,_,_,rfl,n1,ac.cl,ac.bU,eh,_,rfl,mm.rc,_,_,_,rfl,rfl,bc.of q1,aN hrv,_,rfl,rt,_,_,_,rfl,rfl,R1,aN (j:=2) rfl,_,rfl,_,rv,y,r,fl,x,rfl,hRk,uQ,hx,h100',λu H2 s2 hu=>?_⟩
  refine⟨_,rfl,mm.ma,C,ndx,_,_,rfl,s2 _ _ n1,ac.cl,ac.bU,eh,_,rfl,mm.rc,qys,_,n,rfl,rfl,s2 _ _ q1,uH hn,?_⟩
  have M2:=M1.same s2
  have BC:ay [mm.rc] H2 (upd H2 mm.rc (.lst (qys.set n u))):=aI
  have Na:aU H2 [mm.rc]:=M2.jV.sub (λc hc=>by rw[bJ hc];exact bC.2.2.1)
  have M3:=M2.MN BC uS (((q2.imp λy x h=>(h.same s2).keep BC Na)).set (hu.keep BC Na) n)
  have K3:=(K1.trans (cg s2)).trans (BC.sub λc hc=>by rw[bJ hc];exact bC.2.2.1)
  generalize upd H2 mm.rc _=H3 at M3 K3 ⊢
  refine⟨_,rfl,rfl,_,rfl,kT rfl ?_⟩
  have F3:=M3.last (fs:=fs) rfl
  obtain⟨_,_,⟨gzs,e4,e5⟩,_⟩:=id F3
  obtain⟨ws,w',rfl,hws,hww⟩:=e5.lastOf
  refine⟨_,rfl,.inl ⟨rfl,_,bc.of e4⟩,fr.sl,_,w',rfl,rfl,e4,ej,?_⟩
  rw[List.dropLast_concat]
  obtain⟨b1,b2⟩:=F3.fC (aB.refl H3) hws
  have M4:=M3.top (fs:=fs) (f:={fr with st:=st++[.rcd n]}) (f':={fr with st:=st}) rfl rfl rfl rfl b2 b1
  exact q {fr with st:=st} _ rfl rfl rfl rfl M4 (K3.trans (b2.sub ff))
theorem Cw:az ["number"] ["number"] (dS rY):=by walk_at "sc"
theorem Cy{f:Addr}{fd:FuncData}(F:eO K "wrapped" "wrapped" rY f fd){zq:Tok}(sE:mg "HALF"=some (.int 2147483648 zq))(HW:RelV (.int 2147483648) (.int 2147483648 zq)){zr:Tok}(v5:mg "TURN"=some (.int 4294967296 zr))(QY:RelV (.int 4294967296) (.int 4294967296 zr)){aa:Addr}(ah:ak K aa):bw P w K mg base aL 1 f fd ["number"] (jX K):=by
 refine F.ok Cw (λvs H Q E h=>?_) (λcdv A outer s H vs Q E hr h=>?_)
 ·obtain⟨n,rfl,q⟩:=h
  rfl
 obtain⟨n,rfl,q⟩:=h
 refine⟨_,(qO (aE (bh oQ (bh i5 (bh ey (pv 0) (eQ rfl sE HW)) (eQ rfl v5 QY)) (eQ rfl sE HW)))),?_⟩
 walk_at "rd"
 exact q
theorem Cz:az ["sign","one","other"] ["sign","one","other"] (dS rZ):=by walk_at "sc"
theorem CA{f:Addr}{fd:FuncData}(F:eO K "divided" "divided" rZ f fd){aa:Addr}(ah:ak K aa)(jx:cX P w K mg base aL "wrapped" 1 ["number"] (jX K)):bw P w K mg base aL 2 f fd ["sign","one","other"] (pH K):=by
 refine F.ok Cz (λvs H Q E h=>?_) (λcdv A outer s H vs Q E hr h=>?_)
 ·obtain⟨sign,a,b,rfl,hp,ha,hb,z,q⟩:=h
  rfl
 obtain⟨sign,a,b,rfl,hp,ha,hb,z,q⟩:=h
 refine⟨_,(qK (aY (tR bD (pv 2) pI (aC _)) (qO uU) aK)
   (qK (aY (tR bD (pv 0) aH (aC _)) (qO (aE (bR jx (hr.mono (by decide)) rfl (pK (bh GU (pv 1) (pv 2)) pN)))) aK)
   (qO (aE (bh Lu (pv 1) (pv 2)))))),?_⟩
 refine⟨_,rfl,rfl,_,rfl,?_⟩
 refine cP (λy=>z (V.int.inj y)) ?_
 have hb':Ac a b:=⟨z,by unfold Hy at hb;omega⟩
 refine⟨_,rfl,rfl,_,rfl,?_⟩
 rcases hp with rfl | rfl
 ·refine kT rfl ?_
  rw[QG]at q
  exact⟨_,rfl,_,rfl,_,_,rfl,rfl,hb',_,rfl,q⟩
 ·refine cP (by decide +kernel) ?_
  rw[QH]at q
  exact⟨_,rfl,_,rfl,_,_,rfl,rfl,z,q⟩
theorem AV:az ["sign","one","other"] ["sign","one","other"] (dS ph):=by walk_at "sc"
theorem AW{f:Addr}{fd:FuncData}(F:eO K "reckoned" "reckoned" ph f fd){aa:Addr}(ah:ak K aa)(Ex:cX P w K mg base aL "divided" 2 ["sign","one","other"] (pH K))(jx:cX P w K mg base aL "wrapped" 1 ["number"] (jX K)):bw P w K mg base aL 3 f fd ["sign","one","other"] (lS K):=by
 refine F.ok AV (λvs H Q E h=>?_) (λcdv A outer s H vs Q E hr h=>?_)
 ·obtain⟨sign,a,b,rfl,hp,ha,hb,hz,q0⟩:=h
  rfl
 obtain⟨sign,a,b,rfl,hp,ha,hb,hz,q0⟩:=h
 refine⟨_,(qK (aY (tR bD (pv 0) aH (aC _)) (qO (aE (bR jx (hr.mono (by decide)) rfl (pK (bh ey (pv 1) (pv 2)) pN)))) aK)
   (qK (aY (tR bD (pv 0) aH (aC _)) (qO (aE (bR jx (hr.mono (by decide)) rfl (pK (bh oQ (pv 1) (pv 2)) pN)))) aK)
   (qK (aY (tR bD (pv 0) aH (aC _)) (qO (aE (bR jx (hr.mono (by decide)) rfl (pK (bh BL (pv 1) (pv 2)) pN)))) aK)
   (qK (aY (tR bD (pv 0) aH (aC _)) (qO (aE (zU (tR xp (pv 1) (pv 2) (aC _)) pI pI))) aK)
   (qK (aY (tR bD (pv 0) aH (aC _)) (qO (aE (zU (tR bD (pv 1) (pv 2) (aC _)) pI pI))) aK)
   (qO (aE (bR Ex (hr.mono (by decide)) rfl (pK (pv 0) (pK (pv 1) (pK (pv 2) pN))))))))))),?_⟩
 have q:(parts sign->b≠0)->Q (.int (rk sign a b)) H:=λ_=>q0
 have no:∀s1 s2:Str,s1≠s2->¬ (V.str s1=V.str s2):=λs1 s2 h z=>h (V.str.inj z)
 rcases hp with rfl | rfl | rfl | rfl | rfl | hp
 ·refine⟨_,rfl,rfl,_,rfl,kT rfl ?_⟩
  have y:=q λz=>absurd z dv.1
  rw[QD]at y
  exact⟨_,rfl,_,rfl,_,_,rfl,rfl,_,rfl,y⟩
 ·refine⟨_,rfl,rfl,_,rfl,cP (by decide +kernel) ?_⟩
  refine⟨_,rfl,rfl,_,rfl,kT rfl ?_⟩
  have y:=q λz=>absurd z dv.2.1
  rw[QE]at y
  exact⟨_,rfl,_,rfl,_,_,rfl,rfl,_,rfl,y⟩
 ·refine⟨_,rfl,rfl,_,rfl,cP (by decide +kernel) ?_⟩
  refine⟨_,rfl,rfl,_,rfl,cP (by decide +kernel) ?_⟩
  refine⟨_,rfl,rfl,_,rfl,kT rfl ?_⟩
  have hm:Ls a b:=.inl ⟨by unfold Hy at ha;omega,by unfold Hy at ha;omega⟩
  have y:=q λz=>absurd z dv.2.2.1
  rw[QF]at y
  exact⟨_,rfl,_,rfl,_,_,rfl,rfl,hm,_,rfl,y⟩
 ·refine⟨_,rfl,rfl,_,rfl,cP (by decide +kernel) ?_⟩
  refine⟨_,rfl,rfl,_,rfl,cP (by decide +kernel) ?_⟩
  refine⟨_,rfl,rfl,_,rfl,cP (by decide +kernel) ?_⟩
  refine⟨_,rfl,rfl,_,rfl,kT rfl ?_⟩
  refine⟨_,rfl,_,rfl,_,_,rfl,rfl,_,rfl,?_⟩
  have z:=q λz=>absurd z dv.2.2.2.1
  have e:=MI a b
  rw[e]at z
  by_cases y:a < b
  ·rw[if_pos y]at z;exact kT y z
  ·rw[if_neg y]at z;exact cP y z
 ·refine⟨_,rfl,rfl,_,rfl,cP (by decide +kernel) ?_⟩
  refine⟨_,rfl,rfl,_,rfl,cP (by decide +kernel) ?_⟩
  refine⟨_,rfl,rfl,_,rfl,cP (by decide +kernel) ?_⟩
  refine⟨_,rfl,rfl,_,rfl,cP (by decide +kernel) ?_⟩
  refine⟨_,rfl,rfl,_,rfl,kT rfl ?_⟩
  refine⟨_,rfl,_,rfl,rfl,_,rfl,?_⟩
  have z:=q λz=>absurd z dv.2.2.2.2
  have e:=MJ a b
  rw[e]at z
  by_cases y:a=b
  ·rw[if_pos y]at z;exact kT (congrArg V.int y) z
  ·rw[if_neg y]at z;exact cP (λw=>y (V.int.inj w)) z
 ·have h1:sign≠"add"/\sign≠"sub"/\sign≠"mul"/\sign≠"less"/\sign≠"same":=by rcases hp with rfl | rfl<;>decide +kernel
  refine⟨_,rfl,rfl,_,rfl,cP (no _ _ h1.1) ?_⟩
  refine⟨_,rfl,rfl,_,rfl,cP (no _ _ h1.2.1) ?_⟩
  refine⟨_,rfl,rfl,_,rfl,cP (no _ _ h1.2.2.1) ?_⟩
  refine⟨_,rfl,rfl,_,rfl,cP (no _ _ h1.2.2.2.1) ?_⟩
  refine⟨_,rfl,rfl,_,rfl,cP (no _ _ h1.2.2.2.2) ?_⟩
  exact⟨_,rfl,_,rfl,_,rfl,sign,a,b,rfl,hp,ha,hb,hz hp,q0⟩
theorem cZ:az ["self","frame","sign","pair","word"] ["self","frame","sign"] (dS dr):=by walk_at "sc"
theorem kL{f:Addr}{fd:FuncData}(F:eO K "do_reckoning" "Plain.do_reckoning" dr f fd){aa:Addr}(ah:ak K aa){C:Addr}{wt:Bool}(ac:bp K C)(CB:cX P w K mg base aL "reckoned" 3 ["sign","one","other"] (lS K))(qW:cX P w K mg base aL "taken" 1 ["stack","many"] (lN K))(dc:bF P w K mg base aL C "bare" 1 ["self","value"] (i4 K wt))(dH:bF P w K mg base aL C "tagged" 1 ["self","tag","number"] (fO K wt)):bw P w K mg base aL 4 f fd ["self","frame","sign"] (gE K aa C wt):=by
 refine F.ok cZ (λvs H Q E h=>?_) (λcdv A outer s H vs Q E hr h=>?_)
 ·obtain⟨mm,fs,fr,s',st,x,y,rfl,hM,hf,hst,hs,hx,hy,hz,fB,q⟩:=h
  rfl
 obtain⟨mm,fs,fr,s',st,x,y,rfl,hM,hf,hst,hs,hx,hy,hz,fB,q⟩:=h
 refine⟨_,(qK (qu (i:=3) cZ.nd rfl (Or.inl rfl) 1 ["value","self"] [0] ⟨rfl,rfl,rfl,rfl,rfl,rfl,rfl,rfl⟩ (iQ (bR qW (hr.mono (by decide)) rfl (pK (aD (pv 1) rfl) (pK pI pN)))) (λ_ _ _ _=>⟨(c9 (i:=0) (show List.Nodup (["value","self"]:List Str)by decide +kernel) rfl (Or.inl rfl)),jG,(show PE _ _ (xr C _ _ [] _ _ _)from (bS (pv 1) dc bI (hr.mono (by decide)) (pK (pv 0) pN)))⟩))
   (qK (L6 (λ_=>(qO (bf (i:=4) cZ.nd rfl (Or.inl rfl) (bR CB (hr.mono (by decide)) rfl (pK (pv 2) (pK (au (r:=LG K) aR (pv 3) pI (λ_ _=>rfl)) (pK (au (r:=LG K) aR (pv 3) pI (λ_ _=>rfl)) pN))))))))
   (qK (aW (iy PySem.F.plainAttrs_list PySem.F.slot_list_append PySem.F.type_list_append bK (aD (pv 1) rfl) (pK (bS (pv 0) dH bI (hr.mono (by decide)) (pK aH (pK (pv 4) pN))) pN)))
   (qO (bW (pv 1) (bh ey (aD (pv 1) rfl) pI) rfl))))),?_⟩
 have hF:=hM.last hf
 obtain⟨⟨fdx,f1⟩,⟨bys,f2,f3⟩,⟨sys,f4,f5⟩,fne⟩:=id hF
 have ff:=e7 hf
 obtain⟨mdx,ev,m1,m2⟩:=hM.ob
 rw[hst]at f5 fB
 obtain⟨zs,u,v,rfl,hzs,hu,hv⟩:=f5.Hz
 refine⟨_,rfl,fr.fa,aa,fdx,_,_,rfl,f1,ah.cl,ah.dE,du,?_⟩
 refine⟨fr.sl,_,2,rfl,f4,by simp,by decide,λl H1 nl g1 g2 k1=>?_⟩
 rw[Vo.1]at g1
 rw[Vo.2]at g2
 have kx:ay [fr.sl] H H1:=λc o hc e=>k1 c o (λz=>hc (by rw[z];exact List.mem_singleton.mpr rfl)) e
 have mu:aU H [fr.sl]:=hF.jV.sub (λc hc=>by rw[bJ hc];simp[dF])
 obtain⟨a1,a2⟩:=hF.putSt kx g2 (hzs.keep kx mu)
 have M1:=hM.top hf (f':={fr with st:=st}) rfl rfl rfl a2 a1
 have WI:=hu.keep kx mu
 have uQ:=hv.keep kx mu
 obtain⟨ndx,nev,n1,n2⟩:=M1.ob
 refine⟨l,rfl,⟨_,bc.of g1⟩,λD hD=>?_⟩
 refine qt (xs:=[u,v]) (λi ys H3=>aB H1 H3/\H3 D=some (.lst ys)/\ys=(([x,y]:List Int).take i).map V.int) By ⟨sN hD _,uS,rfl⟩ ?_ ?_ ?_
 ·rintro i ys H3 hi ⟨s3,g3,rfl⟩
  refine⟨g3,?_,s3.seq (bc.of g1)⟩
  rw[List.length_map,List.length_take]
  omega
 ·rintro i w ys H3 hx' ⟨s3,g3,rfl⟩
  obtain⟨n,hw,e⟩:∃n:Int,uJ K H1 wt w (.num n)/\(([x,y]:List Int).take i).map V.int++[.int n]=(([x,y]:List Int).take (i + 1)).map V.int:=by
   match i,hx' with
   | 0,hx'=>cases hx';exact⟨x,WI,rfl⟩
   | 1,hx'=>cases hx';exact⟨y,uQ,rfl⟩
   | (k + 2),hx'=>simp at hx'
  exact⟨rfl,_,rfl,mm.ma,ndx,_,rfl,s3 _ _ n1,mc_no (by decide +kernel),_,rfl,_,w,.num n,rfl,hw.same s3,(by intro z;cases z),g3,qF s3 hD _,uS,e⟩
 rintro ys H3 ⟨s3,g3,rfl⟩
 refine⟨_,rfl,_,rfl,D,_,_,_,rfl,rfl,bc.of g3,aN (j:=0) rfl,_,rfl,D,_,_,_,rfl,rfl,bc.of g3,aN (j:=1) rfl,s',x,y,rfl,hs,hx,hy,hz,?_⟩
 have M3:=M1.same s3
 have F3:=M3.last rfl
 obtain⟨⟨gdx,e1⟩,⟨gys,e2,e3⟩,⟨gzs,e4,e5⟩,gne⟩:=id F3
 obtain⟨pdx,pev,p1,p2⟩:=M3.ob
 have lz:=e5.1
 refine⟨_,rfl,fr.fa,aa,gdx,_,_,rfl,e1,ah.cl,ah.dE,du,.inl ⟨rfl,_,bc.of e4⟩,_,rfl,mm.ma,pdx,_,rfl,p1,mc_no (by decide +kernel),_,rfl,_,.num (rk s' x y),(λz=>nomatch z),rfl,λw H4 s4 hw=>?_⟩
 refine⟨fr.sl,gzs,w,rfl,rfl,s4 _ _ e4,sK (by show gzs.length<=1000;rw[lz];simp at fB;show st.length<=1000;omega),?_⟩
 obtain⟨b1,b2⟩:=F3.fC s4 ((e5.same s4).snoc hw)
 have M4:=M3.top (fs:=fs) (f:={fr with st:=st}) (f':={fr with st:=st++[.num (rk s' x y)]}) rfl rfl rfl rfl b2 b1
 have K4:ay (foot mm) H (upd H4 fr.sl (.lst (gzs++[w]))):=((a2.sub ff).trans (cg s3)).trans (b2.sub ff)
 generalize upd H4 fr.sl (.lst (gzs++[w]))=H5 at M4 K4 ⊢
 have F4:=M4.last rfl
 obtain⟨⟨hdx,i1⟩,_⟩:=id F4
 refine⟨_,rfl,fr.fa,aa,hdx,_,_,rfl,i1,ah.cl,ah.lD,qE,_,_,rfl,rfl,_,rfl,fr.fa,aa,hdx,_,rfl,i1,ah.cl,ah.lD,lE,?_⟩
 rw[iI]
 obtain⟨c1,c2⟩:=F4.setAt (dx:=hdx) (a:=fr.at' + 1)
 have M5:=M4.top (fs:=fs) (f:={fr with st:=st++[.num (rk s' x y)]}) (f':={fr with st:=st++[.num (rk s' x y)],at':=fr.at' + 1}) rfl rfl rfl rfl c2 c1
 exact q _ M5 (K4.trans (c2.sub ff))
theorem cn:az ["self","frame","row","sign","stack","pair"] ["self","frame","row"] (dS dJ):=by walk_at "sc"
theorem lX{f:Addr}{fd:FuncData}(F:eO K "do_straight" "Plain.do_straight" dJ f fd){aa:Addr}(ah:ak K aa){C:Addr}{wt:Bool}(ac:bp K C)(qW:cX P w K mg base aL "taken" 1 ["stack","many"] (lN K))(dc:bF P w K mg base aL C "bare" 1 ["self","value"] (i4 K wt))(dH:bF P w K mg base aL C "tagged" 1 ["self","tag","number"] (fO K wt)):bw P w K mg base aL 2 f fd ["self","frame","row"] (iJ K aa C wt):=by
 refine F.ok cn (λvs H Q E h=>?_) (λcdv A outer s H vs Q E hr h=>?_)
 ·obtain⟨mm,fs,fr,g',r,rt,sd,rfl,hM,hf,hR,hK,fB,QX,q⟩:=h
  rfl
 obtain⟨mm,fs,fr,g',r,rt,sd,rfl,hM,hf,hR,hK,fB,QX,q⟩:=h
 refine⟨_,(qK (bf (i:=3) cn.nd rfl (Or.inl rfl) (au aw (pv 2) pI (λ_ _=>rfl)))
   (qK (bf (i:=4) cn.nd rfl (Or.inl rfl) (aD (pv 1) rfl))
   (qO (aY (tR bD (pv 3) aH (aC _)) (qO (aW (iy PySem.F.plainAttrs_list PySem.F.slot_list_append PySem.F.type_list_append bK (pv 4) (pK (bS (pv 0) dH bI (hr.mono (by decide)) (pK aH (pK (au aw (pv 2) pI (λ_ _=>rfl)) pN))) pN)))) (qO (aY (tR bD (pv 3) aH (aC _)) (qO (aW (iy PySem.F.plainAttrs_list PySem.F.slot_list_append PySem.F.type_list_append bK (pv 4) (pK (au aR (aD (pv 1) rfl) (au aw (pv 2) pI (λ_ _=>rfl)) (λ_ _=>rfl)) pN)))) (qO (aY (tR bD (pv 3) aH (aC _)) (qO (BH (fF PySem.F.plainAttrs_list PySem.F.slot_list_pop PySem.F.type_list_pop gw (pv 4)) (BG (aD (pv 1) rfl) (au aw (pv 2) pI (λ_ _=>rfl)) set_list))) (qO (aY (tR bD (pv 3) aH (aC _)) (qO (aW (iy PySem.F.plainAttrs_list PySem.F.slot_list_append PySem.F.type_list_append bK (pv 4) (pK (au aR (pv 4) (kQ iu pI) (λ_ _=>rfl)) pN)))) (qO (aY (tR bD (pv 3) aH (aC _)) (qK (bf (i:=5) cn.nd rfl (Or.inl rfl) (bR qW (hr.mono (by decide)) rfl (pK (pv 4) (pK pI pN))))
   (qO (aW (iy PySem.F.plainAttrs_list PySem.F.slot_list_extend PySem.F.type_list_extend D4 (pv 4) (pK (cL (pK (au aR (pv 5) pI (λ_ _=>rfl)) (pK (au aR (pv 5) pI (λ_ _=>rfl)) pN))) pN))))) (qO (aY (tR bD (pv 3) aH (aC _)) (qO (aW (fF PySem.F.plainAttrs_list PySem.F.slot_list_pop PySem.F.type_list_pop gw (pv 4)))) (qO (aW (iy PySem.F.plainAttrs_list PySem.F.slot_list_append PySem.F.type_list_append bK (aD (pv 0) rfl) (pK (bS (pv 0) dc bI (hr.mono (by decide)) (pK (fF PySem.F.plainAttrs_list PySem.F.slot_list_pop PySem.F.type_list_pop gw (pv 4)) pN)) pN)))))))))))))))))),?_⟩
 have hF:=hM.last hf
 obtain⟨⟨fdx,f1⟩,⟨bys,f2,f3⟩,⟨sys,f4,f5⟩,fne⟩:=id hF
 have lst:=f5.1
 have ff:=e7 hf
 obtain⟨mdx,ev,m1,m2⟩:=hM.ob
 refine⟨_,rfl,rt,_,_,_,rfl,rfl,hR,aN (j:=0) rfl,?_⟩
 refine⟨_,rfl,fr.fa,aa,fdx,_,_,rfl,f1,ah.cl,ah.dE,du,?_⟩
 cases hK with
 | push =>
  rename_i w
  refine⟨_,rfl,rfl,_,rfl,kT rfl ?_⟩
  refine⟨_,rfl,.inl ⟨rfl,_,bc.of f4⟩,_,rfl,mm.ma,mdx,_,rfl,m1,mc_no (by decide +kernel),_,rfl,rt,_,_,_,rfl,rfl,hR,aN (j:=1) rfl,_,.num w,(λz=>nomatch z),rfl,λv H1 s1 hv=>?_⟩
  obtain⟨a1,a2⟩:=hF.fC s1 ((f5.same s1).snoc hv)
  exact⟨fr.sl,sys,v,rfl,rfl,s1 _ _ f4,big (by omega),q {fr with st:=fr.st++[.num w]} _ rfl rfl rfl rfl (hM.top hf rfl rfl rfl a2 a1) (a2.sub ff)⟩
 | load hx =>
  rename_i b x
  refine⟨_,rfl,rfl,_,rfl,cP (show ¬ V.str "load"=V.str "push" by decide +kernel) ?_⟩
  refine⟨_,rfl,rfl,_,rfl,kT rfl ?_⟩
  obtain⟨y,hy,hv⟩:=f3.at hx
  refine⟨_,rfl,.inl ⟨rfl,_,bc.of f4⟩,_,rfl,fr.fa,aa,fdx,_,_,rfl,f1,ah.cl,ah.yR,Ap,_,rfl,rt,_,_,_,rfl,rfl,hR,aN (j:=1) rfl,fr.bl,_,_,_,rfl,rfl,bc.of f2,aN hy,?_⟩
  obtain⟨a1,a2⟩:=hF.fC (aB.refl H) (f5.snoc hv)
  exact⟨fr.sl,sys,y,rfl,rfl,f4,big (by omega),q {fr with st:=fr.st++[x]} _ rfl rfl rfl rfl (hM.top hf rfl rfl rfl a2 a1) (a2.sub ff)⟩
 | store hst hb =>
  rename_i b st x
  have hst:fr.st=_:=hst
  refine⟨_,rfl,rfl,_,rfl,cP (show ¬ V.str "store"=V.str "push" by decide +kernel) ?_⟩
  refine⟨_,rfl,rfl,_,rfl,cP (show ¬ V.str "store"=V.str "load" by decide +kernel) ?_⟩
  refine⟨_,rfl,rfl,_,rfl,kT rfl ?_⟩
  rw[hst]at f5
  obtain⟨zs,y,rfl,hz,hv⟩:=f5.lastOf
  refine⟨_,rfl,.inl ⟨rfl,_,bc.of f4⟩,fr.sl,_,y,rfl,rfl,f4,ej,?_⟩
  rw[List.dropLast_concat]
  obtain⟨a1,a2⟩:=hF.fC (aB.refl H) hz
  have M1:=hM.top hf (f':={fr with st:=st}) rfl rfl rfl a2 a1
  have F1:=M1.last rfl
  obtain⟨⟨gdx,g1⟩,⟨gys,g2,g3⟩,⟨gzs,g4,g5⟩,gne⟩:=id F1
  have kx:ay [fr.sl] H (upd H fr.sl (.lst zs)):=aI
  have mu:aU H [fr.sl]:=hF.jV.sub (λc hc=>by rw[bJ hc];simp[dF])
  have uQ:=hv.keep kx mu
  have gR:=ba.keep kx mu hR
  have a2':=a2.sub ff
  generalize upd H fr.sl (.lst zs)=H1 at M1 F1 g1 g2 g3 g4 g5 uQ gR a2' ⊢
  have lb:=g3.1
  refine⟨_,rfl,fr.fa,aa,gdx,_,_,rfl,g1,ah.cl,ah.yR,Ap,_,rfl,rt,_,_,_,rfl,rfl,gR,aN (j:=1) rfl,fr.bl,gys,_,b,rfl,rfl,g2,uH (by show b < gys.length;rw[lb];exact hb),?_⟩
  obtain⟨b1,b2⟩:=F1.Ue (aB.refl H1) (g3.set uQ b)
  have M2:=M1.top (fs:=fs) (f:={fr with st:=st}) (f':={fr with bx:=fr.bx.set b x,st:=st}) rfl rfl rfl rfl b2 b1
  exact q {fr with bx:=fr.bx.set b x,st:=st} _ rfl rfl rfl rfl M2 (a2'.trans (b2.sub ff))
 | dup hst =>
  rename_i st x
  have hst:fr.st=_:=hst
  refine⟨_,rfl,rfl,_,rfl,cP (by decide +kernel) ?_⟩
  refine⟨_,rfl,rfl,_,rfl,cP (by decide +kernel) ?_⟩
  refine⟨_,rfl,rfl,_,rfl,cP (by decide +kernel) ?_⟩
  refine⟨_,rfl,rfl,_,rfl,kT rfl ?_⟩
  have f5':=f5
  rw[hst]at f5'
  obtain⟨zs,y,rfl,hz,hv⟩:=f5'.lastOf
  refine⟨_,rfl,.inl ⟨rfl,_,bc.of f4⟩,_,rfl,_,rfl,fr.sl,_,_,_,rfl,rfl,bc.of f4,cj,?_⟩
  obtain⟨a1,a2⟩:=hF.fC (aB.refl H) (f5.snoc hv)
  exact⟨fr.sl,_,y,rfl,rfl,f4,big (by omega),q {fr with st:=fr.st++[x]} _ rfl rfl rfl rfl (hM.top hf rfl rfl rfl a2 a1) (a2.sub ff)⟩
 | swap hst =>
  rename_i st x y
  have hst:fr.st=_:=hst
  refine⟨_,rfl,rfl,_,rfl,cP (by decide +kernel) ?_⟩
  refine⟨_,rfl,rfl,_,rfl,cP (by decide +kernel) ?_⟩
  refine⟨_,rfl,rfl,_,rfl,cP (by decide +kernel) ?_⟩
  refine⟨_,rfl,rfl,_,rfl,cP (by decide +kernel) ?_⟩
  refine⟨_,rfl,rfl,_,rfl,kT rfl ?_⟩
  rw[hst]at f5
  obtain⟨zs,u,v,rfl,hz,hu,hv⟩:=f5.Hz
  refine⟨_,rfl,fr.sl,_,2,rfl,f4,by simp,by decide,λl H1 nl g1 g2 k1=>?_⟩
  rw[Vo.1]at g1
  rw[Vo.2]at g2
  have kx:ay [fr.sl] H H1:=λc o hc e=>k1 c o (λz=>hc (by rw[z];exact List.mem_singleton.mpr rfl)) e
  have mu:aU H [fr.sl]:=hF.jV.sub (λc hc=>by rw[bJ hc];simp[dF])
  obtain⟨a1,a2⟩:=hF.putSt kx g2 (hz.keep kx mu)
  have M1:=hM.top hf (f':={fr with st:=st}) rfl rfl rfl a2 a1
  have WI:=hu.keep kx mu
  have uQ:=hv.keep kx mu
  refine⟨_,rfl,.inl ⟨rfl,_,bc.of g2⟩,_,rfl,l,_,_,_,rfl,rfl,bc.of g1,aN (j:=1) rfl,_,rfl,l,_,_,_,rfl,rfl,bc.of g1,aN (j:=0) rfl,By,λl2 h2=>?_⟩
  have s2:=sN h2 (.lst [v,u])
  have lz:zs.length<=1000:=by rw[hst]at fB;have:=hz.1;simp at fB;omega
  refine⟨fr.sl,l2,zs,_,rfl,rfl,s2 _ _ g2,uS,Nat.le_of_lt (big (by simp;omega)),?_⟩
  obtain⟨b1,b2⟩:=(M1.last rfl).fC s2 (((hz.keep kx mu).same s2).append (fA.snoc (fA.snoc fA.nil (uQ.same s2)) (WI.same s2)))
  have M2:=M1.top (fs:=fs) (f:={fr with st:=st}) (f':={fr with st:=st++[y,x]}) rfl rfl rfl rfl b2 b1
  exact q {fr with st:=st++[y,x]} _ rfl rfl rfl rfl M2 ((a2.sub ff).trans (b2.sub ff))
 | drop hst =>
  rename_i st x
  have hst:fr.st=_:=hst
  refine⟨_,rfl,rfl,_,rfl,cP (by decide +kernel) ?_⟩
  refine⟨_,rfl,rfl,_,rfl,cP (by decide +kernel) ?_⟩
  refine⟨_,rfl,rfl,_,rfl,cP (by decide +kernel) ?_⟩
  refine⟨_,rfl,rfl,_,rfl,cP (by decide +kernel) ?_⟩
  refine⟨_,rfl,rfl,_,rfl,cP (by decide +kernel) ?_⟩
  refine⟨_,rfl,rfl,_,rfl,kT rfl ?_⟩
  rw[hst]at f5
  obtain⟨zs,y,rfl,hz,hv⟩:=f5.lastOf
  refine⟨_,rfl,.inl ⟨rfl,_,bc.of f4⟩,fr.sl,_,y,rfl,rfl,f4,ej,?_⟩
  rw[List.dropLast_concat]
  obtain⟨a1,a2⟩:=hF.fC (aB.refl H) hz
  exact q {fr with st:=st} _ rfl rfl rfl rfl (hM.top hf rfl rfl rfl a2 a1) (a2.sub ff)
 | say hst hn =>
  rename_i st x
  have hst:fr.st=_:=hst
  refine⟨_,rfl,rfl,_,rfl,cP (by decide +kernel) ?_⟩
  refine⟨_,rfl,rfl,_,rfl,cP (by decide +kernel) ?_⟩
  refine⟨_,rfl,rfl,_,rfl,cP (by decide +kernel) ?_⟩
  refine⟨_,rfl,rfl,_,rfl,cP (by decide +kernel) ?_⟩
  refine⟨_,rfl,rfl,_,rfl,cP (by decide +kernel) ?_⟩
  refine⟨_,rfl,rfl,_,rfl,cP (by decide +kernel) ?_⟩
  rw[hst]at f5
  obtain⟨zs,y,rfl,hz,hv⟩:=f5.lastOf
  have kx:ay [fr.sl] H (upd H fr.sl (.lst zs)):=aI
  have mu:aU H [fr.sl]:=hF.jV.sub (λc hc=>by rw[bJ hc];simp[dF])
  obtain⟨a1,a2⟩:=hF.fC (aB.refl H) hz
  have M1:=hM.top hf (f':={fr with st:=st}) rfl rfl rfl a2 a1
  have uQ:=hv.keep kx mu
  refine⟨_,rfl,mm.ma,C,mdx,_,_,rfl,m1,ac.cl,ac.Cf,DH,.inl ⟨rfl,_,bc.of hM.sd⟩,_,rfl,mm.ma,mdx,_,rfl,m1,mc_no (by decide +kernel),_,rfl,.inl ⟨rfl,_,bc.of f4⟩,fr.sl,_,y,rfl,rfl,f4,ej,?_⟩
  rw[List.dropLast_concat]
  refine⟨_,y,x,rfl,uQ,hn,mm.sd,_,_,rfl,rfl,M1.sd,big (by rw[List.length_map];show mm.said.length<=1000000;omega),?_⟩
  have M2:=M1.says (sd:=mm.said++[eZ x]) (H':=upd (upd H fr.sl (.lst zs)) mm.sd (.lst (mm.said.map V.int++[.int (eZ x)]))) aI (by rw[uS,List.map_append];rfl)
  refine q {fr with st:=st} _ rfl rfl rfl rfl M2 ((a2.sub ff).trans (ay.sub aI (λc hc=>by rw[bJ hc];simp[foot])))
theorem kD:az ["self","frame","row","sign"] ["self","frame","row"] (dS iF):=by walk_at "sc"
theorem uq{f:Addr}{fd:FuncData}(F:eO K "do_row" "Plain.do_row" iF f fd){oa:Addr}(qZ:mg "GOING"=some (.ref oa))(Nc:∀H:Hp,aS K H (.ref oa) An)(Vr:∃o,K.lookup oa=some o/\o.cls=.type "tuple"/\o.dict=none){cN:Addr}(fh:mg "OF_RECORDS"=some (.ref cN))(zt:∀H:Hp,aS K H (.ref cN) oB)(Nd:∃o,K.lookup cN=some o/\o.cls=.type "tuple"/\o.dict=none){bM:Addr}(gp:mg "RECKONING"=some (.ref bM))(AX:∀H:Hp,aS K H (.ref bM) qA)(O8:∃o,K.lookup bM=some o/\o.cls=.type "tuple"/\o.dict=none){aa:Addr}(ah:ak K aa){C:Addr}{wt:Bool}(ac:bp K C)(dc:bF P w K mg base aL C "bare" 1 ["self","value"] (i4 K wt))(CC:bF P w K mg base aL C "do_call" 5 ["self","frame","part"] (pF K aa C wt))(CD:bF P w K mg base aL C "do_give" 2 ["self","frame"] (pG K aa C wt))(AY:bF P w K mg base aL C "do_going" 4 ["self","frame","row"] (lP K aa C wt))(sF:bF P w K mg base aL C "do_of_records" 4 ["self","stack","row"] (fP K aa C wt))(ur:bF P w K mg base aL C "do_reckoning" 4 ["self","frame","sign"] (gE K aa C wt))(v7:bF P w K mg base aL C "do_straight" 2 ["self","frame","row"] (iJ K aa C wt))(vZ:bF P w K mg base aL C "fault" 3 ["self","number"] (qM K aa C wt)):bw P w K mg base aL 6 f fd ["self","frame","row"] (sj K aa C wt):=by
 refine F.ok kD (λvs H Q E h=>?_) (λcdv A outer s H vs Q E hr h=>?_)
 ·obtain⟨mm,fs,fr,r,rt,p',rfl,hM,hf,hR,hfi,hD,q⟩:=h
  rfl
 obtain⟨mm,fs,fr,r,rt,p',rfl,hM,hf,hR,hfi,hD,q⟩:=h
 refine⟨_,(qK (bf (i:=3) kD.nd rfl (Or.inl rfl) (au aw (pv 2) pI (λ_ _=>rfl)))
   (qO (aY (tR js (pv 3) (eQ (v:=.ref oa) rfl qZ rfl) rfl) (qO (aW (bS (pv 0) AY bI (hr.mono (by decide)) (pK (pv 1) (pK (pv 2) pN))))) (qO (aY (tR js (pv 3) (eQ (v:=.ref bM) rfl gp rfl) rfl) (qO (aW (bS (pv 0) ur bI (hr.mono (by decide)) (pK (pv 1) (pK (pv 3) pN))))) (qO (aY (tR bD (pv 3) aH (aC _)) (qO (aW (bS (pv 0) CC bI (hr.mono (by decide)) (pK (pv 1) (pK (au aw (pv 2) pI (λ_ _=>rfl)) pN))))) (qO (aY (tR bD (pv 3) aH (aC _)) (qO (aW (bS (pv 0) CD bI (hr.mono (by decide)) (pK (pv 1) pN)))) (qO (aY (tR bD (pv 3) aH (aC _)) (qO (aW (bS (pv 0) vZ bI (hr.mono (by decide)) (pK (bS (pv 0) dc bI (hr.mono (by decide)) (pK (fF PySem.F.plainAttrs_list PySem.F.slot_list_pop PySem.F.type_list_pop gw (aD (pv 1) rfl)) pN)) pN)))) (qO (aY (tR js (pv 3) (eQ (v:=.ref cN) rfl fh rfl) rfl) (qK (aW (bS (pv 0) sF bI (hr.mono (by decide)) (pK (aD (pv 1) rfl) (pK (pv 2) pN))))
   (qO (bW (pv 1) (bh ey (aD (pv 1) rfl) pI) rfl))) (qK (aW (bS (pv 0) v7 bI (hr.mono (by decide)) (pK (pv 1) (pK (pv 2) pN))))
   (qO (bW (pv 1) (bh ey (aD (pv 1) rfl) pI) rfl)))))))))))))))),?_⟩
 have hF:=hM.last hf
 obtain⟨⟨fdx,f1⟩,⟨bys,f2,f3⟩,⟨sys,f4,f5⟩,fne⟩:=id hF
 have ff:=e7 hf
 obtain⟨mdx,ev,m1,m2⟩:=id hM.ob
 have hst:∀f∈mm.aV,f.st.length<=1000/\∃q,mm.ps[f.part]?=some q:=λf hf=>hfi.st f.pf (List.mem_map.mpr ⟨f,hf,rfl⟩)
 have lW:=(hst fr (by rw[hf];simp)).1
 have hC:∀f∈mm.aV,∃q,mm.ps[f.part]?=some q:=λf hf=>(hst f hf).2
 have LY:mm.aV.length<=12:=by have:=hfi.fr;unfold Mc.pm at this;simpa using this
 refine⟨_,rfl,rt,_,_,_,rfl,rfl,hR,aN (j:=0) rfl,?_⟩
 have goT:ba K H oa (FD.map V.str):=sg Nc H
 have reT:ba K H bM (qG.map V.str):=sg AX H
 have rcT:ba K H cN (dX.map V.str):=sg zt H
 refine⟨_,rfl,oa,FD.map V.str,rfl,.inr goT,rfl,cS _,_,rfl,?_⟩
 rw[dW]
 cases hD with
 | str hS =>
  have hs:=hS.sign
  rw[decide_eq_false ((by decide +kernel:∀s∈dY,¬ s∈FD) _ hs)]
  refine bV ?_
  refine⟨_,rfl,bM,qG.map V.str,rfl,.inr reT,rfl,cS _,_,rfl,?_⟩
  rw[dW,decide_eq_false ((by decide +kernel:∀s∈dY,¬ s∈qG) _ hs)]
  refine bV ?_
  refine⟨_,rfl,rfl,_,rfl,cP (λz=>(by decide +kernel:∀s∈dY,¬ s="call") _ hs (V.str.inj z)) ?_⟩
  refine⟨_,rfl,rfl,_,rfl,cP (λz=>(by decide +kernel:∀s∈dY,¬ s="give") _ hs (V.str.inj z)) ?_⟩
  refine⟨_,rfl,rfl,_,rfl,cP (λz=>(by decide +kernel:∀s∈dY,¬ s="toss") _ hs (V.str.inj z)) ?_⟩
  refine⟨_,rfl,cN,dX.map V.str,rfl,.inr rcT,rfl,cS _,_,rfl,?_⟩
  rw[dW,decide_eq_false ((by decide +kernel:∀s∈dY,¬ s∈dX) _ hs)]
  refine bV ?_
  rename_i g sd
  refine⟨_,rfl,mm.ma,mdx,_,rfl,m1,mc_no (by decide +kernel),_,rfl,_,rfl,mm,fs,fr,g,r,rt,sd,rfl,hM,hf,hR,hS,lW,hfi.sd,λf' H1 e0 e1 e2 e3 M1 K1=>?_⟩
  have F1:=M1.last (fs:=fs) (f:=f') rfl
  obtain⟨⟨gdx,i1⟩,_⟩:=id F1
  refine⟨_,rfl,f'.fa,aa,gdx,_,_,by rw[e1],i1,ah.cl,ah.lD,qE,_,_,rfl,rfl,_,rfl,f'.fa,aa,gdx,_,by rw[e1],i1,ah.cl,ah.lD,lE,?_⟩
  rw[iI]
  obtain⟨c1,c2⟩:=F1.setAt (dx:=gdx) (a:=f'.at' + 1)
  have M2:=M1.top (fs:=fs) (f:=f') (f':={f' with at':=f'.at' + 1}) rfl rfl rfl rfl c2 c1
  have ft:∀c∈dF f',c∈foot mm:=λc hc=>ff c (by unfold dF at hc ⊢;rw[e1,e2,e3]at hc;exact hc)
  refine q {mm with aV:=fs++[{f' with at':=f'.at' + 1}],said:=sd} _ ?_ ⟨rfl,rfl⟩ M2 (λc hc=>.inl ?_) (K1.trans (c2.sub ft))
  ·rw[← e0]
   show({mm with said:=sd,aV:=fs++[{f' with at':=f'.at' + 1}]}:Mc).pm=_
   rw[lO (m:={mm with said:=sd})]
   rfl
  ·have e:=cQ (f':={f' with at':=f'.at' + 1}) hf e1 e2 e3
   have e':foot {mm with aV:=fs++[{f' with at':=f'.at' + 1}],said:=sd}=foot {mm with aV:=fs++[{f' with at':=f'.at' + 1}]}:=rfl
   rw[e',e]at hc
   exact hc
 | rcd hS =>
  have hs:=hS.sign
  rw[decide_eq_false ((by decide +kernel:∀s∈dX,¬ s∈FD) _ hs)]
  refine bV ?_
  refine⟨_,rfl,bM,qG.map V.str,rfl,.inr reT,rfl,cS _,_,rfl,?_⟩
  rw[dW,decide_eq_false ((by decide +kernel:∀s∈dX,¬ s∈qG) _ hs)]
  refine bV ?_
  refine⟨_,rfl,rfl,_,rfl,cP (λz=>(by decide +kernel:∀s∈dX,¬ s="call") _ hs (V.str.inj z)) ?_⟩
  refine⟨_,rfl,rfl,_,rfl,cP (λz=>(by decide +kernel:∀s∈dX,¬ s="give") _ hs (V.str.inj z)) ?_⟩
  refine⟨_,rfl,rfl,_,rfl,cP (λz=>(by decide +kernel:∀s∈dX,¬ s="toss") _ hs (V.str.inj z)) ?_⟩
  refine⟨_,rfl,cN,dX.map V.str,rfl,.inr rcT,rfl,cS _,_,rfl,?_⟩
  rw[dW,decide_eq_true hs]
  refine fG ?_
  rename_i g rs
  refine⟨_,rfl,mm.ma,mdx,_,rfl,m1,mc_no (by decide +kernel),_,rfl,fr.fa,aa,fdx,_,_,rfl,f1,ah.cl,ah.dE,du,_,rfl,mm,fs,fr,g,r,rt,rs,rfl,hM,hf,hR,hfi.wf,hfi.oC,hS,lW,hfi.rl,λf' H1 e0 e1 e2 e3 M1 K1=>?_⟩
  have F1:=M1.last (fs:=fs) (f:=f') rfl
  obtain⟨⟨gdx,i1⟩,_⟩:=id F1
  refine⟨_,rfl,f'.fa,aa,gdx,_,_,by rw[e1],i1,ah.cl,ah.lD,qE,_,_,rfl,rfl,_,rfl,f'.fa,aa,gdx,_,by rw[e1],i1,ah.cl,ah.lD,lE,?_⟩
  rw[iI]
  obtain⟨c1,c2⟩:=F1.setAt (dx:=gdx) (a:=f'.at' + 1)
  have M2:=M1.top (fs:=fs) (f:=f') (f':={f' with at':=f'.at' + 1}) rfl rfl rfl rfl c2 c1
  have ft:∀c∈dF f',c∈foot mm:=λc hc=>ff c (by unfold dF at hc ⊢;rw[e1,e2,e3]at hc;exact hc)
  refine q {mm with aV:=fs++[{f' with at':=f'.at' + 1}],recs:=rs} _ ?_ ⟨rfl,rfl⟩ M2 (λc hc=>.inl ?_) (K1.trans (c2.sub ft))
  ·rw[← e0]
   show({mm with recs:=rs,aV:=fs++[{f' with at':=f'.at' + 1}]}:Mc).pm=_
   rw[lO (m:={mm with recs:=rs})]
   rfl
  ·have e:=cQ (f':={f' with at':=f'.at' + 1}) hf e1 e2 e3
   have e':foot {mm with aV:=fs++[{f' with at':=f'.at' + 1}],recs:=rs}=foot {mm with aV:=fs++[{f' with at':=f'.at' + 1}]}:=rfl
   rw[e',e]at hc
   exact hc
 | go hG =>
  rename_i g t b
  rw[decide_eq_true hG.sign]
  refine fG ?_
  exact⟨_,rfl,mm.ma,mdx,_,rfl,m1,mc_no (by decide +kernel),_,rfl,_,rfl,mm,fs,fr,g,r,rt,t,b,rfl,hM,hf,hR,hfi.wf,hG,q⟩
 | rek hst hs ha hb hz =>
  rename_i s' st a b
  have hm:=hs.mem
  show if decide (s'∈FD)=true then _ else _
  rw[decide_eq_false ((by decide +kernel:∀s∈qG,¬ s∈FD) _ hm)]
  refine bV ?_
  refine⟨_,rfl,bM,qG.map V.str,rfl,.inr reT,rfl,cS _,_,rfl,?_⟩
  rw[dW]
  show if decide (s'∈qG)=true then _ else _
  rw[decide_eq_true hm]
  refine fG ?_
  refine⟨_,rfl,mm.ma,mdx,_,rfl,m1,mc_no (by decide +kernel),_,rfl,_,rfl,mm,fs,fr,s',st,a,b,rfl,hM,hf,hst,hs,ha,hb,hz,lW,λH' M' K'=>q {mm with aV:=fs++[{fr with st:=st++[.num (rk s' a b)],at':=fr.at' + 1}]} H' ?_ ⟨rfl,rfl⟩ M' (λc hc=>.inl ?_) K'⟩
  ·rw[lO]
   rfl
  ·have e:=cQ (f':={fr with st:=st++[.num (rk s' a b)],at':=fr.at' + 1}) hf rfl rfl rfl
   rw[e]at hc
   exact hc
 | call hq hst' hu hb h8 =>
  rename_i k pq st us
  rw[decide_eq_false (show ¬ qg (.call k)∈FD from (by decide +kernel:¬ ("call" : Str)∈FD))]
  refine bV ?_
  refine⟨_,rfl,bM,qG.map V.str,rfl,.inr reT,rfl,cS _,_,rfl,?_⟩
  rw[dW,decide_eq_false (show ¬ qg (.call k)∈qG from (by decide +kernel:¬ ("call" : Str)∈qG))]
  refine bV ?_
  refine⟨_,rfl,rfl,_,rfl,kT rfl ?_⟩
  exact⟨_,rfl,mm.ma,mdx,_,rfl,m1,mc_no (by decide +kernel),_,rfl,_,rfl,rt,_,_,_,rfl,rfl,hR,aN (j:=1) rfl,mm,fs,fr,k,st,us,pq,rfl,hM,hf,hq,hst',hu,hb,h8,hC,LY,q⟩
 | give hst' hn =>
  rename_i st x
  rw[decide_eq_false (by decide +kernel)]
  refine bV ?_
  refine⟨_,rfl,bM,qG.map V.str,rfl,.inr reT,rfl,cS _,_,rfl,?_⟩
  rw[dW,decide_eq_false (by decide +kernel)]
  refine bV ?_
  refine⟨_,rfl,rfl,_,rfl,cP (by decide +kernel) ?_⟩
  refine⟨_,rfl,rfl,_,rfl,kT rfl ?_⟩
  exact⟨_,rfl,mm.ma,mdx,_,rfl,m1,mc_no (by decide +kernel),_,rfl,mm,fs,fr,st,x,rfl,hM,hf,hst',(λe=>hn (by rw[e];rfl)),(λg hg=>(hst g (by rw[hf];exact List.mem_append_left _ hg)).1),LY,q⟩
 | toss hst' hn =>
  rename_i st x
  rw[decide_eq_false (by decide +kernel)]
  refine bV ?_
  refine⟨_,rfl,bM,qG.map V.str,rfl,.inr reT,rfl,cS _,_,rfl,?_⟩
  rw[dW,decide_eq_false (by decide +kernel)]
  refine bV ?_
  refine⟨_,rfl,rfl,_,rfl,cP (by decide +kernel) ?_⟩
  refine⟨_,rfl,rfl,_,rfl,cP (by decide +kernel) ?_⟩
  refine⟨_,rfl,rfl,_,rfl,kT rfl ?_⟩
  have WJ:fr.st=st++[x]:=hst'
  rw[WJ]at f5
  obtain⟨zs,y,rfl,hz,hv⟩:=f5.lastOf
  refine⟨_,rfl,mm.ma,mdx,_,rfl,m1,mc_no (by decide +kernel),_,rfl,mm.ma,mdx,_,rfl,m1,mc_no (by decide +kernel),_,rfl,fr.fa,aa,fdx,_,_,rfl,f1,ah.cl,ah.dE,du,.inl ⟨rfl,_,bc.of f4⟩,fr.sl,_,y,rfl,rfl,f4,ej,?_⟩
  rw[List.dropLast_concat]
  obtain⟨a1,a2⟩:=hF.fC (aB.refl H) hz
  have M1:=hM.top hf (f':={fr with st:=st}) rfl rfl rfl a2 a1
  have kx:ay [fr.sl] H (upd H fr.sl (.lst zs)):=aI
  have mu:aU H [fr.sl]:=hF.jV.sub (λc hc=>by rw[bJ hc];simp[dF])
  have uQ:=hv.keep kx mu
  have ef:=cQ (f':={fr with st:=st}) hf rfl rfl rfl
  have K1:=a2.sub ff
  refine⟨_,y,x,rfl,uQ,hn,{mm with aV:=fs++[{fr with st:=st}]},eZ x,rfl,M1,λg hg=>?_,λm' H' r1 r2 r3 r4 r5=>?_⟩
  ·have hg:g∈fs++[{fr with st:=st}]:=hg
   rcases List.mem_append.mp hg with z | z
   ·exact hC g (by rw[hf];exact List.mem_append_left _ z)
   ·rw[bJ z]
    exact hC fr (by rw[hf];simp)
  ·refine q m' H' ?_ r2 r3 (λc hc=>?_) (λc o hc e=>r5 c o (λhz=>hc (by rw[ef]at hz;exact hz)) (K1 c o hc e))
   ·rw[r1,lO]
    rfl
   ·rcases r4 c hc with z | z
    ·rw[ef]at z;exact .inl z
    ·by_cases hz:c∈foot mm
     ·exact .inl hz
     ·refine .inr ?_
      cases hh:H c with
      | none=>rfl
      | some o=>rw[K1 c o hz hh]at z;cases z
theorem zu:az ["makes","c"] ["makes","c"] (dS lC):=by walk_at "sc"
theorem zv{f:Addr}{fd:FuncData}(F:eO K "full_mask" "full_mask" lC f fd)(bq:mg "len"=none){aa:Addr}(ah:ak K aa)(gn:cX P w K mg base aL "fields_of" 2 ["makes","c"] (fc K)):bw P w K mg base aL 3 f fd ["makes","c"] (jY K):=by
 refine F.ok zu (λvs H Q E h=>?_) (λcdv A outer s H vs Q E hr h=>?_)
 ·obtain⟨a,ms,c,rfl,hM,hw,hf,hc,q⟩:=h
  rfl
 obtain⟨a,ms,c,rfl,hM,hw,hf,hc,q⟩:=h
 refine⟨_,(qO (aE (bh oQ (bh BM pI (bH aT rfl bq dh (pK (bR gn (hr.mono (by decide)) rfl (pK (pv 0) (pK (pv 1) pN))) pN))) pI))),?_⟩
 refine⟨_,rfl,_,rfl,a,ms,c,rfl,hM,hw,hf,hc,λr ks H2 s2 _ g2 hR=>?_⟩
 have l1:=hR.1
 rw[List.length_map]at l1
 have abU:=hf.fields hw hc
 refine⟨r,ks,rfl,.inl (bc.of g2),_,_,rfl,rfl,⟨by omega,by omega,by decide⟩,_,_,rfl,rfl,?_⟩
 dsimp only
 rw[show((ks.length:Nat):Int).toNat=(fields ms c).length by omega,Int.one_mul]
 exact q H2 s2
theorem cA:az ["makes","row","sign","c","field"] ["makes","row"] (dS eD):=by walk_at "sc"
theorem oo{f:Addr}{fd:FuncData}(F:eO K "asked_of_records" "asked_of_records" eD f fd){aa:Addr}(ah:ak K aa)(gn:cX P w K mg base aL "fields_of" 2 ["makes","c"] (fc K))(AZ:cX P w K mg base aL "full_mask" 3 ["makes","c"] (jY K)):bw P w K mg base aL 4 f fd ["makes","row"] (dM K):=by
 refine F.ok cA (λvs H Q E h=>?_) (λcdv A outer s H vs Q E hr h=>?_)
 ·obtain⟨mk,rw',ms,sign,xs,ks,rfl,hM,hw,hf,hR,hA,q⟩:=h
  rfl
 obtain⟨mk,rw',ms,sign,xs,ks,rfl,hM,hw,hf,hR,hA,q⟩:=h
 refine⟨_,(qK (bf (i:=2) cA.nd rfl (Or.inl rfl) (au aw (pv 1) pI (λ_ _=>rfl)))
   (qK (bf (i:=3) cA.nd rfl (Or.inl rfl) (au aw (pv 1) pI (λ_ _=>rfl)))
   (qK (aY (tR bD (pv 2) aH (aC _)) (qO (aE (cL (pK (bP (pK aH (pK (pv 3) (pK (bR AZ (hr.mono (by decide)) rfl (pK (pv 0) (pK (pv 3) pN))) pN)))) pN)))) aK)
   (qK (aY (tR bD (pv 2) aH (aC _)) (qO (aE (cL (pK (bP (pK aH (pK (pv 3) pN))) pN)))) aK)
   (qK (bf (i:=4) cA.nd rfl (Or.inl rfl) (au aR (bR gn (hr.mono (by decide)) rfl (pK (pv 0) (pK (pv 3) pN))) (au aw (pv 1) pI (λ_ _=>rfl)) (λ_ _=>rfl)))
   (qK (aY (tR bD (pv 2) aH (aC _)) (qO (aE (cL (pK (bP (pK aH (pK (pv 3) (pK pI pN)))) (pK (pv 4) pN))))) aK)
   (qO (aE (cL (pK (bP (pK aH (pK (pv 3) pN))) (pK (pv 4) pN))))))))))),?_⟩
 have oC:=hw.oC
 cases hA with
 | @begin c hc =>
  refine⟨_,rfl,rw',_,_,_,rfl,rfl,hR,aN (j:=0) rfl,_,rfl,rw',_,_,_,rfl,rfl,hR,aN (j:=1) rfl,?_⟩
  refine⟨_,rfl,rfl,_,rfl,kT rfl ?_⟩
  refine⟨_,rfl,_,rfl,_,rfl,mk,ms,c,rfl,hM,hw,hf,hc,λH1 s1=>?_⟩
  refine⟨UY,λt ht=>⟨FT,λr hr=>?_⟩⟩
  have s2:=sN ht (.tup [.str "raw",.int (c:Int),.int (2 ^ (fields ms c).length - 1)])
  have s3:=sN hr (.lst [.ref t])
  refine q r _ _ (s1.trans (s2.trans s3)) ((s1.trans s2).free hr) uS ?_
  refine .cons (xI (k:=.raw c (2 ^ (fields ms c).length - 1)) ?_) .nil
  have e:((2 ^ (fields ms c).length - 1:Nat):Int)=2 ^ (fields ms c).length - 1:=by
   have:=Nat.one_le_two_pow (n:=(fields ms c).length)
   rw[Int.ofNat_sub this]
   simp
  show ba K _ t [.str "raw",.int (c:Int),.int ((2 ^ (fields ms c).length - 1:Nat):Int)]
  rw[e]
  exact s3.tup (ba.of uS)
 | @get c f =>
  refine⟨_,rfl,rw',_,_,_,rfl,rfl,hR,aN (j:=0) rfl,_,rfl,rw',_,_,_,rfl,rfl,hR,aN (j:=1) rfl,?_⟩
  refine⟨_,rfl,rfl,_,rfl,cP (by decide +kernel) ?_⟩
  refine⟨_,rfl,rfl,_,rfl,kT rfl ?_⟩
  refine⟨_,rfl,By,λt ht=>⟨FT,λr hr=>?_⟩⟩
  have s2:=sN ht (.tup [.str "whole",.int (c:Int)])
  have s3:=sN hr (.lst [.ref t])
  exact q r _ _ (s2.trans s3) (s2.free hr) uS (.cons (xI (k:=.whole c) (s3.tup (ba.of uS))) .nil)
 | @fill c f k hc hk =>
  refine⟨_,rfl,rw',_,_,_,rfl,rfl,hR,aN (j:=0) rfl,_,rfl,rw',_,_,_,rfl,rfl,hR,aN (j:=1) rfl,?_⟩
  refine⟨_,rfl,rfl,_,rfl,cP (by decide +kernel) ?_⟩
  refine⟨_,rfl,rfl,_,rfl,cP (by decide +kernel) ?_⟩
  refine⟨_,rfl,_,rfl,mk,ms,c,rfl,hM,hw,hf,hc,λr1 vs H1 s1 _ g1 hV=>?_⟩
  obtain⟨v,hv,hvr⟩:=aF.at hV (i:=f) (d:=.tuple (yS k)) (by rw[List.getElem?_map,hk];rfl)
  refine⟨_,rfl,rw',_,_,_,rfl,rfl,s1.tup hR,aN (j:=2) rfl,r1,_,_,_,rfl,rfl,bc.of g1,aN hv,?_⟩
  refine⟨_,rfl,rfl,_,rfl,kT rfl ?_⟩
  refine⟨_,rfl,UY,λt ht=>⟨_,rfl,By,λr hr=>?_⟩⟩
  have s2:=sN ht (.tup [.str "raw",.int (c:Int),.int 0])
  have s3:=sN hr (.lst [.ref t,v])
  exact q r _ _ (s1.trans (s2.trans s3)) ((s1.trans s2).free hr) uS (.cons (xI (k:=.raw c 0) (s3.tup (ba.of uS))) (.cons (hvr.same (s1.trans (s2.trans s3))) .nil))
 | @put c f k hc hk =>
  refine⟨_,rfl,rw',_,_,_,rfl,rfl,hR,aN (j:=0) rfl,_,rfl,rw',_,_,_,rfl,rfl,hR,aN (j:=1) rfl,?_⟩
  refine⟨_,rfl,rfl,_,rfl,cP (by decide +kernel) ?_⟩
  refine⟨_,rfl,rfl,_,rfl,cP (by decide +kernel) ?_⟩
  refine⟨_,rfl,_,rfl,mk,ms,c,rfl,hM,hw,hf,hc,λr1 vs H1 s1 _ g1 hV=>?_⟩
  obtain⟨v,hv,hvr⟩:=aF.at hV (i:=f) (d:=.tuple (yS k)) (by rw[List.getElem?_map,hk];rfl)
  refine⟨_,rfl,rw',_,_,_,rfl,rfl,s1.tup hR,aN (j:=2) rfl,r1,_,_,_,rfl,rfl,bc.of g1,aN hv,?_⟩
  refine⟨_,rfl,rfl,_,rfl,cP (by decide +kernel) ?_⟩
  refine⟨_,rfl,By,λt ht=>⟨_,rfl,By,λr hr=>?_⟩⟩
  have s2:=sN ht (.tup [.str "whole",.int (c:Int)])
  have s3:=sN hr (.lst [.ref t,v])
  exact q r _ _ (s1.trans (s2.trans s3)) ((s1.trans s2).free hr) uS (.cons (xI (k:=.whole c) (s3.tup (ba.of uS))) (.cons (hvr.same (s1.trans (s2.trans s3))) .nil))
theorem v8:az ["book","part","row","sign","parts"] ["book","part","row"] (dS yQ):=by walk_at "sc"
theorem HY{f:Addr}{fd:FuncData}(F:eO K "asked" "asked" yQ f fd)(cH:mg "list"=none){cq:Addr}(jy:mg "ALWAYS"=some (.ref cq))(lZ:Ky K w cq bu){aa:Addr}(ah:ak K aa)(pT:cX P w K mg base aL "asked_of_records" 4 ["makes","row"] (dM K)):bw P w K mg base aL 5 f fd ["book","part","row"] (vN K):=by
 refine F.ok v8 (λvs H Q E h=>?_) (λcdv A outer s H vs Q E hr h=>?_)
 ·obtain⟨b,mk,pl,rw',part,sign,xs,ks,rfl,hB,hR,hA,q⟩:=h
  rfl
 obtain⟨b,mk,pl,rw',part,sign,xs,ks,rfl,hB,hR,hA,q⟩:=h
 refine⟨_,(qK (bf (i:=3) v8.nd rfl (Or.inl rfl) (au aw (pv 2) pI (λ_ _=>rfl)))
   (qK (aY (tR PU (pv 3) (eQ (v:=.ref cq) rfl jy rfl) rfl) (qO (aE (cR bL rfl cH fU (pK (au GO (eQ (v:=.ref cq) rfl jy rfl) (pv 3) (λ_ _=>rfl)) pN)))) aK)
   (qK (bf (i:=4) v8.nd rfl (Or.inl rfl) (au aw (pv 0) pI (λ_ _=>rfl)))
   (qK (aY (tR bD (pv 3) aH (aC _)) (qO (aE (cR bL rfl cH fU (pK (au aw (au aR (pv 4) (au aw (pv 2) pI (λ_ _=>rfl)) (λ_ _=>rfl)) pI (λ_ _=>rfl)) pN)))) aK)
   (qK (aY (tR bD (pv 3) aH (aC _)) (qO (aE (cL (pK (au aw (au aR (pv 4) (pv 1) (λ_ _=>rfl)) pI (λ_ _=>rfl)) pN)))) aK)
   (qO (aE (bR pT (hr.mono (by decide)) rfl (pK (au aw (pv 0) pI (λ_ _=>rfl)) (pK (pv 2) pN)))))))))),?_⟩
 refine⟨_,rfl,rw',_,_,_,rfl,rfl,hR,aN (j:=0) rfl,?_⟩
 cases hA with
 | always h =>
  refine⟨_,rfl,cq,bu,sign,rfl,rfl,lZ,_,rfl,ifB (by rw[h];rfl) ?_⟩
  refine⟨_,rfl,cq,bu,sign,_,rfl,rfl,lZ,h,λv hv=>?_⟩
  obtain⟨a,ys,rfl,hS,hY⟩:=aS.bX (hv H)
  refine⟨a,ys,rfl,.inr hS,λr hr=>?_⟩
  have s1:=sN hr (.lst ys)
  exact q r ys _ s1 hr uS (hY.same s1)
 | @call k ys rest vs t l _ h1 h2 h3 h4 h5 =>
  refine⟨_,rfl,cq,bu,_,rfl,rfl,lZ,_,rfl,VT (by rw[MX];rfl) ?_⟩
  refine⟨_,rfl,b,_,_,_,rfl,rfl,hB,aN (j:=1) rfl,?_⟩
  refine⟨_,rfl,rfl,_,rfl,kT rfl ?_⟩
  refine⟨_,rfl,_,rfl,rw',_,_,_,rfl,rfl,hR,aN (j:=1) rfl,pl,_,_,_,rfl,rfl,h1,aN h2,t,_,_,_,rfl,rfl,h3,aN (j:=0) rfl,l,vs,rfl,.inl h4,λr hr=>?_⟩
  have s1:=sN hr (.lst vs)
  exact q r vs _ s1 hr uS (h5.same s1)
 | @give ys rest t v0 v k h1 h2 h3 h4 =>
  refine⟨_,rfl,cq,bu,_,rfl,rfl,lZ,_,rfl,VT (by rw[MY];rfl) ?_⟩
  refine⟨_,rfl,b,_,_,_,rfl,rfl,hB,aN (j:=1) rfl,?_⟩
  refine⟨_,rfl,rfl,_,rfl,cP (by decide +kernel) ?_⟩
  refine⟨_,rfl,rfl,_,rfl,kT rfl ?_⟩
  refine⟨_,rfl,_,rfl,pl,_,_,_,rfl,rfl,h1,aN h2,t,_,_,_,rfl,rfl,h3,aN (j:=1) rfl,FT,λr hr=>?_⟩
  have s1:=sN hr (.lst [v])
  exact q r _ _ s1 hr uS (.cons (h4.same s1) .nil)
 | @ofR ms _ _ _ hM hw hf h =>
  obtain⟨n1,n2,n3⟩:=QR h
  refine⟨_,rfl,cq,bu,_,rfl,rfl,lZ,_,rfl,VT (by rw[n1];rfl) ?_⟩
  refine⟨_,rfl,b,_,_,_,rfl,rfl,hB,aN (j:=1) rfl,?_⟩
  refine⟨_,rfl,rfl,_,rfl,cP n2 ?_⟩
  refine⟨_,rfl,rfl,_,rfl,cP n3 ?_⟩
  exact⟨_,rfl,b,_,_,_,rfl,rfl,hB,aN (j:=0) rfl,_,rfl,mk,rw',ms,sign,xs,ks,rfl,hM,hw,hf,hR,h,q⟩
theorem Ey:az ["row"] ["row"] (dS vv):=by walk_at "sc"
theorem Ez{f:Addr}{fd:FuncData}(F:eO K "leaves" "leaves" vv f fd){j4:Addr}(v9:mg "LEFT"=some (.ref j4))(QZ:Ky K w j4 nY){aa:Addr}(ah:ak K aa):bw P w K mg base aL 1 f fd ["row"] (su K):=by
 refine F.ok Ey (λvs H Q E h=>?_) (λcdv A outer s H vs Q E hr h=>?_)
 ·obtain⟨rw',sign,xs,rfl,hR,q⟩:=h
  rfl
 obtain⟨rw',sign,xs,rfl,hR,q⟩:=h
 refine⟨_,(qO (aE (LS (eQ (v:=.ref j4) rfl v9 rfl) (pK (au aw (pv 0) pI (λ_ _=>rfl)) (pK pI pN))))),?_⟩
 refine⟨j4,nY,rfl,QZ,_,rfl,rw',_,_,_,rfl,rfl,hR,aN (j:=0) rfl,sign,_,rfl,λhn=>?_,λdt hd v hv=>?_⟩
 ·unfold pk at q
  rw[hn]at q
  exact q
 ·obtain⟨i,rfl⟩:=Hx hd
  unfold pk at q
  rw[hd]at q
  rw[aS.aM (hv H)]
  exact q
theorem cu:az ["self","frame","row","wanted","under","value","kind"] ["self","frame","row"] (dS fK):=by walk_at "sc"
theorem ra{f:Addr}{fd:FuncData}(F:eO K "looked" "Watched.looked" fK f fd)(bq:mg "len"=none)(vO:mg "zip"=none){aa:Addr}(ah:ak K aa){C:Addr}(ac:bp K C)(Nf:cX P w K mg base aL "asked" 5 ["book","part","row"] (vN K))(j0:cX P w K mg base aL "has_kind" 4 ["makes","heap","value","kind"] (gm K))(HZ:cX P w K mg base aL "leaves" 1 ["row"] (su K)):bw P w K mg base aL 6 f fd ["self","frame","row"] (sq K aa C true):=by
 refine F.ok cu (λvs H Q E h=>?_) (λcdv A outer s H vs Q E hr h=>?_)
 ·obtain⟨mm,fs,fr,r,rt,p,ks,rfl,hM,hf,hR,hp,hw,fB,Ut,hrc,hnr,hA,q⟩:=h
  rfl
 obtain⟨mm,fs,fr,r,rt,p,ks,rfl,hM,hf,hR,hp,hw,fB,Ut,hrc,hnr,hA,q⟩:=h
 refine⟨_,(qK (bf (i:=3) cu.nd rfl (Or.inl rfl) (bR Nf (hr.mono (by decide)) rfl (pK (aD (pv 0) rfl) (pK (aD (pv 1) rfl) (pK (pv 2) pN)))))
   (qK (bf (i:=4) cu.nd rfl (Or.inl rfl) (bh oQ (bH aT rfl bq dh (pK (aD (pv 1) rfl) pN)) (bH aT rfl bq dh (pK (pv 3) pN))))
   (qK (aY (tR xp (pv 4) pI (aC _)) (qO (aE aH)) aK)
   (qK (rL PassesOwn.never rfl (PV true true rfl vO (pK (kS yo (aD (pv 1) rfl) (qp (pv 4)) qo) (pK (pv 3) pN))) (Gb rfl (uV (c9 (i:=5) cu.nd rfl (Or.inl rfl)) (uV (c9 (i:=6) cu.nd rfl (Or.inl rfl)) C8))) (qO (aY (uT (rJ (bR j0 (hr.mono (by decide)) rfl (pK (au aw (aD (pv 0) rfl) pI (λ_ _=>rfl)) (pK (aD (pv 0) rfl) (pK (pv 5) (pK (pv 6) pN))))))) (qO (aE aH)) aK)))
   (qK (aY (tR xq (bh ey (pv 4) (bR HZ (hr.mono (by decide)) rfl (pK (pv 2) pN))) (au aw (au aR (au aw (aD (pv 0) rfl) pI (λ_ _=>rfl)) (aD (pv 1) rfl) (λ_ _=>rfl)) pI (λ_ _=>rfl)) (aC _)) (qO (aE aH)) aK)
   (qO (aE eP))))))),?_⟩
 have hF:=hM.last hf
 obtain⟨⟨fdx,f1⟩,⟨bys,f2,f3⟩,⟨sys,f4,f5⟩,fne⟩:=id hF
 obtain⟨mdx,ev,m1,m2⟩:=hM.ob
 obtain⟨mk,pl,xs,hb⟩:=hM.bk
 obtain⟨hT,hMk,hL,hP⟩:=hb H ay.refl
 obtain⟨rys,rg,rr⟩:=id hM.rc
 have lst:=f5.1
 refine⟨_,rfl,mm.ma,C,mdx,_,_,rfl,m1,ac.cl,ac.jb,gX,_,rfl,fr.fa,aa,fdx,_,_,rfl,f1,ah.cl,ah.r8,qD,_,rfl,mm.b,mk,pl,rt,fr.part,qg r,(QB r).map V.int,ks,rfl,hT,hR,hA H mk pl xs hMk hL hP,λwa ws H1 s1 n1 g1 hW=>?_⟩
 have lws:=hW.1
 rw[List.length_map]at lws
 dsimp only[sP]
 refine Ei (λR kk=>?_)
 refine⟨_,rfl,fr.fa,aa,fdx,_,_,rfl,s1 _ _ f1,ah.cl,ah.dE,du,fr.sl,sys,rfl,.inl (bc.of (s1 _ _ f4)),_,rfl,wa,ws,rfl,.inl (bc.of g1),_,_,rfl,rfl,kk _ _ ?_⟩
 clear kk R
 dsimp only
 refine⟨_,rfl,_,_,rfl,rfl,_,rfl,qs (λz=>?_) (λz=>?_)⟩
 ·have z':fr.st.length < ks.length:=by have:=of_decide_eq_true z;omega
  have e:e9 mm.ms mm.recs p.height fr.st ks (qg r)=some ("empty" : Str):=by unfold e9;rw[if_pos z']
  have q':=q H1 s1
  rw[if_pos rfl,e]at q'
  exact q'
 have hle:ks.length<=fr.st.length:=by
  have:¬ ((sys.length:Nat):Int) - ((ws.length:Nat):Int) < 0:=λe=>z (decide_eq_true e)
  omega
 dsimp only[dR]
 obtain⟨lo,hlo⟩:∃lo,lo=fr.st.length - ks.length:=⟨_,rfl⟩
 have eu:((sys.length:Nat):Int) - ((ws.length:Nat):Int)=((lo:Nat):Int):=by omega
 rw[eu]
 refine⟨_,rfl,fr.fa,aa,fdx,_,_,rfl,s1 _ _ f1,ah.cl,ah.dE,du,_,rfl,_,rfl,fr.sl,sys,rfl,bc.of (s1 _ _ f4),λp1 h1=>?_⟩
 rw[Ar (by omega)]
 have s2:=sN h1 (.lst (sys.drop lo))
 have g2:=uS (H:=H1) (a:=p1) (o:=.lst (sys.drop lo))
 generalize upd H1 p1 _=H2 at s2 g2 ⊢
 have S2:=s1.trans s2
 have vt:=(f5.same S2).drop lo
 have lvt:=vt.1
 rw[List.length_drop]at lvt
 have abV:(sys.drop lo).length=sys.length - lo:=List.length_drop ..
 have ltk:(fr.st.drop lo).length=fr.st.length - lo:=List.length_drop ..
 have hWK:=(MD.wM hW).same s2
 obtain⟨w0,Er,hwr⟩:=iT hP hp
 obtain⟨t,l0,l4,l5,ks0,zP,yU,f1',rfl,hTt,Cg,Vd,rg',Fz,FA,FC,Dh⟩:=jU hwr
 refine⟨_,rfl,p1,wa,_,ws,rfl,bc.of g2,bc.of (s2 _ _ g1),?_⟩
 refine L4 ks.length (λi σ H3=>∃(o5 o6:Option V),σ=[some (.ref mm.ma),some (.ref fr.fa),some (.ref rt),some (.ref wa),some (.int (lo:Int)),o5,o6]/\aB H2 H3/\∀j,j < i->∀x k,(fr.st.drop lo)[j]?=some x->ks[j]?=some k->hasB mm.ms mm.recs x k=true) (by omega) (by omega) (by omega) ⟨_,_,rfl,aB.refl _,λj hj=>absurd hj (Nat.not_lt_zero _)⟩ ?_ ?_ ?_
 ·rintro i σ H3 hi ⟨o5,o6,rfl,s3,_⟩
  exact⟨s3.seq (bc.of g2),s3.seq (bc.of (s2 _ _ g1))⟩
 ·rintro i u v σ H3 T hu hv hi ⟨o5,o6,rfl,s3,hpre⟩ hT'
  have hit:i < (fr.st.drop lo).length:=by omega
  have hx:=cV hit
  generalize hxe:(fr.st.drop lo)[i]=x at hx
  have hxm:x∈fr.st:=List.mem_of_mem_drop (List.mem_of_getElem? hx)
  have hvu:=vt.2 i u x hu hx
  obtain⟨k,Se,WK,rfl,hk2⟩:=MD.at hWK hv
  have sT:=sN hT' (.tup [u,.ref WK])
  have S3:=S2.trans (s3.trans sT)
  refine⟨T,_,rfl,ba.of uS,rfl,_,_,rfl,_,_,rfl,rfl,?_⟩
  generalize upd H3 T (.tup [u,.ref WK])=H4 at sT S3 ⊢
  obtain⟨WL,Uu,hL4,hP4⟩:=hb H4 (cg S3)
  refine⟨_,rfl,mm.ma,C,mdx,_,_,rfl,S3 _ _ m1,ac.cl,ac.jb,gX,mm.b,_,_,_,rfl,rfl,WL,aN (j:=0) rfl,_,rfl,mm.ma,C,mdx,_,_,rfl,S3 _ _ m1,ac.cl,ac.bU,eh,_,rfl,_,rfl,mk,mm.ms,mm.rc,rys,mm.recs,u,x,WK,k,rfl,Uu,hw,bc.of (S3 _ _ rg),rr.imp (λy x h=>h.same S3),hrc,aS.same (s3.trans sT) hvu,(λn e=>hnr n (by rw[← e];exact hxm)),(s3.trans sT).tup hk2,λH5 s5=>⟨_,rfl,?_⟩⟩
  cases hh:hasB mm.ms mm.recs x k with
  | true =>
   refine bV ?_
   dsimp only[dR]
   refine⟨_,_,rfl,s3.trans (sT.trans s5),λj hj x' k' hx' hk'=>?_⟩
   by_cases e:j=i
   ·subst e
    rw[hx]at hx'
    rw[Se]at hk'
    cases hx'
    cases hk'
    exact hh
   ·exact hpre j (by omega) x' k' hx' hk'
  | false =>
   refine fG ?_
   have e:e9 mm.ms mm.recs p.height fr.st ks (qg r)=some ("kind" : Str):=by
    unfold e9
    rw[if_neg (by omega),if_neg]
    intro ha
    rw[← hlo,List.all_eq_true]at ha
    have:=ha (x,k) (List.mem_of_getElem? (i:=i) (by rw[List.getElem?_zip_eq_some];exact⟨hx,Se⟩))
    rw[hh]at this
    cases this
   have q':=q H5 (S3.trans s5)
   rw[if_pos rfl,e]at q'
   exact q'
 ·rintro σ H3 ⟨o5,o6,rfl,s3,hall⟩
  have S3:=S2.trans s3
  obtain⟨WL,Uu,hL4,hP4⟩:=hb H3 (cg S3)
  have ha:((fr.st.drop (fr.st.length - ks.length)).zip ks).all (λx=>hasB mm.ms mm.recs x.1 x.2)=true:=by
   rw[← hlo,List.all_eq_true]
   intro y hy
   obtain⟨i,hi,rfl⟩:=List.mem_iff_getElem.mp hy
   have hz:=cV hi
   rw[List.getElem?_zip_eq_some]at hz
   have hik:i < ks.length:=(bN hz.2).1
   exact hall i hik _ _ hz.1 hz.2
  refine⟨_,rfl,_,rfl,rt,qg r,_,rfl,S3.tup hR,_,_,rfl,rfl,_,rfl,mm.ma,C,mdx,_,_,rfl,S3 _ _ m1,ac.cl,ac.jb,gX,mm.b,_,_,_,rfl,rfl,WL,aN (j:=1) rfl,_,rfl,fr.fa,aa,fdx,_,_,rfl,S3 _ _ f1,ah.cl,ah.r8,qD,pl,_,_,_,rfl,rfl,hL4,aN Er,t,_,_,_,rfl,rfl,S3.tup hTt,aN (j:=3) rfl,_,_,rfl,rfl,_,rfl,qs (λz=>?_) (λz=>?_)⟩
  ·have z':(p.height:Int) < ((fr.st.length - ks.length:Nat):Int) + pk (qg r):=by have:=of_decide_eq_true z;rw[← hlo];omega
   have e:e9 mm.ms mm.recs p.height fr.st ks (qg r)=some ("high" : Str):=by
    unfold e9
    rw[if_neg (by omega),if_pos ha,if_pos z']
   have q':=q H3 S3
   rw[if_pos rfl,e]at q'
   exact q'
  ·have z':¬ (p.height:Int) < ((fr.st.length - ks.length:Nat):Int) + pk (qg r):=λe=>z (decide_eq_true (by rw[← hlo]at e;omega))
   have e:e9 mm.ms mm.recs p.height fr.st ks (qg r)=none:=by
    unfold e9
    rw[if_neg (by omega),if_pos ha,if_neg z']
   have q':=q H3 S3
   rw[if_pos rfl,e]at q'
   dsimp only[dR]
   exact q'
theorem fY:az ["self","frame","row","word"] ["self"] (dS jP):=by walk_at "sc"
theorem xf{f:Addr}{fd:FuncData}(F:eO K "step" "Plain.step" jP f fd){aa:Addr}(ah:ak K aa){C:Addr}{wt:Bool}(ac:bp K C)(EA:bF P w K mg base aL C "do_row" 6 ["self","frame","row"] (sj K aa C wt))(EC:bF P w K mg base aL C "looked" 6 ["self","frame","row"] (sq K aa C wt)):bw P w K mg base aL 7 f fd ["self"] (uO K aa C wt):=by
 refine F.ok fY (λvs H Q E h=>?_) (λcdv A outer s H vs Q E hr h=>?_)
 ·obtain⟨mm,p',rfl,hM,hS,q⟩:=h
  rfl
 obtain⟨mm,p',rfl,hM,hS,q⟩:=h
 refine⟨_,(qK (aY (tR qk (aD (pv 0) rfl) eP (aC _)) (qO qh) aK)
   (qK (bf (i:=1) fY.nd rfl (Or.inl rfl) (au aR (aD (pv 0) rfl) (kQ iu pI) (λ_ _=>rfl)))
   (qK (bf (i:=2) fY.nd rfl (Or.inl rfl) (au aR (au aw (au aR (au aw (aD (pv 0) rfl) pI (λ_ _=>rfl)) (aD (pv 1) rfl) (λ_ _=>rfl)) pI (λ_ _=>rfl)) (aD (pv 1) rfl) (λ_ _=>rfl)))
   (qK (bf (i:=3) fY.nd rfl (Or.inl rfl) (bS (pv 0) EC bI (hr.mono (by decide)) (pK (pv 1) (pK (pv 2) pN))))
   (qO (aY (tR BN (pv 3) eP (aC _)) (qO (aW (bS (pv 0) EA bI (hr.mono (by decide)) (pK (pv 1) (pK (pv 2) pN))))) (qO (bW (pv 0) (bP (pK aH (pK (aD (pv 1) rfl) (pK (aD (pv 1) rfl) (pK (pv 3) pN))))) rfl)))))))),?_⟩
 obtain⟨mdx,ev,m1,m2⟩:=id hM.ob
 refine⟨_,rfl,mm.ma,C,mdx,_,_,rfl,m1,ac.cl,ac.vy,HC,rfl,_,rfl,?_⟩
 rcases hS with⟨h1,rfl⟩ | ⟨h1,hfi,fs',f',r,p,ks,hf',hp',hr',hlo,hD⟩
 ·rcases m2 with⟨z,_⟩ | ⟨_,t,rfl,ht⟩
  ·exact absurd z h1
  ·show if (!decide (V.ref t=V.non))=true then _ else _
   rw[if_pos (by simp)]
   exact q mm H rfl ⟨rfl,rfl⟩ hM (λc hc=>.inl hc) ay.refl
 ·rcases m2 with⟨_,rfl⟩ | ⟨z,_⟩
  rotate_left
  ·exact absurd h1 z
  show if (!decide (V.non=V.non))=true then _ else _
  rw[if_neg (by simp)]
  dsimp only[dR]
  obtain⟨fs,fr0,hf,e1,e2⟩:=List.map_eq_append_iff.mp (show mm.aV.map Fm.pf=fs'++[f']from hf')
  obtain⟨fr,rfl⟩:∃fr,fr0=[fr]:=by
   have:fr0.length=1:=by have:=congrArg List.length e2;simpa using this
   exact Sj this
  have e2:fr.pf=f':=by simpa using e2
  subst e1
  subst e2
  have hp:mm.ps[fr.part]?=some p:=hp'
  have hF:=hM.last hf
  obtain⟨⟨fdx,f1⟩,⟨bys,f2,f3⟩,⟨sys,f4,f5⟩,fne⟩:=id hF
  obtain⟨mk,pl,xs,hb⟩:=hM.bk
  obtain⟨hT,hMk,hL,hP⟩:=hb H ay.refl
  obtain⟨w0,Er,hwr⟩:=iT hP hp
  obtain⟨t,l0,l4,l5,ks0,zP,yU,f1',rfl,hTt,Cg,Vd,rg,Fz,FA,FC,Dh⟩:=jU hwr
  obtain⟨rv,hrv,hrr⟩:=aF.at FA (i:=fr.at') (d:=wL r) (by rw[List.getElem?_map];show Option.map wL (p.rows[fr.pf.at']?)=_;rw[hr'];rfl)
  obtain⟨rt,rfl,hR⟩:=rw_inv hrr
  have L1:=hM.lv
  rw[hf,List.map_append,show([fr].map λf=>V.ref f.fa)=[V.ref fr.fa]from rfl]at L1
  have lW:=(hfi.st fr.pf (by rw[hf'];simp)).1
  refine⟨_,rfl,mm.ma,C,mdx,_,_,rfl,m1,ac.cl,ac.jS,iU,_,rfl,mm.lv,_,_,_,rfl,rfl,bc.of L1,cj,?_⟩
  refine⟨_,rfl,mm.ma,C,mdx,_,_,rfl,m1,ac.cl,ac.jb,gX,mm.b,_,_,_,rfl,rfl,hT,aN (j:=1) rfl,_,rfl,fr.fa,aa,fdx,_,_,rfl,f1,ah.cl,ah.r8,qD,pl,_,_,_,rfl,rfl,hL,aN Er,t,_,_,_,rfl,rfl,hTt,aN (j:=4) rfl,_,rfl,fr.fa,aa,fdx,_,_,rfl,f1,ah.cl,ah.lD,qE,l4,_,_,_,rfl,rfl,Fz,aN hrv,?_⟩
  refine⟨_,rfl,mm.ma,mdx,_,rfl,m1,mc_no (by decide +kernel),_,rfl,_,rfl,mm,fs,fr,r,rt,p,ks,rfl,hM,hf,hR,hp,hfi.wf,lW,hlo.oC,hlo.rc,hlo.st,hlo.ask,λH1 s1=>?_⟩
  rcases hD with⟨w,rfl,hl,rfl⟩ | ⟨hl,hD⟩
  ·have el:e9 mm.ms mm.recs p.height fr.st ks (qg r)=some w:=hl
   rw[if_pos rfl,el,show Uh (some w)=V.str w from rfl]
   refine⟨_,rfl,rfl,_,rfl,?_⟩
   show if decide (V.str w=V.non)=true then _ else _
   rw[if_neg (by simp)]
   have M1:=hM.same s1
   refine⟨_,rfl,fr.fa,aa,fdx,_,_,rfl,s1 _ _ f1,ah.cl,ah.r8,qD,_,rfl,fr.fa,aa,fdx,_,_,rfl,s1 _ _ f1,ah.cl,ah.lD,qE,_,rfl,UZ,λte nte=>?_⟩
   have s2:=sN nte (.tup [.str "look",.int (fr.part:Int),.int (fr.at':Int),.str w])
   have g2:ba K (upd H1 te (.tup [.str "look",.int (fr.part:Int),.int (fr.at':Int),.str w])) te [.str "look",.int (fr.part:Int),.int (fr.at':Int),.str w]:=ba.of uS
   have M2:=M1.same s2
   have S2:=s1.trans s2
   generalize upd H1 te _=H2 at s2 g2 M2 S2 ⊢
   refine⟨_,rfl,mm.ma,C,mdx,_,rfl,S2 _ _ m1,ac.cl,ac.vy,vE,?_⟩
   rw[n9]
   have Na:aU H2 [mm.ma]:=M2.jV.sub (λc hc=>by rw[bJ hc];exact bC.1)
   have BC:ay [mm.ma] H2 (upd H2 mm.ma (.ins C mdx (px mm.b mm.lv mm.rc mm.sd mm.left (.ref te)))):=aI
   exact q {mm with fin:=[.inl "look",.inr fr.part,.inr fr.at',.inl w]} _ rfl ⟨rfl,rfl⟩ (M2.own BC uS (.inr ⟨(by simp),te,rfl,ba.keep BC Na g2⟩)) (λc hc=>.inl hc) ((cg S2).trans (BC.sub λc hc=>by rw[bJ hc];exact bC.1))
  ·have e0:(if wt=true then e9 mm.ms mm.recs p.height fr.st ks (qg r)else none)=none:=by
    cases wt with
    | true=>exact hl rfl
    | false=>rfl
   rw[e0]
   refine⟨_,rfl,rfl,_,rfl,fG ?_⟩
   refine⟨_,rfl,mm.ma,mdx,_,rfl,s1 _ _ m1,mc_no (by decide +kernel),_,rfl,_,rfl,mm,fs,fr,r,rt,p',rfl,hM.same s1,hf,s1.tup hR,hfi,hD,λm' H2 r1 r2 r3 r4 r5=>q m' H2 r1 r2 r3 (λc hc=>?_) ((cg s1).trans r5)⟩
   rcases r4 c hc with z | z
   ·exact .inl z
   ·exact .inr (s1.free z)
theorem xg:az ["self"] ["self"] (dS jQ):=by walk_at "sc"
theorem xh{f:Addr}{fd:FuncData}(F:eO K "told" "Plain.told" jQ f fd)(cH:mg "list"=none){aa:Addr}(ah:ak K aa){C:Addr}{wt:Bool}(ac:bp K C):bw P w K mg base aL 1 f fd ["self"] (uP K aa C wt):=by
 refine F.ok xg (λvs H Q E h=>?_) (λcdv A outer s H vs Q E hr h=>?_)
 ·obtain⟨mm,rfl,hM,lW,q⟩:=h
  rfl
 obtain⟨mm,rfl,hM,lW,q⟩:=h
 refine⟨_,(qO (aE (bP (pK (aD (pv 0) rfl) (pK (cR bL rfl cH fU (pK (aD (pv 0) rfl) pN)) (pK (aD (pv 0) rfl) pN)))))),?_⟩
 obtain⟨dx,ev,h1,h2⟩:=hM.ob
 refine⟨_,rfl,mm.ma,C,dx,_,_,rfl,h1,ac.cl,ac.vy,HC,_,rfl,mm.ma,C,dx,_,_,rfl,h1,ac.cl,ac.Cf,DH,mm.sd,_,rfl,.inl (bc.of hM.sd),λl hl=>?_⟩
 have u1:=sN hl (.lst (mm.said.map V.int))
 have g1:=uS (H:=H) (a:=l) (o:=.lst (mm.said.map V.int))
 generalize upd H l _=H1 at u1 g1 ⊢
 refine⟨_,rfl,mm.ma,C,dx,_,_,rfl,u1 _ _ h1,ac.cl,ac.vx,yW,UY,λt ht=>?_⟩
 have u2:=sN ht (.tup [ev,.ref l,.int mm.left])
 exact q t l ev _ (u1.trans u2) hl (u2 _ _ g1) (ba.of uS) (h2.same (u1.trans u2))
theorem CG:az ["takes","gives"] ["takes","gives"] (dS r6):=by walk_at "sc"
theorem CH{f:Addr}{fd:FuncData}(F:eO K "is_door" "is_door" r6 f fd)(A1:mg "all"=none){aa:Addr}(ah:ak K aa):bw P w K mg base aL 1 f fd ["takes","gives"] (pJ K):=by
 refine F.ok CG (λvs H Q E h=>?_) (λcdv A outer s H vs Q E hr h=>?_)
 ·obtain⟨tl,g,ys,ks,gk,rfl,hS,hK,hg,fB,q⟩:=h
  rfl
 obtain⟨tl,g,ys,ks,gk,rfl,hS,hK,hg,fB,q⟩:=h
 refine⟨_,(qO (aE (bH (GL rfl) rfl A1 PK (pK (GK 1 ["kind"] [] ⟨rfl,rfl,rfl,rfl,rfl,rfl,rfl,rfl⟩ (iQ (bh uD (pv 0) (cL (pK (pv 1) pN)))) (λ_ _ _ _=>⟨(c9 (i:=0) (show List.Nodup (["kind"]:List Str)by decide +kernel) rfl (Or.inl rfl)),jG,(jF (r:=PL K) (B4 (hr.units)) (pv 0) (bP (pK aH pN)) (aC _))⟩)) pN)))),?_⟩
 have ly:=hK.1
 rw[List.length_map]at ly
 refine⟨_,rfl,_,rfl,FT,λl1 h1=>?_⟩
 have u1:=sN h1 (.lst [g])
 refine⟨tl,l1,ys,_,rfl,rfl,u1.seq hS,bc.of uS,Nat.le_of_lt (sK (by show ys.length + 1<=1000;omega)),λl2 h2=>?_⟩
 have u2:=sN h2 (.lst (ys++[g]))
 have U:=u1.trans u2
 have g2:=uS (H:=upd H l1 (.lst [g])) (a:=l2) (o:=.lst (ys++[g]))
 generalize upd (upd H l1 (.lst [g])) l2 (.lst (ys++[g]))=H1 at U g2 ⊢
 refine⟨l2,rfl,⟨_,bc.of g2⟩,λD hD=>?_⟩
 have hA:aF K H (ys++[g]) (fM (ks++[gk])):=by
  unfold fM
  rw[List.map_append]
  exact aF.append hK (.cons hg .nil)
 refine qt (xs:=ys++[g]) (λi zs H2=>aB H1 H2/\H2 D=some (.lst zs)/\zs=(((ks++[gk]).take i).map sv).map V.bl) (Nat.le_of_lt (sK (by rw[List.length_append];show ys.length + 1<=1000;omega))) ⟨sN hD _,uS,rfl⟩ ?_ ?_ ?_
 ·rintro i zs H2 hi ⟨s2,d2,rfl⟩
  refine⟨d2,?_,s2.seq (bc.of g2)⟩
  rw[List.length_map,List.length_map,List.length_take]
  omega
 ·rintro i x zs H2 hx ⟨s2,d2,rfl⟩
  have hi:i < (ks++[gk]).length:=by
   have:=(bN hx).1
   rw[List.length_append]at this ⊢
   simp only[List.length_singleton]at this ⊢
   omega
  have hr':=hA.2 i x (.tuple (yS (ks++[gk])[i])) hx (by rw[List.getElem?_map,cV hi];rfl)
  refine⟨rfl,_,rfl,FT,λt ht=>?_⟩
  have s3:=sN ht (.tup [.str "number"])
  refine⟨_,_,aS.same (U.trans (s2.trans s3)) hr',.i6 (ba.of uS) (.cons (.str _) .nil),QA _,(by decide +kernel),s3 _ _ d2,qF (s2.trans s3) hD _,uS,?_⟩
  rw[HR,List.take_succ_eq_append_getElem hi,List.map_append,List.map_append]
  rfl
 ·rintro zs H2 ⟨s2,d2,rfl⟩
  have e:(ks++[gk]).take (ys++[g]).length=ks++[gk]:=List.take_of_length_le (by rw[List.length_append,List.length_append];simp only[List.length_singleton];omega)
  rw[e]at d2
  refine⟨D,_,rfl,bc.of d2,?_⟩
  have z:=q H2 (U.trans s2)
  rw[List.all_map]
  exact z
theorem oG:az ["parts","part","inputs","takes"] ["parts","part","inputs"] (dS jR):=by walk_at "sc"
theorem xi{f:Addr}{fd:FuncData}(F:eO K "check_door" "check_door" jR f fd)(bq:mg "len"=none){aa:Addr}(ah:ak K aa)(ED:cX P w K mg base aL "is_door" 1 ["takes","gives"] (pJ K)):bw P w K mg base aL 2 f fd ["parts","part","inputs"] (jg K):=by
 refine F.ok oG (λvs H Q E h=>?_) (λcdv A outer s H vs Q E hr h=>?_)
 ·obtain⟨pl,il,xs,zs,ps,j,p,rfl,hL,hP,hp,hd,fB,hI,hl,q⟩:=h
  rfl
 obtain⟨pl,il,xs,zs,ps,j,p,rfl,hL,hP,hp,hd,fB,hI,hl,q⟩:=h
 refine⟨_,(qK (aY (uT (zV Gm xp pI (pv 1) (bH aT rfl bq dh (pK (pv 0) pN)))) (qO uU) aK)
   (qK (bf (i:=3) oG.nd rfl (Or.inl rfl) (au aw (au aR (pv 0) (pv 1) (λ_ _=>rfl)) pI (λ_ _=>rfl)))
   (qO (aY (PW.pt (pw_or (uT (rJ (bR ED (hr.mono (by decide)) rfl (pK (pv 3) (pK (au aw (au aR (pv 0) (pv 1) (λ_ _=>rfl)) pI (λ_ _=>rfl)) pN))))) (pw_or1 (tR OE (bH aT rfl bq dh (pK (pv 2) pN)) (bH aT rfl bq dh (pK (pv 3) pN)) (aC _))))) (qO uU) aK)))),?_⟩
 obtain⟨w0,Er,hwr⟩:=iT hP hp
 obtain⟨t,l0,l4,l5,ks,zP,yU,f1,rfl,hTt,Cg,hk,rg,Fz,FA,FC,Dh⟩:=jU hwr
 have hj:j < xs.length:=(bN Er).1
 refine⟨_,rfl,_,_,rfl,rfl,_,rfl,?_⟩
 refine kT (by omega) ?_
 refine⟨_,rfl,pl,xs,rfl,.inl hL,_,_,rfl,rfl,_,rfl,?_⟩
 refine SY (by omega) ?_
 dsimp only[dR]
 refine⟨_,rfl,_,rfl,pl,_,_,_,rfl,rfl,hL,aN Er,t,_,_,_,rfl,rfl,hTt,aN (j:=0) rfl,?_⟩
 refine⟨_,rfl,_,rfl,_,rfl,pl,_,_,_,rfl,rfl,hL,aN Er,t,_,_,_,rfl,rfl,hTt,aN (j:=1) rfl,l0,_,ks,p.takes,p.gives,rfl,Cg,hk,rg,fB,λH1 s1=>?_⟩
 rw[hd]
 refine⟨_,rfl,bV ?_⟩
 have lk:=hk.1
 rw[List.length_map]at lk
 refine⟨_,rfl,il,zs,rfl,.inl (s1.seq hI),_,rfl,l0,ks,rfl,.inl (s1.seq Cg),rfl,_,rfl,?_⟩
 refine SY (by rw[hl,lk]) ?_
 exact q H1 s1
theorem sG:az ["book","makes","parts"] ["book"] (dS vw):=by walk_at "sc"
theorem EE{f:Addr}{fd:FuncData}(F:eO K "copied" "copied" vw f fd)(cH:mg "list"=none){aa:Addr}(ah:ak K aa):bw P w K mg base aL 1 f fd ["book"] (sy K):=by
 refine F.ok sG (λvs H Q E h=>?_) (λcdv A outer s H vs Q E hr h=>?_)
 ·obtain⟨b,ms,ps,rfl,hB,h8,Sm,q⟩:=h
  rfl
 obtain⟨b,ms,ps,rfl,hB,h8,Sm,q⟩:=h
 refine⟨_,(qK (qu (i:=1) sG.nd rfl (Or.inl rfl) 1 ["make"] [] ⟨rfl,rfl,rfl,rfl,rfl,rfl,rfl,rfl⟩ (iQ (au aw (pv 0) pI (λ_ _=>rfl))) (λ_ _ _ _=>⟨(c9 (i:=0) (show List.Nodup (["make"]:List Str)by decide +kernel) rfl (Or.inl rfl)),jG,(bP (pK (au (r:=wG K) aw (pv 0) pI (λ_ _=>rfl)) (pK (cR (r:=uC K) bL rfl cH fU (pK (au (r:=wG K) aw (pv 0) pI (λ_ _=>rfl)) pN)) pN)))⟩))
   (qK (qu (i:=2) sG.nd rfl (Or.inl rfl) 1 ["part"] [] ⟨rfl,rfl,rfl,rfl,rfl,rfl,rfl,rfl⟩ (iQ (au aw (pv 0) pI (λ_ _=>rfl))) (λ_ _ _ _=>⟨(c9 (i:=0) (show List.Nodup (["part"]:List Str)by decide +kernel) rfl (Or.inl rfl)),jG,(bP (pK (cR (r:=uC K) bL rfl cH fU (pK (au (r:=wG K) aw (pv 0) pI (λ_ _=>rfl)) pN)) (pK (au (r:=wG K) aw (pv 0) pI (λ_ _=>rfl)) (pK (au (r:=wG K) aw (pv 0) pI (λ_ _=>rfl)) (pK (au (r:=wG K) aw (pv 0) pI (λ_ _=>rfl)) (pK (cR (r:=uC K) bL rfl cH fU (pK (au (r:=wG K) aw (pv 0) pI (λ_ _=>rfl)) pN)) (pK (cR (r:=uC K) bL rfl cH fU (pK (au (r:=wG K) aw (pv 0) pI (λ_ _=>rfl)) pN)) pN)))))))⟩))
   (qO (aE (bP (pK (pv 1) (pK (pv 2) pN))))))),?_⟩
 obtain⟨b',mk,pl,xs,e,hT,hM,hL,hP⟩:=yT hB
 cases e
 obtain⟨zs,hS,hI⟩:=hM
 have lz:=hI.1
 have lx:=hP.1
 rw[List.length_map]at lx
 refine⟨_,rfl,b,_,_,_,rfl,rfl,hT,aN (j:=0) rfl,mk,rfl,⟨_,hS⟩,λD hD=>?_⟩
 refine qt (xs:=zs) (λi ys H2=>aB H H2/\H2 D=some (.lst ys)/\(∀HX,En [D] H H2 HX->Hu K HX ys (ms.take i))/\ys.length=i) (Nat.le_of_lt (sK (by omega))) ⟨sN hD _,uS,λHX _=>Hu.nil K _,rfl⟩ ?_ ?_ ?_
 ·rintro i ys H2 hi ⟨s2,d2,_,hl⟩
  exact⟨d2,Nat.le_of_eq hl,s2.seq hS⟩
 ·rintro i x ys H2 hx ⟨s2,d2,hF,hl⟩
  have hix:i < zs.length:=(bN hx).1
  have him:i < ms.length:=by omega
  obtain⟨t,l,ks,rfl,e2',e3',e4⟩:=hI.2 i x _ hx (cV him)
  have e2:=s2.tup e2'
  have e3:=s2.seq e3'
  refine⟨rfl,_,rfl,t,_,_,_,rfl,rfl,e2,aN (j:=0) rfl,_,rfl,t,_,_,_,rfl,rfl,e2,aN (j:=1) rfl,l,ks,rfl,.inl e3,λl2 zZ=>?_⟩
  refine⟨By,λu hu=>?_⟩
  have nl:l2≠D:=(nN d2 zZ).symm
  have s3:=sN zZ (.lst ks)
  have s4:=sN hu (.tup [KC (ms[i]).1,.ref l2])
  have d4:=s4 _ _ (s3 _ _ d2)
  have nu:u≠D:=(nN (s3 _ _ d2) hu).symm
  have fl:H l2=none:=s2.free zZ
  have fu:H u=none:=(s2.trans s3).free hu
  refine⟨d4,λb o e=>?_,uS,λHX hX=>?_,by simp[hl]⟩
  ·rw[uN (nN e hD)]
   exact s4 b o (s3 b o (s2 b o e))
  ·have z:=hF HX (hX.sub (λc o n e=>by rw[uN (λz=>n (by rw[z];exact List.mem_singleton.mpr rfl))];exact s4 c o (s3 c o e)) (λc hc=>.inl hc))
   have ht:ms.take (i + 1)=ms.take i++[ms[i]]:=by rw[List.take_succ_eq_append_getElem him]
   rw[ht]
   refine z.snoc ⟨u,l2,ks,rfl,?_,?_,?_⟩
   ·exact ba.of (hX u _ (λz=>nu (bJ z)) (by rw[uN nu];exact uS) (λzs e=>by rw[fu]at e;cases e))
   ·exact bc.of (hX l2 _ (λz=>nl (bJ z)) (by rw[uN nl];exact s4 _ _ uS) (λzs e=>by rw[fl]at e;cases e))
   ·exact xR (λc o e m=>hX c o (λz=>nN e hD (bJ z)) (by rw[uN (nN e hD)];exact s4 c o (s3 c o (s2 c o e))) (λz h=>by rw[e]at h;cases h;exact m)) e4
 ·rintro zs1 H1 ⟨s1,d1,hF1,LX⟩
  have e:ms.take zs.length=ms:=List.take_of_length_le (by omega)
  rw[e]at hF1
  refine⟨_,rfl,b,_,_,_,rfl,rfl,s1.tup hT,aN (j:=1) rfl,pl,rfl,⟨_,s1.seq hL⟩,λD2 Vs=>?_⟩
  have nD:D2≠D:=(nN d1 Vs).symm
  have Q0:H D2=none:=s1.free Vs
  refine qt (xs:=xs) (λi ys H2=>aB H1 H2/\H2 D2=some (.lst ys)/\(∀HX,En [D2] H H2 HX->aF K HX ys ((ps.take i).map BB))/\ys.length=i) (Nat.le_of_lt (sK (by omega))) ⟨sN Vs _,uS,λHX _=>.nil,rfl⟩ ?_ ?_ ?_
  ·rintro i ys H2 hi ⟨s2,d2,_,hl⟩
   exact⟨d2,Nat.le_of_eq hl,(s1.trans s2).seq hL⟩
  ·rintro i x ys H2 hx ⟨s2',d2,hF,hl⟩
   have s2:=s1.trans s2'
   have hix:i < xs.length:=(bN hx).1
   have hip:i < ps.length:=by omega
   have hxr:=hP.2 i x (BB ps[i]) hx (by rw[List.getElem?_map,cV hip];rfl)
   obtain⟨t,l0,l4,l5,ks,zP,yU,f1,rfl,hTt,Cg,hk,rg,Fz,FA,FC,Dh⟩:=jU hxr
   have T2:=s2.tup hTt
   refine⟨rfl,_,rfl,t,_,_,_,rfl,rfl,T2,aN (j:=0) rfl,l0,ks,rfl,.inl (s2.seq Cg),λa1 h1=>?_⟩
   have b1:=sN h1 (.lst ks)
   have T3:=b1.tup T2
   refine⟨_,rfl,t,_,_,_,rfl,rfl,T3,aN (j:=1) rfl,_,rfl,t,_,_,_,rfl,rfl,T3,aN (j:=2) rfl,_,rfl,t,_,_,_,rfl,rfl,T3,aN (j:=3) rfl,_,rfl,t,_,_,_,rfl,rfl,T3,aN (j:=4) rfl,l4,zP,rfl,.inl ((s2.trans b1).seq Fz),λa2 h2=>?_⟩
   have b2:=sN h2 (.lst zP)
   have T4:=b2.tup T3
   refine⟨_,rfl,t,_,_,_,rfl,rfl,T4,aN (j:=5) rfl,l5,yU,rfl,.inl ((s2.trans (b1.trans b2)).seq FC),λa3 h3=>⟨sz6,λt3 WM=>?_⟩⟩
   have b3:=sN h3 (.lst yU)
   have b4:=sN WM (.tup [.ref a1,f1,.int (ps[i].boxes:Int),.int (ps[i].height:Int),.ref a2,.ref a3])
   have bA:=b1.trans (b2.trans (b3.trans b4))
   have n1:a1≠D2:=(nN d2 h1).symm
   have n2:a2≠D2:=(nN (b1 _ _ d2) h2).symm
   have n3:a3≠D2:=(nN (b2 _ _ (b1 _ _ d2)) h3).symm
   have n4:t3≠D2:=(nN (b3 _ _ (b2 _ _ (b1 _ _ d2))) WM).symm
   have f1n:H a1=none:=s2.free h1
   have f2n:H a2=none:=(s2.trans b1).free h2
   have f3n:H a3=none:=(s2.trans (b1.trans b2)).free h3
   have f4n:H t3=none:=(s2.trans (b1.trans (b2.trans b3))).free WM
   have e1:=b4 _ _ (b3 _ _ (b2 _ _ (uS (H:=H2) (a:=a1) (o:=.lst ks))))
   have e2:=b4 _ _ (b3 _ _ (uS (a:=a2) (o:=.lst zP)))
   have e3:=b4 _ _ (uS (a:=a3) (o:=.lst yU))
   have e4:=uS (H:=upd (upd (upd H2 a1 (.lst ks)) a2 (.lst zP)) a3 (.lst yU)) (a:=t3) (o:=.tup [.ref a1,f1,.int (ps[i].boxes:Int),.int (ps[i].height:Int),.ref a2,.ref a3])
   generalize upd (upd (upd (upd H2 a1 (.lst ks)) a2 (.lst zP)) a3 (.lst yU)) t3 (.tup [.ref a1,f1,.int (ps[i].boxes:Int),.int (ps[i].height:Int),.ref a2,.ref a3])=H9 at bA e1 e2 e3 e4 ⊢
   refine⟨bA _ _ d2,λb o e=>?_,uS,λHX hX=>?_,by simp[hl]⟩
   ·rw[uN (nN e Vs)]
    exact bA b o (s2' b o e)
   ·have z:=hF HX (hX.sub (λc o n e=>by rw[uN (λz=>n (by rw[z];exact List.mem_singleton.mpr rfl))];exact bA c o e) (λc hc=>.inl hc))
    have ht:ps.take (i + 1)=ps.take i++[ps[i]]:=by rw[List.take_succ_eq_append_getElem hip]
    rw[ht,List.map_append]
    have k9:∀c o,c≠D2->H c=none->H9 c=some o->HX c=some o:=λc o d n e=>hX c o (λz=>d (bJ z)) (by rw[uN d];exact e) (λz h=>by rw[n]at h;cases h)
    have kO:∀c o,H c=some o->¬ wO o->HX c=some o:=λc o e m=>hX c o (λz=>nN e Q0 (bJ z)) (by rw[uN (nN e Q0)];exact bA c o (s2 c o e)) (λz h=>by rw[e]at h;cases h;exact m)
    obtain⟨g,rfl,hg⟩:=yX rg
    refine aF.append z (.cons ?_ .nil)
    exact .i6 (ba.of (k9 _ _ n4 f4n e4)) (.cons (.GG (bc.of (k9 _ _ n1 f1n e1)) (xR kO hk)) (.cons (xI (ba.xQ kO hg)) (.cons (.int _) (.cons (.int _) (.cons (.GG (bc.of (k9 _ _ n2 f2n e2)) (Eo kO FA)) (.cons (.GG (bc.of (k9 _ _ n3 f3n e3)) (Ep kO Dh)) .nil))))))
  ·rintro ys H2 ⟨s2,d2,hF,hl⟩
   have e':ps.take xs.length=ps:=List.take_of_length_le (by omega)
   rw[e']at hF
   refine⟨_,rfl,_,rfl,By,λt ht=>?_⟩
   have s3:=sN ht (.tup [.ref D,.ref D2])
   have ft:H t=none:=(s1.trans s2).free ht
   have fD:H D=none:=hD
   refine q t _ (s1.trans (s2.trans s3)) ⟨D,D2,ys,λHX hX=>?_⟩
   refine⟨ba.of (hX t _ (λz=>nomatch z) uS (λz h=>by rw[ft]at h;cases h)),⟨zs1,bc.of (hX D _ (λz=>nomatch z) (s3 _ _ (s2 _ _ d1)) (λz h=>by rw[fD]at h;cases h)),hF1 HX (hX.sub (λc o n e=>s3 c o (s2 c o e)) (λc hc=>nomatch hc))⟩,bc.of (hX D2 _ (λz=>nomatch z) (s3 _ _ d2) (λz h=>by rw[Q0]at h;cases h)),hF HX (hX.sub (λc o n e=>s3 c o e) (λc hc=>nomatch hc))⟩
theorem rb:az ["self","book","part","inputs","budget"] ["self","book","part","inputs","budget"] (dS fL):=by walk_at "sc"
theorem rf{f:Addr}{fd:FuncData}(F:eO K "__init__" "Plain.__init__" fL f fd){aa:Addr}(ah:ak K aa){C:Addr}{wt:Bool}(ac:bp K C)(zw:cX P w K mg base aL "check_door" 2 ["parts","part","inputs"] (jg K))(Ia:cX P w K mg base aL "copied" 1 ["book"] (sy K))(j2:bF P w K mg base aL C "add_frame" 4 ["self","part","values"] (ia K aa C wt))(dH:bF P w K mg base aL C "tagged" 1 ["self","tag","number"] (fO K wt)):bw P w K mg base aL 5 f fd ["self","book","part","inputs","budget"] (fW K aa C wt):=by
 refine F.ok rb (λvs H Q E h=>?_) (λcdv A outer s H vs Q E hr h=>?_)
 ·obtain⟨x,dx,b,il,j,bud,ms,ps,p,ws,rfl,hx,hB,h8,Sm,hp,hd,hI,hl,hb,hb8,q⟩:=h
  rfl
 obtain⟨x,dx,b,il,j,bud,ms,ps,p,ws,rfl,hx,hB,h8,Sm,hp,hd,hI,hl,hb,hb8,q⟩:=h
 refine⟨_,(qK (aW (bR zw (hr.mono (by decide)) rfl (pK (au aw (pv 1) pI (λ_ _=>rfl)) (pK (pv 2) (pK (pv 3) pN)))))
   (qK (bW (pv 0) (bR Ia (hr.mono (by decide)) rfl (pK (pv 1) pN)) rfl)
   (qK (bW (pv 0) (cL pN) rfl)
   (qK (bW (pv 0) (cL pN) rfl)
   (qK (bW (pv 0) (cL pN) rfl)
   (qK (bW (pv 0) (pv 4) rfl)
   (qK (bW (pv 0) eP rfl)
   (qO (aW (bS (pv 0) j2 bI (hr.mono (by decide)) (pK (pv 2) (pK (GK 1 ["word","self"] [0] ⟨rfl,rfl,rfl,rfl,rfl,rfl,rfl,rfl⟩ (iQ (pv 3)) (λ_ _ _ _=>⟨(c9 (i:=0) (show List.Nodup (["word","self"]:List Str)by decide +kernel) rfl (Or.inl rfl)),jG,(show PE _ _ (xr C _ _ [] _ _ _)from (bS (pv 1) dH bI (hr.mono (by decide)) (pK aH (pK (pv 0) pN))))⟩)) pN)))))))))))),?_⟩
 obtain⟨b',mk,pl,xs,e,hT,hM,hL,hP⟩:=yT hB
 cases e
 have lw:(ws.map V.int).length=p.takes.length:=by rw[List.length_map,hl]
 refine⟨_,rfl,b,_,_,_,rfl,rfl,hT,aN (j:=1) rfl,_,rfl,_,rfl,pl,il,xs,_,ps,j,p,rfl,hL,hP,hp,hd,by omega,hI,lw,λH1 s1=>?_⟩
 refine⟨_,rfl,b,ms,ps,rfl,aS.same s1 hB,h8,Sm,λbb H2 s2 hbk=>?_⟩
 have U2:=s1.trans s2
 have hx2:=U2 _ _ hx
 refine⟨_,rfl,x,C,dx,_,rfl,hx2,ac.cl,ac.jb,(by show 0 < 1000;decide),?_⟩
 have k3:ay [x] H2 (upd H2 x (.ins C dx (br "book" (.ref bb) []))):=aI
 have x3:=uS (H:=H2) (a:=x) (o:=.ins C dx (br "book" (.ref bb) []))
 have c3:(br "book" (.ref bb) []).length<=1:=lT (Nat.le_refl 0)
 generalize hF3:br "book" (.ref bb) []=F3 at k3 x3 c3 ⊢
 generalize upd H2 x (.ins C dx F3)=H3 at k3 x3 ⊢
 refine⟨R8,λlv nlv=>⟨_,rfl,x,C,dx,_,rfl,(uN (nN x3 nlv)).trans x3,ac.cl,ac.jS,Nat.lt_of_le_of_lt c3 (by decide),?_⟩⟩
 obtain⟨k4,x4,Uv,WN,lvx,WO⟩:=QU (o':=.ins C dx (br "live" (.ref lv) F3)) k3 x3 nlv
 have c4:(br "live" (.ref lv) F3).length<=2:=lT c3
 generalize hF4:br "live" (.ref lv) F3=F4 at k4 x4 Uv WO c4 ⊢
 generalize upd (upd H3 lv (.lst [])) x (.ins C dx F4)=H4 at k4 x4 Uv WO ⊢
 refine⟨R8,λrc nrc=>⟨_,rfl,x,C,dx,_,rfl,(uN (nN x4 nrc)).trans x4,ac.cl,ac.bU,Nat.lt_of_le_of_lt c4 (by decide),?_⟩⟩
 obtain⟨k5,x5,Uw,WQ,rcx,Vt⟩:=QU (o':=.ins C dx (br "records" (.ref rc) F4)) k4 x4 nrc
 have rl:lv≠rc:=nN Uv nrc
 have Ux:=Vt _ _ lvx Uv
 have c5:(br "records" (.ref rc) F4).length<=3:=lT c4
 generalize hF5:br "records" (.ref rc) F4=F5 at k5 x5 Uw Vt c5 Ux ⊢
 generalize upd (upd H4 rc (.lst [])) x (.ins C dx F5)=H5 at k5 x5 Uw Vt Ux ⊢
 refine⟨R8,λsd nsd=>⟨_,rfl,x,C,dx,_,rfl,(uN (nN x5 nsd)).trans x5,ac.cl,ac.Cf,Nat.lt_of_le_of_lt c5 (by decide),?_⟩⟩
 obtain⟨k6,x6,Vu,WR,sdx,Uy⟩:=QU (o':=.ins C dx (br "said" (.ref sd) F5)) k5 x5 nsd
 have sl:lv≠sd:=nN Ux nsd
 have sr:rc≠sd:=nN Uw nsd
 have Vv:=Uy _ _ lvx Ux
 have Vw:=Uy _ _ rcx Uw
 have c6:(br "said" (.ref sd) F5).length<=4:=lT c5
 generalize hF6:br "said" (.ref sd) F5=F6 at k6 x6 Vu Uy c6 Vv Vw ⊢
 generalize upd (upd H5 sd (.lst [])) x (.ins C dx F6)=H6 at k6 x6 Vu Uy Vv Vw ⊢
 refine⟨_,rfl,_,rfl,x,C,dx,_,rfl,x6,ac.cl,ac.vx,Nat.lt_of_le_of_lt c6 (by decide),?_⟩
 have c7:(br "left" (.int bud) F6).length<=5:=lT c6
 refine⟨_,rfl,x,C,dx,_,rfl,uS,ac.cl,ac.vy,Nat.lt_of_le_of_lt c7 (by decide),?_⟩
 subst hF3 hF4 hF5 hF6
 rw[QT]
 have x8:=uS (H:=upd H6 x (.ins C dx (br "left" (.int bud) (br "said" (.ref sd) (br "records" (.ref rc) (br "live" (.ref lv) (br "book" (.ref bb) []))))))) (a:=x) (o:=.ins C dx (px bb lv rc sd bud .non))
 have k8:ay [x] H6 (upd (upd H6 x (.ins C dx (br "left" (.int bud) (br "said" (.ref sd) (br "records" (.ref rc) (br "live" (.ref lv) (br "book" (.ref bb) []))))))) x (.ins C dx (px bb lv rc sd bud .non))):=aI.trans aI
 generalize upd (upd H6 x (.ins C dx (br "left" (.int bud) (br "said" (.ref sd) (br "records" (.ref rc) (br "live" (.ref lv) (br "book" (.ref bb) []))))))) x (.ins C dx (px bb lv rc sd bud .non))=H8 at x8 k8 ⊢
 have nx:∀c,c≠x->c∉[x]:=λc h z=>h (bJ z)
 have lv8:=k8 _ _ (nx _ lvx) Vv
 have rc8:=k8 _ _ (nx _ rcx) Vw
 have sd8:=k8 _ _ (nx _ sdx) Vu
 have K8:=k6.trans k8
 clear k3 k4 k5 k6 WO Vt Uy x3 x4 x5 x6 c3 c4 c5 c6 c7 Uv Ux Vv Uw Vw Vu
 have WS:=s1 _ _ hx
 obtain⟨mk',pl',xs',hbk⟩:=hbk
 have M8:bG K H8 aa C wt ⟨x,bb,lv,rc,sd,ms,ps,[],[],[],bud,[]⟩:=by
  refine⟨⟨dx,.non,x8,.inl ⟨rfl,rfl⟩⟩,⟨mk',pl',xs',λHX kX=>hbk HX λc o _ e m=>?_⟩,lv8,⟨[],rc8,wD.nil⟩,sd8,(λf hf=>nomatch hf),?_⟩
  ·have cx:c≠x:=λz=>by subst z;exact m _ WS (.inr ⟨_,_,_,rfl⟩)
   refine kX c o (λhc=>?_) (K8 c o (nx c cx) e)
   simp only[foot,List.flatMap_nil,List.mem_cons,List.not_mem_nil,or_false]at hc
   rcases hc with rfl | rfl | rfl | rfl
   ·exact cx rfl
   ·rw[WN]at e;cases e
   ·rw[WQ]at e;cases e
   ·rw[WR]at e;cases e
  ·simp only[foot,List.flatMap_nil,List.nodup_cons,List.mem_cons,List.not_mem_nil,or_false,not_or,not_false_eq_true,List.nodup_nil,and_true]
   exact⟨⟨lvx.symm,rcx.symm,sdx.symm⟩,⟨rl,sl⟩,sr⟩
 have K0:ay [x] H H8:=λc o n e=>K8 c o n (U2 c o e)
 have hI8:bc K H8 il (ws.map V.int):=by
  rcases hI with(h | ⟨u,h⟩) | h
  ·exact .inl (.inl (K0 _ _ (λz=>by rw[bJ z,hx]at h;cases h) h))
  ·exact .inl (.inr ⟨u,K0 _ _ (λz=>by rw[bJ z,hx]at h;cases h) h⟩)
  ·exact .inr h
 refine⟨_,rfl,x,dx,_,rfl,x8,mc_no (by decide +kernel),_,rfl,_,rfl,il,rfl,⟨_,hI8⟩,λD hD=>?_⟩
 refine qt (xs:=ws.map V.int) (λi ys H9=>aB H8 H9/\H9 D=some (.lst ys)/\fA K H9 wt ys ((ws.take i).map Vl.num)) (Nat.le_of_lt (sK (by omega))) ⟨sN hD _,uS,fA.nil⟩ ?_ ?_ ?_
 ·rintro i ys H9 hi ⟨s9,g9,hV⟩
  refine⟨g9,?_,s9.seq hI8⟩
  rw[hV.1,List.length_map,List.length_take]
  omega
 ·rintro i v ys H9 hv ⟨s9,g9,hV⟩
  rw[List.getElem?_map]at hv
  cases hwi:ws[i]? with
  | none=>rw[hwi]at hv;cases hv
  | some n =>
   rw[hwi]at hv
   cases hv
   refine⟨rfl,_,rfl,x,dx,_,rfl,s9 _ _ x8,mc_no (by decide +kernel),_,rfl,_,.num n,(λz=>nomatch z),rfl,λu Sa S6 hu=>?_⟩
   have g10:=S6 _ _ g9
   have hiw:=(bN hwi)
   have mu:aU Sa [D]:=λc hc=>by rw[bJ hc];exact⟨_,g10,.inl ⟨_,rfl⟩⟩
   refine⟨g10,qF (s9.trans S6) hD _,uS,?_⟩
   rw[List.take_succ_eq_append_getElem hiw.1,List.map_append,hiw.2]
   exact fA.keep aI mu ((hV.same S6).snoc hu)
 ·rintro ys H9 ⟨s9,g9,hV⟩
  rw[List.take_of_length_le (by rw[List.length_map];omega)]at hV
  have M9:=M8.same s9
  refine⟨_,D,ys,ws.map Vl.num,j,p,rfl,M9,hp,bc.of g9,hV,by rw[List.length_map];exact hb,hb8,(by show 0<=100;decide),λf Sa M10 f1 f2 f3 f4 fr WT=>?_⟩
  rw[List.length_map]at f3
  have kE:∀c o,c≠x->H2 c=some o->Sa c=some o:=λc o n e=>by
   refine WT c o (λhc=>?_) (s9 _ _ (K8 c o (nx c n) e))
   simp only[foot,List.flatMap_nil,List.mem_cons,List.not_mem_nil,or_false]at hc
   rcases hc with rfl | rfl | rfl | rfl
   ·exact n rfl
   ·rw[WN]at e;cases e
   ·rw[WQ]at e;cases e
   ·rw[WR]at e;cases e
  have Ib:∀c∈foot ⟨x,bb,lv,rc,sd,ms,ps,[f],[],[],bud,[]⟩,c≠x->H2 c=none:=λc hc n=>by
   simp only[foot,List.flatMap_cons,List.flatMap_nil,List.append_nil,List.mem_cons]at hc
   rcases hc with rfl | rfl | rfl | rfl | hc
   ·exact absurd rfl n
   ·exact WN
   ·exact WQ
   ·exact WR
   ·have z:=s9.free (fr c hc)
    cases e:H2 c with
    | none=>rfl
    | some o=>rw[K8 c o (nx c n) e]at z;cases z
  refine q bb lv rc sd f Sa f1 f2 f3 f4 M10 (λc hc n=>U2.free (Ib c hc n)) (λc o n e=>kE c o (λz=>n (by rw[z];exact List.mem_singleton.mpr rfl)) (U2 c o e)) (λG hG=>⟨mk',pl',xs',λHX kX=>hbk HX λc o _ e m=>?_⟩) (λHX kX=>?_)
  rotate_left
  ·obtain⟨w1,w2,w3,w4⟩:=hbk HX λc o _ e m=>by
    have cx:c≠x:=λz=>by subst z;exact m _ WS (.inr ⟨_,_,_,rfl⟩)
    exact kX c o (λz=>by rw[Ib c z cx]at e;cases e) (λz hz mz=>m _ (s1 _ _ hz) mz) (kE c o cx e)
   exact .i6 w1 (.cons w2.rd (.cons (.GG w3 w4) .nil))
  have cx:c≠x:=λz=>by subst z;exact m _ WS (.inr ⟨_,_,_,rfl⟩)
  refine kX c o (λhc=>?_) (kE c o cx e)
  rcases List.mem_append.mp hc with z | z
  ·rw[Ib c z cx]at e;cases e
  ·obtain⟨o',e',mo⟩:=hG c z
   exact m _ (s1 _ _ e') mo
theorem fi:az ["_law_script","_law_makes_here","_law_rows","_law_k","_law_cell_here","_law_machine","_law_old","_law_held","_law_new"] ["_law_script"] (dS qz):=by walk_at "sc"
theorem Q3{f:Addr}{fd:FuncData}(F:eO K "law" "law" qz f fd)(bq:mg "len"=none)(cH:mg "list"=none)(cm:mg "range"=none){aa:Addr}(ah:ak K aa)(dw:cX P w K mg base aL "_law_cell" 1 ["_law_script","_law_k"] (eN K))(A2:cX P w K mg base aL "_law_free" 2 ["_law_makes_here","_law_cell_here"] (iY K))(zx:cX P w K mg base aL "_law_grown" 1 ["_law_old","_law_new"] (gY K))(zy:cX P w K mg base aL "_law_makes" 2 ["_law_script","_law_at"] (gZ K))(xj:cX P w K mg base aL "_law_recipe" 2 ["_law_makes_here","_law_cell_here","_law_k"] (fV K))(zA:cX P w K mg base aL "_law_sound" 2 ["_law_makes_here","_law_heap"] (g7 K))(zB:cX P w K mg base aL "_law_stays" 5 ["_law_script","_law_makes_here","_law_old","_law_new"] (hZ K)){ai:Addr}(kF:bF P w K mg base aL ai "heap" 1 ["self"] (uM K aa ai true))(uu:bF P w K mg base aL ai "step" 7 ["self"] (uO K aa ai true))(uv:bF P w K mg base aL ai "told" 1 ["self"] (uP K aa ai true))(CI:Ea P w K mg base aL ai "Watched" 5 ["self","book","part","inputs","budget"] (fW K aa ai true)):bw P w K mg base aL 8 f fd ["_law_script"] (zh K):=by
 refine F.ok fi (λvs H Q E h=>?_) (λcdv A outer s H vs Q E hr h=>?_)
 ·obtain⟨a,ns,rfl,hS,h63,q⟩:=h
  rfl
 obtain⟨a,ns,rfl,hS,h63,q0⟩:=h
 have hv:df (aP K (λ_=>False) H) [.ref a] [.list (ns.map PyData.int)]:=.cons (Ca (.lst hS (by simp) λi x d hx hd=>(vp (K:=K) (P:=λ_=>False) (H:=H) (ns:=ns)).2 i x d hx hd |>.now)) .nil
 have q:∀v H',aB H H'->aP K (λ_=>False) H' v (.bool true)->Q v H':=λv H' _ r=>by rw[aP.oA r];exact q0 H'
 refine iD (P:=λ_=>False) (λ_ h=>h.elim) hv ?_
 show Fx _ _ _ [some _,none,none,none,none,none,none,none,none] []
 clear hv q0 hS
 refine bj (cB (i:=1) fi.nd rfl (Or.inl rfl) (cf zy y8 y6 (hr.mono (by decide)) rfl (aj (aq 0) (aj aZ ax)))) (λR kk=>?_)
 walk_at "vc"
 refine⟨ns,0,rfl,by decide,by decide,λms zs hg=>kk _ _ ?_⟩
 clear kk R
 refine bj (cB (i:=2) fi.nd rfl (Or.inl rfl) (Dk ax)) (λR kk=>?_)
 walk_at "vc"
 refine kk _ _ ?_
 clear kk R
 refine bj (jK PassesOwn.never rfl (ij rfl cm (aj (eV (cf dw gh gf (hr.mono (by decide)) rfl (aj (aq 0) (aj aZ ax))) aZ) ax)) (dD (i:=3) fi.nd rfl (Or.inl rfl)) (bE (cB (i:=2) fi.nd rfl (Or.inl rfl) (Dp (aq 2) (cf xj wU wR (hr.mono (by decide)) rfl (aj (aq 1) (aj (cf dw gh gf (hr.mono (by decide)) rfl (aj (aq 0) (aj (vk aZ (aq 3)) ax))) (aj (aq 3) ax)))))))) (λR kk=>?_)
 walk_at "vc"
 refine⟨ns,8,rfl,by decide,by decide,λv=>⟨by decide,?_⟩⟩
 obtain⟨n6,en,hn⟩:=jL v (n:=6) (by decide)
 rw[en,Int.toNat_natCast]
 refine⟨⟨by omega,by omega⟩,?_⟩
 refine gU (λi env st=>∃(S:aQ) (rs:List Rw) (o3 o4:Option DV),env=[some (.dat (.list (ns.map PyData.int))),some (.dat (.list (ms.map xG))),some (.ref S.length),o3,o4,none,none,none,none]/\st=S++[.live (rs.map wL)]/\(∀x∈rs,vI zs x)/\rs.length<=16 * i) ⟨[],[],_,_,rfl,rfl,(λx hx=>nomatch hx),Nat.zero_le _⟩ (λ_ _ _ _=>trivial) ?_ ?_
 ·rintro i env st d hd ⟨S,rs,o3,o4,rfl,rfl,hG,hl⟩
  obtain⟨hi,rfl⟩:=nW hd
  walk_at "vc"
  refine⟨ns,_,rfl,by omega,by omega,λc=>?_⟩
  walk_at "vc"
  rw[Int.zero_add]
  refine⟨ms,zs,c,i,rfl,hg,by omega,λrs' hG' hl'=>?_⟩
  simp only[gW]
  walk_at "vc"
  rw[List.length_map,List.length_map]
  refine⟨by omega,S++[.live (rs.map wL)],rs++rs',_,_,rfl,by rw[List.map_append],λx hx=>?_,by rw[List.length_append];omega⟩
  rcases List.mem_append.mp hx with w | w
  ·exact hG x w
  ·exact hG' x w
 ·rintro env st ⟨S,rs,o3,o4,rfl,rfl,hG,hl⟩
  rw[ju]at hl
  refine kk _ _ ?_
  clear kk R
  refine bj (jK PassesOwn.never rfl (Cb (G7 (aq 0) (uF aZ) (uF aZ))) (dD (i:=4) fi.nd rfl (Or.inl rfl)) (bE (yK (xF (aq 2) (aj (cf A2 Ax Aw (hr.mono (by decide)) rfl (aj (aq 1) (aj (aq 4) ax))) ax))))) (λR kk=>?_)
  walk_at "vc"
  obtain⟨cs,ecs,hcs⟩:=HN ns (some 15) (some 40)
  rw[ecs]
  refine gU (λi env st=>∃(rs:List Rw) (o3 o4:Option DV),env=[some (.dat (.list (ns.map PyData.int))),some (.dat (.list (ms.map xG))),some (.ref S.length),o3,o4,none,none,none,none]/\st=S++[.live (rs.map wL)]/\(∀x∈rs,vI zs x)/\rs.length<=96 + i/\i<=63) ⟨rs,_,_,rfl,rfl,hG,by omega,by omega⟩ (λ_ _ _ _=>trivial) ?_ ?_
  ·rintro i env st d hd ⟨rs,o3,o4,rfl,rfl,hG,hl,_⟩
   obtain⟨c,hc,rfl⟩:=rV hd
   have hic:=(bN hc).1
   walk_at "vc"
   simp only[gW]
   refine⟨trivial,ms,zs,c,rfl,hg,λr hr'=>?_⟩
   walk_at "vc"
   rw[List.length_map,yO]
   refine⟨by omega,rs++[r],_,_,rfl,by rw[List.map_append];rfl,λx hx=>?_,by simp;omega,by omega⟩
   rcases List.mem_append.mp hx with w | w
   ·exact hG x w
   ·rw[bJ w];exact hr'
  ·clear hG hl
   rintro env st ⟨rs,o3,o4,rfl,rfl,hG,hl,WU⟩
   rw[List.length_map]at hl WU
   refine kk _ _ ?_
   clear kk R
   refine bj (cB (i:=2) fi.nd rfl (Or.inl rfl) (Dp (G7 (aq 2) Dq (uF aZ)) (gx (aj (bQ (aj bg (aj aZ ax))) (aj (bQ (aj bg ax)) ax))))) (λR kk=>?_)
   walk_at "vc"
   simp only[gW]
   walk_at "vc"
   have e98:=MT (f:=wL) rs 98
   rw[show((98:Nat):Int)=98 from rfl]at e98
   rw[e98,List.length_map]
   refine⟨by rw[List.length_take];omega,kk _ _ ?_⟩
   clear kk R
   have hG2:∀x∈rs.take 98,vI zs x:=λx hx=>hG x (List.mem_of_mem_take hx)
   have zZ:(rs.take 98).length<=98:=by rw[List.length_take];omega
   have er:(rs.take 98).map wL++[PyData.tuple [.str "push",.int 1],PyData.tuple [.str "give"]]=((rs.take 98)++[Rw.push 1,Rw.bare "give"]).map wL:=by rw[List.map_append];rfl
   rw[er]
   generalize rs.take 98=Ng at hG2 zZ
   generalize S++[Ce.live (rs.map wL)]=S1
   refine bj (cB (i:=5) fi.nd rfl (Or.inl rfl) (TZ CI M7 (hr.mono (by decide)) rfl (aj (bQ (aj (aq 1) (aj (gx (aj (bQ (aj (gx ax) (aj (bQ (aj bg ax)) (aj aZ (aj aZ (aj (aq 2) (aj (gx ax) ax))))))) ax)) ax))) (aj aZ (aj (gx ax) (aj aZ ax)))))) (λR kk=>?_)
   walk_at "vc"
   dsimp only[HS]
   walk_at "vc"
   simp only[gW,yO]
   walk_at "vc"
   refine⟨ms,[⟨[],.num,8,8,Ng++[.push 1,.bare "give"],[]⟩],0,⟨[],.num,8,8,Ng++[.push 1,.bare "give"],[]⟩,[],3,rfl,⟨hg.wf.oC,(by show 1<=8;decide),rfl,rfl,rfl,(by show 0<=8;decide),(by show 8<=8;decide)⟩,kk _ _ ?_⟩
   clear kk R
   have hrow:∀x:Ce,((S1++[Ce.froz (List.map wL (Ng++[Rw.push 1,Rw.bare "give"]))])++[x])[S1.length]?=some (.froz (List.map wL (Ng++[Rw.push 1,Rw.bare "give"]))):=λx=>by
    rw[List.getElem?_append_left (by simp)]
    exact gW
   generalize hpt:(⟨[],.num,8,8,Ng++[.push 1,.bare "give"],[]⟩:Pt)=pt
   have L0:DJ ms pt 0 (lG ms [pt] 0 pt [] 3):=by
    refine⟨rfl,rfl,rfl,⟨_,_,rfl,by rw[← hpt];rfl,Nat.le_refl _⟩,⟨(λr h=>nomatch h),(λf hf=>?_)⟩,Nat.le_refl _,Nat.le_refl _⟩
    have hf:f∈[(⟨0,0,[].map Vl.num++List.replicate (pt.boxes - 0) .none,[]⟩:PF)]:=hf
    rw[bJ hf]
    refine⟨(λk hk=>nomatch hk),(λk hk=>?_)⟩
    have:=List.eq_of_mem_replicate (show Vl.rcd k∈List.replicate (pt.boxes - 0) Vl.none from hk)
    cases this
   have Us:(lG ms [pt] 0 pt [] 3).recs=[]:=rfl
   generalize lG ms [pt] 0 pt [] 3=p0 at L0 Us
   generalize S1++[Ce.froz (List.map wL (Ng++[Rw.push 1,Rw.bare "give"]))]=S2 at hrow
   refine bj (cB (i:=6) fi.nd rfl (Or.inl rfl) (DE (aq 5) kF DK (hr.mono (by decide)))) (λR kk=>?_)
   walk_at "vc"
   dsimp only[y2]
   simp only[gW]
   refine⟨p0,rfl,kk _ _ ?_⟩
   rw[Av]
   clear kk R
   refine bj (cB (i:=7) fi.nd rfl (Or.inl rfl) (Du rfl cH (aj (aq 6) ax))) (λR kk=>?_)
   walk_at "vc"
   refine kk _ _ ?_
   clear kk R
   refine bj (jK PassesOwn.never rfl (ij rfl cm (aj (gy rfl bq (aj (aq 2) ax)) ax)) (dD (i:=3) fi.nd rfl (Or.inl rfl)) (dm (yK (DE (aq 5) uu MZ (hr.mono (by decide))))
   (dm (iR (Ds (gz (n:=0) (DE (aq 5) uv M6 (hr.mono (by decide)))) B8) (bE (cM (Tt (hr.units) (aq 6) (aq 7)))) da)
   (dm (cB (i:=8) fi.nd rfl (Or.inl rfl) (DE (aq 5) kF DK (hr.mono (by decide))))
   (dm (iR (Af.dt (sX (oV (i7 (cf zx y4 y3 (hr.mono (by decide)) rfl (aj (aq 6) (aj (aq 8) ax))))) (sX (oV (i7 (cf zA za y9 (hr.mono (by decide)) rfl (aj (aq 1) (aj (aq 8) ax))))) (vn (oV (i7 (cf zB ze zd (hr.mono (by decide)) rfl (aj (aq 0) (aj (aq 1) (aj (aq 6) (aj (aq 8) ax))))))))))) (bE (cM kY)) da)
   (dm (cB (i:=6) fi.nd rfl (Or.inl rfl) (aq 8))
   (bE (cB (i:=7) fi.nd rfl (Or.inl rfl) (Du rfl cH (aj (aq 8) ax)))))))))) (λR kk=>?_)
   walk_at "vc"
   simp only[hrow]
   rw[List.length_map,Int.toNat_natCast]
   have lr:(Ng++[Rw.push 1,Rw.bare "give"]).length=Ng.length + 2:=by simp
   rw[lr]
   refine⟨⟨by omega,by omega⟩,?_⟩
   refine gU (λi env st=>∃(p:PM) (o3 o8:Option DV),env=[some (.dat (.list (ns.map PyData.int))),some (.dat (.list (ms.map xG))),some (.ref S1.length),o3,o4,some (.ref S2.length),some (.dat (.list (p.recs.map tq))),some (.dat (.list (p.recs.map tq))),o8]/\st=S2++[.obj (MO aa ai true p)]/\DJ ms pt i p/\i < Ng.length + 2) ⟨p0,_,_,rfl,rfl,L0,by omega⟩ (λ_ _ _ _=>trivial) ?_ ?_
   ·clear L0 Us
    rintro i env st d hd ⟨p,o3,o8,rfl,rfl,L,hi⟩
    obtain⟨p',hS,lW,hor⟩:=HM K hg hG2 zZ hpt.symm hi L
    walk_at "vc"
    dsimp only[Co]
    simp only[gW]
    refine⟨p,p',rfl,hS,?_⟩
    rw[yO]
    walk_at "vc"
    dsimp only[Cn]
    simp only[gW]
    refine⟨p',rfl,by omega,?_⟩
    unfold O7
    walk_at "vc"
    rcases hor with hf | ⟨L',hi',hGr⟩
    ·have ef:HB p'.fin=.tuple (p'.fin.map Wu):=by unfold HB;rw[if_neg hf]
     rw[ef]
     refine fG ?_
     refine⟨⟨(Cp _).ok,(Cp _).ok⟩,?_⟩
     rw[(Cp _).self]
     exact q
    ·rw[L'.fin]
     refine bV ?_
     dsimp only[y2]
     simp only[gW]
     refine⟨p',rfl,?_⟩
     rw[Av]
     have so:=L'.snd.rc
     rw[L'.ms]at so
     have so0:=L.snd.rc
     rw[L.ms]at so0
     have:=L.rl
     have:=L'.rl
     refine⟨p.recs,p'.recs,rfl,hGr,by omega,bV ⟨ms,zs,p'.recs,rfl,hg,so,bV ⟨ns,ms,zs,p.recs,p'.recs,rfl,hg,hGr,λr hr=>(so0 r hr).c,λr hr=>(so r hr).c,by omega,bV ⟨p',_,_,rfl,rfl,L',hi'⟩⟩⟩⟩
   ·rintro env st ⟨p,o3,o8,rfl,rfl,L,hi⟩
    rw[ju]at hi
    omega
end
def fj(K:av)(n:Str)(s:Stmt):Prop:=∃f fd,PySem.W.nsIn K mainGlobals n=some (some (.ref f))/\eO K n n s f fd
def ig(K:av)(f:Addr)(n q:Str)(s:Stmt):Prop:=(∃fd,eO K n q s f fd)/\PySem.W.isFn K (.ref f)=true
theorem all_mk{l:PySem.W.OpenLaw}{w:World}{K:av}{h:Heap}{mg:Str->Option Value}{fa f13 f15 f17 f20 f21 f24 f25 f27 f28 f29 f30 f31 f32 f34 f37 f40 f41 f45 f46 f47 f53 f54 f55 f59 WV:Addr}(X:K.In h)(G:h.Ns mainGlobals mg)(hfa:mg "law"=some (.ref fa))
  {WW Uz:Option Addr} {WX:Array (Option Value)} {WY UA UB UC Q4 UD:Value}
  {zq fX j1 zr:Tok}
  {EF:Nat}
  {pU pV pW md me mf mh mi mj ml mn mq mr mv mw mx mB mC mD mE mF mG mH mI mJ mK mL mM mN mO mP mQ mR j5 j6 j7 j8 j9 kb kc ke kf cq:Addr} {wb wc wd we tD tE tF tG tH tI tJ tK tL tM tN tO tP tQ tS tT tU tV tW tX tY tZ t4 t6 t7 t8 t9 ua ub rh rj rm rn rq rz rA rB rC rD:Tok}
  {sH:Addr} {xS xT xU:Tok}
  {Nh:Nat}
  {j4:Addr} {A3 A4 A5 A6 A7 A8 A9 Ba Bb xV xW xX xY xZ x9 ya yb yc yd ye:Tok}
  {iM:Addr} {mS mT mU mV mW:Tok}
  {jl:Addr} {oH oJ oK oM oN oO oP:Tok}
  {aa:Addr} (wg:PySem.W.nsIn K mainGlobals "Frame"=some (some (.ref aa)))
  (wj:PySem.W.plainGet K aa Str.empty=true)
  (wk:PySem.W.hasDictIn K aa=true)
  (wm:PySem.W.plainOver K aa=true)
  (wo:PySem.W.findIn K (.ref aa) "__setattr__"=some (some (.builtin "object.__setattr__")))
  (wq:PySem.W.makesIn K aa=true)
  (wu:PySem.W.keepIn K (.ref aa)=true)
  (jm:PySem.W.findIn K (.ref aa) "part"=some none)
  (mX:PySem.W.findIn K (.ref aa) "at"=some none)
  (iN:PySem.W.findIn K (.ref aa) "boxes"=some none)
  (iO:PySem.W.findIn K (.ref aa) "stack"=some none)
  (fk:PySem.W.findIn K (.ref aa) "__init__"=some (some (.ref f17)))
  {ai:Addr} (pX:PySem.W.nsIn K mainGlobals "Watched"=some (some (.ref ai)))
  (pY:PySem.W.plainGet K ai Str.empty=true)
  (pZ:PySem.W.hasDictIn K ai=true)
  (p6:PySem.W.plainOver K ai=true)
  (p7:PySem.W.findIn K (.ref ai) "__setattr__"=some (some (.builtin "object.__setattr__")))
  (p8:PySem.W.makesIn K ai=true)
  (p9:PySem.W.keepIn K (.ref ai)=true)
  (gF:PySem.W.findIn K (.ref ai) "book"=some none)
  (gH:PySem.W.findIn K (.ref ai) "live"=some none)
  (eF:PySem.W.findIn K (.ref ai) "records"=some none)
  (gI:PySem.W.findIn K (.ref ai) "said"=some none)
  (gJ:PySem.W.findIn K (.ref ai) "left"=some none)
  (iP:PySem.W.findIn K (.ref ai) "end"=some none)
  (gK:PySem.W.findIn K (.ref ai) "heap"=some (some (.ref f13)))
  (gL:PySem.W.findIn K (.ref ai) "bare"=some (some (.ref f15)))
  (eG:PySem.W.findIn K (.ref ai) "nothing"=some (some (.ref f20)))
  (dz:PySem.W.findIn K (.ref ai) "add_frame"=some (some (.ref f21)))
  (fR:PySem.W.findIn K (.ref ai) "spend"=some (some (.ref f24)))
  (fS:PySem.W.findIn K (.ref ai) "go_on"=some (some (.ref f25)))
  (fq:PySem.W.findIn K (.ref ai) "tagged"=some (some (.ref f27)))
  (fT:PySem.W.findIn K (.ref ai) "fault"=some (some (.ref f28)))
  (eI:PySem.W.findIn K (.ref ai) "do_call"=some (some (.ref f29)))
  (eJ:PySem.W.findIn K (.ref ai) "do_give"=some (some (.ref f30)))
  (gM:PySem.W.findIn K (.ref ai) "goes"=some (some (.ref f31)))
  (dN:PySem.W.findIn K (.ref ai) "do_going"=some (some (.ref f32)))
  (dO:PySem.W.findIn K (.ref ai) "as_begun"=some (some (.ref f34)))
  (c0:PySem.W.findIn K (.ref ai) "new_record"=some (some (.ref f37)))
  (c8:PySem.W.findIn K (.ref ai) "with_field"=some (some (.ref f40)))
  (cy:PySem.W.findIn K (.ref ai) "do_of_records"=some (some (.ref f41)))
  (cI:PySem.W.findIn K (.ref ai) "do_reckoning"=some (some (.ref f45)))
  (cO:PySem.W.findIn K (.ref ai) "do_straight"=some (some (.ref f46)))
  (fv:PySem.W.findIn K (.ref ai) "do_row"=some (some (.ref f47)))
  (fw:PySem.W.findIn K (.ref ai) "looked"=some (some (.ref f53)))
  (gO:PySem.W.findIn K (.ref ai) "step"=some (some (.ref f54)))
  (gP:PySem.W.findIn K (.ref ai) "told"=some (some (.ref f55)))
  (dP:PySem.W.findIn K (.ref ai) "__init__"=some (some (.ref f59)))
  (d0:fj K "_law_cell" oW)
  (d1:fj K "_law_many" oX)
  (d2:fj K "_law_free" oY)
  (d3:fj K "_law_grown" kZ)
  (d4:fj K "_law_makes" lh)
  (d5:fj K "_law_recipe" jM)
  (d6:fj K "_law_sound" lj)
  (d7:fj K "_law_kinds" ll)
  (d8:fj K "elders_of" lp)
  (d9:fj K "is_under" oZ)
  (WZ:fj K "record_has_kind" eW)
  (W0:fj K "has_kind" pb)
  (W2:fj K "_law_stays" lu)
  (W3:ig K f13 "heap" "Plain.heap" jN)
  (W4:ig K f15 "bare" "Watched.bare" iE)
  (W5:fj K "taken" yP)
  (W6:ig K f17 "__init__" "Frame.__init__" fH)
  (W7:fj K "started" rW)
  (W8:ig K f20 "nothing" "Watched.nothing" eX)
  (W9:ig K f21 "add_frame" "Plain.add_frame" eY)
  (Xa:fj K "catcher" rX)
  (Xb:fj K "caught_at" lA)
  (Xc:ig K f24 "spend" "Plain.spend" i8)
  (Xd:ig K f25 "go_on" "Plain.go_on" i9)
  (Xe:ig K f27 "tagged" "Watched.tagged" fI)
  (Xf:ig K f28 "fault" "Plain.fault" ja)
  (Xg:ig K f29 "do_call" "Plain.do_call" gA)
  (Xh:ig K f30 "do_give" "Plain.do_give" gB)
  (Xi:ig K f31 "goes" "Plain.goes" jO)
  (Xj:ig K f32 "do_going" "Plain.do_going" fJ)
  (Xk:ig K f34 "as_begun" "Watched.as_begun" eB)
  (Xl:fj K "fields_of" lB)
  (Xm:ig K f37 "new_record" "Watched.new_record" dn)
  (Xn:fj K "replaced" pd)
  (Xo:ig K f40 "with_field" "Watched.with_field" dq)
  (Xp:ig K f41 "do_of_records" "Plain.do_of_records" cY)
  (Xq:fj K "wrapped" rY)
  (Xr:fj K "divided" rZ)
  (Xs:fj K "reckoned" ph)
  (Xu:ig K f45 "do_reckoning" "Plain.do_reckoning" dr)
  (Xv:ig K f46 "do_straight" "Plain.do_straight" dJ)
  (Xw:ig K f47 "do_row" "Plain.do_row" iF)
  (Xx:fj K "full_mask" lC)
  (Xy:fj K "asked_of_records" eD)
  (Xz:fj K "asked" yQ)
  (XA:fj K "leaves" vv)
  (XB:ig K f53 "looked" "Watched.looked" fK)
  (XC:ig K f54 "step" "Plain.step" jP)
  (XE:ig K f55 "told" "Plain.told" jQ)
  (XF:fj K "is_door" r6)
  (XG:fj K "check_door" jR)
  (XH:fj K "copied" vw)
  (XI:ig K f59 "__init__" "Plain.__init__" fL)
  (XJ:PySem.W.nsIn K mainGlobals "law"=some (some (.ref WV))) (XM:K.lookup WV=some ⟨WY,WW,.func (PySem.W.fnOf "law" "law" (dA qz) (dB qz) (dS qz) .none UA UB UC Uz Q4 UD),WX⟩) (XN:PySem.W.codeIn K Q4 "law"=true) (XO:PySem.W.keepIn K (.ref WV)=true)
  (sE:PySem.W.nsIn K mainGlobals "HALF"=some (some (.int 2147483648 zq)))
  (dZ:PySem.W.nsIn K mainGlobals "MOST_FRAMES"=some (some (.int 12 fX)))
  (iL:PySem.W.nsIn K mainGlobals "TOO_DEEP"=some (some (.int 2 j1)))
  (v5:PySem.W.nsIn K mainGlobals "TURN"=some (some (.int 4294967296 zr)))
  (qP:IsT K "bool" (Am "bool"))
  (lU:IsT K "tuple" (Am "tuple"))
  (jy:PySem.W.nsIn K mainGlobals "ALWAYS"=some (some (.ref cq)))
  (kg:(cq == sysModules)=false)
  (kh:K.lookup cq=some {cls:=.type "dict",data:=.dict #[{hash:=PyData.keyHash w.params "push",key:=.str "push" wb,val:=.ref pU},{hash:=PyData.keyHash w.params "load",key:=.str "load" wc,val:=.ref pV},{hash:=PyData.keyHash w.params "store",key:=.str "store" wd,val:=.ref md},{hash:=PyData.keyHash w.params "dup",key:=.str "dup" tD,val:=.ref mf},{hash:=PyData.keyHash w.params "swap",key:=.str "swap" tF,val:=.ref mj},{hash:=PyData.keyHash w.params "drop",key:=.str "drop" tI,val:=.ref mn},{hash:=PyData.keyHash w.params "add",key:=.str "add" tK,val:=.ref mv},{hash:=PyData.keyHash w.params "sub",key:=.str "sub" tN,val:=.ref mB},{hash:=PyData.keyHash w.params "mul",key:=.str "mul" tQ,val:=.ref mE},{hash:=PyData.keyHash w.params "div",key:=.str "div" tU,val:=.ref mH},{hash:=PyData.keyHash w.params "rem",key:=.str "rem" tX,val:=.ref mK},{hash:=PyData.keyHash w.params "less",key:=.str "less" t4,val:=.ref mN},{hash:=PyData.keyHash w.params "same",key:=.str "same" t8,val:=.ref mQ},{hash:=PyData.keyHash w.params "jump",key:=.str "jump" ub,val:=.ref mR},{hash:=PyData.keyHash w.params "zero",key:=.str "zero" rh,val:=.ref j6},{hash:=PyData.keyHash w.params "kin",key:=.str "kin" rm,val:=.ref j8},{hash:=PyData.keyHash w.params "make",key:=.str "make" rz,val:=.ref j9},{hash:=PyData.keyHash w.params "toss",key:=.str "toss" rA,val:=.ref kc},{hash:=PyData.keyHash w.params "say",key:=.str "say" rC,val:=.ref kf}] EF})
  (ki:K.lookup kf=some {cls:=.type "tuple",data:=.seq #[.ref ke] 0})
  (kj:K.lookup ke=some {cls:=.type "tuple",data:=.seq #[.str "number" rD] 0})
  (kl:K.lookup kc=some {cls:=.type "tuple",data:=.seq #[.ref kb] 0})
  (km:K.lookup kb=some {cls:=.type "tuple",data:=.seq #[.str "number" rB] 0})
  (ko:K.lookup j9=some {cls:=.type "tuple",data:=.seq #[] 0})
  (kq:K.lookup j8=some {cls:=.type "tuple",data:=.seq #[.ref j7] 0})
  (kr:K.lookup j7=some {cls:=.type "tuple",data:=.seq #[.str "whole" rn,.int 0 rq] 0})
  (ku:K.lookup j6=some {cls:=.type "tuple",data:=.seq #[.ref j5] 0})
  (ky:K.lookup j5=some {cls:=.type "tuple",data:=.seq #[.str "number" rj] 0})
  (mY:K.lookup mR=some {cls:=.type "tuple",data:=.seq #[] 0})
  (mZ:K.lookup mQ=some {cls:=.type "tuple",data:=.seq #[.ref mO,.ref mP] 0})
  (m3:K.lookup mP=some {cls:=.type "tuple",data:=.seq #[.str "number" ua] 0})
  (m5:K.lookup mO=some {cls:=.type "tuple",data:=.seq #[.str "number" t9] 0})
  (m6:K.lookup mN=some {cls:=.type "tuple",data:=.seq #[.ref mL,.ref mM] 0})
  (m7:K.lookup mM=some {cls:=.type "tuple",data:=.seq #[.str "number" t7] 0})
  (m8:K.lookup mL=some {cls:=.type "tuple",data:=.seq #[.str "number" t6] 0})
  (m9:K.lookup mK=some {cls:=.type "tuple",data:=.seq #[.ref mI,.ref mJ] 0})
  (nc:K.lookup mJ=some {cls:=.type "tuple",data:=.seq #[.str "number" tZ] 0})
  (nh:K.lookup mI=some {cls:=.type "tuple",data:=.seq #[.str "number" tY] 0})
  (ni:K.lookup mH=some {cls:=.type "tuple",data:=.seq #[.ref mF,.ref mG] 0})
  (nj:K.lookup mG=some {cls:=.type "tuple",data:=.seq #[.str "number" tW] 0})
  (nk:K.lookup mF=some {cls:=.type "tuple",data:=.seq #[.str "number" tV] 0})
  (nq:K.lookup mE=some {cls:=.type "tuple",data:=.seq #[.ref mC,.ref mD] 0})
  (nv:K.lookup mD=some {cls:=.type "tuple",data:=.seq #[.str "number" tT] 0})
  (ny:K.lookup mC=some {cls:=.type "tuple",data:=.seq #[.str "number" tS] 0})
  (nz:K.lookup mB=some {cls:=.type "tuple",data:=.seq #[.ref mw,.ref mx] 0})
  (nA:K.lookup mx=some {cls:=.type "tuple",data:=.seq #[.str "number" tP] 0})
  (nB:K.lookup mw=some {cls:=.type "tuple",data:=.seq #[.str "number" tO] 0})
  (nC:K.lookup mv=some {cls:=.type "tuple",data:=.seq #[.ref mq,.ref mr] 0})
  (nE:K.lookup mr=some {cls:=.type "tuple",data:=.seq #[.str "number" tM] 0})
  (nF:K.lookup mq=some {cls:=.type "tuple",data:=.seq #[.str "number" tL] 0})
  (nG:K.lookup mn=some {cls:=.type "tuple",data:=.seq #[.ref ml] 0})
  (nH:K.lookup ml=some {cls:=.type "tuple",data:=.seq #[.str "any" tJ] 0})
  (nI:K.lookup mj=some {cls:=.type "tuple",data:=.seq #[.ref mh,.ref mi] 0})
  (nJ:K.lookup mi=some {cls:=.type "tuple",data:=.seq #[.str "any" tH] 0})
  (nK:K.lookup mh=some {cls:=.type "tuple",data:=.seq #[.str "any" tG] 0})
  (nM:K.lookup mf=some {cls:=.type "tuple",data:=.seq #[.ref me] 0})
  (nO:K.lookup me=some {cls:=.type "tuple",data:=.seq #[.str "any" tE] 0})
  (nP:K.lookup md=some {cls:=.type "tuple",data:=.seq #[.ref pW] 0})
  (nQ:K.lookup pW=some {cls:=.type "tuple",data:=.seq #[.str "any" we] 0})
  (qa:K.lookup pV=some {cls:=.type "tuple",data:=.seq #[] 0})
  (qb:K.lookup pU=some {cls:=.type "tuple",data:=.seq #[] 0})
  (qZ:PySem.W.nsIn K mainGlobals "GOING"=some (some (.ref sH)))
  (og:K.lookup sH=some {cls:=.type "tuple",data:=.seq #[.str "jump" xS,.str "zero" xT,.str "kin" xU] 0})
  (v9:PySem.W.nsIn K mainGlobals "LEFT"=some (some (.ref j4)))
  (sI:(j4 == sysModules)=false)
  (sJ:K.lookup j4=some {cls:=.type "dict",data:=.dict #[{hash:=PyData.keyHash w.params "store",key:=.str "store" A3,val:=.int 0 A4},{hash:=PyData.keyHash w.params "dup",key:=.str "dup" A5,val:=.int 2 A6},{hash:=PyData.keyHash w.params "swap",key:=.str "swap" A7,val:=.int 2 A8},{hash:=PyData.keyHash w.params "drop",key:=.str "drop" A9,val:=.int 0 Ba},{hash:=PyData.keyHash w.params "jump",key:=.str "jump" Bb,val:=.int 0 xV},{hash:=PyData.keyHash w.params "zero",key:=.str "zero" xW,val:=.int 0 xX},{hash:=PyData.keyHash w.params "put",key:=.str "put" xY,val:=.int 0 xZ},{hash:=PyData.keyHash w.params "toss",key:=.str "toss" x9,val:=.int 0 ya},{hash:=PyData.keyHash w.params "say",key:=.str "say" yb,val:=.int 0 yc},{hash:=PyData.keyHash w.params "give",key:=.str "give" yd,val:=.int 0 ye}] Nh})
  (fh:PySem.W.nsIn K mainGlobals "OF_RECORDS"=some (some (.ref iM)))
  (fz:K.lookup iM=some {cls:=.type "tuple",data:=.seq #[.str "make" mS,.str "fill" mT,.str "begin" mU,.str "get" mV,.str "put" mW] 0})
  (gp:PySem.W.nsIn K mainGlobals "RECKONING"=some (some (.ref jl)))
  (fZ:K.lookup jl=some {cls:=.type "tuple",data:=.seq #[.str "add" oH,.str "sub" oJ,.str "mul" oK,.str "div" oM,.str "rem" oN,.str "less" oO,.str "same" oP] 0})
  (A1:PySem.W.nsIn K mainGlobals "all"=some none)
  (vQ:PySem.W.nsIn K mainGlobals "bool"=some none)
  (dG:PySem.W.nsIn K mainGlobals "isinstance"=some none)
  (bq:PySem.W.nsIn K mainGlobals "len"=some none)
  (cH:PySem.W.nsIn K mainGlobals "list"=some none)
  (Az:PySem.W.nsIn K mainGlobals "min"=some none)
  (cm:PySem.W.nsIn K mainGlobals "range"=some none)
  (qN:PySem.W.nsIn K mainGlobals "tuple"=some none)
  (vO:PySem.W.nsIn K mainGlobals "zip"=some none)
  : ∃fd:FuncData,(∀(s:Shared) (v:Value),BindsTo s fd ⟨[v],[]⟩ [("_law_script",v)])/\∀base:Heap,K.In base->base.Ns mainGlobals mg->bw l.prog w K mg base aL 8 fa fd ["_law_script"] (zh K):=by
 have e:=hfa.symm.trans (PySem.W.mg_of X G XJ)
 cases e
 obtain⟨f0,fd0,a0,F0⟩:=d0
 have k0:=F0.kp
 have b0:=F0.binds (ps:=["_law_script","_law_k"]) λ_ _ _ _ _ _=>ln2 (λ_ _=>by rfl)
 obtain⟨f1,fd1,a1,F1⟩:=d1
 have k1:=F1.kp
 have b1:=F1.binds (ps:=["_law_makes_here","_law_c"]) λ_ _ _ _ _ _=>ln2 (λ_ _=>by rfl)
 obtain⟨f2,fd2,a2,F2⟩:=d2
 have k2:=F2.kp
 have b2:=F2.binds (ps:=["_law_makes_here","_law_cell_here"]) λ_ _ _ _ _ _=>ln2 (λ_ _=>by rfl)
 obtain⟨f3,fd3,a3,F3⟩:=d3
 have k3:=F3.kp
 have b3:=F3.binds (ps:=["_law_old","_law_new"]) λ_ _ _ _ _ _=>ln2 (λ_ _=>by rfl)
 obtain⟨f4,fd4,a4,F4⟩:=d4
 have k4:=F4.kp
 have b4:=F4.binds (ps:=["_law_script","_law_at"]) λ_ _ _ _ _ _=>ln2 (λ_ _=>by rfl)
 obtain⟨f5,fd5,a5,F5⟩:=d5
 have k5:=F5.kp
 have b5:=F5.binds (ps:=["_law_makes_here","_law_cell_here","_law_k"]) λ_ _ _ _ _ _=>wB (λ_ _ _=>by rfl)
 obtain⟨f6,fd6,a6,F6⟩:=d6
 have k6:=F6.kp
 have b6:=F6.binds (ps:=["_law_makes_here","_law_heap"]) λ_ _ _ _ _ _=>ln2 (λ_ _=>by rfl)
 obtain⟨f7,fd7,a7,F7⟩:=d7
 have k7:=F7.kp
 have b7:=F7.binds (ps:=["_law_script","_law_makes_here","_law_heap","_law_k"]) λ_ _ _ _ _ _=>Qx (λ_ _ _ _=>by rfl)
 obtain⟨f8,fd8,a8,F8⟩:=d8
 have k8:=F8.kp
 have b8:=F8.binds (ps:=["makes","c"]) λ_ _ _ _ _ _=>ln2 (λ_ _=>by rfl)
 obtain⟨f9,fd9,a9,F9⟩:=d9
 have k9:=F9.kp
 have b9:=F9.binds (ps:=["makes","c","other"]) λ_ _ _ _ _ _=>wB (λ_ _ _=>by rfl)
 obtain⟨f10,aca,a10,XQ⟩:=WZ
 have WT:=XQ.kp
 have b10:=XQ.binds (ps:=["makes","record","kind"]) λ_ _ _ _ _ _=>wB (λ_ _ _=>by rfl)
 obtain⟨f11,ace,a11,XR⟩:=W0
 have k11:=XR.kp
 have b11:=XR.binds (ps:=["makes","heap","value","kind"]) λ_ _ _ _ _ _=>Qx (λ_ _ _ _=>by rfl)
 obtain⟨f12,aci,a12,XS⟩:=W2
 have k12:=XS.kp
 have b12:=XS.binds (ps:=["_law_script","_law_makes_here","_law_old","_law_new"]) λ_ _ _ _ _ _=>Qx (λ_ _ _ _=>by rfl)
 obtain⟨⟨acn,XT⟩,q13⟩:=W3
 have k13:=XT.kp
 have b13:=XT.binds (ps:=["self"]) λ_ _ _ _ _ _=>KA (λ_=>by rfl)
 obtain⟨⟨acr,XU⟩,q15⟩:=W4
 have k15:=XU.kp
 have b15:=XU.binds (ps:=["self","value"]) λ_ _ _ _ _ _=>ln2 (λ_ _=>by rfl)
 obtain⟨f16,acw,a16,XW⟩:=W5
 have k16:=XW.kp
 have b16:=XW.binds (ps:=["stack","many"]) λ_ _ _ _ _ _=>ln2 (λ_ _=>by rfl)
 obtain⟨⟨acA,XX⟩,q17⟩:=W6
 have k17:=XX.kp
 have b17:=XX.binds (ps:=["self","part","boxes"]) λ_ _ _ _ _ _=>wB (λ_ _ _=>by rfl)
 obtain⟨f18,acD,a18,XY⟩:=W7
 have k18:=XY.kp
 have b18:=XY.binds (ps:=["parts","part","values","nothing"]) λ_ _ _ _ _ _=>Qx (λ_ _ _ _=>by rfl)
 obtain⟨⟨acH,XZ⟩,q20⟩:=W8
 have k20:=XZ.kp
 have b20:=XZ.binds (ps:=["self"]) λ_ _ _ _ _ _=>KA (λ_=>by rfl)
 obtain⟨⟨acL,X0⟩,q21⟩:=W9
 have k21:=X0.kp
 have b21:=X0.binds (ps:=["self","part","values"]) λ_ _ _ _ _ _=>wB (λ_ _ _=>by rfl)
 obtain⟨f22,acP,a22,X1⟩:=Xa
 have k22:=X1.kp
 have b22:=X1.binds (ps:=["stretches","at"]) λ_ _ _ _ _ _=>ln2 (λ_ _=>by rfl)
 obtain⟨f23,acT,a23,X2⟩:=Xb
 have k23:=X2.kp
 have b23:=X2.binds (ps:=["parts","live"]) λ_ _ _ _ _ _=>ln2 (λ_ _=>by rfl)
 obtain⟨⟨acX,X3⟩,q24⟩:=Xc
 have k24:=X3.kp
 have b24:=X3.binds (ps:=["self"]) λ_ _ _ _ _ _=>KA (λ_=>by rfl)
 obtain⟨⟨ac1,X4⟩,q25⟩:=Xd
 have k25:=X4.kp
 have b25:=X4.binds (ps:=["self","frame","at"]) λ_ _ _ _ _ _=>wB (λ_ _ _=>by rfl)
 obtain⟨⟨ac5,X5⟩,q27⟩:=Xe
 have k27:=X5.kp
 have b27:=X5.binds (ps:=["self","tag","number"]) λ_ _ _ _ _ _=>wB (λ_ _ _=>by rfl)
 obtain⟨⟨ac9,X6⟩,q28⟩:=Xf
 have k28:=X6.kp
 have b28:=X6.binds (ps:=["self","number"]) λ_ _ _ _ _ _=>ln2 (λ_ _=>by rfl)
 obtain⟨⟨adf,X7⟩,q29⟩:=Xg
 have k29:=X7.kp
 have b29:=X7.binds (ps:=["self","frame","part"]) λ_ _ _ _ _ _=>wB (λ_ _ _=>by rfl)
 obtain⟨⟨adj,X8⟩,q30⟩:=Xh
 have k30:=X8.kp
 have b30:=X8.binds (ps:=["self","frame"]) λ_ _ _ _ _ _=>ln2 (λ_ _=>by rfl)
 obtain⟨⟨adn,X9⟩,q31⟩:=Xi
 have k31:=X9.kp
 have b31:=X9.binds (ps:=["self","stack","row"]) λ_ _ _ _ _ _=>wB (λ_ _ _=>by rfl)
 obtain⟨⟨ads,Yb⟩,q32⟩:=Xj
 have k32:=Yb.kp
 have b32:=Yb.binds (ps:=["self","frame","row"]) λ_ _ _ _ _ _=>wB (λ_ _ _=>by rfl)
 obtain⟨⟨adw,Yc⟩,q34⟩:=Xk
 have k34:=Yc.kp
 have b34:=Yc.binds (ps:=["self","record"]) λ_ _ _ _ _ _=>ln2 (λ_ _=>by rfl)
 obtain⟨f35,adA,a35,Yd⟩:=Xl
 have k35:=Yd.kp
 have b35:=Yd.binds (ps:=["makes","c"]) λ_ _ _ _ _ _=>ln2 (λ_ _=>by rfl)
 obtain⟨⟨adE,Ye⟩,q37⟩:=Xm
 have k37:=Ye.kp
 have b37:=Ye.binds (ps:=["self","c"]) λ_ _ _ _ _ _=>ln2 (λ_ _=>by rfl)
 obtain⟨f38,adI,a38,Yg⟩:=Xn
 have k38:=Yg.kp
 have b38:=Yg.binds (ps:=["some","spot","thing"]) λ_ _ _ _ _ _=>wB (λ_ _ _=>by rfl)
 obtain⟨⟨adM,Yh⟩,q40⟩:=Xo
 have k40:=Yh.kp
 have b40:=Yh.binds (ps:=["self","record","f","value"]) λ_ _ _ _ _ _=>Qx (λ_ _ _ _=>by rfl)
 obtain⟨⟨adQ,Yi⟩,q41⟩:=Xp
 have k41:=Yi.kp
 have b41:=Yi.binds (ps:=["self","stack","row"]) λ_ _ _ _ _ _=>wB (λ_ _ _=>by rfl)
 obtain⟨f42,adU,a42,Yj⟩:=Xq
 have k42:=Yj.kp
 have b42:=Yj.binds (ps:=["number"]) λ_ _ _ _ _ _=>KA (λ_=>by rfl)
 obtain⟨f43,adY,a43,Yk⟩:=Xr
 have k43:=Yk.kp
 have b43:=Yk.binds (ps:=["sign","one","other"]) λ_ _ _ _ _ _=>wB (λ_ _ _=>by rfl)
 obtain⟨f44,ad2,a44,Yl⟩:=Xs
 have k44:=Yl.kp
 have b44:=Yl.binds (ps:=["sign","one","other"]) λ_ _ _ _ _ _=>wB (λ_ _ _=>by rfl)
 obtain⟨⟨ad6,Ym⟩,q45⟩:=Xu
 have k45:=Ym.kp
 have b45:=Ym.binds (ps:=["self","frame","sign"]) λ_ _ _ _ _ _=>wB (λ_ _ _=>by rfl)
 obtain⟨⟨aea,Yn⟩,q46⟩:=Xv
 have k46:=Yn.kp
 have b46:=Yn.binds (ps:=["self","frame","row"]) λ_ _ _ _ _ _=>wB (λ_ _ _=>by rfl)
 obtain⟨⟨aee,Yo⟩,q47⟩:=Xw
 have k47:=Yo.kp
 have b47:=Yo.binds (ps:=["self","frame","row"]) λ_ _ _ _ _ _=>wB (λ_ _ _=>by rfl)
 obtain⟨f49,aei,a49,Yp⟩:=Xx
 have k49:=Yp.kp
 have b49:=Yp.binds (ps:=["makes","c"]) λ_ _ _ _ _ _=>ln2 (λ_ _=>by rfl)
 obtain⟨f50,aem,a50,Yq⟩:=Xy
 have k50:=Yq.kp
 have b50:=Yq.binds (ps:=["makes","row"]) λ_ _ _ _ _ _=>ln2 (λ_ _=>by rfl)
 obtain⟨f51,aeq,a51,Yr⟩:=Xz
 have k51:=Yr.kp
 have b51:=Yr.binds (ps:=["book","part","row"]) λ_ _ _ _ _ _=>wB (λ_ _ _=>by rfl)
 obtain⟨f52,aeu,a52,Ys⟩:=XA
 have k52:=Ys.kp
 have b52:=Ys.binds (ps:=["row"]) λ_ _ _ _ _ _=>KA (λ_=>by rfl)
 obtain⟨⟨aey,Yt⟩,q53⟩:=XB
 have k53:=Yt.kp
 have b53:=Yt.binds (ps:=["self","frame","row"]) λ_ _ _ _ _ _=>wB (λ_ _ _=>by rfl)
 obtain⟨⟨aeC,Yu⟩,q54⟩:=XC
 have k54:=Yu.kp
 have b54:=Yu.binds (ps:=["self"]) λ_ _ _ _ _ _=>KA (λ_=>by rfl)
 obtain⟨⟨aeG,Yv⟩,q55⟩:=XE
 have k55:=Yv.kp
 have b55:=Yv.binds (ps:=["self"]) λ_ _ _ _ _ _=>KA (λ_=>by rfl)
 obtain⟨f56,aeK,a56,Yw⟩:=XF
 have k56:=Yw.kp
 have b56:=Yw.binds (ps:=["takes","gives"]) λ_ _ _ _ _ _=>ln2 (λ_ _=>by rfl)
 obtain⟨f57,aeO,a57,Yx⟩:=XG
 have k57:=Yx.kp
 have b57:=Yx.binds (ps:=["parts","part","inputs"]) λ_ _ _ _ _ _=>wB (λ_ _ _=>by rfl)
 obtain⟨f58,aeS,a58,Yy⟩:=XH
 have k58:=Yy.kp
 have b58:=Yy.binds (ps:=["book"]) λ_ _ _ _ _ _=>KA (λ_=>by rfl)
 obtain⟨⟨aeW,Yz⟩,q59⟩:=XI
 have k59:=Yz.kp
 have b59:=Yz.binds (ps:=["self","book","part","inputs","budget"]) λ_ _ _ _ _ _=>Z7 (λ_ _ _ _ _=>by rfl)
 have F60:=B3 (st:=qz) XM XN XO
 have UE:=PySem.W.mg_none_of X G A1
 have y_bool:=PySem.W.mg_none_of X G vQ
 have zC:=PySem.W.mg_none_of X G dG
 have fE:=PySem.W.mg_none_of X G bq
 have sL:=PySem.W.mg_none_of X G cH
 have UG:=PySem.W.mg_none_of X G Az
 have oh:=PySem.W.mg_none_of X G cm
 have Ni:=PySem.W.mg_none_of X G qN
 have O9:=PySem.W.mg_none_of X G vO
 have Q5:=PySem.W.mg_of X G sE
 have xk:=PySem.W.mg_of X G dZ
 have CJ:=PySem.W.mg_of X G iL
 have Q6:=PySem.W.mg_of X G v5
 have Ic:=PySem.W.mg_of X G jy
 have Nj:=PySem.W.mg_of X G qZ
 have Q7:=PySem.W.mg_of X G v9
 have zD:=PySem.W.mg_of X G fh
 have Bd:=PySem.W.mg_of X G gp
 have Nk:=PySem.W.mg_of X G wg
 have ak:Mine.ak K aa:=⟨⟨wj,wk,wm,wo⟩,jm,mX,iN,iO⟩
 have EG:=PySem.W.mg_of X G pX
 have ar:Mine.bp K ai:=⟨⟨pY,pZ,p6,p7⟩,gF,gH,eF,gI,gJ,iP⟩
 have Ie:Ky K w cq bu:=GN (ent:=[("push",wb,.ref pU),("load",wc,.ref pV),("store",wd,.ref md),("dup",tD,.ref mf),("swap",tF,.ref mj),("drop",tI,.ref mn),("add",tK,.ref mv),("sub",tN,.ref mB),("mul",tQ,.ref mE),("div",tU,.ref mH),("rem",tX,.ref mK),("less",t4,.ref mN),("same",t8,.ref mQ),("jump",ub,.ref mR),("zero",rh,.ref j6),("kin",rm,.ref j8),("make",rz,.ref j9),("toss",rA,.ref kc),("say",rC,.ref kf)]) kg kh (show(["push","load","store","dup","swap","drop","add","sub","mul","div","rem","less","same","jump","zero","kin","make","toss","say"]:List Str).Nodup by decide +kernel) (.cons ⟨rfl,(aG (its:=[]) qb (show 0<=sizeLine by decide) .nil)⟩ (.cons ⟨rfl,(aG (its:=[]) qa (show 0<=sizeLine by decide) .nil)⟩ (.cons ⟨rfl,(aG (its:=[.ref pW]) nP (show 1<=sizeLine by decide) (.cons (aG (its:=[.str "any" we]) nQ (show 1<=sizeLine by decide) (.cons aO .nil)) .nil))⟩ (.cons ⟨rfl,(aG (its:=[.ref me]) nM (show 1<=sizeLine by decide) (.cons (aG (its:=[.str "any" tE]) nO (show 1<=sizeLine by decide) (.cons aO .nil)) .nil))⟩ (.cons ⟨rfl,(aG (its:=[.ref mh,.ref mi]) nI (show 2<=sizeLine by decide) (.cons (aG (its:=[.str "any" tG]) nK (show 1<=sizeLine by decide) (.cons aO .nil)) (.cons (aG (its:=[.str "any" tH]) nJ (show 1<=sizeLine by decide) (.cons aO .nil)) .nil)))⟩ (.cons ⟨rfl,(aG (its:=[.ref ml]) nG (show 1<=sizeLine by decide) (.cons (aG (its:=[.str "any" tJ]) nH (show 1<=sizeLine by decide) (.cons aO .nil)) .nil))⟩ (.cons ⟨rfl,(aG (its:=[.ref mq,.ref mr]) nC (show 2<=sizeLine by decide) (.cons (aG (its:=[.str "number" tL]) nF (show 1<=sizeLine by decide) (.cons aO .nil)) (.cons (aG (its:=[.str "number" tM]) nE (show 1<=sizeLine by decide) (.cons aO .nil)) .nil)))⟩ (.cons ⟨rfl,(aG (its:=[.ref mw,.ref mx]) nz (show 2<=sizeLine by decide) (.cons (aG (its:=[.str "number" tO]) nB (show 1<=sizeLine by decide) (.cons aO .nil)) (.cons (aG (its:=[.str "number" tP]) nA (show 1<=sizeLine by decide) (.cons aO .nil)) .nil)))⟩ (.cons ⟨rfl,(aG (its:=[.ref mC,.ref mD]) nq (show 2<=sizeLine by decide) (.cons (aG (its:=[.str "number" tS]) ny (show 1<=sizeLine by decide) (.cons aO .nil)) (.cons (aG (its:=[.str "number" tT]) nv (show 1<=sizeLine by decide) (.cons aO .nil)) .nil)))⟩ (.cons ⟨rfl,(aG (its:=[.ref mF,.ref mG]) ni (show 2<=sizeLine by decide) (.cons (aG (its:=[.str "number" tV]) nk (show 1<=sizeLine by decide) (.cons aO .nil)) (.cons (aG (its:=[.str "number" tW]) nj (show 1<=sizeLine by decide) (.cons aO .nil)) .nil)))⟩ (.cons ⟨rfl,(aG (its:=[.ref mI,.ref mJ]) m9 (show 2<=sizeLine by decide) (.cons (aG (its:=[.str "number" tY]) nh (show 1<=sizeLine by decide) (.cons aO .nil)) (.cons (aG (its:=[.str "number" tZ]) nc (show 1<=sizeLine by decide) (.cons aO .nil)) .nil)))⟩ (.cons ⟨rfl,(aG (its:=[.ref mL,.ref mM]) m6 (show 2<=sizeLine by decide) (.cons (aG (its:=[.str "number" t6]) m8 (show 1<=sizeLine by decide) (.cons aO .nil)) (.cons (aG (its:=[.str "number" t7]) m7 (show 1<=sizeLine by decide) (.cons aO .nil)) .nil)))⟩ (.cons ⟨rfl,(aG (its:=[.ref mO,.ref mP]) mZ (show 2<=sizeLine by decide) (.cons (aG (its:=[.str "number" t9]) m5 (show 1<=sizeLine by decide) (.cons aO .nil)) (.cons (aG (its:=[.str "number" ua]) m3 (show 1<=sizeLine by decide) (.cons aO .nil)) .nil)))⟩ (.cons ⟨rfl,(aG (its:=[]) mY (show 0<=sizeLine by decide) .nil)⟩ (.cons ⟨rfl,(aG (its:=[.ref j5]) ku (show 1<=sizeLine by decide) (.cons (aG (its:=[.str "number" rj]) ky (show 1<=sizeLine by decide) (.cons aO .nil)) .nil))⟩ (.cons ⟨rfl,(aG (its:=[.ref j7]) kq (show 1<=sizeLine by decide) (.cons (aG (its:=[.str "whole" rn,.int 0 rq]) kr (show 2<=sizeLine by decide) (.cons aO (.cons eT .nil))) .nil))⟩ (.cons ⟨rfl,(aG (its:=[]) ko (show 0<=sizeLine by decide) .nil)⟩ (.cons ⟨rfl,(aG (its:=[.ref kb]) kl (show 1<=sizeLine by decide) (.cons (aG (its:=[.str "number" rB]) km (show 1<=sizeLine by decide) (.cons aO .nil)) .nil))⟩ (.cons ⟨rfl,(aG (its:=[.ref ke]) ki (show 1<=sizeLine by decide) (.cons (aG (its:=[.str "number" rD]) kj (show 1<=sizeLine by decide) (.cons aO .nil)) .nil))⟩ .nil)))))))))))))))))))
 have Nl:∀H:Hp,aS K H (.ref sH) An:=yr (aG (its:=[.str "jump" xS,.str "zero" xT,.str "kin" xU]) og (show 3<=sizeLine by decide) (.cons aO (.cons aO (.cons aO .nil))))
 have Q8:Ky K w j4 nY:=GN (ent:=[("store",A3,.int 0 A4),("dup",A5,.int 2 A6),("swap",A7,.int 2 A8),("drop",A9,.int 0 Ba),("jump",Bb,.int 0 xV),("zero",xW,.int 0 xX),("put",xY,.int 0 xZ),("toss",x9,.int 0 ya),("say",yb,.int 0 yc),("give",yd,.int 0 ye)]) sI sJ (show(["store","dup","swap","drop","jump","zero","put","toss","say","give"]:List Str).Nodup by decide +kernel) (.cons ⟨rfl,eT⟩ (.cons ⟨rfl,eT⟩ (.cons ⟨rfl,eT⟩ (.cons ⟨rfl,eT⟩ (.cons ⟨rfl,eT⟩ (.cons ⟨rfl,eT⟩ (.cons ⟨rfl,eT⟩ (.cons ⟨rfl,eT⟩ (.cons ⟨rfl,eT⟩ (.cons ⟨rfl,eT⟩ .nil))))))))))
 have zE:∀H:Hp,aS K H (.ref iM) oB:=yr (aG (its:=[.str "make" mS,.str "fill" mT,.str "begin" mU,.str "get" mV,.str "put" mW]) fz (show 5<=sizeLine by decide) (.cons aO (.cons aO (.cons aO (.cons aO (.cons aO .nil))))))
 have Be:∀H:Hp,aS K H (.ref jl) qA:=yr (aG (its:=[.str "add" oH,.str "sub" oJ,.str "mul" oK,.str "div" oM,.str "rem" oN,.str "less" oO,.str "same" oP]) fZ (show 7<=sizeLine by decide) (.cons aO (.cons aO (.cons aO (.cons aO (.cons aO (.cons aO (.cons aO .nil))))))))
 refine⟨PySem.W.fnOf "law" "law" (dA qz) (dB qz) (dS qz) .none UA UB UC Uz Q4 UD,λs v=>.of_eq rfl,λbase _ _=>?_⟩
 have nR:cX l.prog w K mg base aL "_law_cell" 1 ["_law_script","_law_k"] (eN K):=⟨_,_,zi F0 fE ak,b0,k0,PySem.W.mg_of X G a0⟩
 have gq:cX l.prog w K mg base aL "_law_many" 1 ["_law_makes_here","_law_c"] (cJ K):=⟨_,_,zj F1 fE ak,b1,k1,PySem.W.mg_of X G a1⟩
 have Bf:cX l.prog w K mg base aL "_law_free" 2 ["_law_makes_here","_law_cell_here"] (iY K):=⟨_,_,zk F2 fE ak gq,b2,k2,PySem.W.mg_of X G a2⟩
 have zF:cX l.prog w K mg base aL "_law_grown" 1 ["_law_old","_law_new"] (gY K):=⟨_,_,wV F3 fE O9 ak,b3,k3,PySem.W.mg_of X G a3⟩
 have zG:cX l.prog w K mg base aL "_law_makes" 2 ["_law_script","_law_at"] (gZ K):=⟨_,_,wW F4 fE UG oh ak nR gq,b4,k4,PySem.W.mg_of X G a4⟩
 have xm:cX l.prog w K mg base aL "_law_recipe" 2 ["_law_makes_here","_law_cell_here","_law_k"] (fV K):=⟨_,_,vP F5 fE oh ak gq,b5,k5,PySem.W.mg_of X G a5⟩
 have zH:cX l.prog w K mg base aL "_law_sound" 2 ["_law_makes_here","_law_heap"] (g7 K):=⟨_,_,wX F6 y_bool zC fE oh Ni ak gq qP lU,b6,k6,PySem.W.mg_of X G a6⟩
 have zI:cX l.prog w K mg base aL "_law_kinds" 2 ["_law_script","_law_makes_here","_law_heap","_law_k"] (g8 K):=⟨_,_,wY F7 ak nR gq,b7,k7,PySem.W.mg_of X G a7⟩
 have uc:cX l.prog w K mg base aL "elders_of" 1 ["makes","c"] (hJ K):=⟨_,_,zl F8 ak,b8,k8,PySem.W.mg_of X G a8⟩
 have wx:cX l.prog w K mg base aL "is_under" 2 ["makes","c","other"] (iZ K):=⟨_,_,AF F9 ak uc,b9,k9,PySem.W.mg_of X G a9⟩
 have rE:cX l.prog w K mg base aL "record_has_kind" 3 ["makes","record","kind"] (eE K):=⟨_,_,pM XQ ak wx,b10,WT,PySem.W.mg_of X G a10⟩
 have wy:cX l.prog w K mg base aL "has_kind" 4 ["makes","heap","value","kind"] (gm K):=⟨_,_,AJ XR ak rE,b11,k11,PySem.W.mg_of X G a11⟩
 have zJ:cX l.prog w K mg base aL "_law_stays" 5 ["_law_script","_law_makes_here","_law_old","_law_new"] (hZ K):=⟨_,_,wZ XS fE oh ak zI wy,b12,k12,PySem.W.mg_of X G a12⟩
 have uw:bF l.prog w K mg base aL ai "heap" 1 ["self"] (uM K aa ai true):=⟨⟨_,_,w8 XT (C:=ai) (wt:=true) sL ak ar,b13,⟨gK,q13,k13⟩⟩,ar.cl⟩
 have bZ:bF l.prog w K mg base aL ai "bare" 1 ["self","value"] (i4 K true):=⟨⟨_,_,uo XU (C:=ai) ak ar,b15,⟨gL,q15,k15⟩⟩,ar.cl⟩
 have zK:cX l.prog w K mg base aL "taken" 1 ["stack","many"] (lN K):=⟨_,_,HU XW oh ak,b16,k16,PySem.W.mg_of X G a16⟩
 have Ig:Ea l.prog w K mg base aL aa "Frame" 1 ["self","part","boxes"] (jd K aa):=⟨⟨_,_,qS XX ak,b17,⟨wq,fk,q17,wu⟩,Nk⟩⟩
 have EH:cX l.prog w K mg base aL "started" 3 ["parts","part","values","nothing"] (pC K aa):=⟨_,_,Cr XY fE ak Ig,b18,k18,PySem.W.mg_of X G a18⟩
 have qc:bF l.prog w K mg base aL ai "nothing" 1 ["self"] (pD K true):=⟨⟨_,_,pQ XZ (C:=ai) ak ar,b20,⟨eG,q20,k20⟩⟩,ar.cl⟩
 have gr:bF l.prog w K mg base aL ai "add_frame" 4 ["self","part","values"] (ia K aa ai true):=⟨⟨_,_,pS X0 (C:=ai) (wt:=true) ak ar EH qc,b21,⟨dz,q21,k21⟩⟩,ar.cl⟩
 have EI:cX l.prog w K mg base aL "catcher" 1 ["stretches","at"] (pE K):=⟨_,_,Ct X1 ak,b22,k22,PySem.W.mg_of X G a22⟩
 have Bg:cX l.prog w K mg base aL "caught_at" 2 ["parts","live"] (jW K aa):=⟨_,_,zo X2 fE ak EI,b23,k23,PySem.W.mg_of X G a23⟩
 have jz:bF l.prog w K mg base aL ai "spend" 1 ["self"] (qJ K aa ai true):=⟨⟨_,_,vT X3 (C:=ai) (wt:=true) ak ar,b24,⟨fR,q24,k24⟩⟩,ar.cl⟩
 have jA:bF l.prog w K mg base aL ai "go_on" 2 ["self","frame","at"] (qL K aa ai true):=⟨⟨_,_,vV X4 (C:=ai) (wt:=true) ak ar jz,b25,⟨fS,q25,k25⟩⟩,ar.cl⟩
 have cv:bF l.prog w K mg base aL ai "tagged" 1 ["self","tag","number"] (fO K true):=⟨⟨_,_,qV X5 (C:=ai) ak ar,b27,⟨fq,q27,k27⟩⟩,ar.cl⟩
 have jB:bF l.prog w K mg base aL ai "fault" 3 ["self","number"] (qM K aa ai true):=⟨⟨_,_,vX X6 (C:=ai) (wt:=true) ak ar Bg jA cv,b28,⟨fT,q28,k28⟩⟩,ar.cl⟩
 have qd:bF l.prog w K mg base aL ai "do_call" 5 ["self","frame","part"] (pF K aa ai true):=⟨⟨_,_,sC X7 (C:=ai) (wt:=true) fE xk ⟨_,rfl⟩ CJ ⟨_,rfl⟩ ak ar zK gr jB jz,b29,⟨eI,q29,k29⟩⟩,ar.cl⟩
 have qe:bF l.prog w K mg base aL ai "do_give" 2 ["self","frame"] (pG K aa ai true):=⟨⟨_,_,sD X8 (C:=ai) (wt:=true) fE ak ar bZ,b30,⟨eJ,q30,k30⟩⟩,ar.cl⟩
 have ux:bF l.prog w K mg base aL ai "goes" 3 ["self","stack","row"] (zg K aa ai true):=⟨⟨_,_,xa X9 (C:=ai) (wt:=true) ak ar wx bZ,b31,⟨gM,q31,k31⟩⟩,ar.cl⟩
 have oq:bF l.prog w K mg base aL ai "do_going" 4 ["self","frame","row"] (lP K aa ai true):=⟨⟨_,_,qY Yb (C:=ai) (wt:=true) ak ar jA ux,b32,⟨dN,q32,k32⟩⟩,ar.cl⟩
 have ou:bF l.prog w K mg base aL ai "as_begun" 1 ["self","record"] (lQ K true):=⟨⟨_,_,om Yc (C:=ai) ak ar,b34,⟨dO,q34,k34⟩⟩,ar.cl⟩
 have nS:cX l.prog w K mg base aL "fields_of" 2 ["makes","c"] (fc K):=⟨_,_,zp Yd sL ak uc,b35,k35,PySem.W.mg_of X G a35⟩
 have kM:bF l.prog w K mg base aL ai "new_record" 3 ["self","c"] (je K aa ai true):=⟨⟨_,_,kI Ye (C:=ai) fE ak ar nS,b37,⟨c0,q37,k37⟩⟩,ar.cl⟩
 have CK:cX l.prog w K mg base aL "replaced" 1 ["some","spot","thing"] (lR K):=⟨_,_,AR Yg ak,b38,k38,PySem.W.mg_of X G a38⟩
 have kN:bF l.prog w K mg base aL ai "with_field" 2 ["self","record","f","value"] (jf K true):=⟨⟨_,_,kK Yh (C:=ai) ak ar CK,b40,⟨c8,q40,k40⟩⟩,ar.cl⟩
 have jn:bF l.prog w K mg base aL ai "do_of_records" 4 ["self","stack","row"] (fP K aa ai true):=⟨⟨_,_,j3 Yi (C:=ai) (wt:=true) fE ak ar ou bZ kM cv kN,b41,⟨cy,q41,k41⟩⟩,ar.cl⟩
 have yf:cX l.prog w K mg base aL "wrapped" 1 ["number"] (jX K):=⟨_,_,Cy Yj Q5 ⟨_,rfl⟩ Q6 ⟨_,rfl⟩ ak,b42,k42,PySem.W.mg_of X G a42⟩
 have EJ:cX l.prog w K mg base aL "divided" 2 ["sign","one","other"] (pH K):=⟨_,_,CA Yk ak yf,b43,k43,PySem.W.mg_of X G a43⟩
 have CL:cX l.prog w K mg base aL "reckoned" 3 ["sign","one","other"] (lS K):=⟨_,_,AW Yl ak EJ yf,b44,k44,PySem.W.mg_of X G a44⟩
 have jC:bF l.prog w K mg base aL ai "do_reckoning" 4 ["self","frame","sign"] (gE K aa ai true):=⟨⟨_,_,kL Ym (C:=ai) (wt:=true) ak ar CL zK bZ cv,b45,⟨cI,q45,k45⟩⟩,ar.cl⟩
 have kz:bF l.prog w K mg base aL ai "do_straight" 2 ["self","frame","row"] (iJ K aa ai true):=⟨⟨_,_,lX Yn (C:=ai) (wt:=true) ak ar zK bZ cv,b46,⟨cO,q46,k46⟩⟩,ar.cl⟩
 have rF:bF l.prog w K mg base aL ai "do_row" 6 ["self","frame","row"] (sj K aa ai true):=⟨⟨_,_,uq Yo (C:=ai) (wt:=true) Nj Nl ⟨_,og,rfl,rfl⟩ zD zE ⟨_,fz,rfl,rfl⟩ Bd Be ⟨_,fZ,rfl,rfl⟩ ak ar bZ qd qe oq jn jC kz jB,b47,⟨fv,q47,k47⟩⟩,ar.cl⟩
 have Bh:cX l.prog w K mg base aL "full_mask" 3 ["makes","c"] (jY K):=⟨_,_,zv Yp fE ak nS,b49,k49,PySem.W.mg_of X G a49⟩
 have qf:cX l.prog w K mg base aL "asked_of_records" 4 ["makes","row"] (dM K):=⟨_,_,oo Yq ak nS Bh,b50,k50,PySem.W.mg_of X G a50⟩
 have Nm:cX l.prog w K mg base aL "asked" 5 ["book","part","row"] (vN K):=⟨_,_,HY Yr sL Ic Ie ak qf,b51,k51,PySem.W.mg_of X G a51⟩
 have Ih:cX l.prog w K mg base aL "leaves" 1 ["row"] (su K):=⟨_,_,Ez Ys Q7 Q8 ak,b52,k52,PySem.W.mg_of X G a52⟩
 have rG:bF l.prog w K mg base aL ai "looked" 6 ["self","frame","row"] (sq K aa ai true):=⟨⟨_,_,ra Yt (C:=ai) fE O9 ak ar Nm wy Ih,b53,⟨fw,q53,k53⟩⟩,ar.cl⟩
 have uy:bF l.prog w K mg base aL ai "step" 7 ["self"] (uO K aa ai true):=⟨⟨_,_,xf Yu (C:=ai) (wt:=true) ak ar rF rG,b54,⟨gO,q54,k54⟩⟩,ar.cl⟩
 have uz:bF l.prog w K mg base aL ai "told" 1 ["self"] (uP K aa ai true):=⟨⟨_,_,xh Yv (C:=ai) (wt:=true) sL ak ar,b55,⟨gP,q55,k55⟩⟩,ar.cl⟩
 have EK:cX l.prog w K mg base aL "is_door" 1 ["takes","gives"] (pJ K):=⟨_,_,CH Yw UE ak,b56,k56,PySem.W.mg_of X G a56⟩
 have zL:cX l.prog w K mg base aL "check_door" 2 ["parts","part","inputs"] (jg K):=⟨_,_,xi Yx fE ak EK,b57,k57,PySem.W.mg_of X G a57⟩
 have Ii:cX l.prog w K mg base aL "copied" 1 ["book"] (sy K):=⟨_,_,EE Yy sL ak,b58,k58,PySem.W.mg_of X G a58⟩
 have CM:Ea l.prog w K mg base aL ai "Watched" 5 ["self","book","part","inputs","budget"] (fW K aa ai true):=⟨⟨_,_,rf Yz (C:=ai) (wt:=true) ak ar zL Ii gr cv,b59,⟨p8,dP,q59,p9⟩,EG⟩⟩
 exact Q3 (P:=l.prog) (w:=w) (base:=base) F60 fE sL oh ak nR Bf zF zG xm zH zJ uw uy uz CM
theorem walk{l:PySem.W.OpenLaw}{q:Program}{loose:List Str}{XP:(Str->Option Value)->Heap->Prop}{YP:World->Heap->Prop}{d:DefRec}{K:Params->av}(hn:l.most=some 63)(hdf:d.params.defaults=[])
  (hY:∀(w:World) (h:Heap),YP w h->(K w.params).In h)
  (F:∀(w:World) (mg:Str->Option Value) (fa:Addr) (h:Heap),(K w.params).In h->h.Ns mainGlobals mg->mg d.name=some (.ref fa) ->
   ∃fd:FuncData,(∀(s:Shared) (u:Value),BindsTo s fd ⟨[u],[]⟩ [("_law_script",u)])/\∀base:Heap,(K w.params).In base->base.Ns mainGlobals mg->bw l.prog w (K w.params) mg base aL 8 fa fd ["_law_script"] (zh (K w.params))) :
  PySem.W.WalkO q loose XP YP l.row.toRowW d [] (λf vs=>PySem.call f vs) :=
 L2.LM (n:=63) (k:=8) (x:="_law_script") (CX:=λ_=>aL) (sp:=λw=>zh (K w.params)) hn (by decide) hdf ⟨rfl,by decide,by decide,rfl⟩ hY F (λ_ _ a ns hl _ hS=>⟨a,ns,rfl,hS,hl,λ_=>rfl⟩) λ_ _ _ _ _ z=>z
end Mine
noncomputable section
namespace MH
open PySem PySem.W L2 Mine
abbrev OF:=Program->Params->Obj
abbrev TF:=Program->Params->BT
abbrev r(a:Nat):Value:=.ref a
abbrev s(x:Str)(t:Tok):Value:=.str x t
abbrev i(n:Int):Value:=.int n 0
abbrev cF:Str:="/claim/cut.py"
def de(P:Params)(x:Str)(t:Tok)(v:Value):DictEntry:=⟨PyData.keyHash P x,.str x t,v⟩
abbrev fn(a b:Str)(e:Stmt)(dV kV doc pm:Value)(an:Option Addr)(cd ct:Value):FuncData:=PySem.W.fnOf a b (dA e) (dB e) (dS e) dV kV doc pm an cd ct
abbrev fx(g u:Nat)(a b:Str)(e:Stmt)(dV kV doc pm:Value)(an:Option Addr)(cd ct:Value):FuncData:=⟨a,b,dA e,.stmts (dB e),dS e,g,[],dV,kV,doc,pm,an,cd,ct,u⟩
abbrev tu(l:List Value):Obj:=⟨.type "tuple",none,.seq l.toArray 0,#[]⟩
abbrev nf(l:List Value):Obj:=⟨.none,none,.fields l.toArray,#[]⟩
abbrev co(l:List Value):Obj:=⟨.type "code",none,.fields l.toArray,#[]⟩
abbrev fm(l:List (Option Value)):Obj:=⟨.type "frame",none,.plain,l.toArray⟩
abbrev di(l:List DictEntry)(n:Nat):Obj:=⟨.type "dict",none,.dict l.toArray n,#[]⟩
abbrev fo(f:FuncData):Obj:=⟨.type "function",none,.func f,#[]⟩
abbrev no(f:FuncData):Obj:=⟨.none,none,.func f,#[]⟩
abbrev bn(o:Obj)(l r:BT):BT:=.node o l r
abbrev bl(o:Obj):BT:=.node o .nil .nil
abbrev ae(o:OF)(l r:TF):TF:=λp P=>.node (o p P) (l p P) (r p P)
abbrev af(o:OF):TF:=λp P=>.node (o p P) .nil .nil
abbrev aA:TF:=λ_ _=>.nil
abbrev f0_(a b:Str)(e:Stmt):FuncData:=fn a b e .none .none .none .none none .none .none
abbrev eK(g u:Nat)(a b:Str)(e:Stmt):FuncData:=fx g u a b e .none .none .none .none none .none .none
abbrev FF:OF:=λ_ P=>boot_o_0 P
abbrev FG:OF:=λ_ P=>boot_o_1 P
abbrev wz:OF:=λ_ P=>boot_o_10 P
abbrev Ij:OF:=λ_ P=>boot_o_2 P
abbrev b3_:OF:=λ_ P=>boot_o_3 P
abbrev Ik:OF:=λ_ P=>boot_o_4 P
abbrev Il:OF:=λ_ P=>boot_o_5 P
abbrev Im:OF:=λ_ P=>boot_o_6 P
abbrev Io:OF:=λ_ P=>boot_o_7 P
abbrev Ip:OF:=λ_ P=>boot_o_8 P
abbrev Iq:OF:=λ_ P=>boot_o_9 P
abbrev pw:Program:=PySem.Challenge.pw_stackwarden_k32_records_only_come
def ox(p:Program):Env:={scope:=p.main.scope,locals:=mainNs,globals:=mainNs,cells:=[],code:=(.ref 13),frame:=some 14}
def bT(p:Program):Code:=.body (behindTheImports p) (ox p)
abbrev BF:List Frame:=[topFrame ⟨0,0,0,0⟩]
def dC(p:Program)(i n:Nat):List Stmt:=((behindTheImports p).drop i).take n
def cw(p:Program):Program:={p with main:={p.main with body:=[tf p 0,tf p 2,tf p 3,tf p 4,tf p 5,tf p 7,tf p 8,tf p 10,tf p 11,tf p 12,tf p 13,tf p 14,tf p 15,tf p 17,tf p 18,tf p 19,tf p 21,tf p 22,tf p 23,tf p 24,tf p 25,tf p 26,tf p 27,tf p 28,tf p 30,tf p 32,tf p 33,tf p 35,tf p 36,tf p 37,tf p 38,tf p 39,tf p 41,tf p 43,tf p 44,tf p 45,tf p 47,tf p 49,tf p 50,tf p 51,tf p 52,tf p 53,tf p 54,tf p 55,tf p 56,tf p 57,tf p 58]}}
abbrev ST(t:BT)(n k:Nat)(os:OsState):SharedT:=⟨t,n,{},Array.mk [],{},k,os⟩
abbrev SH(h:Heap)(k:Nat)(os:OsState):Shared:=⟨h,Array.mk [],{},k,os⟩
local macro_rules | `(tactic| walk_at "qk")=>`(tactic| ((try rewrite [Fast.te14364793385576792824]); (try rewrite [Fast.te10110043849684766642]); (try rewrite [Fast.te14374325043358763698]); (try rewrite [Fast.te15667345088766844465]); (try rewrite [Fast.te14082659384304107361]); (try rewrite [Fast.te11892475500146522536]); (try rewrite [Fast.te5160383126252970620]); (try rewrite [Fast.te3399658132070893891]); (try rewrite [Fast.te5991557255702980513]); (try rewrite [Fast.te10880121769531294198]); (try rewrite [Fast.te821141287760084731]); (try rewrite [Fast.te7409074990110511671]); (try rewrite [Fast.te13664370479719496447]); (try rewrite [Fast.te5923862056798008813]); (try rewrite [Fast.te14722251495701143533]); (try rewrite [Fast.te10994771534591457954]); (try rewrite [Fast.te479339242167458305]); (try rewrite [Fast.te16090120013241838585]); (try rewrite [Fast.te3247288618530077131]); (try rewrite [Fast.te2386780881361962483]); (try rewrite [Fast.te11698064438423848299]); (try rewrite [Fast.te7317090234206586261]); (try rewrite [Fast.te7369524293546568484]); (try rewrite [Fast.te8920871248978507458]); (try rewrite [PySem.W.R.mapR_eq]); (try rewrite [Fast.te7908565879759647646]); kernel_rfl))
def o0:OF:=λp P=>tu []
def o1:OF:=λp P=>nf []
def o2:OF:=λp P=>co [(s "<module>" 182),(s "<module>" 183),(s cF 184),(i 1),(i 0),(i 0),(i 0),(i 0),(r 11),(.bool false),(i 181),(r 12),.none,.none,.none,.none,(i 185),(i 1),(s cF 186)]
def o3:OF:=λp P=>fm [(some (r 13)),(some (r 3)),(some (r 3)),none,(some (s "__main__" 164)),none,(some (r 0))]
def H0(p:Program)(P:Params):Heap:=⟨Array.mk [(boot_o_0 P),(boot_o_1 P),(boot_o_2 P),(boot_o_3 P),(boot_o_4 P),(boot_o_5 P),(boot_o_6 P),(boot_o_7 P),(boot_o_8 P),(boot_o_9 P),(boot_o_10 P),(o0 p P),(o1 p P),(o2 p P),(o3 p P)],{}⟩
def o4:OF:=λp P=>di [de P "__name__" 165 (s "stackwarden.asks" 253),de P "__doc__" 166 .none,de P "__package__" 167 .none,de P "__loader__" 168 (.builtin "__main__.__loader__#opaque"),de P "__spec__" 169 .none,de P "__annotations__" 170 (r 6),de P "__builtins__" 171 (r 4),de P "__file__" 173 (s cF 172),de P "__cached__" 174 .none,de P "_wall" 193 (r 21),de P "elders_of" 204 (r 28),de P "fields_of" 214 (r 35),de P "is_under" 223 (r 42),de P "full_mask" 231 (r 49),de P "has_kind" 243 (r 56),de P "record_has_kind" 252 (r 63)] 16
def o5:OF:=λp P=>nf [(i 1),(i 0),(r 20),(i 5),(i 0),(r 27),(i 11),(i 0),(r 34),(i 16),(i 0),(r 41),(i 18),(i 0),(r 48),(i 21),(i 0),(r 55),(i 29),(i 0),(r 62)]
def o6:OF:=λp P=>tu [(s "k" 190)]
def o7:OF:=λp P=>no (eK 0 0 "_wall" "_wall" (tf p 0))
def o8:OF:=λp P=>co [(s "_wall" 187),(s "_wall" 188),(s cF 189),(i 1),(i 1),(i 0),(i 0),(i 3),(r 15),(.bool true),(i 181),(r 16),.none,(r 17),(r 18),(r 19),(i 191),(i 1),(s cF 192)]
def o9:OF:=λp P=>fo (fn "_wall" "_wall" (tf p 0) .none .none .none (s "__main__" 164) none (r 20) .none)
def FH:OF:=λp P=>tu [(s "makes" 199),(s "c" 200),(s "elders" 201)]
def Ir:OF:=λp P=>no (eK 0 0 "elders_of" "elders_of" (tf p 2))
def FI:OF:=λp P=>co [(s "elders_of" 196),(s "elders_of" 197),(s cF 198),(i 5),(i 2),(i 0),(i 0),(i 3),(r 22),(.bool true),(i 181),(r 23),.none,(r 24),(r 25),(r 26),(i 202),(i 5),(s cF 203)]
def FJ:OF:=λp P=>fo (fn "elders_of" "elders_of" (tf p 2) .none .none .none (s "stackwarden.kinds" 194) none (r 27) .none)
def FK:OF:=λp P=>tu [(s "makes" 208),(s "c" 209),(s "fields" 210),(s "elder" 211)]
def Iu:OF:=λp P=>no (eK 0 0 "fields_of" "fields_of" (tf p 3))
def FL:OF:=λp P=>co [(s "fields_of" 205),(s "fields_of" 206),(s cF 207),(i 11),(i 2),(i 0),(i 0),(i 3),(r 29),(.bool true),(i 181),(r 30),.none,(r 31),(r 32),(r 33),(i 212),(i 11),(s cF 213)]
def FN:OF:=λp P=>fo (fn "fields_of" "fields_of" (tf p 3) .none .none .none (s "stackwarden.kinds" 194) none (r 34) .none)
def Iw:OF:=λp P=>tu [(s "makes" 218),(s "c" 219),(s "other" 220)]
def KG:OF:=λp P=>no (eK 0 0 "is_under" "is_under" (tf p 4))
def Iy:OF:=λp P=>co [(s "is_under" 215),(s "is_under" 216),(s cF 217),(i 16),(i 3),(i 0),(i 0),(i 3),(r 36),(.bool true),(i 181),(r 37),.none,(r 38),(r 39),(r 40),(i 221),(i 16),(s cF 222)]
def Iz:OF:=λp P=>fo (fn "is_under" "is_under" (tf p 4) .none .none .none (s "stackwarden.kinds" 194) none (r 41) .none)
def IA:OF:=λp P=>tu [(s "makes" 227),(s "c" 228)]
def KH:OF:=λp P=>no (eK 0 0 "full_mask" "full_mask" (tf p 5))
def IC:OF:=λp P=>co [(s "full_mask" 224),(s "full_mask" 225),(s cF 226),(i 18),(i 2),(i 0),(i 0),(i 3),(r 43),(.bool true),(i 181),(r 44),.none,(r 45),(r 46),(r 47),(i 229),(i 18),(s cF 230)]
def ID:OF:=λp P=>fo (fn "full_mask" "full_mask" (tf p 5) .none .none .none (s "stackwarden.kinds" 194) none (r 48) .none)
def IE:OF:=λp P=>tu [(s "makes" 237),(s "heap" 238),(s "value" 239),(s "kind" 240)]
def KI:OF:=λp P=>no (eK 0 0 "has_kind" "has_kind" (tf p 7))
def IF:OF:=λp P=>co [(s "has_kind" 234),(s "has_kind" 235),(s cF 236),(i 21),(i 4),(i 0),(i 0),(i 3),(r 50),(.bool true),(i 181),(r 51),.none,(r 52),(r 53),(r 54),(i 241),(i 21),(s cF 242)]
def FO:OF:=λp P=>fo (fn "has_kind" "has_kind" (tf p 7) .none .none .none (s "stackwarden.values" 232) none (r 55) .none)
def FP:OF:=λp P=>tu [(s "makes" 247),(s "record" 248),(s "kind" 249)]
def IG:OF:=λp P=>no (eK 0 0 "record_has_kind" "record_has_kind" (tf p 8))
def FQ:OF:=λp P=>co [(s "record_has_kind" 244),(s "record_has_kind" 245),(s cF 246),(i 29),(i 3),(i 0),(i 0),(i 3),(r 57),(.bool true),(i 181),(r 58),.none,(r 59),(r 60),(r 61),(i 250),(i 29),(s cF 251)]
def FR:OF:=λp P=>fo (fn "record_has_kind" "record_has_kind" (tf p 8) .none .none .none (s "stackwarden.values" 232) none (r 62) .none)
def o34:OF:=λp P=>di [de P "__name__" 165 (s "stackwarden.asks" 253),de P "__doc__" 166 .none,de P "__package__" 167 .none,de P "__loader__" 168 (.builtin "__main__.__loader__#opaque"),de P "__spec__" 169 .none,de P "__annotations__" 170 (r 6),de P "__builtins__" 171 (r 4),de P "__file__" 173 (s cF 172),de P "__cached__" 174 .none,de P "_wall" 193 (r 21),de P "elders_of" 204 (r 28),de P "fields_of" 214 (r 35),de P "is_under" 223 (r 42),de P "full_mask" 231 (r 49),de P "has_kind" 243 (r 56),de P "record_has_kind" 252 (r 63),de P "ALWAYS" 317 (r 64)] 17
def IH:OF:=λp P=>di [de P "push" 255 (r 65),de P "load" 257 (r 66),de P "store" 259 (r 68),de P "dup" 262 (r 70),de P "swap" 265 (r 73),de P "drop" 269 (r 75),de P "add" 272 (r 78),de P "sub" 276 (r 81),de P "mul" 280 (r 84),de P "div" 284 (r 87),de P "rem" 288 (r 90),de P "less" 292 (r 93),de P "same" 296 (r 96),de P "jump" 300 (r 97),de P "zero" 302 (r 99),de P "kin" 305 (r 101),de P "make" 309 (r 102),de P "toss" 311 (r 105),de P "say" 313 (r 107)] 19
def II:OF:=λp P=>tu [(s "any" 260)]
def IJ:OF:=λp P=>tu [(r 67)]
def IK:OF:=λp P=>tu [(s "any" 263)]
def KJ:OF:=λp P=>tu [(r 69)]
def KL:OF:=λp P=>tu [(s "any" 266)]
def KN:OF:=λp P=>tu [(s "any" 267)]
def KO:OF:=λp P=>tu [(r 71),(r 72)]
def KP:OF:=λp P=>tu [(s "any" 270)]
def KQ:OF:=λp P=>tu [(r 74)]
def KR:OF:=λp P=>tu [(s "number" 273)]
def KS:OF:=λp P=>tu [(s "number" 274)]
def KU:OF:=λp P=>tu [(r 76),(r 77)]
def KW:OF:=λp P=>tu [(s "number" 277)]
def KY:OF:=λp P=>tu [(s "number" 278)]
def KZ:OF:=λp P=>tu [(r 79),(r 80)]
def K5:OF:=λp P=>tu [(s "number" 281)]
def K6:OF:=λp P=>tu [(s "number" 282)]
def K7:OF:=λp P=>tu [(r 82),(r 83)]
def K9:OF:=λp P=>tu [(s "number" 285)]
def La:OF:=λp P=>tu [(s "number" 286)]
def Lb:OF:=λp P=>tu [(r 85),(r 86)]
def IL:OF:=λp P=>tu [(s "number" 289)]
def IM:OF:=λp P=>tu [(s "number" 290)]
def IP:OF:=λp P=>tu [(r 88),(r 89)]
def IQ:OF:=λp P=>tu [(s "number" 293)]
def IS:OF:=λp P=>tu [(s "number" 294)]
def IT:OF:=λp P=>tu [(r 91),(r 92)]
def IU:OF:=λp P=>tu [(s "number" 297)]
def IV:OF:=λp P=>tu [(s "number" 298)]
def IW:OF:=λp P=>tu [(r 94),(r 95)]
def IX:OF:=λp P=>tu [(s "number" 303)]
def IY:OF:=λp P=>tu [(r 98)]
def IZ:OF:=λp P=>tu [(s "whole" 306),(.int 0 307)]
def I0:OF:=λp P=>tu [(r 100)]
def Nn:OF:=λp P=>di [de P "toss" 311 (r 105),de P "say" 313 (r 107)] 2
def Lc:OF:=λp P=>tu [(s "number" 312)]
def Ld:OF:=λp P=>tu [(r 104)]
def Le:OF:=λp P=>tu [(s "number" 314)]
def Lf:OF:=λp P=>tu [(r 106)]
def o75:OF:=λp P=>di [de P "__name__" 165 (s "stackwarden.errors" 387),de P "__doc__" 166 .none,de P "__package__" 167 .none,de P "__loader__" 168 (.builtin "__main__.__loader__#opaque"),de P "__spec__" 169 .none,de P "__annotations__" 170 (r 6),de P "__builtins__" 171 (r 4),de P "__file__" 173 (s cF 172),de P "__cached__" 174 .none,de P "_wall" 193 (r 21),de P "elders_of" 204 (r 28),de P "fields_of" 214 (r 35),de P "is_under" 223 (r 42),de P "full_mask" 231 (r 49),de P "has_kind" 243 (r 56),de P "record_has_kind" 252 (r 63),de P "ALWAYS" 317 (r 64),de P "LEFT" 348 (r 108),de P "asked" 359 (r 115),de P "asked_of_records" 370 (r 122),de P "leaves" 377 (r 129),de P "catcher" 386 (r 136)] 22
def o76:OF:=λp P=>nf [(i 1),(i 0),(r 20),(i 5),(i 0),(r 27),(i 11),(i 0),(r 34),(i 16),(i 0),(r 41),(i 18),(i 0),(r 48),(i 21),(i 0),(r 55),(i 29),(i 0),(r 62),(i 36),(i 0),(r 114),(i 46),(i 0),(r 121),(i 57),(i 0),(r 128),(i 59),(i 0),(r 135)]
def Np:OF:=λp P=>di [de P "store" 318 (.int 0 319),de P "dup" 320 (.int 2 321),de P "swap" 322 (.int 2 323),de P "drop" 324 (.int 0 325),de P "jump" 326 (.int 0 327),de P "zero" 328 (.int 0 329),de P "put" 330 (.int 0 331),de P "toss" 332 (.int 0 333),de P "say" 334 (.int 0 335),de P "give" 336 (.int 0 337)] 10
def Nq:OF:=λp P=>tu [(s "book" 352),(s "part" 353),(s "row" 354),(s "sign" 355),(s "parts" 356)]
def Pa:OF:=λp P=>no (eK 0 0 "asked" "asked" (tf p 12))
def Nr:OF:=λp P=>co [(s "asked" 349),(s "asked" 350),(s cF 351),(i 36),(i 3),(i 0),(i 0),(i 3),(r 109),(.bool true),(i 181),(r 110),.none,(r 111),(r 112),(r 113),(i 357),(i 36),(s cF 358)]
def Nt:OF:=λp P=>fo (fn "asked" "asked" (tf p 12) .none .none .none (s "stackwarden.asks" 253) none (r 114) .none)
def Pb:OF:=λp P=>tu [(s "makes" 363),(s "row" 364),(s "sign" 365),(s "c" 366),(s "field" 367)]
def Nu:OF:=λp P=>no (eK 0 0 "asked_of_records" "asked_of_records" (tf p 13))
def Lg:OF:=λp P=>co [(s "asked_of_records" 360),(s "asked_of_records" 361),(s cF 362),(i 46),(i 2),(i 0),(i 0),(i 3),(r 116),(.bool true),(i 181),(r 117),.none,(r 118),(r 119),(r 120),(i 368),(i 46),(s cF 369)]
def Lh:OF:=λp P=>fo (fn "asked_of_records" "asked_of_records" (tf p 13) .none .none .none (s "stackwarden.asks" 253) none (r 121) .none)
def Li:OF:=λp P=>tu [(s "row" 374)]
def Nv:OF:=λp P=>no (eK 0 0 "leaves" "leaves" (tf p 14))
def Lj:OF:=λp P=>co [(s "leaves" 371),(s "leaves" 372),(s cF 373),(i 57),(i 1),(i 0),(i 0),(i 3),(r 123),(.bool true),(i 181),(r 124),.none,(r 125),(r 126),(r 127),(i 375),(i 57),(s cF 376)]
def Lk:OF:=λp P=>fo (fn "leaves" "leaves" (tf p 14) .none .none .none (s "stackwarden.asks" 253) none (r 128) .none)
def Ll:OF:=λp P=>tu [(s "stretches" 381),(s "at" 382),(s "stretch" 383)]
def Pc:OF:=λp P=>no (eK 0 0 "catcher" "catcher" (tf p 15))
def Nw:OF:=λp P=>co [(s "catcher" 378),(s "catcher" 379),(s cF 380),(i 59),(i 2),(i 0),(i 0),(i 3),(r 130),(.bool true),(i 181),(r 131),.none,(r 132),(r 133),(r 134),(i 384),(i 59),(s cF 385)]
def Ny:OF:=λp P=>fo (fn "catcher" "catcher" (tf p 15) .none .none .none (s "stackwarden.asks" 253) none (r 135) .none)
def o94:OF:=λp P=>di [de P "__name__" 165 (s "stackwarden.errors" 387),de P "__doc__" 166 .none,de P "__package__" 167 .none,de P "__loader__" 168 (.builtin "__main__.__loader__#opaque"),de P "__spec__" 169 .none,de P "__annotations__" 170 (r 6),de P "__builtins__" 171 (r 4),de P "__file__" 173 (s cF 172),de P "__cached__" 174 .none,de P "_wall" 193 (r 21),de P "elders_of" 204 (r 28),de P "fields_of" 214 (r 35),de P "is_under" 223 (r 42),de P "full_mask" 231 (r 49),de P "has_kind" 243 (r 56),de P "record_has_kind" 252 (r 63),de P "ALWAYS" 317 (r 64),de P "LEFT" 348 (r 108),de P "asked" 359 (r 115),de P "asked_of_records" 370 (r 122),de P "leaves" 377 (r 129),de P "catcher" 386 (r 136),de P "WardenError" 406 (r 146),de P "Nought" 422 (r 159)] 24
def o95:OF:=λp P=>nf [(i 1),(i 0),(r 20),(i 5),(i 0),(r 27),(i 11),(i 0),(r 34),(i 16),(i 0),(r 41),(i 18),(i 0),(r 48),(i 21),(i 0),(r 55),(i 29),(i 0),(r 62),(i 36),(i 0),(r 114),(i 46),(i 0),(r 121),(i 57),(i 0),(r 128),(i 59),(i 0),(r 135),(i 65),(i 0),(r 142),(i 67),(i 0),(r 155)]
def Pd:OF:=λp P=>tu [(.type "ValueError")]
def oi:OF:=λp P=>⟨(.type "builtin_function_or_method"),none,(.fields #[(.builtin "type.__prepare__"),(.type "type")]),#[]⟩
def Q9:OF:=λp P=>di [de P "__module__" 396 (s "stackwarden.errors" 387),de P "__qualname__" 398 (s "WardenError" 397),de P "__firstlineno__" 400 (.int 65 399),de P "__static_attributes__" 401 (r 144)] 4
def Ra:OF:=λp P=>co [(s "WardenError" 391),(s "WardenError" 392),(s cF 393),(i 65),(i 0),(i 0),(i 0),(i 0),(r 140),(.bool false),(i 181),(r 141),.none,.none,.none,.none,(i 394),(i 65),(s cF 395)]
def CN:OF:=λp P=>fm [(some (r 142)),(some (r 3)),(some (r 139)),none,(some (s "stackwarden.errors" 387)),none,(some (r 0))]
def Bi:OF:=λp P=>di [de P "__module__" 396 (s "stackwarden.errors" 387),de P "__firstlineno__" 400 (.int 65 399),de P "__static_attributes__" 401 (r 144),de P "__weakref__" 403 (r 147),de P "__doc__" 404 .none] 3
def YA:OF:=λp P=>⟨(.type "type"),none,(.cls {name:="WardenError",bases:=[(.type "ValueError")],mro:=[(r 146),(.type "ValueError"),(.type "Exception"),(.type "BaseException"),(.type "object")],ns:=145,qualname:="WardenError",subclasses:=[(r 159)]}),#[(some (r 137)),none,(some (s "WardenError" 389)),(some (s "WardenError" 397)),(some (.builtin "ValueError.__new__")),(some (.bool true))]⟩
def Bj:OF:=λp P=>⟨(.type "getset_descriptor"),none,(.fields #[(s "__weakref__" 402),(r 146),(.builtin "ExceptionGroup.__weakref__"),.none]),#[]⟩
def CO:OF:=λp P=>⟨(.type "super"),none,(.fields #[(r 146),(r 146),(r 146)]),#[]⟩
def CP:OF:=λp P=>⟨(.type "builtin_function_or_method"),none,(.fields #[(.builtin "object.__init_subclass__"),(r 146)]),#[]⟩
def oy:OF:=λp P=>tu [(r 146)]
def Bk:OF:=λp P=>di [de P "__module__" 414 (s "stackwarden.errors" 387),de P "__qualname__" 416 (s "Nought" 415),de P "__firstlineno__" 418 (.int 67 417),de P "__static_attributes__" 419 (r 157)] 4
def Bl:OF:=λp P=>co [(s "Nought" 409),(s "Nought" 410),(s cF 411),(i 67),(i 0),(i 0),(i 0),(i 0),(r 153),(.bool false),(i 181),(r 154),.none,.none,.none,.none,(i 412),(i 67),(s cF 413)]
def Bm:OF:=λp P=>fm [(some (r 155)),(some (r 3)),(some (r 152)),none,(some (s "stackwarden.errors" 387)),none,(some (r 0))]
def zM:OF:=λp P=>di [de P "__module__" 414 (s "stackwarden.errors" 387),de P "__firstlineno__" 418 (.int 67 417),de P "__static_attributes__" 419 (r 157),de P "__doc__" 420 .none] 2
def zN:OF:=λp P=>⟨(.type "type"),none,(.cls {name:="Nought",bases:=[(r 146)],mro:=[(r 159),(r 146),(.type "ValueError"),(.type "Exception"),(.type "BaseException"),(.type "object")],ns:=158,qualname:="Nought"}),#[(some (r 150)),none,(some (s "Nought" 407)),(some (s "Nought" 415)),(some (.builtin "ValueError.__new__")),(some (.bool true))]⟩
def Bo:OF:=λp P=>⟨(.type "super"),none,(.fields #[(r 159),(r 159),(r 159)]),#[]⟩
def Bp:OF:=λp P=>⟨(.type "builtin_function_or_method"),none,(.fields #[(.builtin "object.__init_subclass__"),(r 159)]),#[]⟩
def YB:OF:=λp P=>di [de P "__name__" 165 (s "stackwarden.books" 488),de P "__doc__" 166 .none,de P "__package__" 167 .none,de P "__loader__" 168 (.builtin "__main__.__loader__#opaque"),de P "__spec__" 169 .none,de P "__annotations__" 170 (r 6),de P "__builtins__" 171 (r 4),de P "__file__" 173 (s cF 172),de P "__cached__" 174 .none,de P "_wall" 193 (r 21),de P "elders_of" 204 (r 28),de P "fields_of" 214 (r 35),de P "is_under" 223 (r 42),de P "full_mask" 231 (r 49),de P "has_kind" 243 (r 56),de P "record_has_kind" 252 (r 63),de P "ALWAYS" 317 (r 64),de P "LEFT" 348 (r 108),de P "asked" 359 (r 115),de P "asked_of_records" 370 (r 122),de P "leaves" 377 (r 129),de P "catcher" 386 (r 136),de P "WardenError" 406 (r 146),de P "Nought" 422 (r 159),de P "NoDoor" 438 (r 171),de P "HALF" 442 (.int 2147483648 441),de P "TURN" 444 (.int 4294967296 443),de P "wrapped" 451 (r 180),de P "reckoned" 460 (r 187),de P "divided" 469 (r 194),de P "RECKONING" 477 (r 195),de P "OF_RECORDS" 483 (r 196),de P "GOING" 487 (r 197)] 33
def YC:OF:=λp P=>nf [(i 1),(i 0),(r 20),(i 5),(i 0),(r 27),(i 11),(i 0),(r 34),(i 16),(i 0),(r 41),(i 18),(i 0),(r 48),(i 21),(i 0),(r 55),(i 29),(i 0),(r 62),(i 36),(i 0),(r 114),(i 46),(i 0),(r 121),(i 57),(i 0),(r 128),(i 59),(i 0),(r 135),(i 65),(i 0),(r 142),(i 67),(i 0),(r 155),(i 69),(i 0),(r 167),(i 74),(i 0),(r 179),(i 76),(i 0),(r 186),(i 88),(i 0),(r 193)]
def CQ:OF:=λp P=>⟨(.type "type"),none,(.cls {name:="WardenError",bases:=[(.type "ValueError")],mro:=[(r 146),(.type "ValueError"),(.type "Exception"),(.type "BaseException"),(.type "object")],ns:=145,qualname:="WardenError",subclasses:=[(r 159),(r 171)]}),#[(some (r 137)),none,(some (s "WardenError" 389)),(some (s "WardenError" 397)),(some (.builtin "ValueError.__new__")),(some (.bool true))]⟩
def CS:OF:=λp P=>di [de P "__module__" 430 (s "stackwarden.errors" 387),de P "__qualname__" 432 (s "NoDoor" 431),de P "__firstlineno__" 434 (.int 69 433),de P "__static_attributes__" 435 (r 169)] 4
def EL:OF:=λp P=>co [(s "NoDoor" 425),(s "NoDoor" 426),(s cF 427),(i 69),(i 0),(i 0),(i 0),(i 0),(r 165),(.bool false),(i 181),(r 166),.none,.none,.none,.none,(i 428),(i 69),(s cF 429)]
def EM:OF:=λp P=>fm [(some (r 167)),(some (r 3)),(some (r 164)),none,(some (s "stackwarden.errors" 387)),none,(some (r 0))]
def CT:OF:=λp P=>di [de P "__module__" 430 (s "stackwarden.errors" 387),de P "__firstlineno__" 434 (.int 69 433),de P "__static_attributes__" 435 (r 169),de P "__doc__" 436 .none] 2
def CU:OF:=λp P=>⟨(.type "type"),none,(.cls {name:="NoDoor",bases:=[(r 146)],mro:=[(r 171),(r 146),(.type "ValueError"),(.type "Exception"),(.type "BaseException"),(.type "object")],ns:=170,qualname:="NoDoor"}),#[(some (r 162)),none,(some (s "NoDoor" 423)),(some (s "NoDoor" 431)),(some (.builtin "ValueError.__new__")),(some (.bool true))]⟩
def EN:OF:=λp P=>⟨(.type "super"),none,(.fields #[(r 171),(r 171),(r 171)]),#[]⟩
def EO:OF:=λp P=>⟨(.type "builtin_function_or_method"),none,(.fields #[(.builtin "object.__init_subclass__"),(r 171)]),#[]⟩
def CV:OF:=λp P=>tu [(s "number" 448)]
def ER:OF:=λp P=>no (eK 0 0 "wrapped" "wrapped" (tf p 23))
def CW:OF:=λp P=>co [(s "wrapped" 445),(s "wrapped" 446),(s cF 447),(i 74),(i 1),(i 0),(i 0),(i 3),(r 174),(.bool true),(i 181),(r 175),.none,(r 176),(r 177),(r 178),(i 449),(i 74),(s cF 450)]
def CY:OF:=λp P=>fo (fn "wrapped" "wrapped" (tf p 23) .none .none .none (s "stackwarden.words" 439) none (r 179) .none)
def ES:OF:=λp P=>tu [(s "sign" 455),(s "one" 456),(s "other" 457)]
def CZ:OF:=λp P=>no (eK 0 0 "reckoned" "reckoned" (tf p 24))
def Bq:OF:=λp P=>co [(s "reckoned" 452),(s "reckoned" 453),(s cF 454),(i 76),(i 3),(i 0),(i 0),(i 3),(r 181),(.bool true),(i 181),(r 182),.none,(r 183),(r 184),(r 185),(i 458),(i 76),(s cF 459)]
def Br:OF:=λp P=>fo (fn "reckoned" "reckoned" (tf p 24) .none .none .none (s "stackwarden.words" 439) none (r 186) .none)
def Bs:OF:=λp P=>tu [(s "sign" 464),(s "one" 465),(s "other" 466)]
def C0:OF:=λp P=>no (eK 0 0 "divided" "divided" (tf p 25))
def Bt:OF:=λp P=>co [(s "divided" 461),(s "divided" 462),(s cF 463),(i 88),(i 3),(i 0),(i 0),(i 3),(r 188),(.bool true),(i 181),(r 189),.none,(r 190),(r 191),(r 192),(i 467),(i 88),(s cF 468)]
def Bu:OF:=λp P=>fo (fn "divided" "divided" (tf p 25) .none .none .none (s "stackwarden.words" 439) none (r 193) .none)
def Bv:OF:=λp P=>tu [(s "add" 470),(s "sub" 471),(s "mul" 472),(s "div" 473),(s "rem" 474),(s "less" 475),(s "same" 476)]
def Bw:OF:=λp P=>tu [(s "make" 478),(s "fill" 479),(s "begin" 480),(s "get" 481),(s "put" 482)]
def Bx:OF:=λp P=>tu [(s "jump" 484),(s "zero" 485),(s "kin" 486)]
def YD:OF:=λp P=>di [de P "__name__" 165 (s "stackwarden.frames" 514),de P "__doc__" 166 .none,de P "__package__" 167 .none,de P "__loader__" 168 (.builtin "__main__.__loader__#opaque"),de P "__spec__" 169 .none,de P "__annotations__" 170 (r 6),de P "__builtins__" 171 (r 4),de P "__file__" 173 (s cF 172),de P "__cached__" 174 .none,de P "_wall" 193 (r 21),de P "elders_of" 204 (r 28),de P "fields_of" 214 (r 35),de P "is_under" 223 (r 42),de P "full_mask" 231 (r 49),de P "has_kind" 243 (r 56),de P "record_has_kind" 252 (r 63),de P "ALWAYS" 317 (r 64),de P "LEFT" 348 (r 108),de P "asked" 359 (r 115),de P "asked_of_records" 370 (r 122),de P "leaves" 377 (r 129),de P "catcher" 386 (r 136),de P "WardenError" 406 (r 146),de P "Nought" 422 (r 159),de P "NoDoor" 438 (r 171),de P "HALF" 442 (.int 2147483648 441),de P "TURN" 444 (.int 4294967296 443),de P "wrapped" 451 (r 180),de P "reckoned" 460 (r 187),de P "divided" 469 (r 194),de P "RECKONING" 477 (r 195),de P "OF_RECORDS" 483 (r 196),de P "GOING" 487 (r 197),de P "copied" 495 (r 202),de P "is_door" 503 (r 207),de P "check_door" 513 (r 214),de P "MOST_FRAMES" 517 (.int 12 516),de P "Frame" 550 (r 231),de P "started" 560 (r 242),de P "taken" 566 (r 247)] 40
def YE:OF:=λp P=>nf [(i 1),(i 0),(r 20),(i 5),(i 0),(r 27),(i 11),(i 0),(r 34),(i 16),(i 0),(r 41),(i 18),(i 0),(r 48),(i 21),(i 0),(r 55),(i 29),(i 0),(r 62),(i 36),(i 0),(r 114),(i 46),(i 0),(r 121),(i 57),(i 0),(r 128),(i 59),(i 0),(r 135),(i 65),(i 0),(r 142),(i 67),(i 0),(r 155),(i 69),(i 0),(r 167),(i 74),(i 0),(r 179),(i 76),(i 0),(r 186),(i 88),(i 0),(r 193),(i 98),(i 0),(r 201),(i 103),(i 0),(r 206),(i 105),(i 0),(r 213),(i 113),(i 0),(r 220),(i 120),(i 0),(r 241),(i 122),(i 0),(r 246)]
def Ja:OF:=λp P=>no (eK 0 0 "copied" "copied" (tf p 30))
def ET:OF:=λp P=>co [(s "copied" 490),(s "copied" 491),(s cF 492),(i 98),(i 1),(i 0),(i 0),(i 3),(r 198),(.bool true),(i 181),(r 199),.none,.none,.none,(r 200),(i 493),(i 98),(s cF 494)]
def EU:OF:=λp P=>fo (fn "copied" "copied" (tf p 30) .none .none .none (s "stackwarden.books" 488) none (r 201) .none)
def Jb:OF:=λp P=>no (eK 0 0 "is_door" "is_door" (tf p 32))
def EV:OF:=λp P=>co [(s "is_door" 498),(s "is_door" 499),(s cF 500),(i 103),(i 2),(i 0),(i 0),(i 3),(r 203),(.bool true),(i 181),(r 204),.none,.none,.none,(r 205),(i 501),(i 103),(s cF 502)]
def EW:OF:=λp P=>fo (fn "is_door" "is_door" (tf p 32) .none .none .none (s "stackwarden.doors" 496) none (r 206) .none)
def EX:OF:=λp P=>tu [(s "parts" 507),(s "part" 508),(s "inputs" 509),(s "takes" 510)]
def Jc:OF:=λp P=>no (eK 0 0 "check_door" "check_door" (tf p 33))
def EY:OF:=λp P=>co [(s "check_door" 504),(s "check_door" 505),(s cF 506),(i 105),(i 3),(i 0),(i 0),(i 3),(r 208),(.bool true),(i 181),(r 209),.none,(r 210),(r 211),(r 212),(i 511),(i 105),(s cF 512)]
def EZ:OF:=λp P=>fo (fn "check_door" "check_door" (tf p 33) .none .none .none (s "stackwarden.doors" 496) none (r 213) .none)
def E8:OF:=λp P=>di [de P "__module__" 525 (s "stackwarden.frames" 514),de P "__qualname__" 527 (s "Frame" 526),de P "__firstlineno__" 529 (.int 113 528),de P "__init__" 538 (r 228),de P "__static_attributes__" 543 (r 229)] 5
def E9:OF:=λp P=>nf [(i 115),(i 4),(r 227)]
def Fc:OF:=λp P=>co [(s "Frame" 520),(s "Frame" 521),(s cF 522),(i 113),(i 0),(i 0),(i 0),(i 0),(r 218),(.bool false),(i 181),(r 219),.none,.none,.none,.none,(i 523),(i 113),(s cF 524)]
def Fd:OF:=λp P=>fm [(some (r 220)),(some (r 3)),(some (r 217)),none,(some (s "stackwarden.frames" 514)),none,(some (r 0))]
def C1:OF:=λp P=>tu [(s "self" 533),(s "part" 534),(s "boxes" 535)]
def Fe:OF:=λp P=>no (eK 0 0 "__init__" "Frame.__init__" (iC (tf p 36) 0))
def C2:OF:=λp P=>co [(s "__init__" 530),(s "Frame.__init__" 531),(s cF 532),(i 115),(i 3),(i 0),(i 0),(i 3),(r 222),(.bool true),(i 181),(r 223),.none,(r 224),(r 225),(r 226),(i 536),(i 115),(s cF 537)]
def C3:OF:=λp P=>fo (fn "__init__" "Frame.__init__" (iC (tf p 36) 0) .none .none .none (s "stackwarden.frames" 514) none (r 227) .none)
def C4:OF:=λp P=>tu [(s "at" 539),(s "boxes" 540),(s "part" 541),(s "stack" 542)]
def Ff:OF:=λp P=>di [de P "__module__" 525 (s "stackwarden.frames" 514),de P "__firstlineno__" 529 (.int 113 528),de P "__init__" 538 (r 228),de P "__static_attributes__" 543 (r 229),de P "__dict__" 545 (r 232),de P "__weakref__" 547 (r 233),de P "__doc__" 548 .none] 4
def Fg:OF:=λp P=>⟨(.type "type"),none,(.cls {name:="Frame",bases:=[(.type "object")],mro:=[(r 231),(.type "object")],ns:=230,qualname:="Frame"}),#[none,none,(some (s "Frame" 518)),(some (s "Frame" 526)),(some (.builtin "object.__new__")),(some (.bool true))]⟩
def Fh:OF:=λp P=>⟨(.type "getset_descriptor"),none,(.fields #[(s "__dict__" 544),(r 231),(.builtin "function.__dict__"),(.builtin "function.__dict__#set")]),#[]⟩
def Fi:OF:=λp P=>⟨(.type "getset_descriptor"),none,(.fields #[(s "__weakref__" 546),(r 231),(.builtin "ExceptionGroup.__weakref__"),.none]),#[]⟩
def Jd:OF:=λp P=>⟨(.type "super"),none,(.fields #[(r 231),(r 231),(r 231)]),#[]⟩
def Je:OF:=λp P=>⟨(.type "builtin_function_or_method"),none,(.fields #[(.builtin "object.__init_subclass__"),(r 231)]),#[]⟩
def Fj:OF:=λp P=>tu [(s "parts" 554),(s "part" 555),(s "values" 556),(s "nothing" 557)]
def Jf:OF:=λp P=>no (eK 0 0 "started" "started" (tf p 37))
def Fl:OF:=λp P=>co [(s "started" 551),(s "started" 552),(s cF 553),(i 120),(i 4),(i 0),(i 0),(i 3),(r 236),(.bool true),(i 181),(r 237),.none,(r 238),(r 239),(r 240),(i 558),(i 120),(s cF 559)]
def Fn:OF:=λp P=>fo (fn "started" "started" (tf p 37) .none .none .none (s "stackwarden.frames" 514) none (r 241) .none)
def Nz:OF:=λp P=>no (eK 0 0 "taken" "taken" (tf p 38))
def Jg:OF:=λp P=>co [(s "taken" 561),(s "taken" 562),(s cF 563),(i 122),(i 2),(i 0),(i 0),(i 3),(r 243),(.bool true),(i 181),(r 244),.none,.none,.none,(r 245),(i 564),(i 122),(s cF 565)]
def Jh:OF:=λp P=>fo (fn "taken" "taken" (tf p 38) .none .none .none (s "stackwarden.frames" 514) none (r 246) .none)
def YF:OF:=λp P=>di [de P "__name__" 165 (s "stackwarden.plain" 587),de P "__doc__" 166 .none,de P "__package__" 167 .none,de P "__loader__" 168 (.builtin "__main__.__loader__#opaque"),de P "__spec__" 169 .none,de P "__annotations__" 170 (r 6),de P "__builtins__" 171 (r 4),de P "__file__" 173 (s cF 172),de P "__cached__" 174 .none,de P "_wall" 193 (r 21),de P "elders_of" 204 (r 28),de P "fields_of" 214 (r 35),de P "is_under" 223 (r 42),de P "full_mask" 231 (r 49),de P "has_kind" 243 (r 56),de P "record_has_kind" 252 (r 63),de P "ALWAYS" 317 (r 64),de P "LEFT" 348 (r 108),de P "asked" 359 (r 115),de P "asked_of_records" 370 (r 122),de P "leaves" 377 (r 129),de P "catcher" 386 (r 136),de P "WardenError" 406 (r 146),de P "Nought" 422 (r 159),de P "NoDoor" 438 (r 171),de P "HALF" 442 (.int 2147483648 441),de P "TURN" 444 (.int 4294967296 443),de P "wrapped" 451 (r 180),de P "reckoned" 460 (r 187),de P "divided" 469 (r 194),de P "RECKONING" 477 (r 195),de P "OF_RECORDS" 483 (r 196),de P "GOING" 487 (r 197),de P "copied" 495 (r 202),de P "is_door" 503 (r 207),de P "check_door" 513 (r 214),de P "MOST_FRAMES" 517 (.int 12 516),de P "Frame" 550 (r 231),de P "started" 560 (r 242),de P "taken" 566 (r 247),de P "caught_at" 575 (r 254),de P "replaced" 586 (r 261),de P "BY_NOUGHT" 590 (.int 1 589),de P "TOO_DEEP" 592 (.int 2 591)] 44
def YG:OF:=λp P=>nf [(i 1),(i 0),(r 20),(i 5),(i 0),(r 27),(i 11),(i 0),(r 34),(i 16),(i 0),(r 41),(i 18),(i 0),(r 48),(i 21),(i 0),(r 55),(i 29),(i 0),(r 62),(i 36),(i 0),(r 114),(i 46),(i 0),(r 121),(i 57),(i 0),(r 128),(i 59),(i 0),(r 135),(i 65),(i 0),(r 142),(i 67),(i 0),(r 155),(i 69),(i 0),(r 167),(i 74),(i 0),(r 179),(i 76),(i 0),(r 186),(i 88),(i 0),(r 193),(i 98),(i 0),(r 201),(i 103),(i 0),(r 206),(i 105),(i 0),(r 213),(i 113),(i 0),(r 220),(i 120),(i 0),(r 241),(i 122),(i 0),(r 246),(i 126),(i 0),(r 253),(i 134),(i 0),(r 260)]
def Fo:OF:=λp P=>tu [(s "parts" 570),(s "live" 571),(s "at" 572)]
def Ji:OF:=λp P=>no (eK 0 0 "caught_at" "caught_at" (tf p 39))
def Fp:OF:=λp P=>co [(s "caught_at" 567),(s "caught_at" 568),(s cF 569),(i 126),(i 2),(i 0),(i 0),(i 3),(r 248),(.bool true),(i 181),(r 249),.none,(r 250),(r 251),(r 252),(i 573),(i 126),(s cF 574)]
def Fq:OF:=λp P=>fo (fn "caught_at" "caught_at" (tf p 39) .none .none .none (s "stackwarden.frames" 514) none (r 253) .none)
def Fs:OF:=λp P=>tu [(s "some" 581),(s "spot" 582),(s "thing" 583)]
def Jj:OF:=λp P=>no (eK 0 0 "replaced" "replaced" (tf p 41))
def Ft:OF:=λp P=>co [(s "replaced" 578),(s "replaced" 579),(s cF 580),(i 134),(i 3),(i 0),(i 0),(i 3),(r 255),(.bool true),(i 181),(r 256),.none,(r 257),(r 258),(r 259),(i 584),(i 134),(s cF 585)]
def Fu:OF:=λp P=>fo (fn "replaced" "replaced" (tf p 41) .none .none .none (s "stackwarden.spots" 576) none (r 260) .none)
def YH:OF:=λp P=>di [de P "__name__" 165 (s "stackwarden.plain" 587),de P "__doc__" 166 .none,de P "__package__" 167 .none,de P "__loader__" 168 (.builtin "__main__.__loader__#opaque"),de P "__spec__" 169 .none,de P "__annotations__" 170 (r 6),de P "__builtins__" 171 (r 4),de P "__file__" 173 (s cF 172),de P "__cached__" 174 .none,de P "_wall" 193 (r 21),de P "elders_of" 204 (r 28),de P "fields_of" 214 (r 35),de P "is_under" 223 (r 42),de P "full_mask" 231 (r 49),de P "has_kind" 243 (r 56),de P "record_has_kind" 252 (r 63),de P "ALWAYS" 317 (r 64),de P "LEFT" 348 (r 108),de P "asked" 359 (r 115),de P "asked_of_records" 370 (r 122),de P "leaves" 377 (r 129),de P "catcher" 386 (r 136),de P "WardenError" 406 (r 146),de P "Nought" 422 (r 159),de P "NoDoor" 438 (r 171),de P "HALF" 442 (.int 2147483648 441),de P "TURN" 444 (.int 4294967296 443),de P "wrapped" 451 (r 180),de P "reckoned" 460 (r 187),de P "divided" 469 (r 194),de P "RECKONING" 477 (r 195),de P "OF_RECORDS" 483 (r 196),de P "GOING" 487 (r 197),de P "copied" 495 (r 202),de P "is_door" 503 (r 207),de P "check_door" 513 (r 214),de P "MOST_FRAMES" 517 (.int 12 516),de P "Frame" 550 (r 231),de P "started" 560 (r 242),de P "taken" 566 (r 247),de P "caught_at" 575 (r 254),de P "replaced" 586 (r 261),de P "BY_NOUGHT" 590 (.int 1 589),de P "TOO_DEEP" 592 (.int 2 591),de P "Plain" 828 (r 435)] 45
def YI:OF:=λp P=>nf [(i 1),(i 0),(r 20),(i 5),(i 0),(r 27),(i 11),(i 0),(r 34),(i 16),(i 0),(r 41),(i 18),(i 0),(r 48),(i 21),(i 0),(r 55),(i 29),(i 0),(r 62),(i 36),(i 0),(r 114),(i 46),(i 0),(r 121),(i 57),(i 0),(r 128),(i 59),(i 0),(r 135),(i 65),(i 0),(r 142),(i 67),(i 0),(r 155),(i 69),(i 0),(r 167),(i 74),(i 0),(r 179),(i 76),(i 0),(r 186),(i 88),(i 0),(r 193),(i 98),(i 0),(r 201),(i 103),(i 0),(r 206),(i 105),(i 0),(r 213),(i 113),(i 0),(r 220),(i 120),(i 0),(r 241),(i 122),(i 0),(r 246),(i 126),(i 0),(r 253),(i 134),(i 0),(r 260),(i 139),(i 0),(r 267)]
def NA:OF:=λp P=>di [de P "__module__" 600 (s "stackwarden.plain" 587),de P "__qualname__" 602 (s "Plain" 601),de P "__firstlineno__" 604 (.int 139 603),de P "__init__" 610 (r 273),de P "told" 617 (r 280),de P "frames" 624 (r 287),de P "heap" 631 (r 294),de P "step" 641 (r 301),de P "do_row" 651 (r 308),de P "do_straight" 663 (r 315),de P "do_of_records" 676 (r 322),de P "do_reckoning" 682 (r 327),de P "do_going" 691 (r 334),de P "goes" 701 (r 341),de P "go_on" 710 (r 348),de P "spend" 717 (r 355),de P "add_frame" 726 (r 362),de P "do_call" 735 (r 369),de P "do_give" 745 (r 376),de P "fault" 755 (r 383),de P "nothing" 762 (r 390),de P "tagged" 771 (r 397),de P "bare" 779 (r 404),de P "new_record" 787 (r 411),de P "with_field" 797 (r 418),de P "as_begun" 805 (r 425),de P "looked" 814 (r 432),de P "__static_attributes__" 821 (r 433)] 28
def NB:OF:=λp P=>nf [(i 141),(i 4),(r 272),(i 151),(i 4),(r 279),(i 154),(i 4),(r 286),(i 157),(i 4),(r 293),(i 160),(i 4),(r 300),(i 171),(i 4),(r 307),(i 190),(i 4),(r 314),(i 209),(i 4),(r 321),(i 227),(i 4),(r 326),(i 237),(i 4),(r 333),(i 243),(i 4),(r 340),(i 251),(i 4),(r 347),(i 255),(i 4),(r 354),(i 262),(i 4),(r 361),(i 265),(i 4),(r 368),(i 273),(i 4),(r 375),(i 283),(i 4),(r 382),(i 292),(i 4),(r 389),(i 295),(i 4),(r 396),(i 298),(i 4),(r 403),(i 301),(i 4),(r 410),(i 304),(i 4),(r 417),(i 307),(i 4),(r 424),(i 310),(i 4),(r 431)]
def NC:OF:=λp P=>co [(s "Plain" 595),(s "Plain" 596),(s cF 597),(i 139),(i 0),(i 0),(i 0),(i 0),(r 265),(.bool false),(i 181),(r 266),.none,.none,.none,.none,(i 598),(i 139),(s cF 599)]
def ND:OF:=λp P=>fm [(some (r 267)),(some (r 3)),(some (r 264)),none,(some (s "stackwarden.plain" 587)),none,(some (r 0))]
def NF:OF:=λp P=>no (eK 0 0 "__init__" "Plain.__init__" (iC (tf p 45) 0))
def Jk:OF:=λp P=>co [(s "__init__" 605),(s "Plain.__init__" 606),(s cF 607),(i 141),(i 5),(i 0),(i 0),(i 3),(r 269),(.bool true),(i 181),(r 270),.none,.none,.none,(r 271),(i 608),(i 141),(s cF 609)]
def Jl:OF:=λp P=>fo (fn "__init__" "Plain.__init__" (iC (tf p 45) 0) .none .none .none (s "stackwarden.plain" 587) none (r 272) .none)
def Jm:OF:=λp P=>tu [(s "self" 614)]
def NG:OF:=λp P=>no (eK 0 0 "told" "Plain.told" (iC (tf p 45) 1))
def Jn:OF:=λp P=>co [(s "told" 611),(s "Plain.told" 612),(s cF 613),(i 151),(i 1),(i 0),(i 0),(i 3),(r 274),(.bool true),(i 181),(r 275),.none,(r 276),(r 277),(r 278),(i 615),(i 151),(s cF 616)]
def Jo:OF:=λp P=>fo (fn "told" "Plain.told" (iC (tf p 45) 1) .none .none .none (s "stackwarden.plain" 587) none (r 279) .none)
def Jp:OF:=λp P=>tu [(s "self" 621)]
def NH:OF:=λp P=>no (eK 0 0 "frames" "Plain.frames" (iC (tf p 45) 2))
def Jq:OF:=λp P=>co [(s "frames" 618),(s "Plain.frames" 619),(s cF 620),(i 154),(i 1),(i 0),(i 0),(i 3),(r 281),(.bool true),(i 181),(r 282),.none,(r 283),(r 284),(r 285),(i 622),(i 154),(s cF 623)]
def Jr:OF:=λp P=>fo (fn "frames" "Plain.frames" (iC (tf p 45) 2) .none .none .none (s "stackwarden.plain" 587) none (r 286) .none)
def Js:OF:=λp P=>tu [(s "self" 628)]
def NI:OF:=λp P=>no (eK 0 0 "heap" "Plain.heap" (iC (tf p 45) 3))
def Jt:OF:=λp P=>co [(s "heap" 625),(s "Plain.heap" 626),(s cF 627),(i 157),(i 1),(i 0),(i 0),(i 3),(r 288),(.bool true),(i 181),(r 289),.none,(r 290),(r 291),(r 292),(i 629),(i 157),(s cF 630)]
def Ju:OF:=λp P=>fo (fn "heap" "Plain.heap" (iC (tf p 45) 3) .none .none .none (s "stackwarden.plain" 587) none (r 293) .none)
def Jv:OF:=λp P=>tu [(s "self" 635),(s "frame" 636),(s "row" 637),(s "word" 638)]
def NJ:OF:=λp P=>no (eK 0 0 "step" "Plain.step" (iC (tf p 45) 4))
def Jw:OF:=λp P=>co [(s "step" 632),(s "Plain.step" 633),(s cF 634),(i 160),(i 1),(i 0),(i 0),(i 3),(r 295),(.bool true),(i 181),(r 296),.none,(r 297),(r 298),(r 299),(i 639),(i 160),(s cF 640)]
def Jx:OF:=λp P=>fo (fn "step" "Plain.step" (iC (tf p 45) 4) .none .none .none (s "stackwarden.plain" 587) none (r 300) .none)
def Jy:OF:=λp P=>tu [(s "self" 645),(s "frame" 646),(s "row" 647),(s "sign" 648)]
def NK:OF:=λp P=>no (eK 0 0 "do_row" "Plain.do_row" (iC (tf p 45) 5))
def Jz:OF:=λp P=>co [(s "do_row" 642),(s "Plain.do_row" 643),(s cF 644),(i 171),(i 3),(i 0),(i 0),(i 3),(r 302),(.bool true),(i 181),(r 303),.none,(r 304),(r 305),(r 306),(i 649),(i 171),(s cF 650)]
def JA:OF:=λp P=>fo (fn "do_row" "Plain.do_row" (iC (tf p 45) 5) .none .none .none (s "stackwarden.plain" 587) none (r 307) .none)
def NL:OF:=λp P=>tu [(s "self" 655),(s "frame" 656),(s "row" 657),(s "sign" 658),(s "stack" 659),(s "pair" 660)]
def NM:OF:=λp P=>no (eK 0 0 "do_straight" "Plain.do_straight" (iC (tf p 45) 6))
def JB:OF:=λp P=>co [(s "do_straight" 652),(s "Plain.do_straight" 653),(s cF 654),(i 190),(i 3),(i 0),(i 0),(i 3),(r 309),(.bool true),(i 181),(r 310),.none,(r 311),(r 312),(r 313),(i 661),(i 190),(s cF 662)]
def JC:OF:=λp P=>fo (fn "do_straight" "Plain.do_straight" (iC (tf p 45) 6) .none .none .none (s "stackwarden.plain" 587) none (r 314) .none)
def JD:OF:=λp P=>tu [(s "self" 667),(s "stack" 668),(s "row" 669),(s "sign" 670),(s "number" 671),(s "record" 672),(s "value" 673)]
def NN:OF:=λp P=>no (eK 0 0 "do_of_records" "Plain.do_of_records" (iC (tf p 45) 7))
def JE:OF:=λp P=>co [(s "do_of_records" 664),(s "Plain.do_of_records" 665),(s cF 666),(i 209),(i 3),(i 0),(i 0),(i 3),(r 316),(.bool true),(i 181),(r 317),.none,(r 318),(r 319),(r 320),(i 674),(i 209),(s cF 675)]
def JF:OF:=λp P=>fo (fn "do_of_records" "Plain.do_of_records" (iC (tf p 45) 7) .none .none .none (s "stackwarden.plain" 587) none (r 321) .none)
def NO:OF:=λp P=>no (eK 0 0 "do_reckoning" "Plain.do_reckoning" (iC (tf p 45) 8))
def JG:OF:=λp P=>co [(s "do_reckoning" 677),(s "Plain.do_reckoning" 678),(s cF 679),(i 227),(i 3),(i 0),(i 0),(i 3),(r 323),(.bool true),(i 181),(r 324),.none,.none,.none,(r 325),(i 680),(i 227),(s cF 681)]
def JH:OF:=λp P=>fo (fn "do_reckoning" "Plain.do_reckoning" (iC (tf p 45) 8) .none .none .none (s "stackwarden.plain" 587) none (r 326) .none)
def JI:OF:=λp P=>tu [(s "self" 686),(s "frame" 687),(s "row" 688)]
def NP:OF:=λp P=>no (eK 0 0 "do_going" "Plain.do_going" (iC (tf p 45) 9))
def JJ:OF:=λp P=>co [(s "do_going" 683),(s "Plain.do_going" 684),(s cF 685),(i 237),(i 3),(i 0),(i 0),(i 3),(r 328),(.bool true),(i 181),(r 329),.none,(r 330),(r 331),(r 332),(i 689),(i 237),(s cF 690)]
def JK:OF:=λp P=>fo (fn "do_going" "Plain.do_going" (iC (tf p 45) 9) .none .none .none (s "stackwarden.plain" 587) none (r 333) .none)
def JL:OF:=λp P=>tu [(s "self" 695),(s "stack" 696),(s "row" 697),(s "record" 698)]
def NQ:OF:=λp P=>no (eK 0 0 "goes" "Plain.goes" (iC (tf p 45) 10))
def JM:OF:=λp P=>co [(s "goes" 692),(s "Plain.goes" 693),(s cF 694),(i 243),(i 3),(i 0),(i 0),(i 3),(r 335),(.bool true),(i 181),(r 336),.none,(r 337),(r 338),(r 339),(i 699),(i 243),(s cF 700)]
def JN:OF:=λp P=>fo (fn "goes" "Plain.goes" (iC (tf p 45) 10) .none .none .none (s "stackwarden.plain" 587) none (r 340) .none)
def JO:OF:=λp P=>tu [(s "self" 705),(s "frame" 706),(s "at" 707)]
def NR:OF:=λp P=>no (eK 0 0 "go_on" "Plain.go_on" (iC (tf p 45) 11))
def JP:OF:=λp P=>co [(s "go_on" 702),(s "Plain.go_on" 703),(s cF 704),(i 251),(i 3),(i 0),(i 0),(i 3),(r 342),(.bool true),(i 181),(r 343),.none,(r 344),(r 345),(r 346),(i 708),(i 251),(s cF 709)]
def JQ:OF:=λp P=>fo (fn "go_on" "Plain.go_on" (iC (tf p 45) 11) .none .none .none (s "stackwarden.plain" 587) none (r 347) .none)
def JR:OF:=λp P=>tu [(s "self" 714)]
def NS:OF:=λp P=>no (eK 0 0 "spend" "Plain.spend" (iC (tf p 45) 12))
def JS:OF:=λp P=>co [(s "spend" 711),(s "Plain.spend" 712),(s cF 713),(i 255),(i 1),(i 0),(i 0),(i 3),(r 349),(.bool true),(i 181),(r 350),.none,(r 351),(r 352),(r 353),(i 715),(i 255),(s cF 716)]
def JT:OF:=λp P=>fo (fn "spend" "Plain.spend" (iC (tf p 45) 12) .none .none .none (s "stackwarden.plain" 587) none (r 354) .none)
def JU:OF:=λp P=>tu [(s "self" 721),(s "part" 722),(s "values" 723)]
def NT:OF:=λp P=>no (eK 0 0 "add_frame" "Plain.add_frame" (iC (tf p 45) 13))
def JV:OF:=λp P=>co [(s "add_frame" 718),(s "Plain.add_frame" 719),(s cF 720),(i 262),(i 3),(i 0),(i 0),(i 3),(r 356),(.bool true),(i 181),(r 357),.none,(r 358),(r 359),(r 360),(i 724),(i 262),(s cF 725)]
def JW:OF:=λp P=>fo (fn "add_frame" "Plain.add_frame" (iC (tf p 45) 13) .none .none .none (s "stackwarden.plain" 587) none (r 361) .none)
def JX:OF:=λp P=>tu [(s "self" 730),(s "frame" 731),(s "part" 732)]
def NU:OF:=λp P=>no (eK 0 0 "do_call" "Plain.do_call" (iC (tf p 45) 14))
def JY:OF:=λp P=>co [(s "do_call" 727),(s "Plain.do_call" 728),(s cF 729),(i 265),(i 3),(i 0),(i 0),(i 3),(r 363),(.bool true),(i 181),(r 364),.none,(r 365),(r 366),(r 367),(i 733),(i 265),(s cF 734)]
def JZ:OF:=λp P=>fo (fn "do_call" "Plain.do_call" (iC (tf p 45) 14) .none .none .none (s "stackwarden.plain" 587) none (r 368) .none)
def J0:OF:=λp P=>tu [(s "self" 739),(s "frame" 740),(s "value" 741),(s "beneath" 742)]
def Rb:OF:=λp P=>no (eK 0 0 "do_give" "Plain.do_give" (iC (tf p 45) 15))
def NV:OF:=λp P=>co [(s "do_give" 736),(s "Plain.do_give" 737),(s cF 738),(i 273),(i 2),(i 0),(i 0),(i 3),(r 370),(.bool true),(i 181),(r 371),.none,(r 372),(r 373),(r 374),(i 743),(i 273),(s cF 744)]
def J1:OF:=λp P=>fo (fn "do_give" "Plain.do_give" (iC (tf p 45) 15) .none .none .none (s "stackwarden.plain" 587) none (r 375) .none)
def J2:OF:=λp P=>tu [(s "self" 749),(s "number" 750),(s "at" 751),(s "frame" 752)]
def NW:OF:=λp P=>no (eK 0 0 "fault" "Plain.fault" (iC (tf p 45) 16))
def J3:OF:=λp P=>co [(s "fault" 746),(s "Plain.fault" 747),(s cF 748),(i 283),(i 2),(i 0),(i 0),(i 3),(r 377),(.bool true),(i 181),(r 378),.none,(r 379),(r 380),(r 381),(i 753),(i 283),(s cF 754)]
def J4:OF:=λp P=>fo (fn "fault" "Plain.fault" (iC (tf p 45) 16) .none .none .none (s "stackwarden.plain" 587) none (r 382) .none)
def J5:OF:=λp P=>tu [(s "self" 759)]
def NX:OF:=λp P=>no (eK 0 0 "nothing" "Plain.nothing" (iC (tf p 45) 17))
def J6:OF:=λp P=>co [(s "nothing" 756),(s "Plain.nothing" 757),(s cF 758),(i 292),(i 1),(i 0),(i 0),(i 3),(r 384),(.bool true),(i 181),(r 385),.none,(r 386),(r 387),(r 388),(i 760),(i 292),(s cF 761)]
def J7:OF:=λp P=>fo (fn "nothing" "Plain.nothing" (iC (tf p 45) 17) .none .none .none (s "stackwarden.plain" 587) none (r 389) .none)
def J8:OF:=λp P=>tu [(s "self" 766),(s "tag" 767),(s "number" 768)]
def NY:OF:=λp P=>no (eK 0 0 "tagged" "Plain.tagged" (iC (tf p 45) 18))
def J9:OF:=λp P=>co [(s "tagged" 763),(s "Plain.tagged" 764),(s cF 765),(i 295),(i 3),(i 0),(i 0),(i 3),(r 391),(.bool true),(i 181),(r 392),.none,(r 393),(r 394),(r 395),(i 769),(i 295),(s cF 770)]
def Ka:OF:=λp P=>fo (fn "tagged" "Plain.tagged" (iC (tf p 45) 18) .none .none .none (s "stackwarden.plain" 587) none (r 396) .none)
def Kb:OF:=λp P=>tu [(s "self" 775),(s "value" 776)]
def NZ:OF:=λp P=>no (eK 0 0 "bare" "Plain.bare" (iC (tf p 45) 19))
def Kc:OF:=λp P=>co [(s "bare" 772),(s "Plain.bare" 773),(s cF 774),(i 298),(i 2),(i 0),(i 0),(i 3),(r 398),(.bool true),(i 181),(r 399),.none,(r 400),(r 401),(r 402),(i 777),(i 298),(s cF 778)]
def Ke:OF:=λp P=>fo (fn "bare" "Plain.bare" (iC (tf p 45) 19) .none .none .none (s "stackwarden.plain" 587) none (r 403) .none)
def Kf:OF:=λp P=>tu [(s "self" 783),(s "c" 784)]
def N0:OF:=λp P=>no (eK 0 0 "new_record" "Plain.new_record" (iC (tf p 45) 20))
def Kg:OF:=λp P=>co [(s "new_record" 780),(s "Plain.new_record" 781),(s cF 782),(i 301),(i 2),(i 0),(i 0),(i 3),(r 405),(.bool true),(i 181),(r 406),.none,(r 407),(r 408),(r 409),(i 785),(i 301),(s cF 786)]
def Kh:OF:=λp P=>fo (fn "new_record" "Plain.new_record" (iC (tf p 45) 20) .none .none .none (s "stackwarden.plain" 587) none (r 410) .none)
def Ki:OF:=λp P=>tu [(s "self" 791),(s "record" 792),(s "f" 793),(s "value" 794)]
def N1:OF:=λp P=>no (eK 0 0 "with_field" "Plain.with_field" (iC (tf p 45) 21))
def Kj:OF:=λp P=>co [(s "with_field" 788),(s "Plain.with_field" 789),(s cF 790),(i 304),(i 4),(i 0),(i 0),(i 3),(r 412),(.bool true),(i 181),(r 413),.none,(r 414),(r 415),(r 416),(i 795),(i 304),(s cF 796)]
def Kk:OF:=λp P=>fo (fn "with_field" "Plain.with_field" (iC (tf p 45) 21) .none .none .none (s "stackwarden.plain" 587) none (r 417) .none)
def Kl:OF:=λp P=>tu [(s "self" 801),(s "record" 802)]
def N2:OF:=λp P=>no (eK 0 0 "as_begun" "Plain.as_begun" (iC (tf p 45) 22))
def Km:OF:=λp P=>co [(s "as_begun" 798),(s "Plain.as_begun" 799),(s cF 800),(i 307),(i 2),(i 0),(i 0),(i 3),(r 419),(.bool true),(i 181),(r 420),.none,(r 421),(r 422),(r 423),(i 803),(i 307),(s cF 804)]
def Ko:OF:=λp P=>fo (fn "as_begun" "Plain.as_begun" (iC (tf p 45) 22) .none .none .none (s "stackwarden.plain" 587) none (r 424) .none)
def Kp:OF:=λp P=>tu [(s "self" 809),(s "frame" 810),(s "row" 811)]
def N3:OF:=λp P=>no (eK 0 0 "looked" "Plain.looked" (iC (tf p 45) 23))
def Kq:OF:=λp P=>co [(s "looked" 806),(s "Plain.looked" 807),(s cF 808),(i 310),(i 3),(i 0),(i 0),(i 3),(r 426),(.bool true),(i 181),(r 427),.none,(r 428),(r 429),(r 430),(i 812),(i 310),(s cF 813)]
def Kr:OF:=λp P=>fo (fn "looked" "Plain.looked" (iC (tf p 45) 23) .none .none .none (s "stackwarden.plain" 587) none (r 431) .none)
def Ks:OF:=λp P=>tu [(s "book" 815),(s "end" 816),(s "left" 817),(s "live" 818),(s "records" 819),(s "said" 820)]
def Kt:OF:=λp P=>di [de P "__module__" 600 (s "stackwarden.plain" 587),de P "__firstlineno__" 604 (.int 139 603),de P "__init__" 610 (r 273),de P "told" 617 (r 280),de P "frames" 624 (r 287),de P "heap" 631 (r 294),de P "step" 641 (r 301),de P "do_row" 651 (r 308),de P "do_straight" 663 (r 315),de P "do_of_records" 676 (r 322),de P "do_reckoning" 682 (r 327),de P "do_going" 691 (r 334),de P "goes" 701 (r 341),de P "go_on" 710 (r 348),de P "spend" 717 (r 355),de P "add_frame" 726 (r 362),de P "do_call" 735 (r 369),de P "do_give" 745 (r 376),de P "fault" 755 (r 383),de P "nothing" 762 (r 390),de P "tagged" 771 (r 397),de P "bare" 779 (r 404),de P "new_record" 787 (r 411),de P "with_field" 797 (r 418),de P "as_begun" 805 (r 425),de P "looked" 814 (r 432),de P "__static_attributes__" 821 (r 433),de P "__dict__" 823 (r 436),de P "__weakref__" 825 (r 437),de P "__doc__" 826 .none] 4
def YJ:OF:=λp P=>⟨(.type "type"),none,(.cls {name:="Plain",bases:=[(.type "object")],mro:=[(r 435),(.type "object")],ns:=434,qualname:="Plain"}),#[none,none,(some (s "Plain" 593)),(some (s "Plain" 601)),(some (.builtin "object.__new__")),(some (.bool true))]⟩
def Ku:OF:=λp P=>⟨(.type "getset_descriptor"),none,(.fields #[(s "__dict__" 822),(r 435),(.builtin "function.__dict__"),(.builtin "function.__dict__#set")]),#[]⟩
def N4:OF:=λp P=>⟨(.type "getset_descriptor"),none,(.fields #[(s "__weakref__" 824),(r 435),(.builtin "ExceptionGroup.__weakref__"),.none]),#[]⟩
def Rc:OF:=λp P=>⟨(.type "super"),none,(.fields #[(r 435),(r 435),(r 435)]),#[]⟩
def Rf:OF:=λp P=>⟨(.type "builtin_function_or_method"),none,(.fields #[(.builtin "object.__init_subclass__"),(r 435)]),#[]⟩
def YK:OF:=λp P=>di [de P "__name__" 165 (s "stackwarden.watched" 829),de P "__doc__" 166 .none,de P "__package__" 167 .none,de P "__loader__" 168 (.builtin "__main__.__loader__#opaque"),de P "__spec__" 169 .none,de P "__annotations__" 170 (r 6),de P "__builtins__" 171 (r 4),de P "__file__" 173 (s cF 172),de P "__cached__" 174 .none,de P "_wall" 193 (r 21),de P "elders_of" 204 (r 28),de P "fields_of" 214 (r 35),de P "is_under" 223 (r 42),de P "full_mask" 231 (r 49),de P "has_kind" 243 (r 56),de P "record_has_kind" 252 (r 63),de P "ALWAYS" 317 (r 64),de P "LEFT" 348 (r 108),de P "asked" 359 (r 115),de P "asked_of_records" 370 (r 122),de P "leaves" 377 (r 129),de P "catcher" 386 (r 136),de P "WardenError" 406 (r 146),de P "Nought" 422 (r 159),de P "NoDoor" 438 (r 171),de P "HALF" 442 (.int 2147483648 441),de P "TURN" 444 (.int 4294967296 443),de P "wrapped" 451 (r 180),de P "reckoned" 460 (r 187),de P "divided" 469 (r 194),de P "RECKONING" 477 (r 195),de P "OF_RECORDS" 483 (r 196),de P "GOING" 487 (r 197),de P "copied" 495 (r 202),de P "is_door" 503 (r 207),de P "check_door" 513 (r 214),de P "MOST_FRAMES" 517 (.int 12 516),de P "Frame" 550 (r 231),de P "started" 560 (r 242),de P "taken" 566 (r 247),de P "caught_at" 575 (r 254),de P "replaced" 586 (r 261),de P "BY_NOUGHT" 590 (.int 1 589),de P "TOO_DEEP" 592 (.int 2 591),de P "Plain" 828 (r 435)] 45
def YL:OF:=λp P=>di [de P "__name__" 165 (s "stackwarden.watched" 829),de P "__doc__" 166 .none,de P "__package__" 167 .none,de P "__loader__" 168 (.builtin "__main__.__loader__#opaque"),de P "__spec__" 169 .none,de P "__annotations__" 170 (r 6),de P "__builtins__" 171 (r 4),de P "__file__" 173 (s cF 172),de P "__cached__" 174 .none,de P "_wall" 193 (r 21),de P "elders_of" 204 (r 28),de P "fields_of" 214 (r 35),de P "is_under" 223 (r 42),de P "full_mask" 231 (r 49),de P "has_kind" 243 (r 56),de P "record_has_kind" 252 (r 63),de P "ALWAYS" 317 (r 64),de P "LEFT" 348 (r 108),de P "asked" 359 (r 115),de P "asked_of_records" 370 (r 122),de P "leaves" 377 (r 129),de P "catcher" 386 (r 136),de P "WardenError" 406 (r 146),de P "Nought" 422 (r 159),de P "NoDoor" 438 (r 171),de P "HALF" 442 (.int 2147483648 441),de P "TURN" 444 (.int 4294967296 443),de P "wrapped" 451 (r 180),de P "reckoned" 460 (r 187),de P "divided" 469 (r 194),de P "RECKONING" 477 (r 195),de P "OF_RECORDS" 483 (r 196),de P "GOING" 487 (r 197),de P "copied" 495 (r 202),de P "is_door" 503 (r 207),de P "check_door" 513 (r 214),de P "MOST_FRAMES" 517 (.int 12 516),de P "Frame" 550 (r 231),de P "started" 560 (r 242),de P "taken" 566 (r 247),de P "caught_at" 575 (r 254),de P "replaced" 586 (r 261),de P "BY_NOUGHT" 590 (.int 1 589),de P "TOO_DEEP" 592 (.int 2 591),de P "Plain" 828 (r 435),de P "Watched" 909 (r 498)] 46
def YM:OF:=λp P=>nf [(i 1),(i 0),(r 20),(i 5),(i 0),(r 27),(i 11),(i 0),(r 34),(i 16),(i 0),(r 41),(i 18),(i 0),(r 48),(i 21),(i 0),(r 55),(i 29),(i 0),(r 62),(i 36),(i 0),(r 114),(i 46),(i 0),(r 121),(i 57),(i 0),(r 128),(i 59),(i 0),(r 135),(i 65),(i 0),(r 142),(i 67),(i 0),(r 155),(i 69),(i 0),(r 167),(i 74),(i 0),(r 179),(i 76),(i 0),(r 186),(i 88),(i 0),(r 193),(i 98),(i 0),(r 201),(i 103),(i 0),(r 206),(i 105),(i 0),(r 213),(i 113),(i 0),(r 220),(i 120),(i 0),(r 241),(i 122),(i 0),(r 246),(i 126),(i 0),(r 253),(i 134),(i 0),(r 260),(i 139),(i 0),(r 267),(i 313),(i 0),(r 445)]
def N5:OF:=λp P=>⟨(.type "type"),none,(.cls {name:="Plain",bases:=[(.type "object")],mro:=[(r 435),(.type "object")],ns:=434,qualname:="Plain",subclasses:=[(r 498)]}),#[none,none,(some (s "Plain" 593)),(some (s "Plain" 601)),(some (.builtin "object.__new__")),(some (.bool true))]⟩
def N6:OF:=λp P=>tu [(r 435)]
def Rg:OF:=λp P=>di [de P "__module__" 838 (s "stackwarden.watched" 829),de P "__qualname__" 840 (s "Watched" 839),de P "__firstlineno__" 842 (.int 313 841),de P "nothing" 849 (r 453),de P "tagged" 858 (r 460),de P "bare" 866 (r 467),de P "new_record" 874 (r 474),de P "with_field" 884 (r 481),de P "as_begun" 892 (r 488),de P "looked" 905 (r 495),de P "__static_attributes__" 906 (r 496)] 11
def Rh:OF:=λp P=>nf [(i 315),(i 4),(r 452),(i 318),(i 4),(r 459),(i 321),(i 4),(r 466),(i 324),(i 4),(r 473),(i 327),(i 4),(r 480),(i 330),(i 4),(r 487),(i 333),(i 4),(r 494)]
def Ri:OF:=λp P=>co [(s "Watched" 833),(s "Watched" 834),(s cF 835),(i 313),(i 0),(i 0),(i 0),(i 0),(r 443),(.bool false),(i 181),(r 444),.none,.none,.none,.none,(i 836),(i 313),(s cF 837)]
def Rj:OF:=λp P=>fm [(some (r 445)),(some (r 3)),(some (r 442)),none,(some (s "stackwarden.watched" 829)),none,(some (r 0))]
def N7:OF:=λp P=>tu [(s "self" 846)]
def Rl:OF:=λp P=>no (eK 0 0 "nothing" "Watched.nothing" (iC (tf p 47) 0))
def N8:OF:=λp P=>co [(s "nothing" 843),(s "Watched.nothing" 844),(s cF 845),(i 315),(i 1),(i 0),(i 0),(i 3),(r 447),(.bool true),(i 181),(r 448),.none,(r 449),(r 450),(r 451),(i 847),(i 315),(s cF 848)]
def N9:OF:=λp P=>fo (fn "nothing" "Watched.nothing" (iC (tf p 47) 0) .none .none .none (s "stackwarden.watched" 829) none (r 452) .none)
def Oa:OF:=λp P=>tu [(s "self" 853),(s "tag" 854),(s "number" 855)]
def Rm:OF:=λp P=>no (eK 0 0 "tagged" "Watched.tagged" (iC (tf p 47) 1))
def Oc:OF:=λp P=>co [(s "tagged" 850),(s "Watched.tagged" 851),(s cF 852),(i 318),(i 3),(i 0),(i 0),(i 3),(r 454),(.bool true),(i 181),(r 455),.none,(r 456),(r 457),(r 458),(i 856),(i 318),(s cF 857)]
def Od:OF:=λp P=>fo (fn "tagged" "Watched.tagged" (iC (tf p 47) 1) .none .none .none (s "stackwarden.watched" 829) none (r 459) .none)
def Oe:OF:=λp P=>tu [(s "self" 862),(s "value" 863)]
def Rn:OF:=λp P=>no (eK 0 0 "bare" "Watched.bare" (iC (tf p 47) 2))
def Of:OF:=λp P=>co [(s "bare" 859),(s "Watched.bare" 860),(s cF 861),(i 321),(i 2),(i 0),(i 0),(i 3),(r 461),(.bool true),(i 181),(r 462),.none,(r 463),(r 464),(r 465),(i 864),(i 321),(s cF 865)]
def Og:OF:=λp P=>fo (fn "bare" "Watched.bare" (iC (tf p 47) 2) .none .none .none (s "stackwarden.watched" 829) none (r 466) .none)
def Oh:OF:=λp P=>tu [(s "self" 870),(s "c" 871)]
def Ro:OF:=λp P=>no (eK 0 0 "new_record" "Watched.new_record" (iC (tf p 47) 3))
def Oi:OF:=λp P=>co [(s "new_record" 867),(s "Watched.new_record" 868),(s cF 869),(i 324),(i 2),(i 0),(i 0),(i 3),(r 468),(.bool true),(i 181),(r 469),.none,(r 470),(r 471),(r 472),(i 872),(i 324),(s cF 873)]
def Oj:OF:=λp P=>fo (fn "new_record" "Watched.new_record" (iC (tf p 47) 3) .none .none .none (s "stackwarden.watched" 829) none (r 473) .none)
def Ol:OF:=λp P=>tu [(s "self" 878),(s "record" 879),(s "f" 880),(s "value" 881)]
def Rp:OF:=λp P=>no (eK 0 0 "with_field" "Watched.with_field" (iC (tf p 47) 4))
def Om:OF:=λp P=>co [(s "with_field" 875),(s "Watched.with_field" 876),(s cF 877),(i 327),(i 4),(i 0),(i 0),(i 3),(r 475),(.bool true),(i 181),(r 476),.none,(r 477),(r 478),(r 479),(i 882),(i 327),(s cF 883)]
def Oo:OF:=λp P=>fo (fn "with_field" "Watched.with_field" (iC (tf p 47) 4) .none .none .none (s "stackwarden.watched" 829) none (r 480) .none)
def Oq:OF:=λp P=>tu [(s "self" 888),(s "record" 889)]
def Rq:OF:=λp P=>no (eK 0 0 "as_begun" "Watched.as_begun" (iC (tf p 47) 5))
def Ot:OF:=λp P=>co [(s "as_begun" 885),(s "Watched.as_begun" 886),(s cF 887),(i 330),(i 2),(i 0),(i 0),(i 3),(r 482),(.bool true),(i 181),(r 483),.none,(r 484),(r 485),(r 486),(i 890),(i 330),(s cF 891)]
def Ou:OF:=λp P=>fo (fn "as_begun" "Watched.as_begun" (iC (tf p 47) 5) .none .none .none (s "stackwarden.watched" 829) none (r 487) .none)
def Ov:OF:=λp P=>tu [(s "self" 896),(s "frame" 897),(s "row" 898),(s "wanted" 899),(s "under" 900),(s "value" 901),(s "kind" 902)]
def Rr:OF:=λp P=>no (eK 0 0 "looked" "Watched.looked" (iC (tf p 47) 6))
def Ow:OF:=λp P=>co [(s "looked" 893),(s "Watched.looked" 894),(s cF 895),(i 333),(i 3),(i 0),(i 0),(i 3),(r 489),(.bool true),(i 181),(r 490),.none,(r 491),(r 492),(r 493),(i 903),(i 333),(s cF 904)]
def Ox:OF:=λp P=>fo (fn "looked" "Watched.looked" (iC (tf p 47) 6) .none .none .none (s "stackwarden.watched" 829) none (r 494) .none)
def Oy:OF:=λp P=>di [de P "__module__" 838 (s "stackwarden.watched" 829),de P "__firstlineno__" 842 (.int 313 841),de P "nothing" 849 (r 453),de P "tagged" 858 (r 460),de P "bare" 866 (r 467),de P "new_record" 874 (r 474),de P "with_field" 884 (r 481),de P "as_begun" 892 (r 488),de P "looked" 905 (r 495),de P "__static_attributes__" 906 (r 496),de P "__doc__" 907 .none] 2
def Oz:OF:=λp P=>⟨(.type "type"),none,(.cls {name:="Watched",bases:=[(r 435)],mro:=[(r 498),(r 435),(.type "object")],ns:=497,qualname:="Watched"}),#[(some (r 440)),none,(some (s "Watched" 831)),(some (s "Watched" 839)),(some (.builtin "object.__new__")),(some (.bool true))]⟩
def Rt:OF:=λp P=>⟨(.type "super"),none,(.fields #[(r 498),(r 498),(r 498)]),#[]⟩
def Ru:OF:=λp P=>⟨(.type "builtin_function_or_method"),none,(.fields #[(.builtin "object.__init_subclass__"),(r 498)]),#[]⟩
def Rv:OF:=λp P=>di [de P "__name__" 165 (s "law_stackwarden_k32_records_only_come" 910),de P "__doc__" 166 .none,de P "__package__" 167 .none,de P "__loader__" 168 (.builtin "__main__.__loader__#opaque"),de P "__spec__" 169 .none,de P "__annotations__" 170 (r 6),de P "__builtins__" 171 (r 4),de P "__file__" 173 (s cF 172),de P "__cached__" 174 .none,de P "_wall" 193 (r 21),de P "elders_of" 204 (r 28),de P "fields_of" 214 (r 35),de P "is_under" 223 (r 42),de P "full_mask" 231 (r 49),de P "has_kind" 243 (r 56),de P "record_has_kind" 252 (r 63),de P "ALWAYS" 317 (r 64),de P "LEFT" 348 (r 108),de P "asked" 359 (r 115),de P "asked_of_records" 370 (r 122),de P "leaves" 377 (r 129),de P "catcher" 386 (r 136),de P "WardenError" 406 (r 146),de P "Nought" 422 (r 159),de P "NoDoor" 438 (r 171),de P "HALF" 442 (.int 2147483648 441),de P "TURN" 444 (.int 4294967296 443),de P "wrapped" 451 (r 180),de P "reckoned" 460 (r 187),de P "divided" 469 (r 194),de P "RECKONING" 477 (r 195),de P "OF_RECORDS" 483 (r 196),de P "GOING" 487 (r 197),de P "copied" 495 (r 202),de P "is_door" 503 (r 207),de P "check_door" 513 (r 214),de P "MOST_FRAMES" 517 (.int 12 516),de P "Frame" 550 (r 231),de P "started" 560 (r 242),de P "taken" 566 (r 247),de P "caught_at" 575 (r 254),de P "replaced" 586 (r 261),de P "BY_NOUGHT" 590 (.int 1 589),de P "TOO_DEEP" 592 (.int 2 591),de P "Plain" 828 (r 435),de P "Watched" 909 (r 498),de P "_law_cell" 921 (r 507),de P "_law_many" 930 (r 514),de P "_law_makes" 936 (r 519),de P "_law_recipe" 949 (r 526),de P "_law_free" 960 (r 533),de P "_law_grown" 970 (r 540),de P "_law_sound" 983 (r 547),de P "_law_kinds" 995 (r 554),de P "_law_stays" 1007 (r 561),de P "law" 1022 (r 568)] 56
def UH:OF:=λp P=>nf [(i 1),(i 0),(r 20),(i 5),(i 0),(r 27),(i 11),(i 0),(r 34),(i 16),(i 0),(r 41),(i 18),(i 0),(r 48),(i 21),(i 0),(r 55),(i 29),(i 0),(r 62),(i 36),(i 0),(r 114),(i 46),(i 0),(r 121),(i 57),(i 0),(r 128),(i 59),(i 0),(r 135),(i 65),(i 0),(r 142),(i 67),(i 0),(r 155),(i 69),(i 0),(r 167),(i 74),(i 0),(r 179),(i 76),(i 0),(r 186),(i 88),(i 0),(r 193),(i 98),(i 0),(r 201),(i 103),(i 0),(r 206),(i 105),(i 0),(r 213),(i 113),(i 0),(r 220),(i 120),(i 0),(r 241),(i 122),(i 0),(r 246),(i 126),(i 0),(r 253),(i 134),(i 0),(r 260),(i 139),(i 0),(r 267),(i 313),(i 0),(r 445),(i 345),(i 0),(r 506),(i 352),(i 0),(r 513),(i 358),(i 0),(r 518),(i 366),(i 0),(r 525),(i 378),(i 0),(r 532),(i 393),(i 0),(r 539),(i 402),(i 0),(r 546),(i 412),(i 0),(r 553),(i 416),(i 0),(r 560),(i 422),(i 0),(r 567)]
def Rx:OF:=λp P=>tu [(s "_law_script" 915),(s "_law_k" 916),(s "_law_far" 917),(s "_law_cell_here" 918)]
def UI:OF:=λp P=>no (eK 0 0 "_law_cell" "_law_cell" (tf p 49))
def Ry:OF:=λp P=>co [(s "_law_cell" 912),(s "_law_cell" 913),(s cF 914),(i 345),(i 2),(i 0),(i 0),(i 3),(r 501),(.bool true),(i 181),(r 502),.none,(r 503),(r 504),(r 505),(i 919),(i 345),(s cF 920)]
def Rz:OF:=λp P=>fo (fn "_law_cell" "_law_cell" (tf p 49) .none .none .none (s "law_stackwarden_k32_records_only_come" 910) none (r 506) .none)
def RA:OF:=λp P=>tu [(s "_law_makes_here" 925),(s "_law_c" 926),(s "_law_many_here" 927)]
def UJ:OF:=λp P=>no (eK 0 0 "_law_many" "_law_many" (tf p 50))
def RB:OF:=λp P=>co [(s "_law_many" 922),(s "_law_many" 923),(s cF 924),(i 352),(i 2),(i 0),(i 0),(i 3),(r 508),(.bool true),(i 181),(r 509),.none,(r 510),(r 511),(r 512),(i 928),(i 352),(s cF 929)]
def RC:OF:=λp P=>fo (fn "_law_many" "_law_many" (tf p 50) .none .none .none (s "law_stackwarden_k32_records_only_come" 910) none (r 513) .none)
def UK:OF:=λp P=>no (eK 0 0 "_law_makes" "_law_makes" (tf p 51))
def RD:OF:=λp P=>co [(s "_law_makes" 931),(s "_law_makes" 932),(s cF 933),(i 358),(i 2),(i 0),(i 0),(i 3),(r 515),(.bool true),(i 181),(r 516),.none,.none,.none,(r 517),(i 934),(i 358),(s cF 935)]
def RE:OF:=λp P=>fo (fn "_law_makes" "_law_makes" (tf p 51) .none .none .none (s "law_stackwarden_k32_records_only_come" 910) none (r 518) .none)
def RF:OF:=λp P=>tu [(s "_law_makes_here" 940),(s "_law_cell_here" 941),(s "_law_k" 942),(s "_law_c" 943),(s "_law_many_here" 944),(s "_law_rows" 945),(s "_law_f" 946)]
def UL:OF:=λp P=>no (eK 0 0 "_law_recipe" "_law_recipe" (tf p 52))
def RG:OF:=λp P=>co [(s "_law_recipe" 937),(s "_law_recipe" 938),(s cF 939),(i 366),(i 3),(i 0),(i 0),(i 3),(r 520),(.bool true),(i 181),(r 521),.none,(r 522),(r 523),(r 524),(i 947),(i 366),(s cF 948)]
def RH:OF:=λp P=>fo (fn "_law_recipe" "_law_recipe" (tf p 52) .none .none .none (s "law_stackwarden_k32_records_only_come" 910) none (r 525) .none)
def RI:OF:=λp P=>tu [(s "_law_makes_here" 953),(s "_law_cell_here" 954),(s "_law_c" 955),(s "_law_many_here" 956),(s "_law_sign" 957)]
def UM:OF:=λp P=>no (eK 0 0 "_law_free" "_law_free" (tf p 53))
def RJ:OF:=λp P=>co [(s "_law_free" 950),(s "_law_free" 951),(s cF 952),(i 378),(i 2),(i 0),(i 0),(i 3),(r 527),(.bool true),(i 181),(r 528),.none,(r 529),(r 530),(r 531),(i 958),(i 378),(s cF 959)]
def RK:OF:=λp P=>fo (fn "_law_free" "_law_free" (tf p 53) .none .none .none (s "law_stackwarden_k32_records_only_come" 910) none (r 532) .none)
def RL:OF:=λp P=>tu [(s "_law_old" 964),(s "_law_new" 965),(s "_law_one" 966),(s "_law_other" 967)]
def UN:OF:=λp P=>no (eK 0 0 "_law_grown" "_law_grown" (tf p 54))
def RM:OF:=λp P=>co [(s "_law_grown" 961),(s "_law_grown" 962),(s cF 963),(i 393),(i 2),(i 0),(i 0),(i 3),(r 534),(.bool true),(i 181),(r 535),.none,(r 536),(r 537),(r 538),(i 968),(i 393),(s cF 969)]
def RN:OF:=λp P=>fo (fn "_law_grown" "_law_grown" (tf p 54) .none .none .none (s "law_stackwarden_k32_records_only_come" 910) none (r 539) .none)
def RO:OF:=λp P=>tu [(s "_law_makes_here" 974),(s "_law_heap" 975),(s "_law_make" 976),(s "_law_begun" 977),(s "_law_mask" 978),(s "_law_some" 979),(s "_law_f" 980)]
def UO:OF:=λp P=>no (eK 0 0 "_law_sound" "_law_sound" (tf p 55))
def RP:OF:=λp P=>co [(s "_law_sound" 971),(s "_law_sound" 972),(s cF 973),(i 402),(i 2),(i 0),(i 0),(i 3),(r 541),(.bool true),(i 181),(r 542),.none,(r 543),(r 544),(r 545),(i 981),(i 402),(s cF 982)]
def RQ:OF:=λp P=>fo (fn "_law_sound" "_law_sound" (tf p 55) .none .none .none (s "law_stackwarden_k32_records_only_come" 910) none (r 546) .none)
def RS:OF:=λp P=>tu [(s "_law_script" 987),(s "_law_makes_here" 988),(s "_law_heap" 989),(s "_law_k" 990),(s "_law_c" 991),(s "_law_some" 992)]
def UP:OF:=λp P=>no (eK 0 0 "_law_kinds" "_law_kinds" (tf p 56))
def RT:OF:=λp P=>co [(s "_law_kinds" 984),(s "_law_kinds" 985),(s cF 986),(i 412),(i 4),(i 0),(i 0),(i 3),(r 548),(.bool true),(i 181),(r 549),.none,(r 550),(r 551),(r 552),(i 993),(i 412),(s cF 994)]
def RU:OF:=λp P=>fo (fn "_law_kinds" "_law_kinds" (tf p 56) .none .none .none (s "law_stackwarden_k32_records_only_come" 910) none (r 553) .none)
def RV:OF:=λp P=>tu [(s "_law_script" 999),(s "_law_makes_here" 1000),(s "_law_old" 1001),(s "_law_new" 1002),(s "_law_k" 1003),(s "_law_kind" 1004)]
def UQ:OF:=λp P=>no (eK 0 0 "_law_stays" "_law_stays" (tf p 57))
def RX:OF:=λp P=>co [(s "_law_stays" 996),(s "_law_stays" 997),(s cF 998),(i 416),(i 4),(i 0),(i 0),(i 3),(r 555),(.bool true),(i 181),(r 556),.none,(r 557),(r 558),(r 559),(i 1005),(i 416),(s cF 1006)]
def RY:OF:=λp P=>fo (fn "_law_stays" "_law_stays" (tf p 57) .none .none .none (s "law_stackwarden_k32_records_only_come" 910) none (r 560) .none)
def RZ:OF:=λp P=>tu [(s "_law_script" 1011),(s "_law_makes_here" 1012),(s "_law_rows" 1013),(s "_law_k" 1014),(s "_law_cell_here" 1015),(s "_law_machine" 1016),(s "_law_old" 1017),(s "_law_held" 1018),(s "_law_new" 1019)]
def UR:OF:=λp P=>no (eK 0 0 "law" "law" (tf p 58))
def R5:OF:=λp P=>co [(s "law" 1008),(s "law" 1009),(s cF 1010),(i 422),(i 1),(i 0),(i 0),(i 3),(r 562),(.bool true),(i 181),(r 563),.none,(r 564),(r 565),(r 566),(i 1020),(i 422),(s cF 1021)]
def R6:OF:=λp P=>fo (fn "law" "law" (tf p 58) .none .none .none (s "law_stackwarden_k32_records_only_come" 910) none (r 567) .none)
noncomputable def T0:TF:=(ae FF (ae FG (ae b3_ (af Io) (af o0)) (ae Il (af Iq) (af o2))) (ae Ij (ae Ik (af Ip) (af o1)) (ae Im (af wz) (af o3))))
noncomputable def T1:TF:=(ae FF (ae FG (ae o4 (ae Io (ae o0 (ae FK (af FR) aA) (af KH)) (ae o1 (af o0) (af IF))) (ae o0 (ae o7 (af FN) (af o1)) (ae FI (af o0) (af FP)))) (ae Il (ae Iq (ae o6 (af Iu) (af ID)) (ae o0 (af Iy) (af o0))) (ae o2 (ae o9 (af o1) (af o0)) (ae o0 (af IA) (af IG))))) (ae Ij (ae Ik (ae Ip (ae o1 (af o0) (af IC)) (ae FH (af KG) (af FO))) (ae o5 (ae o8 (af o0) (af IE)) (ae FJ (af o1) (af o0)))) (ae Im (ae wz (ae o0 (af FL) (af o0)) (ae Ir (af Iz) (af o1))) (ae o3 (ae o0 (af Iw) (af KI)) (ae o1 (af o0) (af FQ))))))
noncomputable def T2:TF:=(ae FF (ae FG (ae o34 (ae Io (ae o0 (ae FK (af FR) (af IV)) (ae KH (af KW) aA)) (ae o1 (ae o0 (af KL) (af Nn)) (ae IF (af Lb) aA))) (ae o0 (ae o7 (ae FN (af II) (af IY)) (ae o1 (af K6) aA)) (ae FI (ae o0 (af KQ) (af Lf)) (ae FP (af IQ) aA)))) (ae Il (ae Iq (ae o6 (ae Iu (af o0) (af o0)) (ae ID (af KZ) aA)) (ae o0 (ae Iy (af KO) (af Ld)) (ae o0 (af IM) aA))) (ae o2 (ae o9 (ae o1 (af IK) (af I0)) (ae o0 (af K9) aA)) (ae o0 (ae IA (af KS) aA) (ae IG (af IT) aA))))) (ae Ij (ae Ik (ae Ip (ae o1 (ae o0 (af IH) (af IW)) (ae IC (af KY) aA)) (ae FH (ae KG (af KN) (af Lc)) (ae FO (af IL) aA))) (ae o5 (ae o8 (ae o0 (af IJ) (af IZ)) (ae IE (af K7) aA)) (ae FJ (ae o1 (af KR) aA) (ae o0 (af IS) aA)))) (ae Im (ae wz (ae o0 (ae FL (af o0) (af IX)) (ae o0 (af K5) aA)) (ae Ir (ae Iz (af KP) (af Le)) (ae o1 (af IP) aA))) (ae o3 (ae o0 (ae Iw (af KJ) (af o0)) (ae KI (af La) aA)) (ae o1 (ae o0 (af KU) aA) (ae FQ (af IU) aA))))))
noncomputable def T3:TF:=(ae FF (ae FG (ae o75 (ae Io (ae o0 (ae FK (ae FR (af Nv) aA) (af IV)) (ae KH (af KW) (af Nq))) (ae o1 (ae o0 (ae KL (af Nw) aA) (af Nn)) (ae IF (af Lb) (af o0)))) (ae o0 (ae o7 (ae FN (ae II (af o1) aA) (af IY)) (ae o1 (af K6) (af Nt))) (ae FI (ae o0 (af KQ) (af Lf)) (ae FP (af IQ) (af o0))))) (ae Il (ae Iq (ae o6 (ae Iu (ae o0 (af Lk) aA) (af o0)) (ae ID (af KZ) (af Pa))) (ae o0 (ae Iy (af KO) (af Ld)) (ae o0 (af IM) (af Lg)))) (ae o2 (ae o9 (ae o1 (ae IK (af o0) aA) (af I0)) (ae o0 (af K9) (af o1))) (ae o0 (ae IA (af KS) (af o0)) (ae IG (af IT) (af Li)))))) (ae Ij (ae Ik (ae Ip (ae o1 (ae o0 (ae IH (af Lj) aA) (af IW)) (ae IC (af KY) (af o0))) (ae FH (ae KG (ae KN (af Ny) aA) (af Lc)) (ae FO (af IL) (af Nu)))) (ae o76 (ae o8 (ae o0 (ae IJ (af Ll) aA) (af IZ)) (ae IE (af K7) (af o0))) (ae FJ (ae o1 (af KR) (af Np)) (ae o0 (af IS) (af o1))))) (ae Im (ae wz (ae o0 (ae FL (ae o0 (af o0) aA) (af IX)) (ae o0 (af K5) (af Nr))) (ae Ir (ae Iz (af KP) (af Le)) (ae o1 (af IP) (af Lh)))) (ae o3 (ae o0 (ae Iw (ae KJ (af Pc) aA) (af o0)) (ae KI (af La) (af Pb))) (ae o1 (ae o0 (af KU) (af o1)) (ae FQ (af IU) (af o0)))))))
noncomputable def T4:TF:=(ae FF (ae FG (ae o94 (ae Io (ae o0 (ae FK (ae FR (af Nv) aA) (ae IV (af zN) aA)) (ae KH (ae KW (af CN) aA) (af Nq))) (ae o1 (ae o0 (ae KL (af Nw) aA) (af Nn)) (ae IF (ae Lb (af oi) aA) (af o0)))) (ae o0 (ae o7 (ae FN (ae II (af o1) aA) (af IY)) (ae o1 (ae K6 (af Bj) aA) (af Nt))) (ae FI (ae o0 (ae KQ (af Q9) aA) (af Lf)) (ae FP (ae IQ (af Bl) aA) (af o0))))) (ae Il (ae Iq (ae o6 (ae Iu (ae o0 (af Lk) aA) (ae o0 (af Bp) aA)) (ae ID (ae KZ (af Bi) aA) (af Pa))) (ae o0 (ae Iy (ae KO (af Pd) aA) (af Ld)) (ae o0 (ae IM (af o0) aA) (af Lg)))) (ae o2 (ae o9 (ae o1 (ae IK (af o0) aA) (af I0)) (ae o0 (ae K9 (af CP) aA) (af o1))) (ae o0 (ae IA (ae KS (af o1) aA) (af o0)) (ae IG (ae IT (af o0) aA) (af Li)))))) (ae Ij (ae Ik (ae Ip (ae o1 (ae o0 (ae IH (af Lj) aA) (ae IW (af Bo) aA)) (ae IC (ae KY (af o0) aA) (af o0))) (ae FH (ae KG (ae KN (af Ny) aA) (af Lc)) (ae FO (ae IL (af Bk) aA) (af Nu)))) (ae o95 (ae o8 (ae o0 (ae IJ (af Ll) aA) (af IZ)) (ae IE (ae K7 (af CO) aA) (af o0))) (ae FJ (ae o1 (ae KR (af o0) aA) (af Np)) (ae o0 (ae IS (af Bm) aA) (af o1))))) (ae Im (ae wz (ae o0 (ae FL (ae o0 (af o0) aA) (af IX)) (ae o0 (ae K5 (af YA) aA) (af Nr))) (ae Ir (ae Iz (ae KP (af oi) aA) (af Le)) (ae o1 (ae IP (af o1) aA) (af Lh)))) (ae o3 (ae o0 (ae Iw (ae KJ (af Pc) aA) (af o0)) (ae KI (ae La (af oy) aA) (af Pb))) (ae o1 (ae o0 (ae KU (af Ra) aA) (af o1)) (ae FQ (ae IU (af zM) aA) (af o0)))))))
noncomputable def T5:TF:=(ae FF (ae FG (ae YB (ae Io (ae o0 (ae FK (ae FR (af Nv) (af o0)) (ae IV (af zN) aA)) (ae KH (ae KW (af CN) aA) (ae Nq (af o1) aA))) (ae o1 (ae o0 (ae KL (af Nw) aA) (ae Nn (af EL) aA)) (ae IF (ae Lb (af oi) aA) (ae o0 (af ES) aA)))) (ae o0 (ae o7 (ae FN (ae II (af o1) (af Bv)) (ae IY (af oi) aA)) (ae o1 (ae K6 (af Bj) aA) (ae Nt (af CW) aA))) (ae FI (ae o0 (ae KQ (af Q9) aA) (ae Lf (af CU) aA)) (ae FP (ae IQ (af Bl) aA) (ae o0 (af Br) aA))))) (ae Il (ae Iq (ae o6 (ae Iu (ae o0 (af Lk) (af Bt)) (ae o0 (af Bp) aA)) (ae ID (ae KZ (af Bi) aA) (ae Pa (af o0) aA))) (ae o0 (ae Iy (ae KO (af Pd) aA) (ae Ld (af o0) aA)) (ae o0 (ae IM (af o0) aA) (ae Lg (af CZ) aA)))) (ae o2 (ae o9 (ae o1 (ae IK (af o0) (af Bx)) (ae I0 (af o0) aA)) (ae o0 (ae K9 (af CP) aA) (ae o1 (af o0) aA))) (ae o0 (ae IA (ae KS (af o1) aA) (ae o0 (af EO) aA)) (ae IG (ae IT (af o0) aA) (ae Li (af o1) aA)))))) (ae Ij (ae Ik (ae Ip (ae o1 (ae o0 (ae IH (af Lj) (af C0)) (ae IW (af Bo) aA)) (ae IC (ae KY (af o0) aA) (ae o0 (af CV) aA))) (ae FH (ae KG (ae KN (af Ny) aA) (ae Lc (af EM) aA)) (ae FO (ae IL (af Bk) aA) (ae Nu (af o0) aA)))) (ae YC (ae o8 (ae o0 (ae IJ (af Ll) (af Bw)) (ae IZ (af CS) aA)) (ae IE (ae K7 (af CO) aA) (ae o0 (af CY) aA))) (ae FJ (ae o1 (ae KR (af o0) aA) (ae Np (af EN) aA)) (ae o0 (ae IS (af Bm) aA) (ae o1 (af o0) aA))))) (ae Im (ae wz (ae o0 (ae FL (ae o0 (af o0) (af Bu)) (ae IX (af oy) aA)) (ae o0 (ae K5 (af CQ) aA) (ae Nr (af ER) aA))) (ae Ir (ae Iz (ae KP (af oi) aA) (ae Le (af CT) aA)) (ae o1 (ae IP (af o1) aA) (ae Lh (af Bq) aA)))) (ae o3 (ae o0 (ae Iw (ae KJ (af Pc) aA) (ae o0 (af o1) aA)) (ae KI (ae La (af oy) aA) (ae Pb (af o1) aA))) (ae o1 (ae o0 (ae KU (af Ra) aA) (ae o1 (af o0) aA)) (ae FQ (ae IU (af zM) aA) (ae o0 (af Bs) aA)))))))
noncomputable def u0:TF:=(ae KH (ae KW (af CN) (af EW)) (ae Nq (af o1) (af o0)))
noncomputable def u1:TF:=(ae o0 (ae KL (af Nw) (af o1)) (ae Nn (af EL) (af Fg)))
noncomputable def u2:TF:=(ae IF (ae Lb (af oi) (af o0)) (ae o0 (af ES) (af Jh)))
noncomputable def u3:TF:=(ae o1 u1 u2)
noncomputable def u4:TF:=(ae o1 (ae K6 (af Bj) (af o0)) (ae Nt (af CW) (af o0)))
noncomputable def u5:TF:=(ae o0 (ae KQ (af Q9) (af o0)) (ae Lf (af CU) (af Je)))
noncomputable def u6:TF:=(ae ID (ae KZ (af Bi) (af o1)) (ae Pa (af o0) (af Fl)))
noncomputable def u7:TF:=(ae Iy (ae KO (af Pd) (af ET)) (ae Ld (af o0) (af Fi)))
noncomputable def u8:TF:=(ae o0 (ae K9 (af CP) (af EY)) (ae o1 (af o0) (af Nz)))
noncomputable def u9:TF:=(ae IA (ae KS (af o1) (af Jb)) (ae o0 (af EO) (af o1)))
noncomputable def u10:TF:=(ae IC (ae KY (af o0) (af o0)) (ae o0 (af CV) (af Jf)))
noncomputable def u11:TF:=(ae KG (ae KN (af Ny) (af Ja)) (ae Lc (af EM) (af Fh)))
noncomputable def u12:TF:=(ae IE (ae K7 (af CO) (af Jc)) (ae o0 (af CY) (af o1)))
noncomputable def u13:TF:=(ae o1 (ae KR (af o0) (af o1)) (ae Np (af EN) (af o0)))
noncomputable def u14:TF:=(ae o0 (ae K5 (af CQ) (af EX)) (ae Nr (af ER) (af Fn)))
noncomputable def u15:TF:=(ae Iz (ae KP (af oi) (af EU)) (ae Le (af CT) (af Jd)))
noncomputable def u16:TF:=(ae Iw (ae KJ (af Pc) (af o0)) (ae o0 (af o1) (af Ff)))
noncomputable def u17:TF:=(ae KI (ae La (af oy) (af EZ)) (ae Pb (af o1) (af Jg)))
noncomputable def u18:TF:=(ae o0 u16 u17)
noncomputable def u19:TF:=(ae o0 (ae KU (af Ra) (af EV)) (ae o1 (af o0) (af Fj)))
noncomputable def T6:TF:=(ae FF (ae FG (ae YD (ae Io (ae o0 (ae FK (ae FR (af Nv) (af o0)) (ae IV (af zN) (af o1))) u0) u3) (ae o0 (ae o7 (ae FN (ae II (af o1) (af Bv)) (ae IY (af oi) (af C2))) u4) (ae FI u5 (ae FP (ae IQ (af Bl) (af E9)) (ae o0 (af Br) aA))))) (ae Il (ae Iq (ae o6 (ae Iu (ae o0 (af Lk) (af Bt)) (ae o0 (af Bp) (af o0))) u6) (ae o0 u7 (ae o0 (ae IM (af o0) (af E8)) (ae Lg (af CZ) aA)))) (ae o2 (ae o9 (ae o1 (ae IK (af o0) (af Bx)) (ae I0 (af o0) (af C4))) u8) (ae o0 u9 (ae IG (ae IT (af o0) (af Fd)) (ae Li (af o1) aA)))))) (ae Ij (ae Ik (ae Ip (ae o1 (ae o0 (ae IH (af Lj) (af C0)) (ae IW (af Bo) (af C1))) u10) (ae FH u11 (ae FO (ae IL (af Bk) (af oi)) (ae Nu (af o0) aA)))) (ae YE (ae o8 (ae o0 (ae IJ (af Ll) (af Bw)) (ae IZ (af CS) (af C3))) u12) (ae FJ u13 (ae o0 (ae IS (af Bm) (af Fc)) (ae o1 (af o0) aA))))) (ae Im (ae wz (ae o0 (ae FL (ae o0 (af o0) (af Bu)) (ae IX (af oy) (af Fe))) u14) (ae Ir u15 (ae o1 (ae IP (af o1) (af o0)) (ae Lh (af Bq) aA)))) (ae o3 u18 (ae o1 u19 (ae FQ (ae IU (af zM) (af o0)) (ae o0 (af Bs) aA)))))))
noncomputable def T7:TF:=(ae FF (ae FG (ae YF (ae Io (ae o0 (ae FK (ae FR (ae Nv (af o0) aA) (af o0)) (ae IV (af zN) (af o1))) u0) u3) (ae o0 (ae o7 (ae FN (ae II (ae o1 (af Jj) aA) (af Bv)) (ae IY (af oi) (af C2))) u4) (ae FI u5 (ae FP (ae IQ (af Bl) (af E9)) (ae o0 (af Br) (af o0)))))) (ae Il (ae Iq (ae o6 (ae Iu (ae o0 (ae Lk (af Fs) aA) (af Bt)) (ae o0 (af Bp) (af o0))) u6) (ae o0 u7 (ae o0 (ae IM (af o0) (af E8)) (ae Lg (af CZ) (af o1))))) (ae o2 (ae o9 (ae o1 (ae IK (ae o0 (af Fu) aA) (af Bx)) (ae I0 (af o0) (af C4))) u8) (ae o0 u9 (ae IG (ae IT (af o0) (af Fd)) (ae Li (af o1) (af Fp))))))) (ae Ij (ae Ik (ae Ip (ae o1 (ae o0 (ae IH (ae Lj (af o1) aA) (af C0)) (ae IW (af Bo) (af C1))) u10) (ae FH u11 (ae FO (ae IL (af Bk) (af oi)) (ae Nu (af o0) (af o0))))) (ae YG (ae o8 (ae o0 (ae IJ (ae Ll (af Ft) aA) (af Bw)) (ae IZ (af CS) (af C3))) u12) (ae FJ u13 (ae o0 (ae IS (af Bm) (af Fc)) (ae o1 (af o0) (af Ji)))))) (ae Im (ae wz (ae o0 (ae FL (ae o0 (ae o0 (af o0) aA) (af Bu)) (ae IX (af oy) (af Fe))) u14) (ae Ir u15 (ae o1 (ae IP (af o1) (af o0)) (ae Lh (af Bq) (af Fo))))) (ae o3 u18 (ae o1 u19 (ae FQ (ae IU (af zM) (af o0)) (ae o0 (af Bs) (af Fq))))))))
noncomputable def u20:TF:=(ae FR (ae Nv (af o0) (af J4)) (ae o0 (af o0) aA))
noncomputable def u21:TF:=(ae IV (ae zN (af Jr) (af o0)) (ae o1 (af JR) aA))
noncomputable def u22:TF:=(ae FK u20 u21)
noncomputable def u23:TF:=(ae KW (ae CN (af NF) (af o1)) (ae EW (af o0) aA))
noncomputable def u24:TF:=(ae Nq (ae o1 (af o1) (af Kq)) (ae o0 (af NU) aA))
noncomputable def u25:TF:=(ae KH u23 u24)
noncomputable def u26:TF:=(ae o0 u22 u25)
noncomputable def u27:TF:=(ae KL (ae Nw (af oi) (af o0)) (ae o1 (af JH) aA))
noncomputable def u28:TF:=(ae Nn (ae EL (af o0) (af N2)) (ae Fg (af o0) aA))
noncomputable def u29:TF:=(ae o0 u27 u28)
noncomputable def u30:TF:=(ae Lb (ae oi (af Jn) (af Kf)) (ae o0 (af o1) aA))
noncomputable def u31:TF:=(ae o0 (ae ES (af NL) (af Rf)) (ae Jh (af NV) aA))
noncomputable def u32:TF:=(ae IF u30 u31)
noncomputable def u33:TF:=(ae o1 u29 u32)
noncomputable def u34:TF:=(ae Io u26 u33)
noncomputable def u35:TF:=(ae II (ae o1 (af Jj) (af o0)) (ae Bv (af o0) aA))
noncomputable def u36:TF:=(ae IY (ae oi (af o0) (af o0)) (ae C2 (af JT) aA))
noncomputable def u37:TF:=(ae FN u35 u36)
noncomputable def u38:TF:=(ae K6 (ae Bj (af o1) (af Kc)) (ae o0 (af NQ) aA))
noncomputable def u39:TF:=(ae Nt (ae CW (af Jz) (af YJ)) (ae o0 (af o1) aA))
noncomputable def u40:TF:=(ae o1 u38 u39)
noncomputable def u41:TF:=(ae o7 u37 u40)
noncomputable def u42:TF:=(ae KQ (ae Q9 (af NC) (af NY)) (ae o0 (af o0) aA))
noncomputable def u43:TF:=(ae Lf (ae CU (af NJ) (af o1)) (ae Je (af o0) aA))
noncomputable def u44:TF:=(ae o0 u42 u43)
noncomputable def u45:TF:=(ae IQ (ae Bl (af Jp) (af Kh)) (ae E9 (af JP) aA))
noncomputable def u46:TF:=(ae o0 (ae Br (af JC) aA) (ae o0 (af J2) aA))
noncomputable def u47:TF:=(ae FP u45 u46)
noncomputable def u48:TF:=(ae FI u44 u47)
noncomputable def u49:TF:=(ae o0 u41 u48)
noncomputable def u50:TF:=(ae o0 (ae Lk (af Fs) (af o1)) (ae Bt (af JE) aA))
noncomputable def u51:TF:=(ae o0 (ae Bp (af o1) (af Kj)) (ae o0 (af NS) aA))
noncomputable def u52:TF:=(ae Iu u50 u51)
noncomputable def u53:TF:=(ae KZ (ae Bi (af Jl) (af o0)) (ae o1 (af JL) aA))
noncomputable def u54:TF:=(ae Pa (ae o0 (af o0) (af Ks)) (ae Fl (af JZ) aA))
noncomputable def u55:TF:=(ae ID u53 u54)
noncomputable def u56:TF:=(ae o6 u52 u55)
noncomputable def u57:TF:=(ae KO (ae Pd (af o0) (af J8)) (ae ET (af o1) aA))
noncomputable def u58:TF:=(ae Ld (ae o0 (af Jv) (af Ko)) (ae Fi (af JV) aA))
noncomputable def u59:TF:=(ae Iy u57 u58)
noncomputable def u60:TF:=(ae IM (ae o0 (af o0) (af N0)) (ae E8 (af o0) aA))
noncomputable def u61:TF:=(ae Lg (ae CZ (af NM) aA) (ae o1 (af o0) aA))
noncomputable def u62:TF:=(ae o0 u60 u61)
noncomputable def u63:TF:=(ae o0 u59 u62)
noncomputable def u64:TF:=(ae Iq u56 u63)
noncomputable def u65:TF:=(ae IK (ae o0 (af Fu) (af J6)) (ae Bx (af NO) aA))
noncomputable def u66:TF:=(ae I0 (ae o0 (af Jt) (af Kl)) (ae C4 (af o1) aA))
noncomputable def u67:TF:=(ae o1 u65 u66)
noncomputable def u68:TF:=(ae K9 (ae CP (af o0) (af o0)) (ae EY (af JN) aA))
noncomputable def u69:TF:=(ae o1 (ae o0 (af o0) (af N4)) (ae Nz (af o0) aA))
noncomputable def u70:TF:=(ae o0 u68 u69)
noncomputable def u71:TF:=(ae o9 u67 u70)
noncomputable def u72:TF:=(ae KS (ae o1 (af o0) (af Ka)) (ae Jb (af JJ) aA))
noncomputable def u73:TF:=(ae o0 (ae EO (af Jx) (af o0)) (ae o1 (af JX) aA))
noncomputable def u74:TF:=(ae IA u72 u73)
noncomputable def u75:TF:=(ae IT (ae o0 (af NH) (af o1)) (ae Fd (af o0) aA))
noncomputable def u76:TF:=(ae Li (ae o1 (af o1) aA) (ae Fp (af NW) aA))
noncomputable def u77:TF:=(ae IG u75 u76)
noncomputable def u78:TF:=(ae o0 u74 u77)
noncomputable def u79:TF:=(ae o2 u71 u78)
noncomputable def u80:TF:=(ae Il u64 u79)
noncomputable def u81:TF:=(ae IH (ae Lj (af o1) (af o0)) (ae C0 (af NN) aA))
noncomputable def u82:TF:=(ae IW (ae Bo (af o0) (af N1)) (ae C1 (af o0) aA))
noncomputable def u83:TF:=(ae o0 u81 u82)
noncomputable def u84:TF:=(ae KY (ae o0 (af Jk) (af Kb)) (ae o0 (af o1) aA))
noncomputable def u85:TF:=(ae o0 (ae CV (af Jy) (af Kr)) (ae Jf (af JY) aA))
noncomputable def u86:TF:=(ae IC u84 u85)
noncomputable def u87:TF:=(ae o1 u83 u86)
noncomputable def u88:TF:=(ae KN (ae Ny (af NA) (af o1)) (ae Ja (af o0) aA))
noncomputable def u89:TF:=(ae Lc (ae EM (af o1) (af Km)) (ae Fh (af NT) aA))
noncomputable def u90:TF:=(ae KG u88 u89)
noncomputable def u91:TF:=(ae IL (ae Bk (af Jo) (af o0)) (ae oi (af JO) aA))
noncomputable def u92:TF:=(ae Nu (ae o0 (af o0) aA) (ae o0 (af J1) aA))
noncomputable def u93:TF:=(ae FO u91 u92)
noncomputable def u94:TF:=(ae FH u90 u93)
noncomputable def u95:TF:=(ae Ip u87 u94)
noncomputable def u96:TF:=(ae IJ (ae Ll (af Ft) (af NX)) (ae Bw (af o1) aA))
noncomputable def u97:TF:=(ae IZ (ae CS (af NI) (af o1)) (ae C3 (af o0) aA))
noncomputable def u98:TF:=(ae o0 u96 u97)
noncomputable def u99:TF:=(ae K7 (ae CO (af Jm) (af Ke)) (ae Jc (af JM) aA))
noncomputable def YN:TF:=(ae o0 (ae CY (af JA) (af Ku)) (ae o1 (af J0) aA))
noncomputable def YO:TF:=(ae IE u99 YN)
noncomputable def YQ:TF:=(ae o8 u98 YO)
noncomputable def YR:TF:=(ae KR (ae o0 (af ND) (af J9)) (ae o1 (af NP) aA))
noncomputable def YS:TF:=(ae Np (ae EN (af Jw) (af Kp)) (ae o0 (af o1) aA))
noncomputable def YT:TF:=(ae o1 YR YS)
noncomputable def YU:TF:=(ae IS (ae Bm (af o0) (af o0)) (ae Fc (af JQ) aA))
noncomputable def YV:TF:=(ae o1 (ae o0 (af o0) aA) (ae Ji (af o0) aA))
noncomputable def YW:TF:=(ae o0 YU YV)
noncomputable def YX:TF:=(ae FJ YT YW)
noncomputable def YY:TF:=(ae YI YQ YX)
noncomputable def YZ:TF:=(ae Ik u95 YY)
noncomputable def Y0:TF:=(ae o0 (ae o0 (af o0) (af J5)) (ae Bu (af JF) aA))
noncomputable def Y1:TF:=(ae IX (ae oy (af Js) (af Kk)) (ae Fe (af JS) aA))
noncomputable def Y2:TF:=(ae FL Y0 Y1)
noncomputable def Y3:TF:=(ae K5 (ae CQ (af o0) (af NZ)) (ae EX (af o0) aA))
noncomputable def Y4:TF:=(ae Nr (ae ER (af NK) (af Kt)) (ae Fn (af o0) aA))
noncomputable def Y5:TF:=(ae o0 Y3 Y4)
noncomputable def Y6:TF:=(ae o0 Y2 Y5)
noncomputable def Y7:TF:=(ae KP (ae oi (af NB) (af o0)) (ae EU (af JI) aA))
noncomputable def Y8:TF:=(ae Le (ae CT (af o0) (af o0)) (ae Jd (af JW) aA))
noncomputable def Y9:TF:=(ae Iz Y7 Y8)
noncomputable def Za:TF:=(ae IP (ae o1 (af o1) (af Kg)) (ae o0 (af NR) aA))
noncomputable def Zb:TF:=(ae Lh (ae Bq (af JB) aA) (ae Fo (af o1) aA))
noncomputable def Zc:TF:=(ae o1 Za Zb)
noncomputable def Zd:TF:=(ae Ir Y9 Zc)
noncomputable def Ze:TF:=(ae wz Y6 Zd)
noncomputable def Zf:TF:=(ae KJ (ae Pc (af o0) (af J7)) (ae o0 (af JG) aA))
noncomputable def Zg:TF:=(ae o0 (ae o1 (af Ju) (af o0)) (ae Ff (af JU) aA))
noncomputable def Zh:TF:=(ae Iw Zf Zg)
noncomputable def Zi:TF:=(ae La (ae oy (af NG) (af o1)) (ae EZ (af o0) aA))
noncomputable def US:TF:=(ae Pb (ae o1 (af o1) (af Rc)) (ae Jg (af Rb) aA))
noncomputable def Zj:TF:=(ae KI Zi US)
noncomputable def Zk:TF:=(ae o0 Zh Zj)
noncomputable def Zl:TF:=(ae KU (ae Ra (af o1) (af o0)) (ae EV (af JK) aA))
noncomputable def Zm:TF:=(ae o1 (ae o0 (af o0) (af N3)) (ae Fj (af o0) aA))
noncomputable def Zn:TF:=(ae o0 Zl Zm)
noncomputable def Zo:TF:=(ae IU (ae zM (af Jq) (af Ki)) (ae o0 (af o1) aA))
noncomputable def Zp:TF:=(ae o0 (ae Bs (af JD) aA) (ae Fq (af J3) aA))
noncomputable def Zq:TF:=(ae FQ Zo Zp)
noncomputable def Zr:TF:=(ae o1 Zn Zq)
noncomputable def Zs:TF:=(ae o3 Zk Zr)
noncomputable def Zt:TF:=(ae Im Ze Zs)
noncomputable def UT:TF:=(ae Ij YZ Zt)
noncomputable def T8:TF:=(ae FF (ae FG (ae YH u34 u49) u80) UT)
noncomputable def T9:TF:=(ae FF (ae FG (ae YK u34 u49) u80) UT)
noncomputable def T10:TF:=(ae FF (ae FG (ae YL (ae Io (ae o0 (ae FK (ae FR (ae Nv (af o0) (af J4)) (ae o0 (af o0) (af o0))) (ae IV (ae zN (af Jr) (af o0)) (ae o1 (af JR) (af Rp)))) (ae KH (ae KW (ae CN (af NF) (af o1)) (ae EW (af o0) (af Oe))) (ae Nq (ae o1 (af o1) (af Kq)) (ae o0 (af NU) (af Ox))))) (ae o1 (ae o0 (ae KL (ae Nw (af oi) (af o0)) (ae o1 (af JH) (af o1))) (ae Nn (ae EL (af o0) (af N2)) (ae Fg (af o0) (af Ot)))) (ae IF (ae Lb (ae oi (af Jn) (af Kf)) (ae o0 (af o1) (af o0))) u31))) (ae o0 (ae o7 (ae FN (ae II (ae o1 (af Jj) (af o0)) (ae Bv (af o0) (af Rl))) (ae IY (ae oi (af o0) (af o0)) (ae C2 (af JT) (af o1)))) (ae o1 (ae K6 (ae Bj (af o1) (af Kc)) (ae o0 (af NQ) (af Og))) (ae Nt (ae CW (af Jz) (af N5)) (ae o0 (af o1) (af Rt))))) (ae FI (ae o0 (ae KQ (ae Q9 (af NC) (af NY)) (ae o0 (af o0) (af Oc))) (ae Lf (ae CU (af NJ) (af o1)) (ae Je (af o0) (af Ov)))) (ae FP (ae IQ (ae Bl (af Jp) (af Kh)) (ae E9 (af JP) (af o0))) (ae o0 (ae Br (af JC) (af o0)) (ae o0 (af J2) aA)))))) (ae Il (ae Iq (ae o6 (ae Iu (ae o0 (ae Lk (af Fs) (af o1)) (ae Bt (af JE) (af N7))) (ae o0 (ae Bp (af o1) (af Kj)) (ae o0 (af NS) (af Oo)))) (ae ID (ae KZ (ae Bi (af Jl) (af o0)) (ae o1 (af JL) (af Rn))) (ae Pa (ae o0 (af o0) (af Ks)) (ae Fl (af JZ) (af Oy))))) (ae o0 (ae Iy (ae KO (ae Pd (af o0) (af J8)) (ae ET (af o1) (af o0))) (ae Ld (ae o0 (af Jv) (af Ko)) (ae Fi (af JV) (af o0)))) (ae o0 (ae IM (ae o0 (af o0) (af N0)) (ae E8 (af o0) (af Oi))) (ae Lg (ae CZ (af NM) (af oi)) (ae o1 (af o0) aA))))) (ae o2 (ae o9 (ae o1 (ae IK (ae o0 (af Fu) (af J6)) (ae Bx (af NO) (af N9))) (ae I0 (ae o0 (af Jt) (af Kl)) (ae C4 (af o1) (af o0)))) (ae o0 (ae K9 (ae CP (af o0) (af o0)) (ae EY (af JN) (af o1))) u69)) (ae o0 (ae IA (ae KS (ae o1 (af o0) (af Ka)) (ae Jb (af JJ) (af o0))) (ae o0 (ae EO (af Jx) (af o0)) (ae o1 (af JX) (af Rr)))) (ae IG (ae IT (ae o0 (af NH) (af o1)) (ae Fd (af o0) (af Ol))) (ae Li (ae o1 (af o1) (af Ri)) (ae Fp (af NW) aA))))))) (ae Ij (ae Ik (ae Ip (ae o1 (ae o0 (ae IH (ae Lj (af o1) (af o0)) (ae C0 (af NN) (af o1))) (ae IW (ae Bo (af o0) (af N1)) (ae C1 (af o0) (af Om)))) (ae IC (ae KY (ae o0 (af Jk) (af Kb)) (ae o0 (af o1) (af o0))) (ae o0 (ae CV (af Jy) (af Kr)) (ae Jf (af JY) (af o0))))) (ae FH (ae KG (ae KN (ae Ny (af NA) (af o1)) (ae Ja (af o0) (af Oa))) (ae Lc (ae EM (af o1) (af Km)) (ae Fh (af NT) (af Ou)))) (ae FO (ae IL (ae Bk (af Jo) (af o0)) (ae oi (af JO) (af Ro))) (ae Nu (ae o0 (af o0) (af N6)) (ae o0 (af J1) aA))))) (ae YM (ae o8 (ae o0 (ae IJ (ae Ll (af Ft) (af NX)) (ae Bw (af o1) (af N8))) (ae IZ (ae CS (af NI) (af o1)) (ae C3 (af o0) (af Oq)))) (ae IE (ae K7 (ae CO (af Jm) (af Ke)) (ae Jc (af JM) (af o0))) (ae o0 (ae CY (af JA) (af Ku)) (ae o1 (af J0) (af Ru))))) (ae FJ (ae o1 (ae KR (ae o0 (af ND) (af J9)) (ae o1 (af NP) (af Od))) (ae Np (ae EN (af Jw) (af Kp)) (ae o0 (af o1) (af o0)))) (ae o0 (ae IS (ae Bm (af o0) (af o0)) (ae Fc (af JQ) (af o1))) (ae o1 (ae o0 (af o0) (af Rh)) (ae Ji (af o0) aA)))))) (ae Im (ae wz (ae o0 (ae FL (ae o0 (ae o0 (af o0) (af J5)) (ae Bu (af JF) (af o0))) (ae IX (ae oy (af Js) (af Kk)) (ae Fe (af JS) (af o0)))) (ae o0 (ae K5 (ae CQ (af o0) (af NZ)) (ae EX (af o0) (af Of))) (ae Nr (ae ER (af NK) (af Kt)) (ae Fn (af o0) (af Oz))))) (ae Ir (ae Iz (ae KP (ae oi (af NB) (af o0)) (ae EU (af JI) (af Rm))) (ae Le (ae CT (af o0) (af o0)) (ae Jd (af JW) (af o1)))) (ae o1 (ae IP (ae o1 (af o1) (af Kg)) (ae o0 (af NR) (af Oj))) (ae Lh (ae Bq (af JB) (af Rg)) (ae Fo (af o1) aA))))) (ae o3 (ae o0 (ae Iw (ae KJ (ae Pc (af o0) (af J7)) (ae o0 (af JG) (af o0))) (ae o0 (ae o1 (af Ju) (af o0)) (ae Ff (af JU) (af Rq)))) (ae KI (ae La (ae oy (af NG) (af o1)) (ae EZ (af o0) (af Oh))) US)) (ae o1 (ae o0 (ae KU (ae Ra (af o1) (af o0)) (ae EV (af JK) (af o1))) (ae o1 (ae o0 (af o0) (af N3)) (ae Fj (af o0) (af Ow)))) (ae FQ (ae IU (ae zM (af Jq) (af Ki)) (ae o0 (af o1) (af o0))) (ae o0 (ae Bs (af JD) (af Rj)) (ae Fq (af J3) aA))))))))
noncomputable def T11:TF:=(ae FF (ae FG (ae Rv (ae Io (ae o0 (ae FK (ae FR (ae Nv (ae o0 (af o0) aA) (af J4)) (ae o0 (af o0) (af o0))) (ae IV (ae zN (ae Jr (af RO) aA) (af o0)) (ae o1 (af JR) (af Rp)))) (ae KH (ae KW (ae CN (ae NF (af o0) aA) (af o1)) (ae EW (af o0) (af Oe))) (ae Nq (ae o1 (ae o1 (af UQ) aA) (af Kq)) (ae o0 (af NU) (af Ox))))) (ae o1 (ae o0 (ae KL (ae Nw (ae oi (af RE) aA) (af o0)) (ae o1 (af JH) (af o1))) (ae Nn (ae EL (ae o0 (af o0) aA) (af N2)) (ae Fg (af o0) (af Ot)))) (ae IF (ae Lb (ae oi (ae Jn (af o1) aA) (af Kf)) (ae o0 (af o1) (af o0))) (ae o0 (ae ES (ae NL (af R5) aA) (af Rf)) (ae Jh (af NV) (af Rx)))))) (ae o0 (ae o7 (ae FN (ae II (ae o1 (ae Jj (af o0) aA) (af o0)) (ae Bv (af o0) (af Rl))) (ae IY (ae oi (ae o0 (af RQ) aA) (af o0)) (ae C2 (af JT) (af o1)))) (ae o1 (ae K6 (ae Bj (ae o1 (af UM) aA) (af Kc)) (ae o0 (af NQ) (af Og))) (ae Nt (ae CW (ae Jz (af o1) aA) (af N5)) (ae o0 (af o1) (af Rt))))) (ae FI (ae o0 (ae KQ (ae Q9 (ae NC (af o0) aA) (af NY)) (ae o0 (af o0) (af Oc))) (ae Lf (ae CU (ae NJ (af o0) aA) (af o1)) (ae Je (af o0) (af Ov)))) (ae FP (ae IQ (ae Bl (ae Jp (af RM) aA) (af Kh)) (ae E9 (af JP) (af o0))) (ae o0 (ae Br (af JC) (af o0)) (ae o0 (af J2) (af Rz))))))) (ae Il (ae Iq (ae o6 (ae Iu (ae o0 (ae Lk (ae Fs (af RB) aA) (af o1)) (ae Bt (af JE) (af N7))) (ae o0 (ae Bp (ae o1 (af UO) aA) (af Kj)) (ae o0 (af NS) (af Oo)))) (ae ID (ae KZ (ae Bi (ae Jl (af RI) aA) (af o0)) (ae o1 (af JL) (af Rn))) (ae Pa (ae o0 (ae o0 (af RY) aA) (af Ks)) (ae Fl (af JZ) (af Oy))))) (ae o0 (ae Iy (ae KO (ae Pd (ae o0 (af o1) aA) (af J8)) (ae ET (af o1) (af o0))) (ae Ld (ae o0 (ae Jv (af RT) aA) (af Ko)) (ae Fi (af JV) (af o0)))) (ae o0 (ae IM (ae o0 (ae o0 (af o0) aA) (af N0)) (ae E8 (af o0) (af Oi))) (ae Lg (ae CZ (af NM) (af oi)) (ae o1 (af o0) (af UI)))))) (ae o2 (ae o9 (ae o1 (ae IK (ae o0 (ae Fu (af UK) aA) (af J6)) (ae Bx (af NO) (af N9))) (ae I0 (ae o0 (ae Jt (af o1) aA) (af Kl)) (ae C4 (af o1) (af o0)))) (ae o0 (ae K9 (ae CP (ae o0 (af RK) aA) (af o0)) (ae EY (af JN) (af o1))) (ae o1 (ae o0 (ae o0 (af o0) aA) (af N4)) (ae Nz (af o0) (af o0))))) (ae o0 (ae IA (ae KS (ae o1 (ae o0 (af RG) aA) (af Ka)) (ae Jb (af JJ) (af o0))) (ae o0 (ae EO (ae Jx (af RV) aA) (af o0)) (ae o1 (af JX) (af Rr)))) (ae IG (ae IT (ae o0 (ae NH (af o0) aA) (af o1)) (ae Fd (af o0) (af Ol))) (ae Li (ae o1 (af o1) (af Ri)) (ae Fp (af NW) (af o1)))))))) (ae Ij (ae Ik (ae Ip (ae o1 (ae o0 (ae IH (ae Lj (ae o1 (af UJ) aA) (af o0)) (ae C0 (af NN) (af o1))) (ae IW (ae Bo (ae o0 (af o0) aA) (af N1)) (ae C1 (af o0) (af Om)))) (ae IC (ae KY (ae o0 (ae Jk (af o1) aA) (af Kb)) (ae o0 (af o1) (af o0))) (ae o0 (ae CV (ae Jy (af RX) aA) (af Kr)) (ae Jf (af JY) (af o0))))) (ae FH (ae KG (ae KN (ae Ny (ae NA (af o0) aA) (af o1)) (ae Ja (af o0) (af Oa))) (ae Lc (ae EM (ae o1 (af UP) aA) (af Km)) (ae Fh (af NT) (af Ou)))) (ae FO (ae IL (ae Bk (ae Jo (af RL) aA) (af o0)) (ae oi (af JO) (af Ro))) (ae Nu (ae o0 (ae o0 (af R6) aA) (af N6)) (ae o0 (af J1) (af o0)))))) (ae UH (ae o8 (ae o0 (ae IJ (ae Ll (ae Ft (af o1) aA) (af NX)) (ae Bw (af o1) (af N8))) (ae IZ (ae CS (ae NI (af o0) aA) (af o1)) (ae C3 (af o0) (af Oq)))) (ae IE (ae K7 (ae CO (ae Jm (af RJ) aA) (af Ke)) (ae Jc (af JM) (af o0))) (ae o0 (ae CY (ae JA (af RZ) aA) (af Ku)) (ae o1 (af J0) (af Ru))))) (ae FJ (ae o1 (ae KR (ae o0 (ae ND (af UL) aA) (af J9)) (ae o1 (af NP) (af Od))) (ae Np (ae EN (ae Jw (af o1) aA) (af Kp)) (ae o0 (af o1) (af o0)))) (ae o0 (ae IS (ae Bm (ae o0 (af RN) aA) (af o0)) (ae Fc (af JQ) (af o1))) (ae o1 (ae o0 (af o0) (af Rh)) (ae Ji (af o0) (af o0))))))) (ae Im (ae wz (ae o0 (ae FL (ae o0 (ae o0 (ae o0 (af RC) aA) (af J5)) (ae Bu (af JF) (af o0))) (ae IX (ae oy (ae Js (af RP) aA) (af Kk)) (ae Fe (af JS) (af o0)))) (ae o0 (ae K5 (ae CQ (ae o0 (af o0) aA) (af NZ)) (ae EX (af o0) (af Of))) (ae Nr (ae ER (ae NK (af o0) aA) (af Kt)) (ae Fn (af o0) (af Oz))))) (ae Ir (ae Iz (ae KP (ae oi (ae NB (af RF) aA) (af o0)) (ae EU (af JI) (af Rm))) (ae Le (ae CT (ae o0 (af RU) aA) (af o0)) (ae Jd (af JW) (af o1)))) (ae o1 (ae IP (ae o1 (ae o1 (af UN) aA) (af Kg)) (ae o0 (af NR) (af Oj))) (ae Lh (ae Bq (af JB) (af Rg)) (ae Fo (af o1) (af Ry)))))) (ae o3 (ae o0 (ae Iw (ae KJ (ae Pc (ae o0 (af RD) aA) (af J7)) (ae o0 (af JG) (af o0))) (ae o0 (ae o1 (ae Ju (af RS) aA) (af o0)) (ae Ff (af JU) (af Rq)))) (ae KI (ae La (ae oy (ae NG (af o0) aA) (af o1)) (ae EZ (af o0) (af Oh))) (ae Pb (ae o1 (ae o1 (af UR) aA) (af Rc)) (ae Jg (af Rb) (af o1))))) (ae o1 (ae o0 (ae KU (ae Ra (ae o1 (af RH) aA) (af o0)) (ae EV (af JK) (af o1))) (ae o1 (ae o0 (ae o0 (af o0) aA) (af N3)) (ae Fj (af o0) (af Ow)))) (ae FQ (ae IU (ae zM (ae Jq (af o1) aA) (af Ki)) (ae o0 (af o1) (af o0))) (ae o0 (ae Bs (af JD) (af Rj)) (ae Fq (af J3) (af RA)))))))))
noncomputable def HF(p:Program)(P:Params):Heap:=⟨Array.mk [(boot_o_0 P),(boot_o_1 P),(boot_o_2 P),(Rv p P),(boot_o_4 P),(boot_o_5 P),(boot_o_6 P),(boot_o_7 P),(boot_o_8 P),(boot_o_9 P),(boot_o_10 P),(o0 p P),(UH p P),(o2 p P),(o3 p P),(o0 p P),(o1 p P),(o6 p P),(o0 p P),(o7 p P),(o8 p P),(o9 p P),(o0 p P),(o1 p P),(FH p P),(o0 p P),(Ir p P),(FI p P),(FJ p P),(o0 p P),(o1 p P),(FK p P),(o0 p P),(Iu p P),(FL p P),(FN p P),(o0 p P),(o1 p P),(Iw p P),(o0 p P),(KG p P),(Iy p P),(Iz p P),(o0 p P),(o1 p P),(IA p P),(o0 p P),(KH p P),(IC p P),(ID p P),(o0 p P),(o1 p P),(IE p P),(o0 p P),(KI p P),(IF p P),(FO p P),(o0 p P),(o1 p P),(FP p P),(o0 p P),(IG p P),(FQ p P),(FR p P),(IH p P),(o0 p P),(o0 p P),(II p P),(IJ p P),(IK p P),(KJ p P),(KL p P),(KN p P),(KO p P),(KP p P),(KQ p P),(KR p P),(KS p P),(KU p P),(KW p P),(KY p P),(KZ p P),(K5 p P),(K6 p P),(K7 p P),(K9 p P),(La p P),(Lb p P),(IL p P),(IM p P),(IP p P),(IQ p P),(IS p P),(IT p P),(IU p P),(IV p P),(IW p P),(o0 p P),(IX p P),(IY p P),(IZ p P),(I0 p P),(o0 p P),(Nn p P),(Lc p P),(Ld p P),(Le p P),(Lf p P),(Np p P),(o0 p P),(o1 p P),(Nq p P),(o0 p P),(Pa p P),(Nr p P),(Nt p P),(o0 p P),(o1 p P),(Pb p P),(o0 p P),(Nu p P),(Lg p P),(Lh p P),(o0 p P),(o1 p P),(Li p P),(o0 p P),(Nv p P),(Lj p P),(Lk p P),(o0 p P),(o1 p P),(Ll p P),(o0 p P),(Pc p P),(Nw p P),(Ny p P),(Pd p P),(oi p P),(Q9 p P),(o0 p P),(o1 p P),(Ra p P),(CN p P),(o0 p P),(Bi p P),(CQ p P),(Bj p P),(CO p P),(CP p P),(oy p P),(oi p P),(Bk p P),(o0 p P),(o1 p P),(Bl p P),(Bm p P),(o0 p P),(zM p P),(zN p P),(Bo p P),(Bp p P),(oy p P),(oi p P),(CS p P),(o0 p P),(o1 p P),(EL p P),(EM p P),(o0 p P),(CT p P),(CU p P),(EN p P),(EO p P),(o0 p P),(o1 p P),(CV p P),(o0 p P),(ER p P),(CW p P),(CY p P),(o0 p P),(o1 p P),(ES p P),(o0 p P),(CZ p P),(Bq p P),(Br p P),(o0 p P),(o1 p P),(Bs p P),(o0 p P),(C0 p P),(Bt p P),(Bu p P),(Bv p P),(Bw p P),(Bx p P),(o0 p P),(o1 p P),(Ja p P),(ET p P),(EU p P),(o0 p P),(o1 p P),(Jb p P),(EV p P),(EW p P),(o0 p P),(o1 p P),(EX p P),(o0 p P),(Jc p P),(EY p P),(EZ p P),(o0 p P),(oi p P),(E8 p P),(o0 p P),(E9 p P),(Fc p P),(Fd p P),(o0 p P),(o1 p P),(C1 p P),(o0 p P),(Fe p P),(C2 p P),(C3 p P),(C4 p P),(Ff p P),(Fg p P),(Fh p P),(Fi p P),(Jd p P),(Je p P),(o0 p P),(o1 p P),(Fj p P),(o0 p P),(Jf p P),(Fl p P),(Fn p P),(o0 p P),(o1 p P),(Nz p P),(Jg p P),(Jh p P),(o0 p P),(o1 p P),(Fo p P),(o0 p P),(Ji p P),(Fp p P),(Fq p P),(o0 p P),(o1 p P),(Fs p P),(o0 p P),(Jj p P),(Ft p P),(Fu p P),(o0 p P),(oi p P),(NA p P),(o0 p P),(NB p P),(NC p P),(ND p P),(o0 p P),(o1 p P),(NF p P),(Jk p P),(Jl p P),(o0 p P),(o1 p P),(Jm p P),(o0 p P),(NG p P),(Jn p P),(Jo p P),(o0 p P),(o1 p P),(Jp p P),(o0 p P),(NH p P),(Jq p P),(Jr p P),(o0 p P),(o1 p P),(Js p P),(o0 p P),(NI p P),(Jt p P),(Ju p P),(o0 p P),(o1 p P),(Jv p P),(o0 p P),(NJ p P),(Jw p P),(Jx p P),(o0 p P),(o1 p P),(Jy p P),(o0 p P),(NK p P),(Jz p P),(JA p P),(o0 p P),(o1 p P),(NL p P),(o0 p P),(NM p P),(JB p P),(JC p P),(o0 p P),(o1 p P),(JD p P),(o0 p P),(NN p P),(JE p P),(JF p P),(o0 p P),(o1 p P),(NO p P),(JG p P),(JH p P),(o0 p P),(o1 p P),(JI p P),(o0 p P),(NP p P),(JJ p P),(JK p P),(o0 p P),(o1 p P),(JL p P),(o0 p P),(NQ p P),(JM p P),(JN p P),(o0 p P),(o1 p P),(JO p P),(o0 p P),(NR p P),(JP p P),(JQ p P),(o0 p P),(o1 p P),(JR p P),(o0 p P),(NS p P),(JS p P),(JT p P),(o0 p P),(o1 p P),(JU p P),(o0 p P),(NT p P),(JV p P),(JW p P),(o0 p P),(o1 p P),(JX p P),(o0 p P),(NU p P),(JY p P),(JZ p P),(o0 p P),(o1 p P),(J0 p P),(o0 p P),(Rb p P),(NV p P),(J1 p P),(o0 p P),(o1 p P),(J2 p P),(o0 p P),(NW p P),(J3 p P),(J4 p P),(o0 p P),(o1 p P),(J5 p P),(o0 p P),(NX p P),(J6 p P),(J7 p P),(o0 p P),(o1 p P),(J8 p P),(o0 p P),(NY p P),(J9 p P),(Ka p P),(o0 p P),(o1 p P),(Kb p P),(o0 p P),(NZ p P),(Kc p P),(Ke p P),(o0 p P),(o1 p P),(Kf p P),(o0 p P),(N0 p P),(Kg p P),(Kh p P),(o0 p P),(o1 p P),(Ki p P),(o0 p P),(N1 p P),(Kj p P),(Kk p P),(o0 p P),(o1 p P),(Kl p P),(o0 p P),(N2 p P),(Km p P),(Ko p P),(o0 p P),(o1 p P),(Kp p P),(o0 p P),(N3 p P),(Kq p P),(Kr p P),(Ks p P),(Kt p P),(N5 p P),(Ku p P),(N4 p P),(Rc p P),(Rf p P),(N6 p P),(oi p P),(Rg p P),(o0 p P),(Rh p P),(Ri p P),(Rj p P),(o0 p P),(o1 p P),(N7 p P),(o0 p P),(Rl p P),(N8 p P),(N9 p P),(o0 p P),(o1 p P),(Oa p P),(o0 p P),(Rm p P),(Oc p P),(Od p P),(o0 p P),(o1 p P),(Oe p P),(o0 p P),(Rn p P),(Of p P),(Og p P),(o0 p P),(o1 p P),(Oh p P),(o0 p P),(Ro p P),(Oi p P),(Oj p P),(o0 p P),(o1 p P),(Ol p P),(o0 p P),(Rp p P),(Om p P),(Oo p P),(o0 p P),(o1 p P),(Oq p P),(o0 p P),(Rq p P),(Ot p P),(Ou p P),(o0 p P),(o1 p P),(Ov p P),(o0 p P),(Rr p P),(Ow p P),(Ox p P),(o0 p P),(Oy p P),(Oz p P),(Rt p P),(Ru p P),(o0 p P),(o1 p P),(Rx p P),(o0 p P),(UI p P),(Ry p P),(Rz p P),(o0 p P),(o1 p P),(RA p P),(o0 p P),(UJ p P),(RB p P),(RC p P),(o0 p P),(o1 p P),(UK p P),(RD p P),(RE p P),(o0 p P),(o1 p P),(RF p P),(o0 p P),(UL p P),(RG p P),(RH p P),(o0 p P),(o1 p P),(RI p P),(o0 p P),(UM p P),(RJ p P),(RK p P),(o0 p P),(o1 p P),(RL p P),(o0 p P),(UN p P),(RM p P),(RN p P),(o0 p P),(o1 p P),(RO p P),(o0 p P),(UO p P),(RP p P),(RQ p P),(o0 p P),(o1 p P),(RS p P),(o0 p P),(UP p P),(RT p P),(RU p P),(o0 p P),(o1 p P),(RV p P),(o0 p P),(UQ p P),(RX p P),(RY p P),(o0 p P),(o1 p P),(RZ p P),(o0 p P),(UR p P),(R5 p P),(R6 p P)],{}⟩
noncomputable def K(P:Params):PySem.W.Frag:=(nat_lit 2,(boot_o_2 P))::(nat_lit 3,(Rv pw P))::(nat_lit 15,(o0 pw P))::(nat_lit 17,(o6 pw P))::(nat_lit 18,(o0 pw P))::(nat_lit 20,(o8 pw P))::(nat_lit 21,(o9 pw P))::(nat_lit 22,(o0 pw P))::(nat_lit 24,(FH pw P))::(nat_lit 25,(o0 pw P))::(nat_lit 27,(FI pw P))::(nat_lit 28,(FJ pw P))::(nat_lit 29,(o0 pw P))::(nat_lit 31,(FK pw P))::(nat_lit 32,(o0 pw P))::(nat_lit 34,(FL pw P))::(nat_lit 35,(FN pw P))::(nat_lit 36,(o0 pw P))::(nat_lit 38,(Iw pw P))::(nat_lit 39,(o0 pw P))::(nat_lit 41,(Iy pw P))::(nat_lit 42,(Iz pw P))::(nat_lit 43,(o0 pw P))::(nat_lit 45,(IA pw P))::(nat_lit 46,(o0 pw P))::(nat_lit 48,(IC pw P))::(nat_lit 49,(ID pw P))::(nat_lit 50,(o0 pw P))::(nat_lit 52,(IE pw P))::(nat_lit 53,(o0 pw P))::(nat_lit 55,(IF pw P))::(nat_lit 56,(FO pw P))::(nat_lit 57,(o0 pw P))::(nat_lit 59,(FP pw P))::(nat_lit 60,(o0 pw P))::(nat_lit 62,(FQ pw P))::(nat_lit 63,(FR pw P))::(nat_lit 64,(IH pw P))::(nat_lit 65,(o0 pw P))::(nat_lit 66,(o0 pw P))::(nat_lit 67,(II pw P))::(nat_lit 68,(IJ pw P))::(nat_lit 69,(IK pw P))::(nat_lit 70,(KJ pw P))::(nat_lit 71,(KL pw P))::(nat_lit 72,(KN pw P))::(nat_lit 73,(KO pw P))::(nat_lit 74,(KP pw P))::(nat_lit 75,(KQ pw P))::(nat_lit 76,(KR pw P))::(nat_lit 77,(KS pw P))::(nat_lit 78,(KU pw P))::(nat_lit 79,(KW pw P))::(nat_lit 80,(KY pw P))::(nat_lit 81,(KZ pw P))::(nat_lit 82,(K5 pw P))::(nat_lit 83,(K6 pw P))::(nat_lit 84,(K7 pw P))::(nat_lit 85,(K9 pw P))::(nat_lit 86,(La pw P))::(nat_lit 87,(Lb pw P))::(nat_lit 88,(IL pw P))::(nat_lit 89,(IM pw P))::(nat_lit 90,(IP pw P))::(nat_lit 91,(IQ pw P))::(nat_lit 92,(IS pw P))::(nat_lit 93,(IT pw P))::(nat_lit 94,(IU pw P))::(nat_lit 95,(IV pw P))::(nat_lit 96,(IW pw P))::(nat_lit 97,(o0 pw P))::(nat_lit 98,(IX pw P))::(nat_lit 99,(IY pw P))::(nat_lit 100,(IZ pw P))::(nat_lit 101,(I0 pw P))::(nat_lit 102,(o0 pw P))::(nat_lit 104,(Lc pw P))::(nat_lit 105,(Ld pw P))::(nat_lit 106,(Le pw P))::(nat_lit 107,(Lf pw P))::(nat_lit 108,(Np pw P))::(nat_lit 109,(o0 pw P))::(nat_lit 111,(Nq pw P))::(nat_lit 112,(o0 pw P))::(nat_lit 114,(Nr pw P))::(nat_lit 115,(Nt pw P))::(nat_lit 116,(o0 pw P))::(nat_lit 118,(Pb pw P))::(nat_lit 119,(o0 pw P))::(nat_lit 121,(Lg pw P))::(nat_lit 122,(Lh pw P))::(nat_lit 123,(o0 pw P))::(nat_lit 125,(Li pw P))::(nat_lit 126,(o0 pw P))::(nat_lit 128,(Lj pw P))::(nat_lit 129,(Lk pw P))::(nat_lit 130,(o0 pw P))::(nat_lit 132,(Ll pw P))::(nat_lit 133,(o0 pw P))::(nat_lit 135,(Nw pw P))::(nat_lit 136,(Ny pw P))::(nat_lit 137,(Pd pw P))::(nat_lit 144,(o0 pw P))::(nat_lit 145,(Bi pw P))::(nat_lit 146,(CQ pw P))::(nat_lit 147,(Bj pw P))::(nat_lit 150,(oy pw P))::(nat_lit 157,(o0 pw P))::(nat_lit 158,(zM pw P))::(nat_lit 159,(zN pw P))::(nat_lit 162,(oy pw P))::(nat_lit 169,(o0 pw P))::(nat_lit 170,(CT pw P))::(nat_lit 171,(CU pw P))::(nat_lit 174,(o0 pw P))::(nat_lit 176,(CV pw P))::(nat_lit 177,(o0 pw P))::(nat_lit 179,(CW pw P))::(nat_lit 180,(CY pw P))::(nat_lit 181,(o0 pw P))::(nat_lit 183,(ES pw P))::(nat_lit 184,(o0 pw P))::(nat_lit 186,(Bq pw P))::(nat_lit 187,(Br pw P))::(nat_lit 188,(o0 pw P))::(nat_lit 190,(Bs pw P))::(nat_lit 191,(o0 pw P))::(nat_lit 193,(Bt pw P))::(nat_lit 194,(Bu pw P))::(nat_lit 195,(Bv pw P))::(nat_lit 196,(Bw pw P))::(nat_lit 197,(Bx pw P))::(nat_lit 198,(o0 pw P))::(nat_lit 201,(ET pw P))::(nat_lit 202,(EU pw P))::(nat_lit 203,(o0 pw P))::(nat_lit 206,(EV pw P))::(nat_lit 207,(EW pw P))::(nat_lit 208,(o0 pw P))::(nat_lit 210,(EX pw P))::(nat_lit 211,(o0 pw P))::(nat_lit 213,(EY pw P))::(nat_lit 214,(EZ pw P))::(nat_lit 222,(o0 pw P))::(nat_lit 224,(C1 pw P))::(nat_lit 225,(o0 pw P))::(nat_lit 227,(C2 pw P))::(nat_lit 228,(C3 pw P))::(nat_lit 229,(C4 pw P))::(nat_lit 230,(Ff pw P))::(nat_lit 231,(Fg pw P))::(nat_lit 232,(Fh pw P))::(nat_lit 233,(Fi pw P))::(nat_lit 236,(o0 pw P))::(nat_lit 238,(Fj pw P))::(nat_lit 239,(o0 pw P))::(nat_lit 241,(Fl pw P))::(nat_lit 242,(Fn pw P))::(nat_lit 243,(o0 pw P))::(nat_lit 246,(Jg pw P))::(nat_lit 247,(Jh pw P))::(nat_lit 248,(o0 pw P))::(nat_lit 250,(Fo pw P))::(nat_lit 251,(o0 pw P))::(nat_lit 253,(Fp pw P))::(nat_lit 254,(Fq pw P))::(nat_lit 255,(o0 pw P))::(nat_lit 257,(Fs pw P))::(nat_lit 258,(o0 pw P))::(nat_lit 260,(Ft pw P))::(nat_lit 261,(Fu pw P))::(nat_lit 269,(o0 pw P))::(nat_lit 272,(Jk pw P))::(nat_lit 273,(Jl pw P))::(nat_lit 274,(o0 pw P))::(nat_lit 276,(Jm pw P))::(nat_lit 277,(o0 pw P))::(nat_lit 279,(Jn pw P))::(nat_lit 280,(Jo pw P))::(nat_lit 281,(o0 pw P))::(nat_lit 283,(Jp pw P))::(nat_lit 284,(o0 pw P))::(nat_lit 286,(Jq pw P))::(nat_lit 287,(Jr pw P))::(nat_lit 288,(o0 pw P))::(nat_lit 290,(Js pw P))::(nat_lit 291,(o0 pw P))::(nat_lit 293,(Jt pw P))::(nat_lit 294,(Ju pw P))::(nat_lit 295,(o0 pw P))::(nat_lit 297,(Jv pw P))::(nat_lit 298,(o0 pw P))::(nat_lit 300,(Jw pw P))::(nat_lit 301,(Jx pw P))::(nat_lit 302,(o0 pw P))::(nat_lit 304,(Jy pw P))::(nat_lit 305,(o0 pw P))::(nat_lit 307,(Jz pw P))::(nat_lit 308,(JA pw P))::(nat_lit 309,(o0 pw P))::(nat_lit 311,(NL pw P))::(nat_lit 312,(o0 pw P))::(nat_lit 314,(JB pw P))::(nat_lit 315,(JC pw P))::(nat_lit 316,(o0 pw P))::(nat_lit 318,(JD pw P))::(nat_lit 319,(o0 pw P))::(nat_lit 321,(JE pw P))::(nat_lit 322,(JF pw P))::(nat_lit 323,(o0 pw P))::(nat_lit 326,(JG pw P))::(nat_lit 327,(JH pw P))::(nat_lit 328,(o0 pw P))::(nat_lit 330,(JI pw P))::(nat_lit 331,(o0 pw P))::(nat_lit 333,(JJ pw P))::(nat_lit 334,(JK pw P))::(nat_lit 335,(o0 pw P))::(nat_lit 337,(JL pw P))::(nat_lit 338,(o0 pw P))::(nat_lit 340,(JM pw P))::(nat_lit 341,(JN pw P))::(nat_lit 342,(o0 pw P))::(nat_lit 344,(JO pw P))::(nat_lit 345,(o0 pw P))::(nat_lit 347,(JP pw P))::(nat_lit 348,(JQ pw P))::(nat_lit 349,(o0 pw P))::(nat_lit 351,(JR pw P))::(nat_lit 352,(o0 pw P))::(nat_lit 354,(JS pw P))::(nat_lit 355,(JT pw P))::(nat_lit 356,(o0 pw P))::(nat_lit 358,(JU pw P))::(nat_lit 359,(o0 pw P))::(nat_lit 361,(JV pw P))::(nat_lit 362,(JW pw P))::(nat_lit 363,(o0 pw P))::(nat_lit 365,(JX pw P))::(nat_lit 366,(o0 pw P))::(nat_lit 368,(JY pw P))::(nat_lit 369,(JZ pw P))::(nat_lit 370,(o0 pw P))::(nat_lit 372,(J0 pw P))::(nat_lit 373,(o0 pw P))::(nat_lit 375,(NV pw P))::(nat_lit 376,(J1 pw P))::(nat_lit 377,(o0 pw P))::(nat_lit 379,(J2 pw P))::(nat_lit 380,(o0 pw P))::(nat_lit 382,(J3 pw P))::(nat_lit 383,(J4 pw P))::(nat_lit 384,(o0 pw P))::(nat_lit 386,(J5 pw P))::(nat_lit 387,(o0 pw P))::(nat_lit 389,(J6 pw P))::(nat_lit 390,(J7 pw P))::(nat_lit 391,(o0 pw P))::(nat_lit 393,(J8 pw P))::(nat_lit 394,(o0 pw P))::(nat_lit 396,(J9 pw P))::(nat_lit 397,(Ka pw P))::(nat_lit 398,(o0 pw P))::(nat_lit 400,(Kb pw P))::(nat_lit 401,(o0 pw P))::(nat_lit 403,(Kc pw P))::(nat_lit 404,(Ke pw P))::(nat_lit 405,(o0 pw P))::(nat_lit 407,(Kf pw P))::(nat_lit 408,(o0 pw P))::(nat_lit 410,(Kg pw P))::(nat_lit 411,(Kh pw P))::(nat_lit 412,(o0 pw P))::(nat_lit 414,(Ki pw P))::(nat_lit 415,(o0 pw P))::(nat_lit 417,(Kj pw P))::(nat_lit 418,(Kk pw P))::(nat_lit 419,(o0 pw P))::(nat_lit 421,(Kl pw P))::(nat_lit 422,(o0 pw P))::(nat_lit 424,(Km pw P))::(nat_lit 425,(Ko pw P))::(nat_lit 426,(o0 pw P))::(nat_lit 428,(Kp pw P))::(nat_lit 429,(o0 pw P))::(nat_lit 431,(Kq pw P))::(nat_lit 432,(Kr pw P))::(nat_lit 433,(Ks pw P))::(nat_lit 434,(Kt pw P))::(nat_lit 435,(N5 pw P))::(nat_lit 436,(Ku pw P))::(nat_lit 437,(N4 pw P))::(nat_lit 440,(N6 pw P))::(nat_lit 447,(o0 pw P))::(nat_lit 449,(N7 pw P))::(nat_lit 450,(o0 pw P))::(nat_lit 452,(N8 pw P))::(nat_lit 453,(N9 pw P))::(nat_lit 454,(o0 pw P))::(nat_lit 456,(Oa pw P))::(nat_lit 457,(o0 pw P))::(nat_lit 459,(Oc pw P))::(nat_lit 460,(Od pw P))::(nat_lit 461,(o0 pw P))::(nat_lit 463,(Oe pw P))::(nat_lit 464,(o0 pw P))::(nat_lit 466,(Of pw P))::(nat_lit 467,(Og pw P))::(nat_lit 468,(o0 pw P))::(nat_lit 470,(Oh pw P))::(nat_lit 471,(o0 pw P))::(nat_lit 473,(Oi pw P))::(nat_lit 474,(Oj pw P))::(nat_lit 475,(o0 pw P))::(nat_lit 477,(Ol pw P))::(nat_lit 478,(o0 pw P))::(nat_lit 480,(Om pw P))::(nat_lit 481,(Oo pw P))::(nat_lit 482,(o0 pw P))::(nat_lit 484,(Oq pw P))::(nat_lit 485,(o0 pw P))::(nat_lit 487,(Ot pw P))::(nat_lit 488,(Ou pw P))::(nat_lit 489,(o0 pw P))::(nat_lit 491,(Ov pw P))::(nat_lit 492,(o0 pw P))::(nat_lit 494,(Ow pw P))::(nat_lit 495,(Ox pw P))::(nat_lit 496,(o0 pw P))::(nat_lit 497,(Oy pw P))::(nat_lit 498,(Oz pw P))::(nat_lit 501,(o0 pw P))::(nat_lit 503,(Rx pw P))::(nat_lit 504,(o0 pw P))::(nat_lit 506,(Ry pw P))::(nat_lit 507,(Rz pw P))::(nat_lit 508,(o0 pw P))::(nat_lit 510,(RA pw P))::(nat_lit 511,(o0 pw P))::(nat_lit 513,(RB pw P))::(nat_lit 514,(RC pw P))::(nat_lit 515,(o0 pw P))::(nat_lit 518,(RD pw P))::(nat_lit 519,(RE pw P))::(nat_lit 520,(o0 pw P))::(nat_lit 522,(RF pw P))::(nat_lit 523,(o0 pw P))::(nat_lit 525,(RG pw P))::(nat_lit 526,(RH pw P))::(nat_lit 527,(o0 pw P))::(nat_lit 529,(RI pw P))::(nat_lit 530,(o0 pw P))::(nat_lit 532,(RJ pw P))::(nat_lit 533,(RK pw P))::(nat_lit 534,(o0 pw P))::(nat_lit 536,(RL pw P))::(nat_lit 537,(o0 pw P))::(nat_lit 539,(RM pw P))::(nat_lit 540,(RN pw P))::(nat_lit 541,(o0 pw P))::(nat_lit 543,(RO pw P))::(nat_lit 544,(o0 pw P))::(nat_lit 546,(RP pw P))::(nat_lit 547,(RQ pw P))::(nat_lit 548,(o0 pw P))::(nat_lit 550,(RS pw P))::(nat_lit 551,(o0 pw P))::(nat_lit 553,(RT pw P))::(nat_lit 554,(RU pw P))::(nat_lit 555,(o0 pw P))::(nat_lit 557,(RV pw P))::(nat_lit 558,(o0 pw P))::(nat_lit 560,(RX pw P))::(nat_lit 561,(RY pw P))::(nat_lit 562,(o0 pw P))::(nat_lit 564,(RZ pw P))::(nat_lit 565,(o0 pw P))::(nat_lit 567,(R5 pw P))::(nat_lit 568,(R6 pw P))::[]
abbrev Pe:List Addr:=[2,3,15,17,18,20,21,22,24,25,27,28,29,31,32,34,35,36,38,39,41,42,43,45,46,48,49,50,52,53,55,56,57,59,60,62,63,64,65,66,67,68,69,70,71,72,73,74,75,76,77,78,79,80,81,82,83,84,85,86,87,88,89,90,91,92,93,94,95,96,97,98,99,100,101,102,104,105,106,107,108,109,111,112,114,115,116,118,119,121,122,123,125,126,128,129,130,132,133,135,136,137,144,145,146,147,150,157,158,159,162,169,170,171,174,176,177,179,180,181,183,184,186,187,188,190,191,193,194,195,196,197,198,201,202,203,206,207,208,210,211,213,214,222,224,225,227,228,229,230,231,232,233,236,238,239,241,242,243,246,247,248,250,251,253,254,255,257,258,260,261,269,272,273,274,276,277,279,280,281,283,284,286,287,288,290,291,293,294,295,297,298,300,301,302,304,305,307,308,309,311,312,314,315,316,318,319,321,322,323,326,327,328,330,331,333,334,335,337,338,340,341,342,344,345,347,348,349,351,352,354,355,356,358,359,361,362,363,365,366,368,369,370,372,373,375,376,377,379,380,382,383,384,386,387,389,390,391,393,394,396,397,398,400,401,403,404,405,407,408,410,411,412,414,415,417,418,419,421,422,424,425,426,428,429,431,432,433,434,435,436,437,440,447,449,450,452,453,454,456,457,459,460,461,463,464,466,467,468,470,471,473,474,475,477,478,480,481,482,484,485,487,488,489,491,492,494,495,496,497,498,501,503,504,506,507,508,510,511,513,514,515,518,519,520,522,523,525,526,527,529,530,532,533,534,536,537,539,540,541,543,544,546,547,548,550,551,553,554,555,557,558,560,561,562,564,565,567,568]
theorem sM:∀P,Pe=(K P).map (·.1):=λ_=>by kernel_rfl
abbrev hK:Hook:=kHook K Pe sM
theorem Zu(w:World):(λos=>topGo treeTable pw w 11 (some (.ref 6)) 12 ⟨boot_heap w.params,Array.mk [],boot_drawn,boot_toks,os⟩ (topStub pw))=λos=>some (SH (H0 pw w.params) 187 os,(⟨denote treeTable (bT pw),bT pw,⟨0,0,0,0⟩,BF⟩:Thread)):=by
 walk_at "qk"
theorem R7(w:World):(λos=>segRun treeTable pw w 11 (some (.ref 6)) 1 1 (SH (H0 pw w.params) 187 os) (blockOf (behindTheImports pw) (ox pw) (bT pw) ⟨0,0,0,0⟩ BF))=λos=>some (.next,(ST (T0 pw w.params) 15 187 os).abs,bT pw,⟨0,0,0,0⟩):=by
 walk_at "qk"
theorem Zv(w:World):(λos=>segRunT treeTable pw w 11 (some (.ref 6)) 1 244 (ST (T0 pw w.params) 15 187 os) (piecesOf (dC pw 0 10) (ox pw) (bT pw) ⟨0,0,0,0⟩ BF))=λos=>some (.next,ST (T1 pw w.params) 64 255 os,bT pw,⟨33,0,33,8⟩):=by
 walk_at "qk"
theorem Zw(w:World):(λos=>segRunT treeTable pw w 11 (some (.ref 6)) 1 404 (ST (T1 pw w.params) 64 255 os) (piecesOf (dC pw 10 1) (ox pw) (bT pw) ⟨33,0,33,8⟩ BF))=λos=>some (.next,ST (T2 pw w.params) 108 318 os,bT pw,⟨34,0,34,6⟩):=by
 refine byRow2 "special-get-raises" (P:=λw=>(λos=>segRunT treeTable pw w 11 (some (.ref 6)) 1 404 (ST (T1 pw w.params) 64 255 os) (piecesOf (dC pw 10 1) (ox pw) (bT pw) ⟨33,0,33,8⟩ BF))=λos=>some (.next,ST (T2 pw w.params) 108 318 os,bT pw,⟨34,0,34,6⟩)) (λw=>?_) (λw=>?_) w<;>(show _=_;walk_at "qk")
theorem Zx(w:World):(λos=>segRunT treeTable pw w 11 (some (.ref 6)) 1 296 (ST (T2 pw w.params) 108 318 os) (piecesOf (dC pw 11 6) (ox pw) (bT pw) ⟨34,0,34,6⟩ BF))=λos=>some (.next,ST (T3 pw w.params) 137 389 os,bT pw,⟨64,0,64,8⟩):=by
 refine byRow2 "special-get-raises" (P:=λw=>(λos=>segRunT treeTable pw w 11 (some (.ref 6)) 1 296 (ST (T2 pw w.params) 108 318 os) (piecesOf (dC pw 11 6) (ox pw) (bT pw) ⟨34,0,34,6⟩ BF))=λos=>some (.next,ST (T3 pw w.params) 137 389 os,bT pw,⟨64,0,64,8⟩)) (λw=>?_) (λw=>?_) w<;>(show _=_;walk_at "qk")
theorem Zy(w:World):(λos=>segRunT treeTable pw w 11 (some (.ref 6)) 1 400 (ST (T3 pw w.params) 137 389 os) (piecesOf (dC pw 17 2) (ox pw) (bT pw) ⟨64,0,64,8⟩ BF))=λos=>some (.next,ST (T4 pw w.params) 162 423 os,bT pw,⟨67,0,68,8⟩):=by
 walk_at "qk"
theorem Zz(w:World):(λos=>segRunT treeTable pw w 11 (some (.ref 6)) 1 386 (ST (T4 pw w.params) 162 423 os) (piecesOf (dC pw 19 11) (ox pw) (bT pw) ⟨67,0,68,8⟩ BF))=λos=>some (.next,ST (T5 pw w.params) 198 490 os,bT pw,⟨97,0,97,8⟩):=by
 walk_at "qk"
theorem ZA(w:World):(λos=>segRunT treeTable pw w 11 (some (.ref 6)) 1 396 (ST (T5 pw w.params) 198 490 os) (piecesOf (dC pw 30 9) (ox pw) (bT pw) ⟨97,0,97,8⟩ BF))=λos=>some (.next,ST (T6 pw w.params) 248 567 os,bT pw,⟨122,0,125,17⟩):=by
 walk_at "qk"
theorem ZC(w:World):(λos=>segRunT treeTable pw w 11 (some (.ref 6)) 1 99 (ST (T6 pw w.params) 248 567 os) (piecesOf (dC pw 39 6) (ox pw) (bT pw) ⟨122,0,125,17⟩ BF))=λos=>some (.next,ST (T7 pw w.params) 262 593 os,bT pw,⟨138,0,138,8⟩):=by
 walk_at "qk"
theorem ZD(w:World):(λos=>segRunT treeTable pw w 11 (some (.ref 6)) 1 978 (ST (T7 pw w.params) 262 593 os) (piecesOf (dC pw 45 1) (ox pw) (bT pw) ⟨138,0,138,8⟩ BF))=λos=>some (.next,ST (T8 pw w.params) 440 829 os,bT pw,⟨139,0,311,19⟩):=by
 walk_at "qk"
theorem ZE(w:World):(λos=>segRunT treeTable pw w 11 (some (.ref 6)) 1 10 (ST (T8 pw w.params) 440 829 os) (piecesOf (dC pw 46 1) (ox pw) (bT pw) ⟨139,0,311,19⟩ BF))=λos=>some (.next,ST (T9 pw w.params) 440 831 os,bT pw,⟨312,0,312,8⟩):=by
 walk_at "qk"
theorem UU(w:World):(λos=>segRunT treeTable pw w 11 (some (.ref 6)) 1 444 (ST (T9 pw w.params) 440 831 os) (piecesOf (dC pw 47 1) (ox pw) (bT pw) ⟨312,0,312,8⟩ BF))=λos=>some (.next,ST (T10 pw w.params) 501 910 os,bT pw,⟨313,0,343,19⟩):=by
 walk_at "qk"
theorem UW(w:World):(λos=>segRunT treeTable pw w 11 (some (.ref 6)) 1 339 (ST (T10 pw w.params) 501 910 os) (piecesOf (dC pw 48 11) (ox pw) (bT pw) ⟨313,0,343,19⟩ BF))=λos=>some (.next,ST (T11 pw w.params) 569 1023 os,bT pw,⟨422,0,442,16⟩):=by
 walk_at "qk"
theorem ZF(w:World):(λos=>topRun treeTable pw w 11 (some (.ref 6)) 2 (ST (T11 pw w.params) 569 1023 os).abs ⟨doneF .next,bT pw,⟨422,0,442,16⟩,BF⟩)=λos=>some (SH (HF pw w.params) 1023 os):=by
 walk_at "qk"
theorem UX:behindTheImports pw=dC pw 0 10++(dC pw 10 1++(dC pw 11 6++(dC pw 17 2++(dC pw 19 11++(dC pw 30 9++(dC pw 39 6++(dC pw 45 1++(dC pw 46 1++(dC pw 47 1++(dC pw 48 11++([]))))))))))):=by
 kernel_rfl
theorem ZG(w:World)(os:OsState):topRun treeTable pw w 11 (some (.ref 6)) (12 + (1 + (244 + (404 + (296 + (400 + (386 + (396 + (99 + (978 + (10 + (444 + (339 + 2))))))))))))) ⟨boot_heap w.params,Array.mk [],boot_drawn,boot_toks,os⟩ (topStub pw)=some (SH (HF pw w.params) 1023 os):=by
 have k:topRun treeTable pw w 11 (some (.ref 6)) (244 + (404 + (296 + (400 + (386 + (396 + (99 + (978 + (10 + (444 + (339 + 2))))))))))) (ST (T0 pw w.params) 15 187 os).abs (restOf (dC pw 0 10++(dC pw 10 1++(dC pw 11 6++(dC pw 17 2++(dC pw 19 11++(dC pw 30 9++(dC pw 39 6++(dC pw 45 1++(dC pw 46 1++(dC pw 47 1++(dC pw 48 11++([])))))))))))) (ox pw) (bT pw) ⟨0,0,0,0⟩ BF)=some (SH (HF pw w.params) 1023 os):=piece_app (segRun_of (congrFun (Zv w) os)) (piece_app (segRun_of (congrFun (Zw w) os)) (piece_app (segRun_of (congrFun (Zx w) os)) (piece_app (segRun_of (congrFun (Zy w) os)) (piece_app (segRun_of (congrFun (Zz w) os)) (piece_app (segRun_of (congrFun (ZA w) os)) (piece_app (segRun_of (congrFun (ZC w) os)) (piece_app (segRun_of (congrFun (ZD w) os)) (piece_app (segRun_of (congrFun (ZE w) os)) (piece_app (segRun_of (congrFun (UU w) os)) (piece_app (segRun_of (congrFun (UW w) os)) (congrFun (ZF w) os)))))))))))
 rw[← UX]at k
 exact go_top (congrFun (Zu w) os) (piece_block (congrFun (R7 w) os) k)
theorem l0(w:World):(λos=>staticsOk (importedModules pw.main.body) (boot_heap w.params) (HF pw w.params)&&namesBound pw (HF pw w.params)&&gensDone (SH (HF pw w.params) 1023 os)&&laidKept (boot_heap w.params) (HF pw w.params))=λ_=>true:=by
 walk_at "qk"
theorem l1(w:World):(λos=>PyProof.Rows.seen ((PyProof.Rows.recsOf (cw pw)).map (·.name)) (PyProof.Rows.ownsOf (cw pw)) [] {(SH (HF pw w.params) 1023 os)with gens:=#[]})=λ_=>PyProof.Rows.expectedOf (cw pw):=by
 walk_at "qk"
theorem l2(w:World):(λos=>(SH (HF pw w.params) 1023 os).heap.bltView)=λ_=>bltViewBooted:=by
 walk_at "qk"
theorem l3(w:World):(λos=>(SH (HF pw w.params) 1023 os).heap.keysOk (looseW (cw pw) ["ALWAYS","LEFT"]) ((PyProof.Rows.recsOf (cw pw)).map (·.name)) ((PyProof.Rows.litsOf (cw pw)).map (·.1)) ((PyProof.Rows.clssOf (cw pw) (looseW (cw pw) ["ALWAYS","LEFT"])).map (·.name))&&(SH (HF pw w.params) 1023 os).heap.accountedOkI (importedModules pw.main.body)&&(SH (HF pw w.params) 1023 os).heap.isNs mainGlobals&&(SH (HF pw w.params) 1023 os).heap.isNs builtinsNs&&PyProof.Rows.tablesOk (cw pw) (SH (HF pw w.params) 1023 os).heap&&(λs=>xlAt (cw pw) [] s&&recOk (RowW.records (OpenRow.toRowW PySem.Challenge.rw_stackwarden_k32_records_only_come.row)) s) (SH (HF pw w.params) 1023 os)&&(if true then(SH (HF pw w.params) 1023 os).gens.size == 0 else !leftWithCleanup (SH (HF pw w.params) 1023 os).gens))=λ_=>true:=by
 walk_at "qk"
theorem l4(w:World):(λos=>PyProof.Rows.tabsOk (cw pw) (SH (HF pw w.params) 1023 os))=λ_=>true:=by
 walk_at "qk"
theorem l5(w:World):(λos=>pinSeenD (cw pw) (PyProof.Rows.drecsOf (cw pw)) (SH (HF pw w.params) 1023 os))=λ_=>pinGoodD (PyProof.Rows.drecsOf (cw pw)):=by
 walk_at "qk"
theorem l6(w:World):(λos=>PyProof.Rows.plainSeenE (cw pw) (looseW (cw pw) ["ALWAYS","LEFT"]) (SH (HF pw w.params) 1023 os))=λ_=>PyProof.Rows.plainGoodE (cw pw) (looseW (cw pw) ["ALWAYS","LEFT"]):=by
 walk_at "qk"
theorem l7(w:World):(λos=>PyProof.Rows.plainSeenD (cw pw) ["ALWAYS","LEFT"] (SH (HF pw w.params) 1023 os))=λ_=>PyProof.Rows.plainGoodD (cw pw) ["ALWAYS","LEFT"]:=by
 walk_at "qk"
theorem l8(w:World):(λos=>wideSeen (cw pw) (SH (HF pw w.params) 1023 os))=λ_=>wideGood (cw pw):=by
 walk_at "qk"
theorem l9(w:World):(λos=>clsSeenW (cw pw) ["ALWAYS","LEFT"] (SH (HF pw w.params) 1023 os))=λ_=>clsGoodW (cw pw) ["ALWAYS","LEFT"]:=by
 walk_at "qk"
theorem lY(w:World):(λos=>hK.obs (SH (HF pw w.params) 1023 os))=λ_=>hK.val w:=by
 show(λos=>Pe.map (SH (HF pw w.params) 1023 os).heap.get?)=λ_=>(K w.params).map λp=>some p.2
 unfold K
 walk_at "qk"
theorem hl:LeftO pw (cw pw) ["ALWAYS","LEFT"] (λs=>xlAt (cw pw) [] s&&recOk (RowW.records (OpenRow.toRowW PySem.Challenge.rw_stackwarden_k32_records_only_come.row)) s) hK.obs hK.val 8096:=by
 refine LeftO.of_pieces (m₀:=11) (ann:=(some (.ref 6))) (M:=(12 + (1 + (244 + (404 + (296 + (400 + (386 + (396 + (99 + (978 + (10 + (444 + (339 + 2)))))))))))))) (boot_open (by kernel_rfl) (by decide) (λs=>by kernel_rfl)) (λw=>?_) ZG (by decide) (λw=>?_)
 ·walk_at "qk"
 ·funext os
  exact looks_pair (congrFun (l0 w) os) (looks_pair (looks_pair (congrFun (l1 w) os) (looks_pair (congrFun (l2 w) os) (looks_pair (congrFun (l3 w) os) (looks_pair (congrFun (l4 w) os) (looks_pair (congrFun (l5 w) os) (looks_pair (congrFun (l6 w) os) (looks_pair (congrFun (l7 w) os) (looks_pair (congrFun (l8 w) os) (congrFun (l9 w) os))))))))) (congrFun (lY w) os))
end MH
end
open PySem PySem.W PyProof.Rows
local macro_rules | `(tactic| walk_at "dk") => `(tactic| (refine' ⟨_, _, ?w, L2.B3 ?x ?y ?z⟩; (case w => k_is); (case x => k_is); (case y => k_is); (case z => k_is)))
local macro_rules | `(tactic| walk_at "mk") => `(tactic| (refine' ⟨⟨_, L2.B3 ?x ?y ?z⟩, ?w⟩; (case x => k_is); (case y => k_is); (case z => k_is); (case w => k_is)))
set_option maxRecDepth 100000 in
set_option maxHeartbeats 0 in
theorem PySem.Challenge.cw_stackwarden_k32_records_only_come_holds : PySem.Challenge.rw_stackwarden_k32_records_only_come.Holds := by
  w_on; o_law
  refine PySem.W.holds_open (q := (MH.cw PySem.Challenge.pw_stackwarden_k32_records_only_come)) (loose := ["ALWAYS", "LEFT"]) (Xt := (fun s => xlAt (MH.cw PySem.Challenge.pw_stackwarden_k32_records_only_come) [] s && recOk (RowW.records (OpenRow.toRowW PySem.Challenge.rw_stackwarden_k32_records_only_come.row)) s)) (XP := XL (MH.cw PySem.Challenge.pw_stackwarden_k32_records_only_come) []) (Yf := Hook.obs (kHook MH.K MH.Pe MH.sM)) (Ya := Hook.val (kHook MH.K MH.Pe MH.sM)) (YP := Hook.says (kHook MH.K MH.Pe MH.sM)) (N := 8096) MH.hl (Hook.of (kHook MH.K MH.Pe MH.sM)) (Hook.keeps (kHook MH.K MH.Pe MH.sM)) (fun s e => xl_of s (Bool.and_eq_true_iff.mp e).1) XL.keeps (by rfl) (by rfl) (by rfl) (fun s e => recFacts_of (Bool.and_eq_true_iff.mp e).2) (by rfl) (by first | assumption | decide +kernel) (by decide +kernel) ⟨rfl, rfl, rfl, rfl, rfl, by decide +kernel⟩ ?hw ?hc
  case hw => w_witness2
  k_fill
  refine Mine.walk (l := PySem.Challenge.rw_stackwarden_k32_records_only_come) rfl rfl (fun w h Y => PySem.W.kIn_of Y) ?F
  case F =>
    intro w mg fa h KX G hmg
    refine' Mine.all_mk KX G hmg ?wg ?wj ?wk ?wm ?wo ?wq ?wu ?jm ?mX ?iN ?iO ?fk ?pX ?pY ?pZ ?p6 ?p7 ?p8 ?p9 ?gF ?gH ?eF ?gI ?gJ ?iP ?gK ?gL ?eG ?dz ?fR ?fS ?fq ?fT ?eI ?eJ ?gM ?dN ?dO ?c0 ?c8 ?cy ?cI ?cO ?fv ?fw ?gO ?gP ?dP ?d0 ?d1 ?d2 ?d3 ?d4 ?d5 ?d6 ?d7 ?d8 ?d9 ?WZ ?W0 ?W2 ?W3 ?W4 ?W5 ?W6 ?W7 ?W8 ?W9 ?Xa ?Xb ?Xc ?Xd ?Xe ?Xf ?Xg ?Xh ?Xi ?Xj ?Xk ?Xl ?Xm ?Xn ?Xo ?Xp ?Xq ?Xr ?Xs ?Xu ?Xv ?Xw ?Xx ?Xy ?Xz ?XA ?XB ?XC ?XE ?XF ?XG ?XH ?XI ?XJ ?XM ?XN ?XO ?sE ?dZ ?iL ?v5 ?qP ?lU ?jy ?kg ?kh ?ki ?kj ?kl ?km ?ko ?kq ?kr ?ku ?ky ?mY ?mZ ?m3 ?m5 ?m6 ?m7 ?m8 ?m9 ?nc ?nh ?ni ?nj ?nk ?nq ?nv ?ny ?nz ?nA ?nB ?nC ?nE ?nF ?nG ?nH ?nI ?nJ ?nK ?nM ?nO ?nP ?nQ ?qa ?qb ?qZ ?og ?v9 ?sI ?sJ ?fh ?fz ?gp ?fZ ?A1 ?vQ ?dG ?bq ?cH ?Az ?cm ?qN ?vO
    (case wg => k_is)
    (case wj => k_is)
    (case wk => k_is)
    (case wm => k_is)
    (case wo => k_is)
    (case wq => k_is)
    (case wu => k_is)
    (case jm => k_is)
    (case mX => k_is)
    (case iN => k_is)
    (case iO => k_is)
    (case fk => k_is)
    (case pX => k_is)
    (case pY => k_is)
    (case pZ => k_is)
    (case p6 => k_is)
    (case p7 => k_is)
    (case p8 => k_is)
    (case p9 => k_is)
    (case gF => k_is)
    (case gH => k_is)
    (case eF => k_is)
    (case gI => k_is)
    (case gJ => k_is)
    (case iP => k_is)
    (case gK => k_is)
    (case gL => k_is)
    (case eG => k_is)
    (case dz => k_is)
    (case fR => k_is)
    (case fS => k_is)
    (case fq => k_is)
    (case fT => k_is)
    (case eI => k_is)
    (case eJ => k_is)
    (case gM => k_is)
    (case dN => k_is)
    (case dO => k_is)
    (case c0 => k_is)
    (case c8 => k_is)
    (case cy => k_is)
    (case cI => k_is)
    (case cO => k_is)
    (case fv => k_is)
    (case fw => k_is)
    (case gO => k_is)
    (case gP => k_is)
    (case dP => k_is)
    (case d0 => walk_at "dk")
    (case d1 => walk_at "dk")
    (case d2 => walk_at "dk")
    (case d3 => walk_at "dk")
    (case d4 => walk_at "dk")
    (case d5 => walk_at "dk")
    (case d6 => walk_at "dk")
    (case d7 => walk_at "dk")
    (case d8 => walk_at "dk")
    (case d9 => walk_at "dk")
    (case WZ => walk_at "dk")
    (case W0 => walk_at "dk")
    (case W2 => walk_at "dk")
    (case W3 => walk_at "mk")
    (case W4 => walk_at "mk")
    (case W5 => walk_at "dk")
    (case W6 => walk_at "mk")
    (case W7 => walk_at "dk")
    (case W8 => walk_at "mk")
    (case W9 => walk_at "mk")
    (case Xa => walk_at "dk")
    (case Xb => walk_at "dk")
    (case Xc => walk_at "mk")
    (case Xd => walk_at "mk")
    (case Xe => walk_at "mk")
    (case Xf => walk_at "mk")
    (case Xg => walk_at "mk")
    (case Xh => walk_at "mk")
    (case Xi => walk_at "mk")
    (case Xj => walk_at "mk")
    (case Xk => walk_at "mk")
    (case Xl => walk_at "dk")
    (case Xm => walk_at "mk")
    (case Xn => walk_at "dk")
    (case Xo => walk_at "mk")
    (case Xp => walk_at "mk")
    (case Xq => walk_at "dk")
    (case Xr => walk_at "dk")
    (case Xs => walk_at "dk")
    (case Xu => walk_at "mk")
    (case Xv => walk_at "mk")
    (case Xw => walk_at "mk")
    (case Xx => walk_at "dk")
    (case Xy => walk_at "dk")
    (case Xz => walk_at "dk")
    (case XA => walk_at "dk")
    (case XB => walk_at "mk")
    (case XC => walk_at "mk")
    (case XE => walk_at "mk")
    (case XF => walk_at "dk")
    (case XG => walk_at "dk")
    (case XH => walk_at "dk")
    (case XI => walk_at "mk")
    (case XJ => k_is)
    (case XM => k_is)
    (case XN => k_is)
    (case XO => k_is)
    (case sE => k_is)
    (case dZ => k_is)
    (case iL => k_is)
    (case v5 => k_is)
    (case qP => refine L2.Hq ?_ ?_ ?_ ?_ ?_ ?_ <;> first | (show _ = some true; kit_is) | (show _ = some false; kit_is))
    (case lU => refine L2.Hq ?_ ?_ ?_ ?_ ?_ ?_ <;> first | (show _ = some true; kit_is) | (show _ = some false; kit_is))
    (case jy => k_is)
    (case kg => first | rfl | decide | k_is)
    (case kh => k_is)
    (case ki => k_is)
    (case kj => k_is)
    (case kl => k_is)
    (case km => k_is)
    (case ko => k_is)
    (case kq => k_is)
    (case kr => k_is)
    (case ku => k_is)
    (case ky => k_is)
    (case mY => k_is)
    (case mZ => k_is)
    (case m3 => k_is)
    (case m5 => k_is)
    (case m6 => k_is)
    (case m7 => k_is)
    (case m8 => k_is)
    (case m9 => k_is)
    (case nc => k_is)
    (case nh => k_is)
    (case ni => k_is)
    (case nj => k_is)
    (case nk => k_is)
    (case nq => k_is)
    (case nv => k_is)
    (case ny => k_is)
    (case nz => k_is)
    (case nA => k_is)
    (case nB => k_is)
    (case nC => k_is)
    (case nE => k_is)
    (case nF => k_is)
    (case nG => k_is)
    (case nH => k_is)
    (case nI => k_is)
    (case nJ => k_is)
    (case nK => k_is)
    (case nM => k_is)
    (case nO => k_is)
    (case nP => k_is)
    (case nQ => k_is)
    (case qa => k_is)
    (case qb => k_is)
    (case qZ => k_is)
    (case og => k_is)
    (case v9 => k_is)
    (case sI => first | rfl | decide | k_is)
    (case sJ => k_is)
    (case fh => k_is)
    (case fz => k_is)
    (case gp => k_is)
    (case fZ => k_is)
    (case A1 => k_is)
    (case vQ => k_is)
    (case dG => k_is)
    (case bq => k_is)
    (case cH => k_is)
    (case Az => k_is)
    (case cm => k_is)
    (case qN => k_is)
    (case vO => k_is)
#print axioms PySem.Challenge.cw_stackwarden_k32_records_only_come_holds
