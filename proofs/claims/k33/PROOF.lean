import PyProof.Rows.All
import Wide.All
import OpenK.AllK
import Wide.FinOn
import Lean
import PyProof.EqAt
import PyProof.EqKinds
import PyProof.TupleCall
import PyProof.ZipIter
import KE.KTryDeep
import KE.KIsAll
import KE.KIntText
import PyProof.ExcArgsOwn
import PySem.Challenge.RW_stackwarden_k33_straight_code
abbrev Fgg:=PySem.W.Frag
theorem sz0:0≤PySem.sizeLine:=by decide
theorem sz1:1≤PySem.sizeLine:=by decide
theorem sz2:2≤PySem.sizeLine:=by decide
theorem sz3:3≤PySem.sizeLine:=by decide
theorem sz4:4≤PySem.sizeLine:=by decide
theorem sz5:5≤PySem.sizeLine:=by decide
theorem sz6:6≤PySem.sizeLine:=by decide
theorem sz7:7≤PySem.sizeLine:=by decide
theorem sz8:8≤PySem.sizeLine:=by decide
theorem sz9:9≤PySem.sizeLine:=by decide
theorem msp{α:Type}{a b:α}(h:a∈[b]):a=b:=List.mem_singleton.mp h
theorem gee{α:Type}{l:List α}{i:Nat}(h:i < l.length):l[i]?=some l[i]:=List.getElem?_eq_getElem h
set_option Elab.async false
set_option linter.all false
set_option maxRecDepth 100000
namespace L2
open PySem PySem.Spec PyProof.Rows
abbrev Key:=Sum Int Str
def keyIs:Key→Value→Bool
 | .inl k,v=>Value.isInt k v
 | .inr x,v=>Value.isStrOf x v
def keyH(w:World):Key→Int
 | .inl k=>hashInt k
 | .inr x=>hashStr w x
theorem keyIs_shape:∀{k:Key} {v:Value},keyIs k v=true→(∃i t,k=Sum.inl i∧v=Value.int i t)∨(∃x t,k=Sum.inr x∧v=Value.str x t)
 | .inl i,v,h=>by
  obtain ⟨t,e⟩:=Value.isInt_shape (k:=i) (v:=v) h
  exact .inl ⟨i,t,rfl,e⟩
 | .inr x,v,h=>by
  obtain ⟨t,e⟩:=Value.isStrOf_shape (x:=x) (v:=v) h
  exact .inr ⟨x,t,rfl,e⟩
theorem key_ll(a b:Int):decide ((Sum.inl a:Key)=Sum.inl b)=(a == b):=by
 by_cases e:a=b
 ·subst e; simp
 ·have h:¬ (Sum.inl a:Key)=Sum.inl b:=fun q=>e (Sum.inl.inj q)
  rw [decide_eq_false h]
  exact (beq_eq_false_iff_ne.mpr e).symm
theorem key_rr(a b:Str):decide ((Sum.inr a:Key)=Sum.inr b)=decide (a=b):=by
 by_cases e:a=b
 ·subst e; simp
 ·have h:¬ (Sum.inr a:Key)=Sum.inr b:=fun q=>e (Sum.inr.inj q)
  rw [decide_eq_false h,decide_eq_false e]
theorem key_lr(a:Int)(b:Str):decide ((Sum.inl a:Key)=Sum.inr b)=false:=decide_eq_false (fun q=>nomatch q)
theorem key_rl(a:Str)(b:Int):decide ((Sum.inr a:Key)=Sum.inl b)=false:=decide_eq_false (fun q=>nomatch q)
def mixKind(prog:Program)(w:World):PySem.KeyKind prog w Key where
 is:=keyIs
 hash:=keyH w
 inj:=fun v a b ha hb=>by
  rcases keyIs_shape ha with ⟨i,t,rfl,rfl⟩ | ⟨x,t,rfl,rfl⟩
  ·rcases keyIs_shape hb with ⟨j,u,rfl,e⟩ | ⟨y,u,rfl,e⟩
   ·injection e with e1 _; rw [e1]
   ·exact nomatch e
  ·rcases keyIs_shape hb with ⟨j,u,rfl,e⟩ | ⟨y,u,rfl,e⟩
   ·exact nomatch e
   ·injection e with e1 _; rw [e1]
 byValue:=fun k v h=>by
  rcases keyIs_shape h with ⟨i,t,rfl,rfl⟩ | ⟨x,t,rfl,rfl⟩ <;> rfl
 pyHash:=fun hv h=>by
  rcases keyIs_shape hv with ⟨i,t,rfl,rfl⟩ | ⟨x,t,rfl,rfl⟩
  ·exact wpAny_pyHash_int h
  ·exact wpAny_pyHash_str h
 eqBool:=fun hu hv h=>by
  rcases keyIs_shape hu with ⟨i,t,rfl,rfl⟩ | ⟨x,t,rfl,rfl⟩
  ·rcases keyIs_shape hv with ⟨j,u,rfl,rfl⟩ | ⟨y,u,rfl,rfl⟩
   ·rw [key_ll] at h; exact wpAny_eqBool_int h
   ·rw [key_lr] at h; exact SeqAt.EqAt.int_str i t y u _ _ _ _ h
  ·rcases keyIs_shape hv with ⟨j,u,rfl,rfl⟩ | ⟨y,u,rfl,rfl⟩
   ·rw [key_rl] at h; exact SeqAt.EqAt.str_int x t j u _ _ _ _ h
   ·rw [key_rr] at h; exact wpAny_eqBool_str h
 «strs»:=fun k x t v h=>by
  rcases keyIs_shape h with ⟨i,u,rfl,e⟩ | ⟨y,u,rfl,e⟩
  ·exact nomatch e
  ·injection e with e1 _
   subst e1
   cases v <;> rfl
end L2
namespace L2
open PySem PySem.Spec PyProof.Rows
inductive V where
 | non | bl (b:Bool) | int (i:Int) | str (x:Str) | byt (b:Array UInt8) | flt (b:UInt64) | ref (a:Addr) | ty (n:String)
 deriving DecidableEq
def RelV:V→Value→Prop
 | .non,u=>u=Value.none
 | .bl b,u=>u=Value.bool b
 | .int i,u=>∃t,u=Value.int i t
 | .str x,u=>∃t,u=Value.str x t
 | .byt b,u=>∃t,u=Value.bytes b t
 | .flt b,u=>∃t,u=Value.float b t
 | .ref a,u=>u=Value.ref a
 | .ty n,u=>u=Value.type n
abbrev Vals:List V→List Value→Prop:=Paired RelV
theorem Vals.length{xs:List V}{us:List Value}(r:Vals xs us):xs.length=us.length:=Paired.length r
theorem Vals.get:∀{xs:List V} {us:List Value} {i:Nat} {x:V},Vals xs us→xs[i]?=some x→∃u,us[i]?=some u∧RelV x u
 | _,_,_,_,.nil,e=>by simp at e
 | _,_,0,_,.cons r _,e=>by simp at e; subst e; exact ⟨_,rfl,r⟩
 | _,_,i + 1,x,.cons _ t,e=>by
  obtain ⟨u,h1,h2⟩:=Vals.get (i:=i) (x:=x) t (by simpa using e)
  exact ⟨u,by simpa using h1,h2⟩
theorem Vals.set{x:V}{u:Value}(r:RelV x u):∀{xs:List V} {us:List Value} (i:Nat),Vals xs us→Vals (xs.set i x) (us.set i u)
 | _,_,_,.nil=>.nil
 | _,_,0,.cons _ t=>.cons r t
 | _,_,i + 1,.cons q t=>.cons q (Vals.set r i t)
theorem Vals.append:∀{xs ys:List V} {us ws:List Value},Vals xs us→Vals ys ws→Vals (xs++ys) (us++ws)
 | _,_,_,_,.nil,s=>s
 | _,_,_,_,.cons r t,s=>.cons r (Vals.append t s)
theorem Vals.take:∀{xs:List V} {us:List Value} (n:Nat),Vals xs us→Vals (xs.take n) (us.take n)
 | _,_,0,_=>.nil
 | _,_,_ + 1,.nil=>.nil
 | _,_,n + 1,.cons r t=>.cons r (Vals.take n t)
theorem Vals.drop:∀{xs:List V} {us:List Value} (n:Nat),Vals xs us→Vals (xs.drop n) (us.drop n)
 | _,_,0,r=>r
 | _,_,_ + 1,.nil=>.nil
 | _,_,n + 1,.cons _ t=>Vals.drop n t
theorem Vals.none_of:∀{xs:List V} {us:List Value} {i:Nat},Vals xs us→xs[i]?=none→us[i]?=none:=fun {xs us i} r e=>by
 have h1:=r.length
 have h2:xs.length≤i:=List.getElem?_eq_none_iff.mp e
 exact List.getElem?_eq_none_iff.mpr (by omega)
def RelO:Option V→Option Value→Prop
 | some v,some u=>RelV v u
 | none,none=>True
 | _,_=>False
def KV{κ:Type}:List (κ×V)→List (κ×Value)→Prop:=Paired fun (p:κ×V) (q:κ×Value)=>p.1=q.1∧RelV p.2 q.2
def kV:Key→V
 | .inl i=>.int i
 | .inr x=>.str x
inductive HO where
 | lst (xs:List V)
 | tup (xs:List V)
 | dK (kvs:List (Key×V)) | dT (kvs:List (List Key×V))
 | set (S:Int→Bool) (n:Nat)
 | ins (C dx:Addr) (fs:List (Str×V))
 | own (x:Addr)
 | xd (fs:List (Str×V))
 | met (f x:Addr)
 | rng (lo hi:Int)
 | frz (o:Obj) (u:HO)
 | tbl (ps:Array Value)
 | ext (φ:Heap→Prop)
abbrev Hp:=Addr→Option HO
def upd(H:Hp)(a:Addr)(o:HO):Hp:=fun b=>if b=a then some o else H b
theorem uS{H:Hp}{a:Addr}{o:HO}:upd H a o a=some o:=by unfold upd; rw [if_pos rfl]
theorem uN{H:Hp}{a b:Addr}{o:HO}(h:b≠a):upd H a o b=H b:=by unfold upd; rw [if_neg h]
theorem ne_of{H:Hp}{a b:Addr}{o u:HO}(h:H a=some o)(h':H b=some u)(d:o≠u):a≠b:=by
 intro e; subst e; rw [h] at h'; exact d (Option.some.inj h')
theorem nN{H:Hp}{a b:Addr}{o:HO}(h:H a=some o)(h':H b=none):a≠b:=by
 intro e; subst e; rw [h] at h'; cases h'
section
variable (P:Program) (w:World)
def ObjOk(H:Hp)(h:Heap)(a:Addr):HO→Prop
 | .lst xs=>xs.length≤sizeLine∧∃(its:List Value) (n:Nat),Vals xs its∧h.get? a=some {cls:=.type "list",data:=.seq its.toArray n}
 | .tup xs=>xs.length≤sizeLine∧∃its:List Value,Vals xs its∧IsTup h a its.toArray
 | .dK kvs=>kvs.length≤sizeLine∧(a == sysModules)=false∧∃vs,KV kvs vs∧h.DictOf (mixKind P w) a vs
 | .dT kvs=>kvs.length≤sizeLine∧(a == sysModules)=false∧∃xs:List (List Key×Addr×Value),
   Paired (fun (p:List Key×V) (q:List Key×Addr×Value)=>p.1=q.1∧H q.2.1=some (.tup (p.1.map kV))∧RelV p.2 q.2.2) kvs xs ∧
   ∃o es ep,h.get? a=some o∧o.ExactDict∧o.data=.dict es ep∧es.toList=xs.map (entryOfKey (tupleKind (mixKind P w)))∧(xs.map (·.1)).Nodup
 | .set S n=>h.SetOf (intKind P w) a S n
 | .ins C dx fs=>H dx=some (.own a)∧fs.length≤1000∧dx≠a∧h.get? a=some (PySem.W.instObj C dx) ∧
   ∃mA,h.Ns1 dx mA∧(∀f,RelO (fs.lookup f) (mA f))∧PySem.Within mA (fs.map (·.1))
 | .own _=>∃o,h.get? a=some o
 | .xd fs=>∃mA,h.Ns1 a mA∧∀f,RelO (fs.lookup f) (mA f)
 | .rng lo hi=>∃t u v,h.get? a=some {cls:=.type "range",data:=.fields #[.int lo t,.int hi u,.int 1 v]}
 | .frz o u=>h.get? a=some o∧ObjOk H h a u
 | .tbl ps=>h.get? a=some {cls:=.none,data:=.fields ps}
 | .met f x=>h.get? a=some (PySem.W.methodObj (.ref f) (.ref x))
 | .ext φ=>φ h∧(∃o,h.get? a=some o)∧∀h1 h2:Heap,φ h1→(∀o,h1.get? a=some o→h2.get? a=some o)→φ h2
def HOk(H:Hp)(h:Heap):Prop:=∀a o,H a=some o→ObjOk P w H h a o
end
section
variable {P:Program} {w:World} {H H':Hp} {h h':Heap} {a:Addr} {o:HO}
theorem ObjOk.lt(x:ObjOk P w H h a o):a < h.objs.size:=by
 cases o with
 | lst xs=>obtain ⟨_,_,_,_,e⟩:=x; exact Heap.lt_size e
 | tup xs=>obtain ⟨_,_,_,p⟩:=x; exact p.lt
 | dK kvs=>obtain ⟨_,_,_,_,o,_,_,e,_⟩:=x; exact Heap.lt_size e
 | dT kvs=>obtain ⟨_,_,_,_,o,_,_,e,_⟩:=x; exact Heap.lt_size e
 | set S n=>obtain ⟨o,_,_,_,e,_⟩:=x; exact Heap.lt_size e
 | ins C dx fs=>obtain ⟨_,_,_,e,_⟩:=x; exact Heap.lt_size e
 | own y=>obtain ⟨_,e⟩:=x; exact Heap.lt_size e
 | xd fs=>obtain ⟨_,⟨_,_,_,e,_⟩,_⟩:=x; exact Heap.lt_size e
 | rng lo hi=>obtain ⟨_,_,_,e⟩:=x; exact Heap.lt_size e
 | frz ob u=>obtain ⟨e,_⟩:=x; exact Heap.lt_size e
 | tbl ps=>exact Heap.lt_size (show h.get? a=some _ from x)
 | met f y=>exact Heap.lt_size (show h.get? a=some _ from x)
 | ext φ=>obtain ⟨_,⟨_,e⟩,_⟩:=x; exact Heap.lt_size e
theorem Paired.mapP{α β:Type}{F G:α→β→Prop}:∀{l₁:List α} {l₂:List β},Paired F l₁ l₂→(∀a b,F a b→G a b)→Paired G l₁ l₂
 | _,_,.nil,_=>.nil
 | _,_,.cons r t,f=>.cons (f _ _ r) (Paired.mapP t f)
theorem ObjOk.stay(x:ObjOk P w H h a o)(k:∀b u,(b=a∨H b=some (.own a))→h.get? b=some u→h'.get? b=some u)
  (ho:∀b,H b=some (.own a)→H' b=some (.own a)) (ht:∀b xs,H b=some (.tup xs)→H' b=some (.tup xs)):ObjOk P w H' h' a o:=by
 induction o with
 | lst xs=>obtain ⟨z,its,n,r,e⟩:=x; exact ⟨z,its,n,r,k _ _ (.inl rfl) e⟩
 | tup xs=>obtain ⟨z,its,r,ob,e,c⟩:=x; exact ⟨z,its,r,ob,k _ _ (.inl rfl) e,c⟩
 | dK kvs=>obtain ⟨z,y,vs,r,ob,es,ep,e,c⟩:=x; exact ⟨z,y,vs,r,ob,es,ep,k _ _ (.inl rfl) e,c⟩
 | dT kvs =>
  obtain ⟨z,y,xs,r,ob,es,ep,e,c⟩:=x
  exact ⟨z,y,xs,Paired.mapP r fun p q z=>⟨z.1,ht _ _ z.2.1,z.2.2⟩,ob,es,ep,k _ _ (.inl rfl) e,c⟩
 | set S n=>obtain ⟨ob,es,ep,t,e,c⟩:=x; exact ⟨ob,es,ep,t,k _ _ (.inl rfl) e,c⟩
 | ins C dx fs =>
  obtain ⟨d,z,ne,e,mA,⟨od,es,ep,e2,c⟩,r⟩:=x
  exact ⟨ho _ d,z,ne,k _ _ (.inl rfl) e,mA,⟨od,es,ep,k _ _ (.inr d) e2,c⟩,r⟩
 | own y=>obtain ⟨ob,e⟩:=x; exact ⟨ob,k _ _ (.inl rfl) e⟩
 | xd fs=>obtain ⟨mA,⟨od,es,ep,e,c⟩,r⟩:=x; exact ⟨mA,⟨od,es,ep,k _ _ (.inl rfl) e,c⟩,r⟩
 | rng lo hi=>obtain ⟨t,u,v,e⟩:=x; exact ⟨t,u,v,k _ _ (.inl rfl) e⟩
 | frz ob u ih=>obtain ⟨e,q⟩:=x; exact ⟨k _ _ (.inl rfl) e,ih q⟩
 | tbl ps =>
  have e:h.get? a=some {cls:=.none,data:=.fields ps}:=x
  show h'.get? a=some {cls:=.none,data:=.fields ps}
  exact k a _ (.inl rfl) e
 | met f y =>
  have e:h.get? a=some (PySem.W.methodObj (.ref f) (.ref y)):=x
  show h'.get? a=some (PySem.W.methodObj (.ref f) (.ref y))
  exact k a _ (.inl rfl) e
 | ext φ=>obtain ⟨p,⟨o,e⟩,st⟩:=x; exact ⟨st _ _ p fun o q=>k _ _ (.inl rfl) q,⟨o,k _ _ (.inl rfl) e⟩,st⟩
theorem HOk.lt(x:HOk P w H h)(e:H a=some o):a < h.objs.size:=(x a o e).lt
theorem HOk.fresh(x:HOk P w H h)(e:h.objs.size≤a):H a=none:=by
 cases q:H a with
 | none=>rfl
 | some u=>exact absurd (Nat.lt_of_lt_of_le (x.lt q) e) (Nat.lt_irrefl _)
theorem HOk.kept(x:HOk P w H h)(k:∀b u,h.get? b=some u→h'.get? b=some u):HOk P w H h':=fun a o e =>
 (x a o e).stay (fun b u _ q=>k b u q) (fun _ q=>q) fun _ _ q=>q
theorem HOk.laid(x:HOk P w H h)(k:∀b u,h.get? b=some u→h'.get? b=some u)(hp:h.objs.size≤a)(new:ObjOk P w (upd H a o) h' a o):HOk P w (upd H a o) h':=fun b u e=>by
 have hn:=x.fresh hp
 by_cases hb:b=a
 ·subst hb; rw [uS] at e; cases e; exact new
 ·rw [uN hb] at e
  exact (x b u e).stay (fun c v _ q=>k c v q) (fun c q=>by rw [uN (nN q hn)]; exact q) fun c xs q=>by rw [uN (nN q hn)]; exact q
end
def Rd(H:Hp)(a:Addr)(u:HO):Prop:=H a=some u∨∃o,H a=some (.frz o u)
theorem Rd.of{H:Hp}{a:Addr}{u:HO}(h:H a=some u):Rd H a u:=.inl h
theorem Rd.ok{P:Program}{w:World}{H:Hp}{h:Heap}{a:Addr}{u:HO}(r:Rd H a u)(x:HOk P w H h):ObjOk P w H h a u:=by
 rcases r with r | ⟨o,r⟩
 ·exact x a u r
 ·obtain ⟨_,q⟩:=x a _ r
  exact q
def Mut:Option HO→Prop
 | some (.lst _)=>True
 | some (.dK _)=>True
 | some (.dT _)=>True
 | some (.set _ _)=>True
 | some (.ins _ _ _)=>True
 | some (.ext _)=>True
 | _=>False
section
variable {P:Program} {w:World} {H:Hp} {h h':Heap} {x e:Addr} {o':HO}
theorem HOk.write(ok:HOk P w H h)(mu:Mut (H x))(he:e=x∨H e=some (.own x))(k:∀b u,b≠e→h.get? b=some u→h'.get? b=some u)(heo:∃u,h'.get? e=some u)
  (new:ObjOk P w (upd H x o') h' x o'):HOk P w (upd H x o') h':=fun b u q=>by
 have nown:∀c y,H c=some (.own y)→c≠x:=fun c y r z=>by subst z; rw [r] at mu; exact mu
 have ntup:∀c xs,H c=some (.tup xs)→c≠x:=fun c xs r z=>by subst z; rw [r] at mu; exact mu
 by_cases hb:b=x
 ·subst hb; rw [uS] at q; cases q; exact new
 ·rw [uN hb] at q
  by_cases hbe:b=e
  ·have q':H b=some (.own x):=by
    rcases he with z | z
    ·exact absurd (hbe.trans z) hb
    ·rw [hbe]; exact z
   rw [q] at q'; cases q'
   obtain ⟨v,hv⟩:=heo
   exact ⟨v,by rw [hbe]; exact hv⟩
  ·refine (ok b u q).stay (fun c v hc r=>k c v ?_ r) (fun c r=>by rw [uN (nown c b r)]; exact r) fun c xs r=>by rw [uN (ntup c xs r)]; exact r
   rcases hc with rfl | hc
   ·exact hbe
   ·rintro rfl
    rcases he with z | z
    ·exact nown c b hc z
    ·rw [hc] at z; cases z; exact hb rfl
end
structure Un(fs ex:List Addr)(H H':Hp)(h h':Heap):Prop where
 keep:∀b o,h.get? b=some o→H b=none→b∉fs→b∉ex→h'.get? b=some o
 slot:∀b o,h.get? b=some o→H b=none→b∈fs→b∉ex→∃sl,h'.get? b=some {o with slots:=sl}
 free:∀b o,h.get? b=some o→H b=none→b∉ex→H' b=none
 there:∀b o,h.get? b=some o→b∉ex→∃o',h'.get? b=some o'
 tups:∀b xs,H b=some (.tup xs)→H' b=some (.tup xs)
 frzs:∀b o u,H b=some (.frz o u)→H' b=some (.frz o u)
 tbls:∀b ps,H b=some (.tbl ps)→∃more,H' b=some (.tbl (ps++more))
section
variable {fs fs' ex ex':List Addr} {H H1 H2:Hp} {h h1 h2 h':Heap} {a x e:Addr} {o:HO}
theorem Un.any(u:Un fs ex H H1 h h1){b:Addr}{ob:Obj}(q:h.get? b=some ob)(n:H b=none)(hx:b∉ex):∃sl,h1.get? b=some {ob with slots:=sl}:=by
 by_cases hb:b∈fs
 ·exact u.slot b ob q n hb hx
 ·exact ⟨ob.slots,u.keep b ob q n hb hx⟩
theorem Un.trans(a:Un fs ex H H1 h h1)(b:Un fs ex H1 H2 h1 h2):Un fs ex H H2 h h2 where
 keep:=fun c ob q n hc hx=>b.keep c ob (a.keep c ob q n hc hx) (a.free c ob q n hx) hc hx
 slot:=fun c ob q n hc hx=>by
  obtain ⟨sl,e1⟩:=a.slot c ob q n hc hx
  obtain ⟨sl',e2⟩:=b.slot c _ e1 (a.free c ob q n hx) hc hx
  exact ⟨sl',e2⟩
 free:=fun c ob q n hx=>by
  obtain ⟨o',e1⟩:=a.there c ob q hx
  exact b.free c o' e1 (a.free c ob q n hx) hx
 there:=fun c ob q hx=>by
  obtain ⟨o',e1⟩:=a.there c ob q hx
  exact b.there c o' e1 hx
 tups:=fun c xs q=>b.tups c xs (a.tups c xs q)
 frzs:=fun c ob xs q=>b.frzs c ob xs (a.frzs c ob xs q)
 tbls:=fun c ps q=>by
  obtain ⟨m1,e1⟩:=a.tbls c ps q
  obtain ⟨m2,e2⟩:=b.tbls c _ e1
  exact ⟨m1++m2,by rw [e2,Array.append_assoc]⟩
theorem Un.kept(k:∀b u,h.get? b=some u→h'.get? b=some u):Un fs ex H H h h' :=
 ⟨fun b ob q _ _ _=>k b ob q,fun b ob q _ _ _=>⟨ob.slots,k b ob q⟩,fun _ _ _ n _=>n,fun b ob q _=>⟨ob,k b ob q⟩,fun _ _ q=>q,fun _ _ _ q=>q,fun _ ps q=>⟨#[],by rw [q]; simp⟩⟩
theorem Un.refl:Un fs ex H H h h:=Un.kept fun _ _ q=>q
theorem Un.laid(k:∀b u,h.get? b=some u→h'.get? b=some u)(hp:h.objs.size≤a)(hn:H a=none):Un fs ex H (upd H a o) h h' where
 keep:=fun b u q _ _ _=>k b u q
 slot:=fun b u q _ _ _=>⟨u.slots,k b u q⟩
 free:=fun b u q n _=>by rw [uN (Nat.ne_of_lt (Nat.lt_of_lt_of_le (Heap.lt_size q) hp))]; exact n
 there:=fun b u q _=>⟨u,k b u q⟩
 tups:=fun b xs q=>by rw [uN (nN q hn)]; exact q
 frzs:=fun b u xs q=>by rw [uN (nN q hn)]; exact q
 tbls:=fun b ps q=>⟨#[],by rw [uN (nN q hn),q]; simp⟩
theorem Un.write(mu:Mut (H x))(he:e=x∨H e=some (.own x))(k:∀b u,b≠e→h.get? b=some u→h'.get? b=some u)(heo:∃u,h'.get? e=some u):Un fs ex H (upd H x o) h h':=by
 have hx:∀b,H b=none→b≠x:=fun b n z=>by subst z; rw [n] at mu; exact mu
 have hb:∀b,H b=none→b≠e:=fun b n z=>by
  subst z
  rcases he with r | r
  ·exact hx b n r
  ·rw [n] at r; cases r
 have hm:∀b u,H b=some u→¬ Mut (some u)→b≠x:=fun b u q nm z=>by subst z; rw [q] at mu; exact nm mu
 refine ⟨fun b u q n _ _=>k b u (hb b n) q,fun b u q n _ _=>⟨u.slots,k b u (hb b n) q⟩,fun b u q n _=>by rw [uN (hx b n)]; exact n,fun b u q _=>?_,
  fun b xs q=>by rw [uN (hm b _ q fun z=>z)]; exact q,fun b u xs q=>by rw [uN (hm b _ q fun z=>z)]; exact q,fun b ps q=>⟨#[],by rw [uN (hm b _ q fun z=>z),q]; simp⟩⟩
 by_cases hbe:b=e
 ·subst hbe; exact heo
 ·exact ⟨u,k b u hbe q⟩
theorem Un.mono(u:Un fs ex H H1 h h1)(hs:∀b∈fs,b∈fs')(hx:∀b∈ex,b∈ex'):Un fs' ex' H H1 h h1 :=
 ⟨fun b ob q n hb he=>u.keep b ob q n (fun z=>hb (hs b z)) fun z=>he (hx b z),fun _ _ q n _ he=>u.any q n fun z=>he (hx _ z),fun b ob q n he=>u.free b ob q n fun z=>he (hx b z),fun b ob q he=>u.there b ob q fun z=>he (hx b z),u.tups,u.frzs,u.tbls⟩
end
def trk(h:Heap)(H:Hp):List Addr:=(List.range h.objs.size).filter fun a=>(H a).isSome
def hidT(h:Heap)(H:Hp):Heap:=PySem.W.hideAll h (trk h H)
theorem hidT_size(h:Heap)(H:Hp):(hidT h H).objs.size=h.objs.size:=PySem.W.hideAll_size _ _
theorem hidT_get{h:Heap}{H:Hp}{b:Addr}{o:Obj}(e:h.get? b=some o)(n:H b=none):(hidT h H).get? b=some o :=
 PySem.W.hideAll_get _ e fun hm=>by
  have q:(H b).isSome=true:=(List.mem_filter.mp hm).2
  rw [n] at q; simp at q
theorem of_hidT{h:Heap}{H:Hp}{b:Addr}{o:Obj}(e:(hidT h H).get? b=some o):h.get? b=some o∧H b=none:=by
 have e':h.get? b=some o:=PySem.W.of_hideAll (trk h H) e
 refine ⟨e',?_⟩
 cases q:H b with
 | none=>rfl
 | some x =>
  have hm:b∈trk h H:=List.mem_filter.mpr ⟨List.mem_range.mpr (Heap.lt_size e'),by simp [q]⟩
  have z:(hidT h H).get? b=none:=PySem.W.hideAll_none (trk h H) hm
  rw [z] at e; cases e
def allNews(g h:Heap)(L:Addr):List (Addr×Obj):=(List.range h.objs.size).filterMap fun a=>if a=L∨(g.get? a).isSome=true then none else (h.get? a).map fun o=>(a,o)
def rest(g h:Heap)(L d:Addr):List (Addr×Obj):=(allNews g h L).filter fun p=>decide (p.1≠d)
end L2
namespace L2
open PySem PySem.Spec PyProof.Rows
structure Mod(K:Fgg)(mg:Str→Option Value)(base:Heap):Prop where
 kin:K.In base
 glob:base.Ns mainGlobals mg
 blt:∃mb,base.Ns builtinsNs mb∧∀x:Str,x≠"__name__"→mb x=bootBuiltins x
 nolimit:base.NoLimit
structure Cx where
 prog:Program
 w:World
 K:Fgg
 mg:Str→Option Value
 base:Heap
 A:Around
 N:List Str
 s₀:Shared
 H₀:Hp
 env:Env
 outer:List Env
 stack:List Env
 ex:List Addr
 fn:Str→Bool
 calm:Bool
 pn:List (Addr×Obj)
 xe:Value→Shared→Prop
def frs(l:List Env):List Addr:=l.filterMap (·.frame)
abbrev Cx.fs(X:Cx):List Addr:=frs X.outer
def Vis(sc:Scope)(x:Str):Prop:=sc.names.lookup x=some .local∨sc.names.lookup x=some .cell∨sc.names.lookup x=some .free
def Loc(sc:Scope)(x:Str):Prop:=sc.names.lookup x=some .local∨sc.names.lookup x=some .cell
def Look(env:Env)(h:Heap)(m:Str→Option Value)(x:Str)(u:Value):Prop :=
 (env.kindOf x=some .local∧m x=some u)∨((env.kindOf x=some .cell∨env.kindOf x=some .free)∧∃c,env.cells.lookup x=some c∧h.IsCell c (some u))
structure Cx.Ok(X:Cx):Prop where
 mod:Mod X.K X.mg X.base
 kind:X.env.scope.kind=.function
 glob:X.env.globals=mainGlobals
 blt:X.env.builtins=builtinsNs
 above:X.s₀.heap.objs.size≤X.env.locals
 inj:∀x y c,X.env.cells.lookup x=some c→X.env.cells.lookup y=some c→x=y
 has:∀x,(X.env.kindOf x=some .cell∨X.env.kindOf x=some .free)→∃c,X.env.cells.lookup x=some c
 cab:∀x c,X.fn x=true→X.env.cells.lookup x=some c→X.s₀.heap.objs.size≤c
 hd:X.calm=true→X.A.handled=none
 frames:X.A.frames=some X.stack
 stk:X.stack=X.outer∨(X.stack=X.env::X.outer∧X.env.frame=some X.env.locals)
 exf:∀b∈X.ex,b≠X.env.locals∧∀x c,X.env.cells.lookup x=some c→c≠b
 bs:∀b o,X.base.get? b=some o→X.s₀.heap.get? b=some o∧X.H₀ b=none
 bsz:X.base.objs.size≤X.s₀.heap.objs.size
 noex:∀b o,X.base.get? b=some o→b∉X.ex
 exfs:∀b∈X.ex,b∉X.fs
 funs:X.s₀.heap.FunFrames X.base X.outer
 frf:∀b∈X.fs,X.H₀ b=none
structure Inv(X:Cx)(pins:List (Addr×Obj))(σ:List (Option V))(H:Hp)(s:Shared):Prop where
 ok:X.Ok
 os:s.os=X.s₀.os
 bare:AllBare s.gens
 base:Un X.fs X.ex X.H₀ H X.s₀.heap s.heap
 loc:∃m,s.heap.Ns X.env.locals m∧∀(i:Nat) (x:Str) (v:V),X.N[i]?=some x→σ[i]?=some (some v)→Vis X.env.scope x→∃u,RelV v u∧Look X.env s.heap m x u
 cell:∀x c,X.env.cells.lookup x=some c→∃v,s.heap.IsCell c v
 free:H X.env.locals=none
 freeC:∀x c,X.env.cells.lookup x=some c→H c=none
 pin:∀p∈X.pn++pins,s.heap.get? p.1=some p.2∧H p.1=none∧p.1≠X.env.locals∧p.1∉X.fs∧∀v,p.2.data≠.cell v
 hok:HOk X.prog X.w H s.heap
 len:σ.length=X.N.length
section
variable {X:Cx} {pins:List (Addr×Obj)} {σ:List (Option V)} {H H':Hp} {s:Shared} {h':Heap}
theorem Cx.Ok.nofr(ok:X.Ok){b:Addr}{o:Obj}(e:X.base.get? b=some o):b∉X.fs:=fun hb=>by
 have:=(ok.funs.mem hb).1
 rw [e] at this; cases this
theorem Inv.bs(I:Inv X pins σ H s):∀b o,X.base.get? b=some o→s.heap.get? b=some o∧H b=none:=fun b o e =>
 ⟨I.base.keep b o (I.ok.bs b o e).1 (I.ok.bs b o e).2 (I.ok.nofr e) (I.ok.noex b o e),I.base.free b o (I.ok.bs b o e).1 (I.ok.bs b o e).2 (I.ok.noex b o e)⟩
theorem Inv.bk(I:Inv X pins σ H s):∀b o,X.base.get? b=some o→s.heap.get? b=some o:=fun b o e=>(I.bs b o e).1
theorem Inv.mod(I:Inv X pins σ H s):Mod X.K X.mg X.base:=I.ok.mod
theorem Inv.kIn(I:Inv X pins σ H s):X.K.In s.heap:=I.ok.mod.kin.keeps I.bk
theorem Inv.nolimit(I:Inv X pins σ H s):s.heap.NoLimit:=I.ok.mod.nolimit.keeps I.bk
theorem Inv.fr(I:Inv X pins σ H s):∃m,Fr X.base X.env.locals s.heap m :=
 let ⟨m,hn,_⟩:=I.loc
 ⟨m,hn,I.bk,Nat.le_trans I.ok.bsz I.ok.above⟩
theorem Inv.lt(I:Inv X pins σ H s):X.env.locals < s.heap.objs.size:=let ⟨_,hn,_⟩:=I.loc; hn.lt
theorem Inv.sz(I:Inv X pins σ H s):X.s₀.heap.objs.size≤s.heap.objs.size:=Nat.le_trans I.ok.above (Nat.le_of_lt I.lt)
theorem Inv.nofs(I:Inv X pins σ H s){a:Addr}(h:s.heap.objs.size≤a):a∉X.fs:=fun hb=>by
 obtain ⟨_,o,ho,_⟩:=I.ok.funs.mem hb
 exact absurd (Nat.lt_of_lt_of_le (Heap.lt_size ho) (Nat.le_trans I.sz h)) (Nat.lt_irrefl _)
theorem Inv.cne(I:Inv X pins σ H s):∀x c,X.env.cells.lookup x=some c→c≠X.env.locals:=fun x c e z=>by
 obtain ⟨v,o,ho,hd⟩:=I.cell x c e
 obtain ⟨m,⟨o',es,ep,ho',hd',_⟩,_⟩:=I.loc
 rw [z,ho'] at ho; cases ho; rw [hd'] at hd; cases hd
theorem Inv.funs(I:Inv X pins σ H s):s.heap.FunFrames X.base X.outer:=by
 have all:∀(l:List Env),(∀b∈frs l,b∈X.fs)→X.s₀.heap.FunFrames X.base l→s.heap.FunFrames X.base l:=by
  intro l
  induction l with
  | nil=>intro _ _; trivial
  | cons env r ih =>
   intro hs hl
   obtain ⟨hk,⟨L,o,hf,hn,ho,hd⟩,hr⟩:=hl
   have hL:L∈X.fs:=hs L (by unfold frs; rw [List.filterMap_cons,hf]; exact List.mem_cons_self)
   obtain ⟨sl,e⟩:=I.base.slot L o ho (I.ok.frf L hL) hL fun z=>I.ok.exfs L z hL
   exact ⟨hk,⟨L,_,hf,hn,e,hd⟩,ih (fun b hb=>hs b (by unfold frs; rw [List.filterMap_cons,hf]; exact List.mem_cons_of_mem _ hb)) hr⟩
 exact all X.outer (fun _ hb=>hb) I.ok.funs
theorem Inv.stack(I:Inv X pins σ H s):s.heap.FunFrames X.base X.stack:=by
 rcases I.ok.stk with e | ⟨e,hf⟩
 ·rw [e]; exact I.funs
 ·rw [e]
  obtain ⟨m,hn,_⟩:=I.loc
  refine .cons (by rw [I.ok.kind]; decide) hf hn ?_ I.funs
  exact Heap.get?_none_of_le (Nat.le_trans I.ok.bsz I.ok.above)
theorem Inv.stkSub(I:Inv X pins σ H s):∀b∈frs X.stack,b∈X.env.locals::X.fs:=fun b hb=>by
 rcases I.ok.stk with e | ⟨e,hf⟩
 ·rw [e] at hb; exact List.mem_cons_of_mem _ hb
 ·rw [e] at hb
  unfold frs at hb
  rw [List.filterMap_cons,hf] at hb
  exact hb
theorem Inv.stkFree(I:Inv X pins σ H s):∀b∈frs X.stack,H b=none:=fun b hb=>by
 rcases List.mem_cons.mp (I.stkSub b hb) with e | hb
 ·rw [e]; exact I.free
 ·obtain ⟨_,o,ho,_⟩:=I.ok.funs.mem hb
  exact I.base.free b o ho (I.ok.frf b hb) fun z=>I.ok.exfs b z hb
theorem Inv.step{g':Array GenState}{t':Nat}{d':Drawn}{ch:List Addr}(I:Inv X pins σ H s)
  (hch:∀b∈ch,(b∈X.ex∨X.s₀.heap.objs.size≤b)∧b≠X.env.locals∧(∀x c,X.env.cells.lookup x=some c→c≠b)∧∀p∈X.pn++pins,p.1≠b)
  (keep:∀b o,b≠X.env.locals→b∉X.fs→b∉ch→s.heap.get? b=some o→H b=none→h'.get? b=some o)
  (slot:∀b o,b≠X.env.locals→b∈X.fs→b∉ch→s.heap.get? b=some o→H b=none→∃sl,h'.get? b=some {o with slots:=sl}) (free:∀b o,b∉ch→s.heap.get? b=some o→H b=none→H' b=none)
  (there:∀b o,b∉ch→s.heap.get? b=some o→∃o',h'.get? b=some o')
  (tups:∀b xs,H b=some (.tup xs)→H' b=some (.tup xs)) (frzs:∀b o u,H b=some (.frz o u)→H' b=some (.frz o u)) (tbls:∀b ps,H b=some (.tbl ps)→∃more,H' b=some (.tbl (ps++more)))
  (ns:∀m,s.heap.Ns X.env.locals m→h'.Ns X.env.locals m) (hok:HOk X.prog X.w H' h') (hg:AllBare g') :
  Inv X pins σ H' {s with heap:=h',gens:=g',drawn:=d',toks:=t'}:=by
 have neL:∀b o,X.s₀.heap.get? b=some o→b≠X.env.locals:=fun b o e=>Nat.ne_of_lt (Nat.lt_of_lt_of_le (Heap.lt_size e) I.ok.above)
 have neC:∀b o,X.s₀.heap.get? b=some o→b∉X.ex→b∉ch:=fun b o e hx hb=>by
  rcases (hch b hb).1 with z | z
  ·exact hx z
  ·exact absurd (Nat.lt_of_lt_of_le (Heap.lt_size e) z) (Nat.lt_irrefl _)
 have cellK:∀x c,X.env.cells.lookup x=some c→∀v,s.heap.IsCell c v→h'.IsCell c v:=fun x c e v ⟨o,ho,hd⟩=>by
  have nch:c∉ch:=fun z=>(hch c z).2.2.1 x c e rfl
  by_cases hc:c∈X.fs
  ·obtain ⟨sl,q⟩:=slot c o (I.cne x c e) hc nch ho (I.freeC x c e)
   exact ⟨_,q,hd⟩
  ·exact ⟨o,keep c o (I.cne x c e) hc nch ho (I.freeC x c e),hd⟩
 refine ⟨I.ok,I.os,hg,⟨fun b o e n hb hx=>?_,fun b o e n hb hx=>?_,fun b o e n hx=>?_,fun b o e hx=>?_,fun b xs e=>tups b xs (I.base.tups b xs e),fun b o xs e=>frzs b o xs (I.base.frzs b o xs e),fun b ps e=>?_⟩,?_,fun x c e=>?_,?_,fun x c e=>?_,fun p hp=>?_,hok,I.len⟩
 ·exact keep b o (neL b o e) hb (neC b o e hx) (I.base.keep b o e n hb hx) (I.base.free b o e n hx)
 ·obtain ⟨sl,e1⟩:=I.base.slot b o e n hb hx
  obtain ⟨sl',e2⟩:=slot b _ (neL b o e) hb (neC b o e hx) e1 (I.base.free b o e n hx)
  exact ⟨sl',e2⟩
 ·obtain ⟨o',e1⟩:=I.base.there b o e hx
  exact free b o' (neC b o e hx) e1 (I.base.free b o e n hx)
 ·obtain ⟨o',e1⟩:=I.base.there b o e hx
  exact there b o' (neC b o e hx) e1
 ·obtain ⟨m1,e1⟩:=I.base.tbls b ps e
  obtain ⟨m2,e2⟩:=tbls b _ e1
  exact ⟨m1++m2,by rw [e2,Array.append_assoc]⟩
 ·obtain ⟨m,hn,hl⟩:=I.loc
  refine ⟨m,ns m hn,fun i x v e1 e2 e3=>?_⟩
  obtain ⟨u,r,l⟩:=hl i x v e1 e2 e3
  refine ⟨u,r,?_⟩
  rcases l with l | ⟨k,c,e,z⟩
  ·exact .inl l
  ·exact .inr ⟨k,c,e,cellK x c e _ z⟩
 ·obtain ⟨v,z⟩:=I.cell x c e
  exact ⟨v,cellK x c e v z⟩
 ·obtain ⟨m,⟨o,_,_,ho,_⟩,_⟩:=I.loc
  exact free _ o (fun z=>(hch _ z).2.1 rfl) ho I.free
 ·obtain ⟨v,o,ho,hd⟩:=I.cell x c e
  exact free c o (fun z=>(hch c z).2.2.1 x c e rfl) ho (I.freeC x c e)
 ·obtain ⟨e,n,ne,nf,d⟩:=I.pin p hp
  have nch:p.1∉ch:=fun z=>(hch p.1 z).2.2.2 p hp rfl
  exact ⟨keep p.1 p.2 ne nf nch e n,free p.1 p.2 nch e n,ne,nf,d⟩
theorem Inv.un{t':Nat}(I:Inv X pins σ H s)(u:Un X.fs [] H H' s.heap h')(hok:HOk X.prog X.w H' h'):Inv X pins σ H' {s with heap:=h',toks:=t'}:=by
 obtain ⟨m,⟨o,es,ep,ho,r⟩,_⟩:=id I.loc
 obtain ⟨sl,hL⟩:=u.any ho I.free (by simp)
 exact I.step (g':=s.gens) (d':=s.drawn) (ch:=[]) (fun _ z=>nomatch z) (fun b o _ hb _ e n=>u.keep b o e n hb (by simp)) (fun b o _ hb _ e n=>u.slot b o e n hb (by simp)) (fun b o _ e n=>u.free b o e n (by simp)) (fun b o _ e=>u.there b o e (by simp)) u.tups u.frzs u.tbls (fun m' hm=>by
  obtain ⟨o',es',ep',ho',r'⟩:=hm
  rw [ho] at ho'; cases ho'
  exact ⟨_,es',ep',hL,r'⟩) hok I.bare
theorem Inv.call{g':Array GenState}{t':Nat}{d':Drawn}{ch:List Addr}(I:Inv X pins σ H s)(u:Un (frs X.stack) ch H H' s.heap h')(hok:HOk X.prog X.w H' h')(hg:AllBare g')
  (hch:∀b∈ch,(b∈X.ex∨X.s₀.heap.objs.size≤b)∧b≠X.env.locals∧(∀x c,X.env.cells.lookup x=some c→c≠b)∧∀p∈X.pn++pins,p.1≠b) :
  Inv X pins σ H' {s with heap:=h',gens:=g',drawn:=d',toks:=t'}:=by
 obtain ⟨m,⟨o,es,ep,ho,r⟩,_⟩:=id I.loc
 obtain ⟨sl,hL⟩:=u.any ho I.free fun z=>(hch _ z).2.1 rfl
 exact I.step (ch:=ch) hch (fun b o hL hb hc e n=>u.keep b o e n (fun z=>(List.mem_cons.mp (I.stkSub b z)).elim hL hb) hc) (fun b o _ _ hc e n=>u.any e n hc) (fun b o hc e n=>u.free b o e n hc) (fun b o hc e=>u.there b o e hc) u.tups u.frzs u.tbls (fun m' hm=>by
  obtain ⟨o',es',ep',ho',r'⟩:=hm
  rw [ho] at ho'; cases ho'
  exact ⟨_,es',ep',hL,r'⟩) hok hg
theorem Inv.turned{t':Nat}{it:Addr}(I:Inv X pins σ H s)(k:∀b o,b≠it→s.heap.get? b=some o→h'.get? b=some o)(hn:H it=none)(hL:it≠X.env.locals)
  (h1:it∈X.ex∨X.s₀.heap.objs.size≤it) (h2:∀x c,X.env.cells.lookup x=some c→c≠it) (h3:∀p∈X.pn++pins,p.1≠it):Inv X pins σ H {s with heap:=h',toks:=t'}:=by
 have nit:∀b u,H b=some u→b≠it:=fun b u e z=>by rw [z,hn] at e; cases e
 refine I.step (g':=s.gens) (d':=s.drawn) (ch:=[it]) (fun b hb=>?_) (fun b o _ _ hc e _=>k b o (fun z=>hc (by simp [z])) e) (fun b o _ _ hc e _=>⟨o.slots,k b o (fun z=>hc (by simp [z])) e⟩) (fun _ _ _ _ n=>n)
  (fun b o hc e=>⟨o,k b o (fun z=>hc (by simp [z])) e⟩) (fun _ _ e=>e) (fun _ _ _ e=>e) (fun b ps e=>⟨#[],by rw [e]; simp⟩) (fun m hm=>?_) (fun b u e=>?_) I.bare
 ·have e:b=it:=by simpa using hb
  subst e
  exact ⟨h1,hL,h2,h3⟩
 ·obtain ⟨o,es,ep,ho,r⟩:=hm
  exact ⟨o,es,ep,k _ o (Ne.symm hL) ho,r⟩
 ·refine (I.hok b u e).stay (fun c v hc q=>k c v ?_ q) (fun _ q=>q) fun _ _ q=>q
  rcases hc with z | z
  ·rw [z]; exact nit b u e
  ·exact nit c _ z
theorem Inv.tok(I:Inv X pins σ H s)(t:Nat):Inv X pins σ H {s with toks:=t}:=I.un (h':=s.heap) (t':=t) Un.refl I.hok
theorem Inv.kept{t':Nat}(I:Inv X pins σ H s)(k:∀b u,s.heap.get? b=some u→h'.get? b=some u):Inv X pins σ H {s with heap:=h',toks:=t'}:=I.un (Un.kept k) (I.hok.kept k)
theorem Inv.laid{a:Addr}{o:HO}{t':Nat}(I:Inv X pins σ H s)(k:∀b u,s.heap.get? b=some u→h'.get? b=some u)(hp:s.heap.objs.size≤a)(new:ObjOk X.prog X.w (upd H a o) h' a o):
  Inv X pins σ (upd H a o) {s with heap:=h',toks:=t'}:=I.un (Un.laid k hp (I.hok.fresh hp)) (I.hok.laid k hp new)
theorem Inv.write{x e:Addr}{o:HO}{t':Nat}(I:Inv X pins σ H s)(mu:Mut (H x))(he:e=x∨H e=some (.own x))(k:∀b u,b≠e→s.heap.get? b=some u→h'.get? b=some u)(heo:∃u,h'.get? e=some u)
  (new:ObjOk X.prog X.w (upd H x o) h' x o):Inv X pins σ (upd H x o) {s with heap:=h',toks:=t'}:=I.un (Un.write mu he k heo) (I.hok.write mu he k heo new)
theorem Inv.weak{σ':List (Option V)}(I:Inv X pins σ H s)(hl:σ'.length=σ.length)(w:∀(i:Nat) v,σ'[i]?=some (some v)→σ[i]?=some (some v)):Inv X pins σ' H s :=
 ⟨I.ok,I.os,I.bare,I.base,let ⟨m,hn,hl'⟩:=I.loc; ⟨m,hn,fun i x v e1 e2 e3=>hl' i x v e1 (w i v e2) e3⟩,I.cell,I.free,I.freeC,I.pin,I.hok,hl.trans I.len⟩
theorem Inv.pins_of{pins':List (Addr×Obj)}(I:Inv X pins σ H s)(h:∀p∈pins',s.heap.get? p.1=some p.2∧H p.1=none∧p.1≠X.env.locals∧p.1∉X.fs∧∀v,p.2.data≠.cell v):Inv X pins' σ H s :=
 ⟨I.ok,I.os,I.bare,I.base,I.loc,I.cell,I.free,I.freeC,fun p hp=>(List.mem_append.mp hp).elim (fun z=>I.pin p (List.mem_append_left _ z)) (h p),I.hok,I.len⟩
theorem nodup_ix{N:List Str}(hN:N.Nodup){i j:Nat}{x:Str}(a:N[i]?=some x)(b:N[j]?=some x):i=j:=by
 obtain ⟨h1,e1⟩:=List.getElem?_eq_some_iff.mp a
 obtain ⟨h2,e2⟩:=List.getElem?_eq_some_iff.mp b
 exact (List.getElem_inj hN).mp (e1.trans e2.symm)
theorem store_ok2{M:Model}{A:Around}{E:Value→Shared→Prop}{i:Nat}{x:Str}{v:V}{u:Value}{Q:Unit→Shared→Prop}(I:Inv X pins σ H s)(hN:X.N.Nodup)(hi:X.N[i]?=some x)(hx:Loc X.env.scope x)(r:RelV v u)
  (h:∀s',Inv X pins (σ.set i (some v)) H s'→(∃a,Heap.SameBut a s.heap s'.heap∧(a=X.env.locals∨X.env.cells.lookup x=some a))→Q () s') (hf:X.fn x=true∨X.env.scope.names.lookup x=some .local:=by first | exact .inl rfl | exact .inr rfl | assumption):wpAny M A (storeName X.env x u) Q E s:=by
 obtain ⟨m,hn,hl⟩:=id I.loc
 have hcls:(X.env.scope.kind == .class||(X.env.scope.kind == .module&&X.env.locals != X.env.globals))=false:=by rw [I.ok.kind]; rfl
 have hiσ:i < σ.length:=by rw [I.len]; exact (List.getElem?_eq_some_iff.mp hi).1
 have cne:=I.cne
 have tracked:∀{a:Addr} {h':Heap},(∃o,s.heap.get? a=some o∧H a=none)→Heap.SameBut a s.heap h'→HOk X.prog X.w H h':=fun {a h'} ha hs b ob e=>by
  obtain ⟨_,_,hfree⟩:=ha
  refine (I.hok b ob e).stay (fun c w' hc q=>(hs.2 c ?_).trans q) (fun _ q=>q) fun _ _ q=>q
  rintro rfl
  rcases hc with rfl | hc
  ·rw [hfree] at e; cases e
  ·rw [hfree] at hc; cases hc
 rcases hx with hk | hk
 ·refine wpAny_storeName_local hk hn (fun h' hn' hs=>?_) hcls
  obtain ⟨oL,_,_,hoL,_⟩:=id hn
  refine h _ ⟨I.ok,I.os,I.bare,⟨fun b o e n hb hx=>?_,fun b o e n hb hx=>?_,I.base.free,fun b o e hx=>?_,I.base.tups,I.base.frzs,I.base.tbls⟩,⟨_,hn',fun j y v' e1 e2 e3=>?_⟩,fun y c e=>?_,I.free,I.freeC,fun p hp=>?_,tracked ⟨oL,hoL,I.free⟩ hs,by simpa using I.len⟩ ⟨_,hs,.inl rfl⟩
  ·exact (hs.2 b (Nat.ne_of_lt (Nat.lt_of_lt_of_le (Heap.lt_size e) I.ok.above))).trans (I.base.keep b o e n hb hx)
  ·obtain ⟨sl,e1⟩:=I.base.slot b o e n hb hx
   exact ⟨sl,(hs.2 b (Nat.ne_of_lt (Nat.lt_of_lt_of_le (Heap.lt_size e) I.ok.above))).trans e1⟩
  ·obtain ⟨o',e1⟩:=I.base.there b o e hx
   exact ⟨o',(hs.2 b (Nat.ne_of_lt (Nat.lt_of_lt_of_le (Heap.lt_size e) I.ok.above))).trans e1⟩
  ·by_cases hj:j=i
   ·subst hj
    rw [hi] at e1; cases e1
    rw [List.getElem?_set_self hiσ] at e2
    cases e2
    exact ⟨u,r,.inl ⟨hk,by simp⟩⟩
   ·rw [List.getElem?_set_ne (Ne.symm hj)] at e2
    obtain ⟨u',r',q⟩:=hl j y v' e1 e2 e3
    refine ⟨u',r',?_⟩
    rcases q with ⟨k,e⟩ | ⟨k,c,e,z⟩
    ·refine .inl ⟨k,?_⟩
     have:y≠x:=fun e=>hj (nodup_ix hN e1 (e ▸ hi))
     simp [this,e]
    ·exact .inr ⟨k,c,e,z.sameBut hs (cne y c e)⟩
  ·obtain ⟨w',z⟩:=I.cell y c e
   exact ⟨w',z.sameBut hs (cne y c e)⟩
  ·obtain ⟨e,n,ne,nf,d⟩:=I.pin p hp
   exact ⟨(hs.2 p.1 ne).trans e,n,ne,nf,d⟩
 ·have hfn:X.fn x=true:=by
   rcases hf with z | z
   ·exact z
   ·rw [z] at hk; cases hk
  obtain ⟨c,hc⟩:=I.ok.has x (.inl hk)
  obtain ⟨w',z⟩:=I.cell x c hc
  refine wpAny_storeName_cell I.ok.kind hk hc z (fun h' hc' hs=>?_)
  obtain ⟨oc,hoc,hocd⟩:=id z
  refine h {s with heap:=h'} ⟨I.ok,I.os,I.bare,⟨fun b o e n hb hx=>?_,fun b o e n hb hx=>?_,I.base.free,fun b o e hx=>?_,I.base.tups,I.base.frzs,I.base.tbls⟩,⟨m,hn.sameBut hs (Ne.symm (cne x c hc)),fun j y v' e1 e2 e3=>?_⟩,fun y c' e=>?_,I.free,I.freeC,fun p hp=>?_,tracked ⟨oc,hoc,I.freeC x c hc⟩ hs,by simpa using I.len⟩ ⟨c,hs,.inr hc⟩
  ·exact (hs.2 b (Nat.ne_of_lt (Nat.lt_of_lt_of_le (Heap.lt_size e) (I.ok.cab x c hfn hc)))).trans (I.base.keep b o e n hb hx)
  ·obtain ⟨sl,e1⟩:=I.base.slot b o e n hb hx
   exact ⟨sl,(hs.2 b (Nat.ne_of_lt (Nat.lt_of_lt_of_le (Heap.lt_size e) (I.ok.cab x c hfn hc)))).trans e1⟩
  ·obtain ⟨o',e1⟩:=I.base.there b o e hx
   exact ⟨o',(hs.2 b (Nat.ne_of_lt (Nat.lt_of_lt_of_le (Heap.lt_size e) (I.ok.cab x c hfn hc)))).trans e1⟩
  ·by_cases hj:j=i
   ·subst hj
    rw [hi] at e1; cases e1
    rw [List.getElem?_set_self hiσ] at e2
    cases e2
    exact ⟨u,r,.inr ⟨.inl hk,c,hc,hc'⟩⟩
   ·rw [List.getElem?_set_ne (Ne.symm hj)] at e2
    obtain ⟨u',r',q⟩:=hl j y v' e1 e2 e3
    refine ⟨u',r',?_⟩
    rcases q with q | ⟨k,c',e,z'⟩
    ·exact .inl q
    ·refine .inr ⟨k,c',e,z'.sameBut hs ?_⟩
     rintro rfl
     exact hj (nodup_ix hN e1 (I.ok.inj _ _ _ e hc ▸ hi))
  ·by_cases hcc:c'=c
   ·subst hcc; exact ⟨_,hc'⟩
   ·obtain ⟨w2,z2⟩:=I.cell y c' e
    exact ⟨w2,z2.sameBut hs hcc⟩
  ·obtain ⟨e,n,ne,nf,d⟩:=I.pin p hp
   refine ⟨(hs.2 p.1 ?_).trans e,n,ne,nf,d⟩
   intro q
   rw [q,hoc] at e
   have q':oc=p.2:=Option.some.inj e
   exact d w' (by rw [← q']; exact hocd)
theorem store_ok{M:Model}{A:Around}{E:Value→Shared→Prop}{i:Nat}{x:Str}{v:V}{u:Value}{Q:Unit→Shared→Prop}(I:Inv X pins σ H s)(hN:X.N.Nodup)(hi:X.N[i]?=some x)(hx:Loc X.env.scope x)(r:RelV v u)
  (h:∀s',Inv X pins (σ.set i (some v)) H s'→Q () s') (hf:X.fn x=true∨X.env.scope.names.lookup x=some .local:=by first | exact .inl rfl | exact .inr rfl | assumption):wpAny M A (storeName X.env x u) Q E s :=
 store_ok2 I hN hi hx r (fun s' I' _=>h s' I') hf
theorem Inv.call'{s':Shared}{ch:List Addr}(I:Inv X pins σ H s)(ho:s'.os=s.os)(u:Un (frs X.stack) ch H H' s.heap s'.heap)(hok:HOk X.prog X.w H' s'.heap)(hg:AllBare s'.gens)
  (hch:∀b∈ch,(b∈X.ex∨X.s₀.heap.objs.size≤b)∧b≠X.env.locals∧(∀x c,X.env.cells.lookup x=some c→c≠b)∧∀p∈X.pn++pins,p.1≠b):Inv X pins σ H' s':=by
 obtain ⟨h',g',d',t',o'⟩:=s'
 have e:o'=s.os:=ho
 subst e
 exact I.call (g':=g') (t':=t') (d':=d') u hok hg hch
end
abbrev XK:=Value→Option Addr→Hp→Prop
abbrev St:=List (Option V)
abbrev VK:=V→Hp→Prop
abbrev TE:=St→Hp→VK→Prop
abbrev TT:=St→Hp→(Bool→Hp→Prop)→Prop
abbrev TA:=St→Hp→(List V→Hp→Prop)→Prop
structure Ends where
 nx:St→Hp→Prop
 rt:VK
 bk:St→Hp→Prop:=fun _ _=>False
 ct:St→Hp→Prop:=fun _ _=>False
abbrev TS:=Ends→St→Hp→Prop
def EP(X:Cx)(pins:List (Addr×Obj))(σ:St)(Q:VK)(u:Value)(s':Shared):Prop:=∃v H',Inv X pins σ H' s'∧RelV v u∧Q v H'
def TP(X:Cx)(pins:List (Addr×Obj))(σ:St)(Q:Bool→Hp→Prop)(b:Bool)(s':Shared):Prop:=∃H',Inv X pins σ H' s'∧Q b H'
def AP(X:Cx)(pins:List (Addr×Obj))(σ:St)(Q:List V→Hp→Prop)(us:List Value)(s':Shared):Prop:=∃vs H',Inv X pins σ H' s'∧Vals vs us∧Q vs H'
def SP(X:Cx)(pins:List (Addr×Obj))(D:Ends)(f:Flow)(s':Shared):Prop :=
 match f with
 | .next=>∃σ' H',Inv X pins σ' H' s'∧D.nx σ' H'
 | .brk=>∃σ' H',Inv X pins σ' H' s'∧D.bk σ' H'
 | .cont=>∃σ' H',Inv X pins σ' H' s'∧D.ct σ' H'
 | .ret u=>∃v σ' H',Inv X pins σ' H' s'∧RelV v u∧D.rt v H'
def PE(X:Cx)(e:Expr)(t:TE):Prop :=
 ∀(pins:List (Addr×Obj)) (s:Shared) (σ:St) (H:Hp) (Q:VK),Inv X pins σ H s→t σ H Q→wpAny (model X.prog X.w) X.A (eval e X.env) (EP X pins σ Q) X.xe s
def PT(X:Cx)(e:Expr)(t:TT):Prop :=
 ∀(pins:List (Addr×Obj)) (s:Shared) (σ:St) (H:Hp) (Q:Bool→Hp→Prop),Inv X pins σ H s→t σ H Q→wpAny (model X.prog X.w) X.A (isTrue e X.env (eval e X.env)) (TP X pins σ Q) X.xe s
def PW(X:Cx)(e:Expr)(t:TT):Prop :=
 ∀(whole:Sem Value) (pins:List (Addr×Obj)) (s:Shared) (σ:St) (H:Hp) (Q:Bool→Hp→Prop),Inv X pins σ H s→t σ H Q→wpAny (model X.prog X.w) X.A (isTrue e X.env whole) (TP X pins σ Q) X.xe s
theorem PW.pt{X:Cx}{e:Expr}{t:TT}(h:PW X e t):PT X e t:=h _
def PA(X:Cx)(es:List Expr)(t:TA):Prop :=
 ∀(pos:Pos) (pins:List (Addr×Obj)) (s:Shared) (σ:St) (H:Hp) (Q:List V→Hp→Prop),Inv X pins σ H s→t σ H Q→wpAny (model X.prog X.w) X.A (spliced (backTo pos (starEach es X.env))) (AP X pins σ Q) X.xe s
def PS(X:Cx)(st:Stmt)(t:TS):Prop :=
 ∀(pins:List (Addr×Obj)) (s:Shared) (σ:St) (H:Hp) (D:Ends),Inv X pins σ H s→t D σ H→wpAny (model X.prog X.w) X.A (exec st X.env) (SP X pins D) X.xe s
def PSs(X:Cx)(st:List Stmt)(t:TS):Prop :=
 ∀(pins:List (Addr×Obj)) (s:Shared) (σ:St) (H:Hp) (D:Ends),Inv X pins σ H s→t D σ H→wpAny (model X.prog X.w) X.A (execs st X.env) (SP X pins D) X.xe s
theorem thn{α:Type}{t:Sem α}{Q Q':α→Shared→Prop}{M:Model}{A:Around}{E:Value→Shared→Prop}{s:Shared}(h:wpAny M A t Q E s)(hQ:∀a s,Q a s→Q' a s):wpAny M A t Q' E s:=wpAny_mono h hQ fun _ _ x=>x
end L2
namespace L2
open PySem PySem.Spec PyProof.Rows
section
variable {X:Cx}
def tVar(i:Nat):TE:=fun σ H Q=>∃v,σ[i]?=some (some v)∧Q v H
def tC(v:V):TE:=fun _ H Q=>Q v H
theorem pe_var{i:Nat}{x:Str}{pos:Pos}(hN:X.N[i]?=some x)(hv:Vis X.env.scope x)(hd:(x == ("__debug__" : Str))=false:=by decide)(hcd:(x == ("__classdict__" : Str))=false:=by decide):PE X (.Name x pos) (tVar i):=by
 intro pins s σ H Q I h
 obtain ⟨v,e,h⟩:=h
 obtain ⟨m,hn,hl⟩:=I.loc
 obtain ⟨u,r,l⟩:=hl i x v hN e hv
 have fin:EP X pins σ Q u s:=⟨v,H,I,r,h⟩
 rcases l with ⟨hk,hm⟩ | ⟨hk,c,hc,hcell⟩
 ·exact wpAny_Name (wpAny_loadName_local I.ok.kind hk hn hm fin) hd
 ·rcases hk with hk | hk
  ·exact wpAny_Name (wpAny_loadName_cell I.ok.kind hk hc hcell fin) hd
  ·exact wpAny_Name (wpAny_loadName_free I.ok.kind hk hc hcell fin hcd) hd
theorem pI{i j pos}:PE X (.Constant (.int i) j pos) (tC (.int i)):=fun _ _ _ H _ I h=>wpAny_Constant_int ⟨.int i,H,I.tok _,⟨_,rfl⟩,h⟩
theorem pe_bl{b j pos}:PE X (.Constant (.bool b) j pos) (tC (.bl b)):=fun _ _ _ H _ I h=>Constant_bool ⟨.bl b,H,I,rfl,h⟩
theorem pe_non{j pos}:PE X (.Constant .none j pos) (tC .non):=fun _ _ _ H _ I h=>Constant_none ⟨.non,H,I,rfl,h⟩
theorem pe_str{x j pos}:PE X (.Constant (.str x) j pos) (tC (.str x)):=fun _ _ _ H _ I h=>Calls.Constant_str ⟨.str x,H,I.tok _,⟨_,rfl⟩,h⟩
def Gl(X:Cx)(x:Str):Prop:=X.env.kindOf x=some .globalImplicit
theorem ld_glob{E:Value→Shared→Prop}{pins:List (Addr×Obj)}{s:Shared}{σ:St}{H:Hp}{x:Str}{u:Value}{pos:Pos}{Q:Value→Shared→Prop}(I:Inv X pins σ H s)(hg:Gl X x)(hm:X.mg x=some u)(h:Q u s)
  (hd:(x == ("__debug__" : Str))=false:=by decide):wpAny (model X.prog X.w) X.A (eval (.Name x pos) X.env) Q E s :=
 Calls.Name_function_global I.ok.kind hg (Calls.loadGlobal_global (by rw [I.ok.glob]; exact I.mod.glob.keeps I.bk) hm h) hd
theorem ld_blt{E:Value→Shared→Prop}{pins:List (Addr×Obj)}{s:Shared}{σ:St}{H:Hp}{x:Str}{u:Value}{pos:Pos}{Q:Value→Shared→Prop}(I:Inv X pins σ H s)(hg:Gl X x)(hm:X.mg x=none)(hv:bootBuiltins x=some u)(h:Q u s)
  (hn:x≠"__name__":=by decide) (hd:(x == ("__debug__" : Str))=false:=by decide):wpAny (model X.prog X.w) X.A (eval (.Name x pos) X.env) Q E s:=by
 obtain ⟨mb,h1,h2⟩:=I.mod.blt
 exact Calls.Name_function_global I.ok.kind hg (Calls.loadGlobal_builtin (by rw [I.ok.glob]; exact I.mod.glob.keeps I.bk) hm (by rw [I.ok.blt]; exact h1.keeps I.bk) ((h2 x hn).trans hv) h) hd
theorem pe_glob{x:Str}{v:V}{u:Value}{pos:Pos}(hg:Gl X x)(hm:X.mg x=some u)(r:RelV v u)(hd:(x == ("__debug__" : Str))=false:=by decide):PE X (.Name x pos) (tC v) :=
 fun _ _ _ H _ I h=>ld_glob I hg hm ⟨v,H,I,r,h⟩ hd
theorem pe_bltn{x:Str}{v:V}{u:Value}{pos:Pos}(hg:Gl X x)(hm:X.mg x=none)(hv:bootBuiltins x=some u)(r:RelV v u)(hn:x≠"__name__":=by decide)(hd:(x == ("__debug__" : Str))=false:=by decide):PE X (.Name x pos) (tC v) :=
 fun _ _ _ H _ I h=>ld_blt I hg hm hv ⟨v,H,I,r,h⟩ hn hd
variable {a b:Expr} {ta tb:TE} {pos:Pos}
def tB(t:TE):TT:=fun σ H Q=>t σ H fun x H1=>∃c,x=.bl c∧Q c H1
theorem pt_val{e:Expr}{t:TE}(h:PE X e t)(he:∀whole,isTrue e X.env whole=(do let v ← whole; standAt e.pos; holding [v] (truthy v)):=by intro _; rfl):PT X e (tB t):=by
 intro pins s σ H Q I hw
 refine isTrue_plain (thn (h pins s σ H _ I hw) fun v s1 ⟨x,H1,I1,r1,q1⟩=>?_) (he _)
 obtain ⟨d,rfl,q⟩:=q1
 cases r1
 exact wpAny_truthy_bool ⟨H1,I1,q⟩
variable {tA tB':TT} {rest:List Expr}
def tAnd(t u:TT):TT:=fun σ H Q=>t σ H fun c H1=>if c=true then u σ H1 Q else Q false H1
def tOr(t u:TT):TT:=fun σ H Q=>t σ H fun c H1=>if c=true then Q true H1 else u σ H1 Q
def tNot(t:TT):TT:=fun σ H Q=>t σ H fun c H1=>Q (!c) H1
theorem pw_and1(ha:PT X a tA):PW X (.BoolOp .And [a] pos) tA:=by
 intro wh pins s σ H Q I h
 refine isTrue_and (thn (ha pins s σ H Q I h) fun c s1 e=>?_)
 cases c with
 | true=>exact isTrue_and_nil e
 | false=>exact e
theorem pw_or1(ha:PT X a tA):PW X (.BoolOp .Or [a] pos) tA:=by
 intro wh pins s σ H Q I h
 refine isTrue_or (thn (ha pins s σ H Q I h) fun c s1 e=>?_)
 cases c with
 | false=>exact isTrue_or_nil e
 | true=>exact e
theorem pw_and(ha:PT X a tA)(hb:PW X (.BoolOp .And (b::rest) pos) tB'):PW X (.BoolOp .And (a::b::rest) pos) (tAnd tA tB'):=by
 intro wh pins s σ H Q I h
 refine isTrue_and (thn (ha pins s σ H _ I h) fun c s1 ⟨H1,I1,q1⟩=>?_)
 cases c with
 | true=>exact hb wh pins s1 σ H1 Q I1 q1
 | false=>exact ⟨H1,I1,q1⟩
theorem pw_or(ha:PT X a tA)(hb:PW X (.BoolOp .Or (b::rest) pos) tB'):PW X (.BoolOp .Or (a::b::rest) pos) (tOr tA tB'):=by
 intro wh pins s σ H Q I h
 refine isTrue_or (thn (ha pins s σ H _ I h) fun c s1 ⟨H1,I1,q1⟩=>?_)
 cases c with
 | true=>exact ⟨H1,I1,q1⟩
 | false=>exact hb wh pins s1 σ H1 Q I1 q1
theorem pt_not(ha:PT X a tA):PT X (.UnaryOp .Not a pos) (tNot tA):=by
 intro pins s σ H Q I h
 exact isTrue_not (ha pins s σ H (fun c H1=>Q (!c) H1) I h)
def tAndV(ta tb:TE):TE:=fun σ H Q=>ta σ H fun x H1=>∃c,x=.bl c∧if c=true then tb σ H1 Q else Q (.bl false) H1
theorem pe_one{op}{t:TE}(h:PE X a t):PE X (.BoolOp op [a] pos) t:=fun pins s σ H Q I hw=>BoolOp_one (h pins s σ H Q I hw)
theorem pe_and(ha:PE X a ta)(hb:PE X (.BoolOp .And (b::rest) pos) tb):PE X (.BoolOp .And (a::b::rest) pos) (tAndV ta tb):=by
 intro pins s σ H Q I h
 refine BoolOp_and (thn (ha pins s σ H _ I h) fun v s1 ⟨x,H1,I1,r1,q1⟩=>?_)
 obtain ⟨c,rfl,q1⟩:=q1
 cases r1
 refine wpAny_truthy_bool ?_
 cases c with
 | true=>exact hb pins s1 σ H1 Q I1 q1
 | false=>exact ⟨.bl false,H1,I1,rfl,q1⟩
def tIf(t:TT)(ta tb:TE):TE:=fun σ H Q=>t σ H fun c H1=>if c=true then ta σ H1 Q else tb σ H1 Q
theorem pe_ifExp{c:Expr}(hc:PT X c tA)(ha:PE X a ta)(hb:PE X b tb):PE X (.IfExp c a b pos) (tIf tA ta tb):=by
 intro pins s σ H Q I h
 refine wpAny_IfExp (thn (hc pins s σ H _ I h) fun d s1 ⟨H1,I1,q1⟩=>?_)
 cases d with
 | true=>exact ha pins s1 σ H1 Q I1 q1
 | false=>exact hb pins s1 σ H1 Q I1 q1
end
end L2
namespace L2
open PySem PySem.Spec PyProof.Rows
def SqL(K:Fgg)(H:Hp)(a:Addr)(xs:List V):Prop :=
 Rd H a (.lst xs) ∨
  ∃(o:Obj) (its:Array Value) (n:Nat),K.lookup a=some o∧o.cls=.type "list"∧o.dict=none∧o.data=.seq its n∧its.size≤sizeLine∧Vals xs its.toList
def SqT(K:Fgg)(H:Hp)(a:Addr)(xs:List V):Prop :=
 Rd H a (.tup xs) ∨
  ∃(o:Obj) (its:Array Value) (n:Nat),K.lookup a=some o∧o.cls=.type "tuple"∧o.data=.seq its n∧its.size≤sizeLine∧Vals xs its.toList
def absV:Value→Option V
 | .none=>some .non
 | .bool b=>some (.bl b)
 | .int i _=>some (.int i)
 | .str x _=>some (.str x)
 | .bytes b _=>some (.byt b)
 | .float b _=>some (.flt b)
 | .ref a=>some (.ref a)
 | .type n=>some (.ty n)
 | _=>none
theorem RelV.abs{x:V}{u:Value}(r:RelV x u):absV u=some x:=by
 cases x with
 | non=>cases r; rfl
 | bl _=>cases r; rfl
 | int _=>obtain ⟨t,rfl⟩:=r; rfl
 | str _=>obtain ⟨t,rfl⟩:=r; rfl
 | byt _=>obtain ⟨t,rfl⟩:=r; rfl
 | flt _=>obtain ⟨t,rfl⟩:=r; rfl
 | ref _=>cases r; rfl
 | ty _=>cases r; rfl
theorem RelV.inj{x y:V}{u:Value}(r:RelV x u)(q:RelV y u):x=y:=Option.some.inj (r.abs.symm.trans q.abs)
theorem Vals.inj:∀{xs ys:List V} {us:List Value},Vals xs us→Vals ys us→xs=ys
 | _,_,_,.nil,.nil=>rfl
 | _,_,_,.cons r t,.cons r' t'=>by rw [r.inj r',Vals.inj t t']
section
variable {X:Cx} {pins:List (Addr×Obj)} {σ:St} {H:Hp} {s:Shared} {a:Addr} {xs ys:List V}
theorem SqL.of{K:Fgg}(h:H a=some (.lst xs)):SqL K H a xs:=.inl (.inl h)
theorem SqT.of{K:Fgg}(h:H a=some (.tup xs)):SqT K H a xs:=.inl (.inl h)
theorem Inv.list(I:Inv X pins σ H s)(h:SqL X.K H a xs):∃its:List Value,Vals xs its∧PlainL s.heap a its.toArray∧xs.length≤sizeLine:=by
 rcases h with h | ⟨o,its,n,hk,hc,hd,hs,hz,r⟩
 ·obtain ⟨z,its,n,r,e⟩:=h.ok I.hok
  exact ⟨its,r,⟨_,n,e,rfl,rfl,rfl⟩,z⟩
 ·refine ⟨its.toList,r,⟨o,n,I.kIn a o hk,hc,hd,by simpa using hs⟩,?_⟩
  have e:=r.length
  simp only [Array.length_toList] at e
  omega
theorem Inv.tuple(I:Inv X pins σ H s)(h:SqT X.K H a xs):∃its:List Value,Vals xs its∧IsTup s.heap a its.toArray∧xs.length≤sizeLine:=by
 rcases h with h | ⟨o,its,n,hk,hc,hs,hz,r⟩
 ·obtain ⟨z,its,r,p⟩:=h.ok I.hok
  exact ⟨its,r,p,z⟩
 ·refine ⟨its.toList,r,⟨o,I.kIn a o hk,hc,n,by simpa using hs⟩,?_⟩
  have e:=r.length
  simp only [Array.length_toList] at e
  omega
theorem Inv.list_inj(I:Inv X pins σ H s)(h:SqL X.K H a xs)(h':SqL X.K H a ys):xs=ys:=by
 obtain ⟨its,r,⟨o,n,e,_,_,d⟩,_⟩:=I.list h
 obtain ⟨its',r',⟨o',n',e',_,_,d'⟩,_⟩:=I.list h'
 rw [e] at e'; cases e'
 rw [d] at d'
 injection d' with d1 _
 have:its=its':=by simpa using congrArg Array.toList d1
 subst this
 exact r.inj r'
theorem Inv.tuple_inj(I:Inv X pins σ H s)(h:SqT X.K H a xs)(h':SqT X.K H a ys):xs=ys:=by
 obtain ⟨its,r,⟨o,e,_,n,d⟩,_⟩:=I.tuple h
 obtain ⟨its',r',⟨o',e',_,n',d'⟩,_⟩:=I.tuple h'
 rw [e] at e'; cases e'
 rw [d] at d'
 injection d' with d1 _
 have:its=its':=by simpa using congrArg Array.toList d1
 subst this
 exact r.inj r'
end
abbrev Cx.wish(X:Cx)(E:Value→Shared→Prop):Cx:={X with xe:=E}
abbrev Cx.nox(X:Cx):Cx:=X.wish fun _ _=>False
theorem Cx.Ok.wish{X:Cx}(ok:X.Ok)(E:Value→Shared→Prop):(X.wish E).Ok :=
 ⟨ok.mod,ok.kind,ok.glob,ok.blt,ok.above,ok.inj,ok.has,ok.cab,ok.hd,ok.frames,ok.stk,ok.exf,ok.bs,ok.bsz,ok.noex,ok.exfs,ok.funs,ok.frf⟩
theorem Cx.Ok.unwish{X:Cx}{E:Value→Shared→Prop}(ok:(X.wish E).Ok):X.Ok :=
 ⟨ok.mod,ok.kind,ok.glob,ok.blt,ok.above,ok.inj,ok.has,ok.cab,ok.hd,ok.frames,ok.stk,ok.exf,ok.bs,ok.bsz,ok.noex,ok.exfs,ok.funs,ok.frf⟩
section
variable {X:Cx} {pins:List (Addr×Obj)} {σ:St} {H:Hp} {s:Shared} {E:Value→Shared→Prop}
theorem Inv.wish(I:Inv X pins σ H s)(E:Value→Shared→Prop):Inv (X.wish E) pins σ H s:=⟨I.ok.wish E,I.os,I.bare,I.base,I.loc,I.cell,I.free,I.freeC,I.pin,I.hok,I.len⟩
theorem Inv.unwish(I:Inv (X.wish E) pins σ H s):Inv X pins σ H s:=⟨I.ok.unwish,I.os,I.bare,I.base,I.loc,I.cell,I.free,I.freeC,I.pin,I.hok,I.len⟩
theorem SP.unwish{D:Ends}{f:Flow}{s':Shared}(h:SP (X.wish E) pins D f s'):SP X pins D f s':=by
 cases f with
 | next=>obtain ⟨σ',H',I,q⟩:=h; exact ⟨σ',H',I.unwish,q⟩
 | brk=>obtain ⟨σ',H',I,q⟩:=h; exact ⟨σ',H',I.unwish,q⟩
 | cont=>obtain ⟨σ',H',I,q⟩:=h; exact ⟨σ',H',I.unwish,q⟩
 | ret u=>obtain ⟨v,σ',H',I,r,q⟩:=h; exact ⟨v,σ',H',I.unwish,r,q⟩
theorem PE.nox{e:Expr}{t:TE}(h:PE X.nox e t):PE X e t:=fun pins s σ H Q I hw =>
 wpAny_mono (h pins s σ H Q (I.wish _) hw) (fun _ _ ⟨v,H',I',r,q⟩=>⟨v,H',I'.unwish,r,q⟩) fun _ _ z=>False.elim z
theorem PT.nox{e:Expr}{t:TT}(h:PT X.nox e t):PT X e t:=fun pins s σ H Q I hw =>
 wpAny_mono (h pins s σ H Q (I.wish _) hw) (fun _ _ ⟨H',I',q⟩=>⟨H',I'.unwish,q⟩) fun _ _ z=>False.elim z
theorem PSs.nox{st:List Stmt}{t:TS}(h:PSs X.nox st t):PSs X st t:=fun pins s σ H D I hw =>
 wpAny_mono (h pins s σ H D (I.wish _) hw) (fun _ _ q=>q.unwish) fun _ _ z=>False.elim z
end
section
variable {X:Cx} {st:Stmt} {rest:List Stmt} {t u:TS} {e:Expr} {te:TE} {pos:Pos}
def tNext:TS:=fun D σ H=>D.nx σ H
def tSeq(t u:TS):TS:=fun D σ H=>t {D with nx:=u D} σ H
theorem pss_nil:PSs X [] tNext:=fun _ _ σ H _ I h=>wpAny_execs_nil ⟨σ,H,I,h⟩
theorem qK(h1:PS X st t)(h2:PSs X rest u):PSs X (st::rest) (tSeq t u):=by
 intro pins s σ H D I h
 refine wpAny_execs_cons (thn (h1 pins s σ H {D with nx:=u D} I h) fun f s1 q=>?_)
 cases f with
 | next =>
  obtain ⟨σ',H',I',q⟩:=q
  exact h2 pins s1 σ' H' D I' q
 | ret v=>exact q
 | brk=>exact q
 | cont=>exact q
theorem qO(h1:PS X st t):PSs X [st] t:=by
 intro pins s σ H D I h
 refine wpAny_execs_cons (thn (h1 pins s σ H D I h) fun f s1 q=>?_)
 cases f with
 | next=>exact wpAny_execs_nil q
 | ret v=>exact q
 | brk=>exact q
 | cont=>exact q
theorem Inv.quiet{pins:List (Addr×Obj)}{σ:St}{H:Hp}{s:Shared}(I:Inv X pins σ H s):interactive X.env=false:=by simp [interactive,I.ok.kind]
def tDrop(te:TE):TS:=fun D σ H=>te σ H fun _ H1=>D.nx σ H1
theorem ps_expr(he:PE X e te)(hs:swapsWith e none pos.line X.env=pure false:=by rfl):PS X (.Expr e pos) (tDrop te):=by
 intro pins s σ H D I h
 exact wpAny_Expr_any (thn (he pins s σ H _ I h) fun v s1 ⟨x,H1,I1,r1,q1⟩=>⟨σ,H1,I1,q1⟩) I.quiet hs
def tRet(te:TE):TS:=fun D σ H=>te σ H D.rt
theorem ps_ret(he:PE X e te):PS X (.Return (some e) pos) (tRet te):=by
 intro pins s σ H D I h
 exact wpAny_Return_some (thn (he pins s σ H _ I h) fun v s1 ⟨x,H1,I1,r1,q1⟩=>⟨x,σ,H1,I1,r1,q1⟩)
def tRetN:TS:=fun D _ H=>D.rt .non H
theorem ps_retN:PS X (.Return none pos) tRetN:=fun _ _ σ H _ I h=>wpAny_Return_none ⟨.non,σ,H,I,rfl,h⟩
def tIfS(c:TT)(t u:TS):TS:=fun D σ H=>c σ H fun b H1=>if b=true then t D σ H1 else u D σ H1
theorem ps_if{c:Expr}{a b:List Stmt}{tc:TT}(hc:PT X c tc)(ha:PSs X a t)(hb:PSs X b u):PS X (.If c a b pos) (tIfS tc t u):=by
 intro pins s σ H D I h
 refine wpAny_If (thn (hc pins s σ H _ I h) fun d s1 ⟨H1,I1,q1⟩=>?_)
 cases d with
 | true=>exact ha pins s1 σ H1 D I1 q1
 | false=>exact hb pins s1 σ H1 D I1 q1
def tNever:TS:=fun _ _ _=>False
theorem ps_never:PS X st tNever:=fun _ _ _ _ _ _ h=>h.elim
end
abbrev TG:=V→St→Hp→(St→Hp→Prop)→Prop
abbrev TGs:=List V→St→Hp→(St→Hp→Prop)→Prop
def PG(X:Cx)(target:Expr)(t:TG):Prop :=
 ∀(pins:List (Addr×Obj)) (s:Shared) (σ:St) (H:Hp) (v:V) (u:Value) (Q:St→Hp→Prop),Inv X pins σ H s→RelV v u→t v σ H Q →
  wpAny (model X.prog X.w) X.A (assign target X.env u) (fun _ s'=>∃σ' H',Inv X pins σ' H' s'∧Q σ' H') X.xe s
def PGs(X:Cx)(ts:List Expr)(t:TGs):Prop :=
 ∀(pins:List (Addr×Obj)) (s:Shared) (σ:St) (H:Hp) (vs:List V) (us:List Value) (Q:St→Hp→Prop),Inv X pins σ H s→Vals vs us→t vs σ H Q →
  wpAny (model X.prog X.w) X.A (assignInOrder ((assignEach ts X.env).map (·.2)) us) (fun _ s'=>∃σ' H',Inv X pins σ' H' s'∧Q σ' H') X.xe s
abbrev TSet:=V→V→V→Hp→(Hp→Prop)→Prop
def PSet(X:Cx)(t:TSet):Prop :=
 ∀(pins:List (Addr×Obj)) (s:Shared) (σ:St) (H:Hp) (o i v:V) (ov iv u:Value) (Q:Hp→Prop),Inv X pins σ H s→RelV o ov→RelV i iv→RelV v u→t o i v H Q →
  wpAny (model X.prog X.w) X.A (setItem ov iv u) (fun _ s'=>∃H',Inv X pins σ H' s'∧Q H') X.xe s
section
variable {X:Cx} {pos:Pos}
def gName(i:Nat):TG:=fun v σ H Q=>Q (σ.set i (some v)) H
theorem pg_name{i:Nat}{x:Str}(hN:X.N.Nodup)(hi:X.N[i]?=some x)(hx:Loc X.env.scope x)(hf:X.fn x=true∨X.env.scope.names.lookup x=some .local:=by first | exact .inl rfl | exact .inr rfl | assumption):PG X (.Name x pos) (gName i):=by
 intro pins s σ H v u Q I r h
 exact wpAny_assign_Name (store_ok I hN hi hx r (fun s' I'=>⟨_,H,I',h⟩) hf)
def gNil:TGs:=fun vs σ H Q=>vs=[]∧Q σ H
def gCons(t:TG)(u:TGs):TGs:=fun vs σ H Q=>∃v r,vs=v::r∧t v σ H fun σ' H'=>u r σ' H' Q
theorem pgs_nil:PGs X [] gNil:=by
 intro pins s σ H vs us Q I r h
 obtain ⟨e,h⟩:=h
 subst e
 cases r
 exact assignInOrder_nil ⟨σ,H,I,h⟩
theorem pgs_cons{e:Expr}{es:List Expr}{t:TG}{u:TGs}(h1:PG X e t)(h2:PGs X es u)
  (hs:(assignEach (e::es) X.env).map (·.2)=assign e X.env::(assignEach es X.env).map (·.2):=by rfl):PGs X (e::es) (gCons t u):=by
 intro pins s σ H vs us Q I r h
 obtain ⟨v,vr,e1,h⟩:=h
 subst e1
 cases r with
 | cons r rr =>
  rw [hs]
  refine assignInOrder_cons (thn (h1 pins s σ H _ _ _ I r h) fun _ s1 ⟨σ1,H1,I1,q1⟩=>?_)
  exact h2 pins s1 σ1 H1 _ _ Q I1 rr q1
def gTup(K:Fgg)(n:Nat)(t:TGs):TG:=fun v σ H Q=>∃a xs,v=.ref a∧SqT K H a xs∧xs.length=n∧t xs σ H Q
theorem pg_tup{es:List Expr}{k:Nat}{t:TGs}{n:Nat}(hc:X.calm=true)(h:PGs X es t)
  (hn:(assignEach es X.env).length=n:=by rfl) (hst:(assignEach es X.env).findIdx? (·.1)=none:=by rfl):PG X (.Tuple es k pos) (gTup X.K n t):=by
 intro pins s σ H v u Q I r hw
 obtain ⟨a,xs,e1,hq,hl,hw⟩:=hw
 subst e1
 cases r
 obtain ⟨its,rv,ht,hz⟩:=I.tuple hq
 refine assign_Tuple_tuple (I.ok.hd hc) ht (by simp [hn,← hl,rv.length]) hst fun h' hx=>?_
 have I1:Inv X pins σ H {s with heap:=h'}:=I.kept (t':=s.toks) fun b o e=>hx b o (Nat.ne_of_lt (Heap.lt_size e)) e
 exact h pins _ σ H xs _ Q I1 (by simpa using rv) hw
def gSub(to ti:TE)(t:TSet):TG:=fun v σ H Q=>to σ H fun o H1=>ti σ H1 fun i H2=>t o i v H2 fun H3=>Q σ H3
theorem pg_sub{o i:Expr}{to ti:TE}{t:TSet}(ho:PE X o to)(hi:PE X i ti)(hs:PSet X t)
  (ha:∀v,assign (.Subscript o i pos) X.env v=(do
   let ov ← holding [v] (eval o X.env)
   let iv ← holding [v,ov] (eval i X.env)
   standAt pos
   holding [v,ov,iv] (setItem ov iv v)
   release [v,ov,iv] []):=by intro _; rfl):PG X (.Subscript o i pos) (gSub to ti t):=by
 intro pins s σ H v u Q I r h
 rw [ha]
 refine wpAny_bind (wpAny_holding (thn (ho pins s σ H _ I h) fun ov s1 ⟨x,H1,I1,r1,q1⟩=>?_))
 refine wpAny_bind (wpAny_holding (thn (hi pins s1 σ H1 _ I1 q1) fun iv s2 ⟨y,H2,I2,r2,q2⟩=>?_))
 refine wpAny_bind (wpAny_standAt (wpAny_bind (wpAny_holding (thn (hs pins s2 σ H2 x y v ov iv u _ I2 r1 r2 r q2) fun _ s3 ⟨H3,I3,q3⟩=>?_))))
 exact wpAny_release ⟨σ,H3,I3,q3⟩
def tAsg(te:TE)(g:TG):TS:=fun D σ H=>te σ H fun x H1=>g x σ H1 D.nx
theorem ps_asg{tg e:Expr}{te:TE}{g:TG}(he:PE X e te)(hg:PG X tg g)(hs:swapsWithSole [tg] e pos.line X.env=pure false:=by rfl)(hw:swappedStores [tg] e X.env=pure none:=by rfl)
  (h1:(assignEach [tg] X.env).map (·.2)=[assign tg X.env]:=by rfl):PS X (.Assign [tg] e pos) (tAsg te g):=by
 intro pins s σ H D I h
 refine wpAny_Assign_stores (thn (he pins s σ H _ I h) fun v s1 ⟨x,H1,I1,r1,q1⟩=>?_) hs hw
 rw [h1]
 exact thn (hg pins s1 σ H1 x v _ I1 r1 q1) fun _ s2 q=>q
theorem ps_set{i:Nat}{x:Str}{e:Expr}{te:TE}{pos':Pos}(hN:X.N.Nodup)(hi:X.N[i]?=some x)(hx:Loc X.env.scope x)(he:PE X e te)(hs:swapsWith e (some (.Name x pos')) pos.line X.env=pure false:=by rfl)(hf:X.fn x=true∨X.env.scope.names.lookup x=some .local:=by first | exact .inl rfl | exact .inr rfl | assumption):
  PS X (.Assign [.Name x pos'] e pos) (tAsg te (gName i)):=by
 intro pins s σ H D I h
 refine wpAny_Assign_Name (thn (he pins s σ H _ I h) fun v s1 ⟨y,H1,I1,r1,q1⟩=>?_) hs
 exact store_ok I1 hN hi hx r1 (fun s2 I2=>⟨_,H1,I2,q1⟩) hf
end
section
variable {X:Cx} {pos:Pos}
def tWhile(c:TT)(tb:TS):TS:=fun D σ H=>∃W:Nat→St→Hp→Prop,(∃m,W m σ H)∧∀m σ H,W m σ H →
 c σ H fun b H1=>if b=true then ∃N:St→Hp→Prop,(∀σ' H',N σ' H'→∃m',m' < m∧W m' σ' H')∧tb {D with nx:=N,ct:=N,bk:=D.nx} σ H1 else D.nx σ H1
theorem ps_while{c:Expr}{body:List Stmt}{tc:TT}{tb:TS}(hp:PassesOwn (model X.prog X.w) X.A X.env X.xe)(hc:PT X c tc)(hb:PSs X body tb):PS X (.While c body [] pos) (tWhile tc tb):=by
 intro pins s σ H D I h
 obtain ⟨W,⟨m0,w0⟩,turn⟩:=h
 refine wpAny_While (codeAny_whileLoop (fun n s'=>∃σ' H',Inv X pins σ' H' s'∧W n σ' H') ?_ m0 ⟨σ,H,I,w0⟩)
 rintro n s1 ⟨σ1,H1,I1,w1⟩
 refine wpAny_passesOwn hp (thn (hc pins s1 σ1 H1 _ I1 (turn n σ1 H1 w1)) fun b s2 ⟨H2,I2,q2⟩=>?_)
 cases b with
 | true =>
  obtain ⟨N,hN,q2⟩:=q2
  rw [if_pos rfl]
  refine wpAny_passesOwn hp (thn (hb pins s2 σ1 H2 _ I2 q2) fun f s3 q3=>?_)
  cases f with
  | next =>
   obtain ⟨σ3,H3,I3,n3⟩:=q3
   obtain ⟨m',hm,w3⟩:=hN σ3 H3 n3
   exact ⟨m',hm,σ3,H3,I3,w3⟩
  | cont =>
   obtain ⟨σ3,H3,I3,n3⟩:=q3
   obtain ⟨m',hm,w3⟩:=hN σ3 H3 n3
   exact ⟨m',hm,σ3,H3,I3,w3⟩
  | brk=>exact q3
  | ret v=>exact q3
 | false =>
  rw [if_neg Bool.false_ne_true]
  exact wpAny_execs_nil ⟨σ1,H2,I2,q2⟩
end
structure It where
 go:Nat→Hp→Prop
 yld:Nat→Hp→V→Hp→Prop
 stop:Nat→Hp→Prop
def FpOk(X:Cx)(pins:List (Addr×Obj))(H:Hp)(b:Addr):Prop :=
 H b=none∧b≠X.env.locals∧b∉X.fs∧(b∈X.ex∨X.s₀.heap.objs.size≤b)∧(∀x c,X.env.cells.lookup x=some c→c≠b)∧∀p∈X.pn++pins,p.1≠b
theorem Inv.fpOk{X:Cx}{pins:List (Addr×Obj)}{σ:St}{H H':Hp}{s:Shared}{b:Addr}(I:Inv X pins σ H s)(hb:s.heap.objs.size≤b)(hn:H' b=none):FpOk X pins H' b:=by
 refine ⟨hn,Nat.ne_of_gt (Nat.lt_of_lt_of_le I.lt hb),I.nofs hb,.inr (Nat.le_trans I.sz hb),fun x c e z=>?_,fun p hp z=>?_⟩
 ·obtain ⟨v,q⟩:=I.cell x c e
  exact absurd (Nat.lt_of_lt_of_le q.lt (by rw [z]; exact hb)) (Nat.lt_irrefl _)
 ·exact absurd (Nat.lt_of_lt_of_le (Heap.lt_size (I.pin p hp).1) (by rw [z]; exact hb)) (Nat.lt_irrefl _)
structure Turn(P:Program)(w:World)(K:Fgg)(tg:Expr)(J:It)(fp:List Addr)(it:Addr)(tn:Nat→Heap→Prop):Prop where
 mem:it∈fp
 obj:∀i h,tn i h→∀b∈fp,∃o,h.get? b=some o∧∀v,o.data≠.cell v
 keep:∀i h h',tn i h→(∀b∈fp,∀o,h.get? b=some o→h'.get? b=some o)→tn i h'
 item:∀(X:Cx),X.prog=P→X.w=w→X.K=K→X.calm=true→∀(i:Nat) (pins:List (Addr×Obj)) (s:Shared) (σ:St) (H:Hp) (E:Value→Shared→Prop),Inv X pins σ H s→(∀b∈fp,FpOk X pins H b)→tn i s.heap→J.go i H →
  wpAny (model P w) X.A (pyNext (.ref it)) (fun r s1=>∃u,r=some u ∧
   wpAny (model P w) X.A (letOwnedTupleGo tg (.ref it) u) (fun _ s2=>∃x H',Inv X pins σ H' s2∧RelV x u∧J.yld i H x H'∧tn (i + 1) s2.heap∧∀b∈fp,H' b=none) E s1) E s
 done:∀(X:Cx),X.prog=P→X.w=w→X.K=K→X.calm=true→∀(i:Nat) (pins:List (Addr×Obj)) (s:Shared) (σ:St) (H:Hp) (E:Value→Shared→Prop),Inv X pins σ H s→(∀b∈fp,FpOk X pins H b)→tn i s.heap→J.stop i H →
  wpAny (model P w) X.A (pyNext (.ref it)) (fun r s1=>r=none∧Inv X pins σ H s1) E s
 self:∀(A:Around) (i:Nat) (s:Shared) (Q:Value→Shared→Prop) (E:Value→Shared→Prop),tn i s.heap→Q (.ref it) s→wpAny (model P w) A (pyIter (.ref it)) Q E s
abbrev TI:=St→Hp→(It→Hp→Prop)→Prop
def PIE(X:Cx)(pins:List (Addr×Obj))(σ:St)(tg:Expr)(R:It→Hp→Prop)(itv:Value)(s2:Shared):Prop :=
 ∃(it:Addr) (fp:List Addr) (tn:Nat→Heap→Prop) (J:It) (H':Hp),itv=.ref it∧Inv X pins σ H' s2∧Turn X.prog X.w X.K tg J fp it tn∧tn 0 s2.heap∧(∀b∈fp,FpOk X pins H' b)∧R J H'
def PI(X:Cx)(tg iter:Expr)(wi:TI):Prop :=
 ∀(pins:List (Addr×Obj)) (s:Shared) (σ:St) (H:Hp) (R:It→Hp→Prop),Inv X pins σ H s→wi σ H R →
  wpAny (model X.prog X.w) X.A (eval iter X.env) (fun v s1=>wpAny (model X.prog X.w) X.A (pyIter v) (PIE X pins σ tg R) X.xe s1) X.xe s
theorem go_of{M:Model}{A:Around}{E:Value→Shared→Prop}{s:Shared}{tg:Expr}{it:Addr}{u:Value}{o:Obj}{n:String}{vs:Array Value}{Q:Unit→Shared→Prop}(ho:s.heap.get? it=some o)(hc:o.cls=.type n)(hd:o.data=.fields vs)
  (hn:["enumerate","zip","dict_itemiterator","dict_reverseitemiterator","odict_iterator","itertools.zip_longest","itertools.pairwise"].contains n=false) (hQ:Q () s):wpAny M A (letOwnedTupleGo tg (.ref it) u) Q E s:=by
 unfold letOwnedTupleGo
 cases tg <;> first
  | exact wpAny_pure hQ
  | (cases u <;> first
    | exact wpAny_pure hQ
    | (refine wpAny_bind (wpAny_load ho ?_)
       rw [hc,hd]
       show wpAny M A (if (["enumerate","zip","dict_itemiterator","dict_reverseitemiterator","odict_iterator","itertools.zip_longest","itertools.pairwise"].contains n&&vs[0]? == some (rawInt _))=true then _ else _) Q E s
       rw [if_neg (by intro h; rw [hn,Bool.false_and] at h; cases h)]
       exact wpAny_pure hQ))
def Itl(K:Fgg)(a:Addr):It :=
 ⟨fun i H=>∃xs x,SqL K H a xs∧xs[i]?=some x,fun i H x H'=>H'=H∧∀xs,SqL K H a xs→xs[i]?=some x,fun i H=>∃xs,SqL K H a xs∧xs.length≤i⟩
def Itt(K:Fgg)(a:Addr):It :=
 ⟨fun i H=>∃xs x,SqT K H a xs∧xs[i]?=some x,fun i H x H'=>H'=H∧∀xs,SqT K H a xs→xs[i]?=some x,fun i H=>∃xs,SqT K H a xs∧xs.length≤i⟩
def Itr(lo:Int)(n:Nat):It:=⟨fun i _=>i < n,fun i H x H'=>H'=H∧x=.int (lo + i),fun i _=>n≤i⟩
theorem turn_list{P:Program}{w:World}{K:Fgg}{tg:Expr}(a it:Addr):Turn P w K tg (Itl K a) [it] it (fun i h=>h.IsListIter it a i) where
 mem:=by simp
 obj:=fun i h st b hb=>by
  have e:b=it:=by simpa using hb
  subst e
  obtain ⟨o,e,c,d⟩:=st
  exact ⟨o,e,fun v z=>by rw [d] at z; cases z⟩
 keep:=fun i h h' st k=>st.at fun o e=>k it (by simp) o e
 item:=by
  intro X hP hw hK hc i pins s σ H E I hf st hg
  subst hP hw hK
  obtain ⟨xs,x,hq,hx⟩:=hg
  obtain ⟨its,rv,p,hz⟩:=I.list hq
  obtain ⟨u,hu,ru⟩:=rv.get hx
  obtain ⟨f0,f1,f2,f3,f4,f5⟩:=hf it (by simp)
  refine wpAny_pyNext_list_item st p.isList (x:=u) (by simpa using hu) fun h' st' sb=>?_
  have I1:Inv X pins σ H {s with heap:=h'}:=I.turned (t':=s.toks) (fun b o hb e=>(sb.2 b hb).trans e) f0 f1 f3 f4 f5
  obtain ⟨o,e,c,d⟩:=id st'
  exact ⟨u,rfl,go_of (s:={s with heap:=h'}) e c d (by decide) ⟨x,H,I1,ru,⟨rfl,fun ys hy=>by rw [I.list_inj hy hq]; exact hx⟩,st',fun b hb=>(hf b hb).1⟩⟩
 done:=by
  intro X hP hw hK hc i pins s σ H E I hf st hg
  subst hP hw hK
  obtain ⟨xs,hq,hx⟩:=hg
  obtain ⟨its,rv,p,hz⟩:=I.list hq
  obtain ⟨f0,f1,f2,f3,f4,f5⟩:=hf it (by simp)
  have hl:=rv.length
  exact wpAny_pyNext_list_end (I.ok.hd hc) st p.isList (by simp; omega) fun h' eb=>⟨rfl,I.turned (t':=s.toks) (fun b o hb e=>eb b o hb e) f0 f1 f3 f4 f5⟩
 self:=fun _ _ _ _ _ st h=>wpAny_pyIter_listiter st h
theorem turn_tuple{P:Program}{w:World}{K:Fgg}{tg:Expr}(a it:Addr):Turn P w K tg (Itt K a) [it] it (fun i h=>h.IsTupleIter it a i) where
 mem:=by simp
 obj:=fun i h st b hb=>by
  have e:b=it:=by simpa using hb
  subst e
  obtain ⟨o,e,c,d⟩:=st
  exact ⟨o,e,fun v z=>by rw [d] at z; cases z⟩
 keep:=fun i h h' st k=>st.at fun o e=>k it (by simp) o e
 item:=by
  intro X hP hw hK hc i pins s σ H E I hf st hg
  subst hP hw hK
  obtain ⟨xs,x,hq,hx⟩:=hg
  obtain ⟨its,rv,p,hz⟩:=I.tuple hq
  obtain ⟨u,hu,ru⟩:=rv.get hx
  obtain ⟨f0,f1,f2,f3,f4,f5⟩:=hf it (by simp)
  refine wpAny_pyNext_tuple_item st (show s.heap.IsTuple a its.toArray from p) (x:=u) (by simpa using hu) fun h' st' sb=>?_
  have I1:Inv X pins σ H {s with heap:=h'}:=I.turned (t':=s.toks) (fun b o hb e=>(sb.2 b hb).trans e) f0 f1 f3 f4 f5
  obtain ⟨o,e,c,d⟩:=id st'
  exact ⟨u,rfl,go_of (s:={s with heap:=h'}) e c d (by decide) ⟨x,H,I1,ru,⟨rfl,fun ys hy=>by rw [I.tuple_inj hy hq]; exact hx⟩,st',fun b hb=>(hf b hb).1⟩⟩
 done:=by
  intro X hP hw hK hc i pins s σ H E I hf st hg
  subst hP hw hK
  obtain ⟨xs,hq,hx⟩:=hg
  obtain ⟨its,rv,p,hz⟩:=I.tuple hq
  obtain ⟨f0,f1,f2,f3,f4,f5⟩:=hf it (by simp)
  have hl:=rv.length
  exact wpAny_pyNext_tuple_end (I.ok.hd hc) st (show s.heap.IsTuple a its.toArray from p) (by simp; omega) fun h' eb=>⟨rfl,I.turned (t':=s.toks) (fun b o hb e=>eb b o hb e) f0 f1 f3 f4 f5⟩
 self:=fun _ _ _ _ _ st h=>wpAny_pyIter_tupleiter st h
theorem turn_range{P:Program}{w:World}{K:Fgg}{tg:Expr}(it:Addr)(lo:Int)(n:Nat):Turn P w K tg (Itr lo n) [it] it (fun i h=>IsRangeIter h it (lo + (i:Nat) * 1) ((n:Int) - (i:Nat)) 1) where
 mem:=by simp
 obj:=fun i h st b hb=>by
  have e:b=it:=by simpa using hb
  subst e
  exact ⟨_,st,fun v z=>by
   have z':Data.fields _=Data.cell v:=z
   cases z'⟩
 keep:=fun i h h' st k=>k it (by simp) _ st
 item:=by
  intro X hP hw hK hc i pins s σ H E I hf st hg
  subst hP hw hK
  obtain ⟨f0,f1,f2,f3,f4,f5⟩:=hf it (by simp)
  have W:=Walks.range (prog:=X.prog) (w:=X.w) (I.ok.hd hc) it lo 1 n
  refine W.item i s _ _ hg st fun v h' tk hv st' kk=>?_
  obtain ⟨t,rfl⟩:=hv
  have I1:Inv X pins σ H {s with heap:=h',toks:=tk}:=I.turned (fun b o hb e=>kk b o (by simpa using hb) e) f0 f1 f3 f4 f5
  refine ⟨_,rfl,go_of (s:={s with heap:=h',toks:=tk}) (n:="range_iterator") st' rfl rfl (by decide) ⟨.int (lo + i),H,I1,⟨t,?_⟩,⟨rfl,rfl⟩,st',fun b hb=>(hf b hb).1⟩⟩
  rw [Int.mul_one]
 done:=by
  intro X hP hw hK hc i pins s σ H E I hf st hg
  subst hP hw hK
  obtain ⟨f0,f1,f2,f3,f4,f5⟩:=hf it (by simp)
  exact wpAny_pyNext_range_end (I.ok.hd hc) st (by have:n≤i:=hg; omega) fun h' eb=>⟨rfl,I.turned (t':=s.toks) (fun b o hb e=>eb b o hb e) f0 f1 f3 f4 f5⟩
 self:=fun _ _ _ _ _ st h=>wpAny_pyIter_rangeiter st h
end L2
namespace L2
open PySem PySem.Spec PyProof.Rows
section
variable {X:Cx} {tg:Expr}
def iList(K:Fgg)(tl:TE):TI:=fun σ H R=>tl σ H fun x H1=>∃a,x=.ref a∧(∃xs,SqL K H1 a xs)∧R (Itl K a) H1
def iTup(K:Fgg)(tl:TE):TI:=fun σ H R=>tl σ H fun x H1=>∃a,x=.ref a∧(∃xs,SqT K H1 a xs)∧R (Itt K a) H1
theorem pi_list{l:Expr}{tl:TE}(hl:PE X l tl):PI X tg l (iList X.K tl):=by
 intro pins s σ H R I h
 refine thn (hl pins s σ H _ I h) fun v s1 ⟨x,H1,I1,r1,q1⟩=>?_
 obtain ⟨a,e,⟨xs,hq⟩,q⟩:=q1
 subst e
 cases r1
 obtain ⟨its,rv,p,hz⟩:=I1.list hq
 refine wpAny_pyIter_list p.isList ?_
 refine ⟨s1.heap.objs.size,[s1.heap.objs.size],_,_,H1,rfl,I1.kept (t':=s1.toks) fun b o e=>Heap.get?_push_of_some _ e,turn_list a _,⟨_,Heap.get?_push_size _ rfl,rfl,rfl⟩,fun b hb=>?_,q⟩
 have e:b=s1.heap.objs.size:=by simpa using hb
 subst e
 exact I1.fpOk (Nat.le_refl _) (I1.hok.fresh (Nat.le_refl _))
theorem pi_tup{l:Expr}{tl:TE}(hl:PE X l tl):PI X tg l (iTup X.K tl):=by
 intro pins s σ H R I h
 refine thn (hl pins s σ H _ I h) fun v s1 ⟨x,H1,I1,r1,q1⟩=>?_
 obtain ⟨a,e,⟨xs,hq⟩,q⟩:=q1
 subst e
 cases r1
 obtain ⟨its,rv,p,hz⟩:=I1.tuple hq
 refine wpAny_pyIter_tuple (show s1.heap.IsTuple a its.toArray from p) ?_
 refine ⟨s1.heap.objs.size,[s1.heap.objs.size],_,_,H1,rfl,I1.kept (t':=s1.toks) fun b o e=>Heap.get?_push_of_some _ e,turn_tuple a _,⟨_,Heap.get?_push_size _ rfl,rfl,rfl⟩,fun b hb=>?_,q⟩
 have e:b=s1.heap.objs.size:=by simpa using hb
 subst e
 exact I1.fpOk (Nat.le_refl _) (I1.hok.fresh (Nat.le_refl _))
theorem range_it{pins:List (Addr×Obj)}{σ:St}{H:Hp}{s:Shared}{R:It→Hp→Prop}{E:Value→Shared→Prop}{lo hi:Int}{t u v:Tok}{tk:Nat}(I:Inv X pins σ H s)(h1:-(2 ^ 62)≤lo)(h2:lo < 2 ^ 62)(h3:-(2 ^ 62)≤hi)(h4:hi < 2 ^ 62)
  (q:R (Itr lo (hi - lo).toNat) H):wpAny (model X.prog X.w) X.A (pyIter (.ref s.heap.objs.size)) (PIE X pins σ tg R) E {s with heap:=s.heap.push {cls:=.type "range",data:=.fields #[.int lo t,.int hi u,.int 1 v]},toks:=tk}:=by
 refine wpAny_pyIter_range (IsRange.new ..) (small_one h1 h2 h3 h4) ?_
 have I1:Inv X pins σ H {s with heap:=s.heap.push {cls:=.type "range",data:=.fields #[.int lo t,.int hi u,.int 1 v]},toks:=tk}:=I.kept fun b o e=>Heap.get?_push_of_some _ e
 refine ⟨(s.heap.push {cls:=.type "range",data:=.fields #[.int lo t,.int hi u,.int 1 v]}).objs.size,[(s.heap.push {cls:=.type "range",data:=.fields #[.int lo t,.int hi u,.int 1 v]}).objs.size],_,_,H,rfl,
  I1.kept (t':=tk) fun b o e=>Heap.get?_push_of_some _ e,turn_range _ lo (hi - lo).toNat,?_,fun b hb=>?_,q⟩
 ·have e1:lo + ((0:Nat):Int) * 1=lo:=by simp
  have e2:(((hi - lo).toNat:Nat):Int) - ((0:Nat):Int)=Builtin.Range.rangeSize lo hi 1:=by rw [rangeSize_one]; split <;> omega
  show IsRangeIter _ _ (lo + ((0:Nat):Int) * 1) ((((hi - lo).toNat:Nat):Int) - ((0:Nat):Int)) 1
  rw [e1,e2]
  exact Heap.get?_push_size _ rfl
 ·have e:b=(s.heap.push {cls:=.type "range",data:=.fields #[.int lo t,.int hi u,.int 1 v]}).objs.size:=by simpa using hb
  subst e
  exact I1.fpOk (Nat.le_refl _) (I1.hok.fresh (Nat.le_refl _))
def iRng1(ta:TA):TI:=fun σ H R=>ta σ H fun vs H1=>∃j:Int,vs=[.int j]∧-(2 ^ 62)≤j∧j < 2 ^ 62∧R (Itr 0 j.toNat) H1
theorem pi_range1{a:Expr}{ta:TA}{p pos:Pos}(hg:Gl X "range")(hm:X.mg "range"=none)(ha:PA X [a] ta)(hs:starEach [a] X.env=[(false,eval a X.env)]:=by rfl):PI X tg (.Call (.Name "range" p) [a] [] pos) (iRng1 ta):=by
 intro pins s σ H R I h
 refine Call_ (ld_blt I hg hm boot_range (PyProof.Rows.callWith_type1 (thn (ha pos pins s σ H _ I h) fun us s1 ⟨vs,H1,I1,r1,q1⟩=>?_) hs rfl))
 obtain ⟨j,e,q1,q2,q⟩:=q1
 subst e
 cases r1 with
 | cons r rr =>
  cases rr
  obtain ⟨t,rfl⟩:=r
  exact call_range_1 (range_it I1 (by omega) (by omega) q1 q2 (by simpa using q))
def tFor(wi:TI)(g:TG)(tb:TS):TS:=fun D σ H=>wi σ H fun J H1=>∃W:Nat→Nat→St→Hp→Prop,(∃m,W 0 m σ H1)∧∀i m σ H,W i m σ H →
 (J.stop i H∧D.nx σ H)∨(J.go i H∧∃N:St→Hp→Prop,(∀σ' H',N σ' H'→∃m',m' < m∧W (i + 1) m' σ' H')∧∀x H',J.yld i H x H'→g x σ H' fun σ2 H2=>tb {D with nx:=N,ct:=N,bk:=D.nx} σ2 H2)
def pinsAt(fp:List Addr)(h:Heap):List (Addr×Obj):=fp.filterMap fun b=>(h.get? b).map fun o=>(b,o)
theorem mem_pinsAt{fp:List Addr}{h:Heap}{b:Addr}{o:Obj}(hb:b∈fp)(e:h.get? b=some o):(b,o)∈pinsAt fp h:=List.mem_filterMap.mpr ⟨b,hb,by rw [e]; rfl⟩
theorem of_pinsAt{fp:List Addr}{h:Heap}{p:Addr×Obj}(hp:p∈pinsAt fp h):p.1∈fp∧h.get? p.1=some p.2:=by
 obtain ⟨b,hb,e⟩:=List.mem_filterMap.mp hp
 cases q:h.get? b with
 | none=>rw [q] at e; cases e
 | some o =>
  rw [q] at e
  have e':(b,o)=p:=Option.some.inj e
  subst e'
  exact ⟨hb,q⟩
theorem Inv.pinned{pins:List (Addr×Obj)}{σ:St}{H:Hp}{s:Shared}{fp:List Addr}(I:Inv X pins σ H s)(hf:∀b∈fp,FpOk X pins H b)(ho:∀b∈fp,∃o,s.heap.get? b=some o∧∀v,o.data≠.cell v):Inv X (pins++pinsAt fp s.heap) σ H s :=
 I.pins_of fun p hp=>(List.mem_append.mp hp).elim (fun z=>I.pin p (List.mem_append_right _ z)) fun z=>by
  obtain ⟨hb,e⟩:=of_pinsAt z
  obtain ⟨f0,f1,f2,_⟩:=hf p.1 hb
  obtain ⟨o,e',d⟩:=ho p.1 hb
  rw [e] at e'; cases e'
  exact ⟨e,f0,f1,f2,d⟩
theorem Inv.unpinned{pins pl:List (Addr×Obj)}{σ:St}{H:Hp}{s:Shared}(I:Inv X (pins++pl) σ H s):Inv X pins σ H s:=I.pins_of fun p hp=>I.pin p (List.mem_append_right _ (List.mem_append_left _ hp))
theorem ps_for{iter:Expr}{body:List Stmt}{wi:TI}{g:TG}{tb:TS}{pos:Pos}(hp:PassesOwn (model X.prog X.w) X.A X.env X.xe)(hc:X.calm=true)(hi:PI X tg iter wi)(hg:PG X tg g)(hb:PSs X body tb)
  (hs:∀x,foldedSetIterable iter X.env x=pure x:=by intro _; rfl):PS X (.For tg iter body [] pos) (tFor wi g tb):=by
 intro pins s σ H D I h
 refine wpAny_For (thn (hi pins s σ H _ I h) fun v s1 h1=>thn h1 fun itv s2 h2=>?_) hs
 obtain ⟨it,fp,tn,J,H2,e,I2,T,st2,f2,W,⟨m0,w0⟩,turn⟩:=h2
 subst e
 have stat:∀{H':Hp},(∀b∈fp,H' b=none)→∀b∈fp,FpOk X pins H' b:=fun hn b hb=>⟨hn b hb,(f2 b hb).2⟩
 refine codeAny_forLoop_any (fun n s'=>∃i σ' H',Inv X pins σ' H' s'∧tn i s'.heap∧(∀b∈fp,H' b=none)∧W i n σ' H') ?_ m0 ⟨0,σ,H2,I2,st2,fun b hb=>(f2 b hb).1,w0⟩
 rintro n s3 ⟨i,σ3,H3,I3,st3,fr3,w3⟩
 rcases turn i n σ3 H3 w3 with ⟨stop,qn⟩ | ⟨go,N,hN,step⟩
 ·refine wpAny_passesOwn hp (thn (T.done X rfl rfl rfl hc i pins s3 σ3 H3 X.xe I3 (stat fr3) st3 stop) fun r s4 ⟨hr,I4⟩=>?_)
  subst hr
  exact wpAny_execs_nil ⟨σ3,H3,I4,qn⟩
 ·refine wpAny_passesOwn hp (thn (T.item X rfl rfl rfl hc i pins s3 σ3 H3 X.xe I3 (stat fr3) st3 go) fun r s4 ⟨u,hr,h4⟩=>?_)
  subst hr
  refine wpAny_passesOwn hp (thn h4 fun _ s5 ⟨x,H5,I5,r5,y5,st5,fr5⟩=>?_)
  have I5':=I5.pinned (stat fr5) (T.obj _ _ st5)
  refine wpAny_passesOwn hp (thn (hg _ s5 σ3 H5 x u _ I5' r5 (step x H5 y5)) fun _ s6 ⟨σ6,H6,I6,q6⟩=>?_)
  refine wpAny_passesOwn hp (thn (hb _ s6 σ6 H6 _ I6 q6) fun f s7 q7=>?_)
  have again:∀{σ7:St} {H7:Hp},Inv X (pins++pinsAt fp s5.heap) σ7 H7 s7→N σ7 H7→∃m,m < n∧∃i σ' H',Inv X pins σ' H' s7∧tn i s7.heap∧(∀b∈fp,H' b=none)∧W i m σ' H':=fun {σ7 H7} I7 n7=>by
   obtain ⟨m',hm,w7⟩:=hN σ7 H7 n7
   refine ⟨m',hm,i + 1,σ7,H7,I7.unpinned,T.keep _ _ _ st5 fun b hb o e=>(I7.pin (b,o) (List.mem_append_right _ (List.mem_append_right _ (mem_pinsAt hb e)))).1,fun b hb=>?_,w7⟩
   obtain ⟨o,e,d⟩:=T.obj _ _ st5 b hb
   exact (I7.pin (b,o) (List.mem_append_right _ (List.mem_append_right _ (mem_pinsAt hb e)))).2.1
  cases f with
  | next=>obtain ⟨σ7,H7,I7,n7⟩:=q7; exact again I7 n7
  | cont=>obtain ⟨σ7,H7,I7,n7⟩:=q7; exact again I7 n7
  | brk=>obtain ⟨σ7,H7,I7,q7⟩:=q7; exact ⟨σ7,H7,I7.unpinned,q7⟩
  | ret v=>obtain ⟨x7,σ7,H7,I7,r7,q7⟩:=q7; exact ⟨x7,σ7,H7,I7.unpinned,r7,q7⟩
end
theorem for_list{K:Fgg}{a:Addr}{xs:List V}{g:TG}{tb:TS}{D:Ends}{σ:St}{H:Hp}(Pv:Nat→St→Hp→Prop)(h0:Pv 0 σ H)(hl:∀i σ H,i≤xs.length→Pv i σ H→SqL K H a xs)
  (hs:∀i x σ H,xs[i]?=some x→Pv i σ H→g x σ H fun σ2 H2=>tb {D with nx:=Pv (i + 1),ct:=Pv (i + 1),bk:=D.nx} σ2 H2) (hd:∀σ H,Pv xs.length σ H→D.nx σ H) :
  ∃W:Nat→Nat→St→Hp→Prop,(∃m,W 0 m σ H)∧∀i m σ H,W i m σ H →
   ((Itl K a).stop i H∧D.nx σ H)∨((Itl K a).go i H∧∃N:St→Hp→Prop,(∀σ' H',N σ' H'→∃m',m' < m∧W (i + 1) m' σ' H')∧∀x H',(Itl K a).yld i H x H'→g x σ H' fun σ2 H2=>tb {D with nx:=N,ct:=N,bk:=D.nx} σ2 H2):=by
 refine ⟨fun i m σ H=>m=xs.length - i∧i≤xs.length∧Pv i σ H,⟨xs.length,by simp,Nat.zero_le _,h0⟩,?_⟩
 rintro i m σ H ⟨rfl,hi,p⟩
 have q:=hl i σ H hi p
 by_cases hlt:i < xs.length
 ·refine .inr ⟨⟨xs,xs[i],q,by simp [hlt]⟩,Pv (i + 1),fun σ' H' p'=>⟨xs.length - (i + 1),by omega,rfl,hlt,p'⟩,fun x H' y=>?_⟩
  obtain ⟨e,y⟩:=y
  subst e
  exact hs i x σ _ (y xs q) p
 ·have e:i=xs.length:=by omega
  subst e
  exact .inl ⟨⟨xs,q,Nat.le_refl _⟩,hd σ H p⟩
theorem for_range{lo:Int}{n:Nat}{g:TG}{tb:TS}{D:Ends}{σ:St}{H:Hp}(Pv:Nat→St→Hp→Prop)(h0:Pv 0 σ H)
  (hs:∀i σ H,i < n→Pv i σ H→g (.int (lo + i)) σ H fun σ2 H2=>tb {D with nx:=Pv (i + 1),ct:=Pv (i + 1),bk:=D.nx} σ2 H2) (hd:∀σ H,Pv n σ H→D.nx σ H) :
  ∃W:Nat→Nat→St→Hp→Prop,(∃m,W 0 m σ H)∧∀i m σ H,W i m σ H →
   ((Itr lo n).stop i H∧D.nx σ H)∨((Itr lo n).go i H∧∃N:St→Hp→Prop,(∀σ' H',N σ' H'→∃m',m' < m∧W (i + 1) m' σ' H')∧∀x H',(Itr lo n).yld i H x H'→g x σ H' fun σ2 H2=>tb {D with nx:=N,ct:=N,bk:=D.nx} σ2 H2):=by
 refine ⟨fun i m σ H=>m=n - i∧i≤n∧Pv i σ H,⟨n,by simp,Nat.zero_le _,h0⟩,?_⟩
 rintro i m σ H ⟨rfl,hi,p⟩
 by_cases hlt:i < n
 ·refine .inr ⟨hlt,Pv (i + 1),fun σ' H' p'=>⟨n - (i + 1),by omega,rfl,hlt,p'⟩,fun x H' y=>?_⟩
  obtain ⟨e,y⟩:=y
  subst e y
  exact hs i σ _ hlt p
 ·have e:i=n:=by omega
  subst e
  exact .inl ⟨Nat.le_refl _,hd σ H p⟩
theorem while_by{c:TT}{tb:TS}{D:Ends}{σ:St}{H:Hp}(Pv:St→Hp→Prop)(μ:St→Hp→Nat)(h0:Pv σ H)
  (hs:∀σ H,Pv σ H→c σ H fun b H1=>if b=true then tb {D with nx:=fun σ' H'=>Pv σ' H'∧μ σ' H' < μ σ H,ct:=fun σ' H'=>Pv σ' H'∧μ σ' H' < μ σ H,bk:=D.nx} σ H1 else D.nx σ H1)
  (mono:∀σ H Q Q',(∀b H1,Q b H1→Q' b H1)→c σ H Q→c σ H Q'):tWhile c tb D σ H:=by
 refine ⟨fun m σ H=>m=μ σ H∧Pv σ H,⟨_,rfl,h0⟩,?_⟩
 rintro m σ H ⟨rfl,p⟩
 refine mono σ H _ _ (fun b H1 q=>?_) (hs σ H p)
 cases b with
 | true=>exact ⟨_,fun σ' H' ⟨p',l⟩=>⟨_,l,rfl,p'⟩,q⟩
 | false=>exact q
end L2
namespace L2
open PySem PySem.Spec PyProof.Rows
abbrev R2:=V→V→Hp→VK→Prop
def OpR(X:Cx)(f:Value→Value→Sem Value)(r:R2):Prop :=
 ∀(pins:List (Addr×Obj)) (s:Shared) (σ:St) (H:Hp) (x y:V) (v u:Value) (Q:VK),Inv X pins σ H s→RelV x v→RelV y u→r x y H Q →
  wpAny (model X.prog X.w) X.A (f v u) (EP X pins σ Q) X.xe s
def UnR(X:Cx)(f:Value→Sem Value)(r:V→Hp→VK→Prop):Prop :=
 ∀(pins:List (Addr×Obj)) (s:Shared) (σ:St) (H:Hp) (x:V) (v:Value) (Q:VK),Inv X pins σ H s→RelV x v→r x H Q →
  wpAny (model X.prog X.w) X.A (f v) (EP X pins σ Q) X.xe s
def CallR(X:Cx)(f:Value)(r:List V→Hp→VK→Prop):Prop :=
 ∀(pins:List (Addr×Obj)) (s:Shared) (σ:St) (H:Hp) (xs:List V) (us:List Value) (Q:VK),Inv X pins σ H s→Vals xs us→r xs H Q →
  wpAny (model X.prog X.w) X.A (call f us) (EP X pins σ Q) X.xe s
def tOp(r:R2)(ta tb:TE):TE:=fun σ H Q=>ta σ H fun x H1=>tb σ H1 fun y H2=>r x y H2 Q
def tUn(r:V→Hp→VK→Prop)(ta:TE):TE:=fun σ H Q=>ta σ H fun x H1=>r x H1 Q
def rI(C:Int→Int→Prop)(g:Int→Int→V):R2:=fun x y H Q=>∃i j,x=.int i∧y=.int j∧C i j∧Q (g i j) H
def rI0(g:Int→Int→V):R2:=fun x y H Q=>∃i j,x=.int i∧y=.int j∧Q (g i j) H
def rU(g:Int→V):V→Hp→VK→Prop:=fun x H Q=>∃i,x=.int i∧Q (g i) H
section
variable {X:Cx} {a b c:Expr} {ta tb tc:TE} {pos:Pos}
theorem binT(ha:PE X a ta)(hb:PE X b tb){pins:List (Addr×Obj)}{s:Shared}{σ:St}{H:Hp}{R:V→V→Hp→Prop}(I:Inv X pins σ H s)
  (h:ta σ H fun x H1=>tb σ H1 fun y H2=>R x y H2) {Q:Value→Shared→Prop} {f:Value→Value→Sem Value}
  (hf:∀v u s2 x y H2,Inv X pins σ H2 s2→RelV x v→RelV y u→R x y H2→wpAny (model X.prog X.w) X.A (f v u) Q X.xe s2) :
  wpAny (model X.prog X.w) X.A (eval a X.env) (fun v s₁=>wpAny (model X.prog X.w) X.A (eval b X.env) (fun u s₂=>wpAny (model X.prog X.w) X.A (f v u) Q X.xe s₂) X.xe s₁) X.xe s:=by
 refine thn (ha pins s σ H _ I h) fun v s1 ⟨x,H1,I1,r1,q1⟩=>?_
 refine thn (hb pins s1 σ H1 _ I1 q1) fun u s2 ⟨y,H2,I2,r2,q2⟩=>?_
 exact hf v u s2 x y H2 I2 r1 r2 q2
theorem pe_op{op:Operator}{r:R2}(ho:OpR X (binaryOp op) r)(ha:PE X a ta)(hb:PE X b tb):PE X (.BinOp a op b pos) (tOp r ta tb):=by
 intro pins s σ H Q I h
 exact wpAny_BinOp (binT ha hb I h fun v u s2 x y H2 I2 rx ry q=>ho pins s2 σ H2 x y v u Q I2 rx ry q)
theorem pe_un{op:UnaryOp}{r:V→Hp→VK→Prop}(ho:UnR X (unaryOp op) r)(ha:PE X a ta):PE X (.UnaryOp op a pos) (tUn r ta):=by
 intro pins s σ H Q I h
 exact UnaryOp_ (thn (ha pins s σ H _ I h) fun v s1 ⟨x,H1,I1,r1,q1⟩=>ho pins s1 σ H1 x v Q I1 r1 q1)
theorem opI{f:Value→Value→Sem Value}{C:Int→Int→Prop}{g:Int→Int→Int}
  (rule:∀(i j:Int) (t u:Tok) (s:Shared) (Q:Value→Shared→Prop) (E:Value→Shared→Prop),C i j→Q (.int (g i j) s.toks) {s with toks:=s.toks + 1}→wpAny (model X.prog X.w) X.A (f (.int i t) (.int j u)) Q E s) :
  OpR X f (rI C fun i j=>.int (g i j)):=by
 intro pins s σ H x y v u Q I rx ry h
 obtain ⟨i,j,rfl,rfl,hc,q⟩:=h
 obtain ⟨t,rfl⟩:=rx
 obtain ⟨t',rfl⟩:=ry
 exact rule i j t t' s _ _ hc ⟨.int (g i j),H,I.tok _,⟨_,rfl⟩,q⟩
theorem opI0{f:Value→Value→Sem Value}{g:Int→Int→Int}
  (rule:∀(i j:Int) (t u:Tok) (s:Shared) (Q:Value→Shared→Prop) (E:Value→Shared→Prop),Q (.int (g i j) s.toks) {s with toks:=s.toks + 1}→wpAny (model X.prog X.w) X.A (f (.int i t) (.int j u)) Q E s) :
  OpR X f (rI0 fun i j=>.int (g i j)):=by
 intro pins s σ H x y v u Q I rx ry h
 obtain ⟨i,j,rfl,rfl,q⟩:=h
 obtain ⟨t,rfl⟩:=rx
 obtain ⟨t',rfl⟩:=ry
 exact rule i j t t' s _ _ ⟨.int (g i j),H,I.tok _,⟨_,rfl⟩,q⟩
theorem opB0{f:Value→Value→Sem Value}{g:Int→Int→Bool}
  (rule:∀(i j:Int) (t u:Tok) (s:Shared) (Q:Value→Shared→Prop) (E:Value→Shared→Prop),Q (.bool (g i j)) s→wpAny (model X.prog X.w) X.A (f (.int i t) (.int j u)) Q E s) :
  OpR X f (rI0 fun i j=>.bl (g i j)):=by
 intro pins s σ H x y v u Q I rx ry h
 obtain ⟨i,j,rfl,rfl,q⟩:=h
 obtain ⟨t,rfl⟩:=rx
 obtain ⟨t',rfl⟩:=ry
 exact rule i j t t' s _ _ ⟨.bl (g i j),H,I,rfl,q⟩
def CDiv(i j:Int):Prop:=0 < j∧j < 1073741824
def CPow(i j:Int):Prop:=0≤j∧j≤1000000∧i.natAbs < 2 ^ 64
def CMul(i j:Int):Prop:=(-(2 ^ 64) < i∧i < 2 ^ 64)∨(-(2 ^ 64) < j∧j < 2 ^ 64)
theorem CMul.ok{i j:Int}(h:CMul i j):IntMulOk i j:=by
 rcases h with ⟨h1,h2⟩ | ⟨h1,h2⟩
 ·exact .of_left (intBits_le_64 h1 h2)
 ·exact .of_right (intBits_le_64 h1 h2)
theorem op_add:OpR X (binaryOp .Add) (rI0 fun i j=>.int (i + j)):=opI0 fun _ _ _ _ _ _ _ q=>add_int q
theorem op_sub:OpR X (binaryOp .Sub) (rI0 fun i j=>.int (i - j)):=opI0 fun _ _ _ _ _ _ _ q=>sub_int q
theorem op_mul:OpR X (binaryOp .Mult) (rI CMul fun i j=>.int (i * j)):=opI fun _ _ _ _ _ _ _ hc q=>mul_int q hc.ok
theorem op_fdiv:OpR X (binaryOp .FloorDiv) (rI CDiv fun i j=>.int (i / j)):=opI fun i j _ _ _ _ _ hc q=>by
 have h1:(0:Int) < j:=hc.1
 have h2:j < 1073741824:=hc.2
 exact floordiv_int (by omega) (by rw [Int.fdiv_eq_ediv_of_nonneg i (by omega)]; exact q) (.inl (PyProof.noPylong_small (by omega)))
theorem op_mod:OpR X (binaryOp .Mod) (rI (fun _ j=>0 < j) fun i j=>.int (i % j)):=opI fun i j _ _ _ _ _ hc q=>by
 have h1:(0:Int) < j:=hc
 exact mod_int' (by omega) (by rw [Int.fmod_eq_emod_of_nonneg i (by omega)]; exact q)
theorem op_modN:OpR X (binaryOp .Mod) (rI (fun _ j=>j≠0) fun i j=>.int (i.fmod j)):=opI fun _ _ _ _ _ _ _ hc q=>mod_int' hc q
theorem op_shl:OpR X (binaryOp .LShift) (rI CPow fun i j=>.int (i * 2 ^ j.toNat)):=opI fun _ _ _ _ _ _ _ hc q=>lshift_int_small hc.1 hc.2.1 hc.2.2 q
theorem op_and:OpR X (binaryOp .BitAnd) (rI0 fun i j=>.int (Builtin.bitAnd i j)):=opI0 fun _ _ _ _ _ _ _ q=>and_int q
theorem unI{f:Value→Sem Value}{g:Int→Int}
  (rule:∀(i:Int) (t:Tok) (s:Shared) (Q:Value→Shared→Prop) (E:Value→Shared→Prop),Q (.int (g i) s.toks) {s with toks:=s.toks + 1}→wpAny (model X.prog X.w) X.A (f (.int i t)) Q E s) :
  UnR X f (rU fun i=>.int (g i)):=by
 intro pins s σ H x v Q I rx h
 obtain ⟨i,rfl,q⟩:=h
 obtain ⟨t,rfl⟩:=rx
 exact rule i t s _ _ ⟨.int (g i),H,I.tok _,⟨_,rfl⟩,q⟩
theorem un_neg:UnR X (unaryOp .USub) (rU fun i=>.int (-i)):=unI fun _ _ _ _ _ q=>neg_int q
end
def scal:V→V→Bool
 | .non,.non=>true | .non,.int _=>true | .int _,.non=>true | .non,.bl _=>true | .bl _,.non=>true | .non,.str _=>true | .str _,.non=>true
 | .int _,.int _=>true | .bl _,.bl _=>true | .str _,.str _=>true | .byt _,.byt _=>true
 | .int _,.str _=>true | .str _,.int _=>true | .bl _,.str _=>true | .str _,.bl _=>true
 | _,_=>false
def rEq:R2:=fun x y H Q=>scal x y=true∧Q (.bl (decide (x=y))) H
def rNe:R2:=fun x y H Q=>scal x y=true∧Q (.bl (!decide (x=y))) H
theorem dec_int{i j:Int}:decide (V.int i=V.int j)=(i == j):=by
 rw [Bool.eq_iff_iff]
 simp
theorem dec_bl{i j:Bool}:decide (V.bl i=V.bl j)=(i == j):=by
 rw [Bool.eq_iff_iff]
 simp
theorem dec_str{i j:Str}:decide (V.str i=V.str j)=(i == j):=by
 rw [Bool.eq_iff_iff]
 simp
theorem dec_byt{i j:Array UInt8}:decide (V.byt i=V.byt j)=(i.toList == j.toList):=by
 rw [Bool.eq_iff_iff]
 cases i
 cases j
 simp
section
variable {X:Cx} {a b c:Expr} {ta tb tc:TE} {pos:Pos}
theorem fin_bl{pins:List (Addr×Obj)}{σ:St}{H:Hp}{s:Shared}{Q:VK}{k k':Bool}(I:Inv X pins σ H s)(q:Q (.bl k) H)(e:k=k'):EP X pins σ Q (.bool k') s:=by
 subst e
 exact ⟨.bl k,H,I,rfl,q⟩
theorem op_eq:OpR X (compareOp .Eq) rEq:=by
 intro pins s σ H x y v u Q I rx ry h
 obtain ⟨hs,q⟩:=h
 cases x with
 | non =>
  cases rx
  cases y with
  | non=>cases ry; exact PySem.EqNone.eq_none_none (fin_bl I q (by simp))
  | bl j=>cases ry; exact PySem.EqNone.eq_none_bool (fin_bl I q (by simp))
  | int j=>obtain ⟨t',rfl⟩:=ry; exact PySem.EqNone.eq_none_int (fin_bl I q (by simp))
  | str j=>obtain ⟨t',rfl⟩:=ry; exact PySem.EqNone.eq_none_str (fin_bl I q (by simp))
  | _=>exact absurd (show false=true from hs) Bool.false_ne_true
 | bl i =>
  cases rx
  cases y with
  | non=>cases ry; exact PySem.EqNone.eq_bool_none (fin_bl I q (by simp))
  | bl j=>cases ry; exact eq_bool (fin_bl I q dec_bl)
  | str j=>obtain ⟨t',rfl⟩:=ry; exact PySem.EqMixed.eq_bool_str (fin_bl I q (by simp))
  | _=>exact absurd (show false=true from hs) Bool.false_ne_true
 | int i =>
  obtain ⟨t,rfl⟩:=rx
  cases y with
  | non=>cases ry; exact PySem.EqNone.eq_int_none (fin_bl I q (by simp))
  | int j=>obtain ⟨t',rfl⟩:=ry; exact eq_int (fin_bl I q dec_int)
  | str j=>obtain ⟨t',rfl⟩:=ry; exact PySem.EqMixed.eq_int_str (fin_bl I q (by simp))
  | _=>exact absurd (show false=true from hs) Bool.false_ne_true
 | str i =>
  obtain ⟨t,rfl⟩:=rx
  cases y with
  | non=>cases ry; exact PySem.EqNone.eq_str_none (fin_bl I q (by simp))
  | bl j=>cases ry; exact PySem.EqMixed.eq_str_bool (fin_bl I q (by simp))
  | int j=>obtain ⟨t',rfl⟩:=ry; exact PySem.EqMixed.eq_str_int (fin_bl I q (by simp))
  | str j=>obtain ⟨t',rfl⟩:=ry; exact eq_str (fin_bl I q dec_str)
  | _=>exact absurd (show false=true from hs) Bool.false_ne_true
 | byt i =>
  obtain ⟨t,rfl⟩:=rx
  cases y with
  | byt j=>obtain ⟨t',rfl⟩:=ry; exact PySem.W.eq_bytes (fin_bl I q dec_byt)
  | _=>exact absurd (show false=true from hs) Bool.false_ne_true
 | _=>cases y <;> exact absurd (show false=true from hs) Bool.false_ne_true
theorem op_ne:OpR X (compareOp .NotEq) rNe:=by
 intro pins s σ H x y v u Q I rx ry h
 obtain ⟨hs,q⟩:=h
 cases x with
 | non =>
  cases rx
  cases y with
  | non=>cases ry; exact PySem.EqNone.ne_none_none (fin_bl I q (by simp))
  | bl j=>cases ry; exact PySem.EqNone.ne_none_bool (fin_bl I q (by simp))
  | int j=>obtain ⟨t',rfl⟩:=ry; exact PySem.EqNone.ne_none_int (fin_bl I q (by simp))
  | str j=>obtain ⟨t',rfl⟩:=ry; exact PySem.EqNone.ne_none_str (fin_bl I q (by simp))
  | _=>exact absurd (show false=true from hs) Bool.false_ne_true
 | bl i =>
  cases rx
  cases y with
  | non=>cases ry; exact PySem.EqNone.ne_bool_none (fin_bl I q (by simp))
  | bl j=>cases ry; exact ne_bool (fin_bl I q (congrArg not dec_bl))
  | str j=>obtain ⟨t',rfl⟩:=ry; exact PySem.EqMixed.ne_bool_str (fin_bl I q (by simp))
  | _=>exact absurd (show false=true from hs) Bool.false_ne_true
 | int i =>
  obtain ⟨t,rfl⟩:=rx
  cases y with
  | non=>cases ry; exact PySem.EqNone.ne_int_none (fin_bl I q (by simp))
  | int j=>obtain ⟨t',rfl⟩:=ry; exact ne_int (fin_bl I q (congrArg not dec_int))
  | str j=>obtain ⟨t',rfl⟩:=ry; exact PySem.EqMixed.ne_int_str (fin_bl I q (by simp))
  | _=>exact absurd (show false=true from hs) Bool.false_ne_true
 | str i =>
  obtain ⟨t,rfl⟩:=rx
  cases y with
  | non=>cases ry; exact PySem.EqNone.ne_str_none (fin_bl I q (by simp))
  | bl j=>cases ry; exact PySem.EqMixed.ne_str_bool (fin_bl I q (by simp))
  | int j=>obtain ⟨t',rfl⟩:=ry; exact PySem.EqMixed.ne_str_int (fin_bl I q (by simp))
  | str j=>obtain ⟨t',rfl⟩:=ry; exact ne_str (fin_bl I q (congrArg not dec_str))
  | _=>exact absurd (show false=true from hs) Bool.false_ne_true
 | byt i =>
  obtain ⟨t,rfl⟩:=rx
  cases y with
  | byt j=>obtain ⟨t',rfl⟩:=ry; exact PySem.W.ne_bytes (fin_bl I q (congrArg not dec_byt))
  | _=>exact absurd (show false=true from hs) Bool.false_ne_true
 | _=>cases y <;> exact absurd (show false=true from hs) Bool.false_ne_true
theorem op_lt:OpR X (compareOp .Lt) (rI0 fun i j=>.bl (decide (i < j))):=opB0 fun _ _ _ _ _ _ _ q=>lt_int q
theorem op_le:OpR X (compareOp .LtE) (rI0 fun i j=>.bl (decide (i≤j))):=opB0 fun _ _ _ _ _ _ _ q=>le_int q
theorem op_gt:OpR X (compareOp .Gt) (rI0 fun i j=>.bl (decide (j < i))):=opB0 fun _ _ _ _ _ _ _ q=>gt_int q
theorem op_ge:OpR X (compareOp .GtE) (rI0 fun i j=>.bl (decide (j≤i))):=opB0 fun _ _ _ _ _ _ _ q=>ge_int q
theorem op_isN:OpR X (compareOp .Is) (fun x y H Q=>y=.non∧Q (.bl (decide (x=.non))) H):=by
 intro pins s σ H x y v u Q I rx ry h
 obtain ⟨rfl,q⟩:=h
 cases ry
 refine is_none_gen (fin_bl I q ?_)
 cases x <;> first
  | (cases rx; rfl)
  | (obtain ⟨t,rfl⟩:=rx; rfl)
theorem op_notN:OpR X (compareOp .IsNot) (fun x y H Q=>y=.non∧Q (.bl (!decide (x=.non))) H):=by
 intro pins s σ H x y v u Q I rx ry h
 obtain ⟨rfl,q⟩:=h
 cases ry
 refine isnot_none_gen (fin_bl I q ?_)
 cases x <;> first
  | (cases rx; rfl)
  | (obtain ⟨t,rfl⟩:=rx; rfl)
theorem OpR.or{f:Value→Value→Sem Value}{r r':R2}(h:OpR X f r)(h':OpR X f r'):OpR X f (fun x y H Q=>r x y H Q∨r' x y H Q):=by
 intro pins s σ H x y v u Q I rx ry q
 rcases q with q | q
 ·exact h pins s σ H x y v u Q I rx ry q
 ·exact h' pins s σ H x y v u Q I rx ry q
theorem nomark(b:Expr){op:CmpOp}(h:op≠.In:=by decide)(h2:op≠.NotIn:=by decide):behindInMarks op b=false:=by
 have e1:(op == CmpOp.In)=false:=by cases op <;> first | rfl | exact absurd rfl h
 have e2:(op == CmpOp.NotIn)=false:=by cases op <;> first | rfl | exact absurd rfl h2
 cases b <;> simp [behindInMarks,e1,e2]
theorem pe_cmpR{op:CmpOp}{r:R2}(ho:OpR X (compareOp op) r)(ha:PE X a ta)(hb:PE X b tb)(hm:behindInMarks op b=false):PE X (.Compare a [op] [b] pos) (tOp r ta tb):=by
 intro pins s σ H Q I h
 exact wpAny_Compare1 (binT ha hb I h fun v u s2 x y H2 I2 rx ry q=>ho pins s2 σ H2 x y v u Q I2 rx ry q) hm
def tTest(t:TE):TT:=fun σ H Q=>t σ H fun x H'=>∃k,x=.bl k∧Q k H'
theorem tR{op:CmpOp}{r:R2}(ho:OpR X (compareOp op) r)(ha:PE X a ta)(hb:PE X b tb)(hm:behindInMarks op b=false):PT X (.Compare a [op] [b] pos) (tTest (tOp r ta tb)):=by
 intro pins s σ H Q I h
 refine wpAny_isTrue_Compare1 (thn (ha pins s σ H _ I h) fun v s1 ⟨x,H1,I1,r1,q1⟩=>thn (hb pins s1 σ H1 _ I1 q1) fun u s2 ⟨y,H2,I2,r2,q2⟩ =>
  thn (ho pins s2 σ H2 x y v u _ I2 r1 r2 q2) fun c s3 ⟨z,H3,I3,r3,k,e,q3⟩=>?_) hm
 subst e
 cases r3
 exact wpAny_truthy_bool ⟨H3,I3,q3⟩
def tChain(r r':R2)(ta tb tc:TE):TE:=fun σ H Q=>ta σ H fun x H1=>tb σ H1 fun y H2=>r x y H2 fun z H3=>∃k,z=.bl k ∧
 (if k=true then tc σ H3 fun w' H4=>r' y w' H4 Q else Q (.bl false) H3)
theorem pt_chain{op op':CmpOp}{r r':R2}(ho:OpR X (compareOp op) r)(ho':OpR X (compareOp op') r')(ha:PE X a ta)(hb:PE X b tb)(hc:PE X c tc)
  (hm:lastMarks [op,op'] [b,c]=false:=by with_unfolding_all rfl):PT X (.Compare a [op,op'] [b,c] pos) (tTest (tChain r r' ta tb tc)):=by
 intro pins s σ H Q I h
 refine isTrue_chain (thn (ha pins s σ H _ I h) fun v s1 ⟨x,H1,I1,r1,q1⟩=>test_link (thn (hb pins s1 σ H1 _ I1 q1) fun u s2 ⟨y,H2,I2,r2,q2⟩ =>
  thn (ho pins s2 σ H2 x y v u _ I2 r1 r2 q2) fun d s3 ⟨z,H3,I3,r3,k,e,q3⟩=>?_)) hm
 subst e
 cases r3
 refine wpAny_truthy_bool ?_
 cases k with
 | false =>
  obtain ⟨k',e',q'⟩:=q3
  cases e'
  exact ite_ff ⟨H3,I3,q'⟩
 | true =>
  refine ite_tt (test_last (thn (hc pins s3 σ H3 _ I3 q3) fun w' s4 ⟨z',H4,I4,r4,q4⟩=>thn (ho' pins s4 σ H4 y z' u w' _ I4 r2 r4 q4) fun d' s5 ⟨z2,H5,I5,r5,k2,e2,q5⟩=>?_))
  subst e2
  cases r5
  exact wpAny_truthy_bool ⟨H5,I5,q5⟩
theorem line63:(sizeLine:Nat) < 2 ^ 63:=by rw [sizeLine_eq]; decide
theorem vals1{x:V}{us:List Value}(r:Vals [x] us):∃u,us=[u]∧RelV x u:=by
 cases r with
 | cons r1 r2=>cases r2; exact ⟨_,rfl,r1⟩
theorem vals2{x y:V}{us:List Value}(r:Vals [x,y] us):∃u w',us=[u,w']∧RelV x u∧RelV y w':=by
 cases r with
 | cons r1 r2 =>
  cases r2 with
  | cons r3 r4=>cases r4; exact ⟨_,_,rfl,r1,r3⟩
theorem call_max2(hc:X.calm=true):CallR X (.builtin "max") (fun xs H Q=>∃i j,xs=[.int i,.int j]∧Q (.int (if j > i then j else i)) H):=by
 intro pins s σ H xs us Q I r h
 obtain ⟨i,j,rfl,q⟩:=h
 obtain ⟨u,w',rfl,⟨t,rfl⟩,⟨t',rfl⟩⟩:=vals2 r
 refine max_two_ints (I.ok.hd hc) fun h' tk k=>⟨_,H,I.kept k,?_,q⟩
 by_cases hj:j > i
 ·rw [if_pos hj,if_pos hj]; exact ⟨_,rfl⟩
 ·rw [if_neg hj,if_neg hj]; exact ⟨_,rfl⟩
theorem call_min2(hc:X.calm=true):CallR X (.builtin "min") (fun xs H Q=>∃i j,xs=[.int i,.int j]∧Q (.int (if j < i then j else i)) H):=by
 intro pins s σ H xs us Q I r h
 obtain ⟨i,j,rfl,q⟩:=h
 obtain ⟨u,w',rfl,⟨t,rfl⟩,⟨t',rfl⟩⟩:=vals2 r
 refine min_two_ints (I.ok.hd hc) fun h' tk k=>⟨_,H,I.kept k,?_,q⟩
 by_cases hj:j < i
 ·rw [if_pos hj,if_pos hj]; exact ⟨_,rfl⟩
 ·rw [if_neg hj,if_neg hj]; exact ⟨_,rfl⟩
theorem call_int1:CallR X (.type "int") (fun xs H Q=>(∃i,xs=[.int i]∧Q (.int i) H)∨∃k,xs=[.bl k]∧Q (.int (if k then 1 else 0)) H):=by
 intro pins s σ H xs us Q I r h
 rcases h with ⟨i,rfl,q⟩ | ⟨k,rfl,q⟩
 ·obtain ⟨u,rfl,t,rfl⟩:=vals1 r
  exact call_int_int ⟨.int i,H,I,⟨_,rfl⟩,q⟩
 ·obtain ⟨u,rfl,r1⟩:=vals1 r
  cases r1
  exact call_int_bool ⟨.int (if k then 1 else 0),H,I.tok _,⟨_,rfl⟩,q⟩
end
end L2
namespace L2
open PySem PySem.Spec PyProof.Rows
structure ObjM(h:Heap)(x dx C:Addr)(mA:Str→Option Value):Prop where
 obj:h.get? x=some (PySem.W.instObj C dx)
 ns:h.Ns1 dx mA
 ne:dx≠x
theorem lookIn_ns{h:Heap}{dx:Addr}{mA:Str→Option Value}(n:h.Ns1 dx mA):∃od,h.get? dx=some od∧∀name,PySem.W.lookIn name od=some (mA name):=by
 obtain ⟨o,es,ep,ho,hd,hk,_,hm⟩:=n
 refine ⟨o,ho,fun name=>?_⟩
 have e:=hm name
 unfold nsFind findBy at e
 rw [← Array.find?_toList] at e
 unfold PySem.W.lookIn
 rw [hd]
 dsimp only
 split
 ·rename_i y q
  rw [q] at e
  exact congrArg some e
 ·rename_i q
  rw [q] at e
  have a:es.toList.any (·.refKey)=false:=by
   rw [List.any_eq_false]
   intro y hy
   obtain ⟨z,t,hkey⟩:=hk y (Array.mem_toList_iff.mp hy)
   simp [DictEntry.refKey,hkey]
  have a':¬ es.toList.any (·.refKey)=true:=by rw [a]; exact Bool.false_ne_true
  rw [if_neg a']
  exact congrArg some e
theorem ObjM.look{h:Heap}{x dx C:Addr}{mA:Str→Option Value}(I:ObjM h x dx C mA):∃od,PySem.W.InstAt h x (PySem.W.instObj C dx) C (some od)∧∀name,PySem.W.lookIn name od=some (mA name) :=
 let ⟨od,ho,hl⟩:=lookIn_ns I.ns
 ⟨od,⟨I.obj,rfl,rfl,ho⟩,hl⟩
section
variable {prog:Program} {w:World} {A:Around} {E:Value→Shared→Prop} {s:Shared} {K:Fgg} {x dx C f:Addr} {mA:Str→Option Value} {name:Str} {v:Value}
theorem get_map{expr:Bool}{Q:Value→Shared→Prop}(X:K.In s.heap)(I:ObjM s.heap x dx C mA)(hg:PySem.W.plainGet K C name=true)(hh:PySem.W.hasDictIn K C=true)
  (ha:PySem.W.findIn K (.ref C) name=some none) (hv:mA name=some v) (hv':PySem.W.handedIn v=true) (h:Q v {s with toks:=s.toks + 1}) :
  wpAny (model prog w) A (getAttr (.ref x) name expr) Q E s:=by
 obtain ⟨od,J,hl⟩:=I.look
 exact PySem.W.get_value X J (PySem.W.plainGet_of hg).1 (PySem.W.findObj_own hh ha rfl (by rw [hl,hv])) hv' h
theorem get_meth{pl:Sem Bool}{Q:Value×List Value→Shared→Prop}(X:K.In s.heap)(I:ObjM s.heap x dx C mA)(hg:PySem.W.plainGet K C name=true)
  (hf:PySem.W.findIn K (.ref C) name=some (some (.ref f))) (ht:PySem.W.isFn K (.ref f)=true) (hv:mA name=none) (h:Q (.ref f,[.ref x]) s) :
  wpAny (model prog w) A (getMethod (.ref x) name pl) Q E s:=by
 obtain ⟨od,J,hl⟩:=I.look
 exact PySem.W.method_fn X J (PySem.W.plainGet_of hg).1 (PySem.W.plainGet_of hg).2 hf (beq_iff_eq.mp ht) (by show (PySem.W.lookIn name od).map (·.isSome)=some false; rw [hl,hv]; rfl) h
theorem set_map{ns:List Str}{Q:Unit→Shared→Prop}(X:K.In s.heap)(I:ObjM s.heap x dx C mA)
  (hs:PySem.W.findIn K (.ref C) "__setattr__"=some (some (.builtin "object.__setattr__"))) (hp:PySem.W.plainOver K C=true) (ht:PySem.W.takerIn K C name=some none) (hh:PySem.W.hasDictIn K C=true)
  (hw:PySem.Within mA ns) (hsz:ns.length≤sizeLine)
  (h:∀h',ObjM h' x dx C (fun y=>if y=name then some v else mA y)→Heap.SameBut dx s.heap h'→Q () {s with heap:=h',toks:=s.toks + 2}) :
  wpAny (model prog w) A (setAttr (.ref x) name v) Q E s:=by
 obtain ⟨od,J,hl⟩:=I.look
 refine PySem.W.set_plain X J hs (PySem.W.osa_open (s:={s with toks:=s.toks + 1}) (r:=none) X J hp ht fun b=>?_)
 obtain ⟨cd,hc,hd'⟩:=PySem.W.any_some hh
 have hx:s.heap.get? x=some ⟨.ref C,some dx,.plain,#[]⟩:=I.obj
 refine wpAny_bind (wpAny_pure (wpAny_bind (wpAny_bind (wpAny_loadPart hx (wpAny_bind (PySem.W.Looks.here (s:={s with toks:=s.toks + 1}) (PySem.W.looks_clsIn X hc) ?_))))))
 rw [hd']
 refine wpAny_pure (a:=some dx) (wpAny_bind (wpAny_pure (wpAny_bind ?_)))
 refine wpAny_nsSet1 (s:={s with toks:=s.toks + 1}) I.ns fun h' hn2 hs2=>?_
 obtain ⟨oD,esD,epD,hoD,hdD,hcD⟩:=hn2.count (PySem.Within.cons name v hw)
 refine wpAny_bind (wpAny_lookBehind hoD (by rw [hdD]; exact pastItsLine_dict (Nat.le_trans hcD (by rw [List.length_cons]; omega))) ?_)
 exact wpAny_pure (h _ ⟨(hs2.2 _ (Ne.symm I.ne)).trans I.obj,hn2,I.ne⟩ hs2)
theorem make_map{R:Result→Shared→Prop}{vs:List Value}{kw:List (Str×Value)}(X:K.In s.heap)(hm:PySem.W.makesIn K C=true)
  (hi:PySem.W.findIn K (.ref C) "__init__"=some (some (.ref f))) (hf:PySem.W.typeIn K (.ref f)=some (.type "function"))
  (h:codeAny (model prog w) (A.under (.builtin "type.__call__" ⟨.ref C::vs,kw⟩)) (.call (.ref f) ⟨.ref (s.heap.objs.size + 1)::vs,kw⟩) (PySem.W.InitBack (s.heap.objs.size + 1) R)
   {s with heap:=(s.heap.push PySem.W.emptyDict).push (PySem.W.instObj C s.heap.objs.size)}) :
  codeAny (model prog w) A (.call (.ref C) ⟨vs,kw⟩) R s:=by
 obtain ⟨hh,g,d,t,os⟩:=s
 exact PySem.W.make_core (PySem.W.makes_of X hm) (PySem.W.looks_findIn X hi) (fun self=>PySem.W.bind_fn X self hf) (.inl rfl) h
end
def putF(f:Str)(v:V):List (Str×V)→List (Str×V)
 | []=>[(f,v)]
 | (g,x)::r=>if g=f then (g,v)::r else (g,x)::putF f v r
theorem lookup_putF(f g:Str)(v:V):∀fs:List (Str×V),(putF f v fs).lookup g=if g=f then some v else fs.lookup g
 | []=>by
  show List.lookup g [(f,v)]=_
  by_cases h:g=f
  ·have hb:(g == f)=true:=beq_iff_eq.mpr h
   simp only [List.lookup,hb,if_pos h]
  ·have hb:(g == f)=false:=beq_eq_false_iff_ne.mpr h
   simp only [List.lookup,hb,if_neg h]
 | (k,x)::r=>by
  have ih:=lookup_putF f g v r
  rw [show putF f v ((k,x)::r)=(if k=f then (k,v)::r else (k,x)::putF f v r) from rfl]
  by_cases hk:k=f
  ·rw [if_pos hk]
   by_cases h:g=k
   ·have hb:(g == k)=true:=beq_iff_eq.mpr h
    simp only [List.lookup,hb,if_pos (h.trans hk)]
   ·have hb:(g == k)=false:=beq_eq_false_iff_ne.mpr h
    simp only [List.lookup,hb,if_neg (fun e:g=f=>h (e.trans hk.symm))]
  ·rw [if_neg hk]
   by_cases h:g=k
   ·have hb:(g == k)=true:=beq_iff_eq.mpr h
    simp only [List.lookup,hb,if_neg (fun e:g=f=>hk (h.symm.trans e))]
   ·have hb:(g == k)=false:=beq_eq_false_iff_ne.mpr h
    simp only [List.lookup,hb]
    exact ih
theorem keys_putF(f:Str)(v:V):∀fs:List (Str×V),f∈(putF f v fs).map (·.1)∧∀g,g∈fs.map (·.1)→g∈(putF f v fs).map (·.1)
 | []=>⟨by simp [putF],fun g h=>by simp at h⟩
 | (k,x)::r=>by
  obtain ⟨i1,i2⟩:=keys_putF f v r
  rw [show putF f v ((k,x)::r)=(if k=f then (k,v)::r else (k,x)::putF f v r) from rfl]
  by_cases hk:k=f
  ·rw [if_pos hk]
   subst hk
   exact ⟨by simp,fun g h=>by simpa using h⟩
  ·rw [if_neg hk]
   refine ⟨?_,fun g h=>?_⟩
   ·rw [List.map_cons]
    exact List.mem_cons_of_mem _ i1
   ·rw [List.map_cons] at h ⊢
    rcases List.mem_cons.mp h with e | e
    ·exact List.mem_cons.mpr (.inl e)
    ·exact List.mem_cons_of_mem _ (i2 g e)
theorem length_putF(f:Str)(v:V):∀fs:List (Str×V),(putF f v fs).length≤fs.length + 1
 | []=>by simp [putF]
 | (k,x)::r=>by
  have ih:=length_putF f v r
  rw [show putF f v ((k,x)::r)=(if k=f then (k,v)::r else (k,x)::putF f v r) from rfl]
  by_cases hk:k=f
  ·rw [if_pos hk,List.length_cons,List.length_cons]; omega
  ·rw [if_neg hk,List.length_cons,List.length_cons]; omega
theorem RelO.some_of{v:V}{o:Option Value}(r:RelO (some v) o):∃u,o=some u∧RelV v u:=by
 cases o with
 | none=>exact (show False from r).elim
 | some u=>exact ⟨u,rfl,r⟩
theorem RelO.none_of{o:Option Value}(r:RelO none o):o=none:=by
 cases o with
 | none=>rfl
 | some u=>exact (show False from r).elim
theorem handed_of{v:V}{u:Value}(r:RelV v u):PySem.W.handedIn u=true:=by
 cases v with
 | non=>cases (show u=Value.none from r); rfl
 | bl b=>cases (show u=Value.bool b from r); rfl
 | int i=>obtain ⟨t,e⟩:=(show ∃t,u=Value.int i t from r); cases e; rfl
 | str x=>obtain ⟨t,e⟩:=(show ∃t,u=Value.str x t from r); cases e; rfl
 | byt b=>obtain ⟨t,e⟩:=(show ∃t,u=Value.bytes b t from r); cases e; rfl
 | flt b=>obtain ⟨t,e⟩:=(show ∃t,u=Value.float b t from r); cases e; rfl
 | ref a=>cases (show u=Value.ref a from r); rfl
 | ty n=>cases (show u=Value.type n from r); rfl
section
variable {P:Program} {w:World} {H H':Hp} {h h':Heap} {a C dx:Addr} {fs fs':List (Str×V)}
theorem ins_get(hok:HOk P w H h)(e:H a=some (.ins C dx fs)):∃mA,ObjM h a dx C mA∧(∀f,RelO (fs.lookup f) (mA f))∧PySem.Within mA (fs.map (·.1))∧fs.length≤1000∧H dx=some (.own a):=by
 obtain ⟨d,z,ne,ob,mA,n,r,q⟩:=(show ObjOk P w H h a (.ins C dx fs) from hok a _ e)
 exact ⟨mA,⟨ob,n,ne⟩,r,q,z,d⟩
end
structure Cls(K:Fgg)(C:Addr):Prop where
 pg:PySem.W.plainGet K C Str.empty=true
 hd:PySem.W.hasDictIn K C=true
 po:PySem.W.plainOver K C=true
 sa:PySem.W.findIn K (.ref C) "__setattr__"=some (some (.builtin "object.__setattr__"))
theorem Cls.get{K:Fgg}{C:Addr}(c:Cls K C)(f:Str):PySem.W.plainGet K C f=true:=c.pg
def NoAttr(K:Fgg)(C:Addr)(f:Str):Prop:=PySem.W.findIn K (.ref C) f=some none
theorem NoAttr.taker{K:Fgg}{C:Addr}{f:Str}(n:NoAttr K C f):PySem.W.takerIn K C f=some none:=by
 unfold PySem.W.takerIn
 rw [show PySem.W.findIn K (.ref C) f=some none from n]
 rfl
structure Con(K:Fgg)(C:Addr)(f:Str)(v:V)(u:Value):Prop where
 at_:PySem.W.findIn K (.ref C) f=some (some u)
 rel:RelV v u
 get:PySem.W.specialIn K u "__get__"=some none
 cp:PySem.W.copiedNames.contains f=false
structure Meth(K:Fgg)(C:Addr)(m:Str)(f:Addr):Prop where
 at_:PySem.W.findIn K (.ref C) m=some (some (.ref f))
 fn:PySem.W.isFn K (.ref f)=true
 kp:PySem.W.keepIn K (.ref f)=true
section
variable {X:Cx} {pins:List (Addr×Obj)} {σ:St} {H:Hp} {s:Shared} {a C dx:Addr} {fs:List (Str×V)} {f:Str} {v:V} {A:Around} {E:Value→Shared→Prop}
theorem getattr_ok{b:Bool}{Q:Value→Shared→Prop}(I:Inv X pins σ H s)(e:H a=some (.ins C dx fs))(c:Cls X.K C)(n:NoAttr X.K C f)(l:fs.lookup f=some v)
  (h:∀u s',Inv X pins σ H s'→RelV v u→Q u s'):wpAny (model X.prog X.w) A (getAttr (.ref a) f b) Q E s:=by
 obtain ⟨mA,O,r,_,_,_⟩:=ins_get I.hok e
 obtain ⟨u,hu,ru⟩:=RelO.some_of (v:=v) (o:=mA f) (by rw [← l]; exact r f)
 exact get_map I.kIn O (c.get f) c.hd n hu (handed_of ru) (h u _ (I.tok _) ru)
theorem getmeth_ok{m:Str}{g:Addr}{pl:Sem Bool}{Q:Value×List Value→Shared→Prop}(I:Inv X pins σ H s)(e:H a=some (.ins C dx fs))(c:Cls X.K C)(k:Meth X.K C m g)(l:fs.lookup m=none)
  (h:Q (.ref g,[.ref a]) s):wpAny (model X.prog X.w) A (getMethod (.ref a) m pl) Q E s:=by
 obtain ⟨mA,O,r,_,_,_⟩:=ins_get I.hok e
 have hn:mA m=none:=RelO.none_of (by rw [← l]; exact r m)
 exact get_meth I.kIn O (c.get m) k.at_ k.fn hn h
theorem setattr_ok{y:V}{u:Value}{Q:Unit→Shared→Prop}(I:Inv X pins σ H s)(e:H a=some (.ins C dx fs))(c:Cls X.K C)(n:NoAttr X.K C f)(hl:fs.length < 1000)(ry:RelV y u)
  (h:∀s',Inv X pins σ (upd H a (.ins C dx (putF f y fs))) s'→Q () s'):wpAny (model X.prog X.w) A (setAttr (.ref a) f u) Q E s:=by
 obtain ⟨mA,O,r,wi,_,ho⟩:=ins_get I.hok e
 have hz:(fs.map (·.1)).length≤sizeLine:=by rw [List.length_map,sizeLine_eq]; omega
 refine set_map I.kIn O c.sa c.po n.taker c.hd wi hz fun h' O' sb=>h _ ?_
 have hd:∃o,h'.get? dx=some o:=let ⟨o,_,_,e',_⟩:=O'.ns; ⟨o,e'⟩
 refine I.write (x:=a) (e:=dx) (by rw [e]; exact True.intro) (.inr ho) (fun b q hb z=>(sb.2 b hb).trans z) hd ?_
 refine ⟨by rw [uN O.ne]; exact ho,?_,O.ne,O'.obj,_,O'.ns,fun g=>?_,fun g hg=>?_⟩
 ·have:=length_putF f y fs; omega
 ·show RelO ((putF f y fs).lookup g) (if g=f then some u else mA g)
  rw [lookup_putF]
  by_cases q:g=f
  ·rw [if_pos q,if_pos q]; exact ry
  ·rw [if_neg q,if_neg q]; exact r g
 ·by_cases q:g=f
  ·rw [q]; exact (keys_putF f y fs).1
  ·refine (keys_putF f y fs).2 g (wi g fun z=>hg ?_)
   show (if g=f then some u else mA g)=none
   rw [if_neg q]; exact z
theorem Inv.made(I:Inv X pins σ H s):Inv X pins σ (upd (upd H s.heap.objs.size (.own (s.heap.objs.size + 1))) (s.heap.objs.size + 1) (.ins C s.heap.objs.size []))
  {s with heap:=(s.heap.push PySem.W.emptyDict).push (PySem.W.instObj C s.heap.objs.size)}:=by
 have e1:(s.heap.push PySem.W.emptyDict).get? s.heap.objs.size=some PySem.W.emptyDict:=Heap.get?_push_size s.heap rfl
 have e2:((s.heap.push PySem.W.emptyDict).push (PySem.W.instObj C s.heap.objs.size)).get? (s.heap.objs.size + 1)=some (PySem.W.instObj C s.heap.objs.size):=by
  have:=Heap.get?_push_size (s.heap.push PySem.W.emptyDict) (o:=PySem.W.instObj C s.heap.objs.size) rfl
  rwa [Heap.size_push] at this
 have e3:(s.heap.push PySem.W.emptyDict).Ns s.heap.objs.size (fun _=>none):=⟨PySem.W.emptyDict,#[],_,e1,rfl,(fun e he=>absurd he (by simp)),fun _=>rfl⟩
 have I1:=I.laid (a:=s.heap.objs.size) (o:=.own (s.heap.objs.size + 1)) (h':=s.heap.push PySem.W.emptyDict) (t':=s.toks) (fun b u q=>Heap.get?_push_of_some _ q) (Nat.le_refl _) ⟨_,e1⟩
 refine I1.laid (a:=s.heap.objs.size + 1) (o:=.ins C s.heap.objs.size []) (t':=s.toks) (fun b u q=>Heap.get?_push_of_some _ q) (Nat.le_of_eq (Heap.size_push _ _)) ?_
 have ne:s.heap.objs.size≠s.heap.objs.size + 1:=Nat.ne_of_lt (Nat.lt_succ_self _)
 refine ⟨by rw [uN ne,uS],Nat.zero_le _,ne,e2,fun _=>none,(Heap.Ns1.of_empty e3).at fun o q=>Heap.get?_push_of_some _ q,fun _=>True.intro,fun y hy=>absurd rfl hy⟩
theorem attr_of{prog:Program}{w:World}{env:Env}{e:Expr}{f:Str}{pos:Pos}{s:Shared}{Q:Value→Shared→Prop}(hb:attributeBase e f env (eval e env)=eval e env)
  (h:wpAny (model prog w) A (eval e env) (fun o s₁=>wpAny (model prog w) A (getAttr o f true) Q E s₁) E s):wpAny (model prog w) A (eval (.Attribute e f pos) env) Q E s :=
 Attribute_any_ h (by rw [arm_eval_Attribute,hb])
end
def tFld(K:Fgg)(ta:TE)(f:Str):TE:=fun σ H Q=>ta σ H fun x H1=>∃a C dx fs v,x=.ref a∧H1 a=some (.ins C dx fs)∧Cls K C∧NoAttr K C f∧fs.lookup f=some v∧Q v H1
def sFld(K:Fgg)(ta tv:TE)(f:Str):TS:=fun D σ H=>tv σ H fun y H1=>ta σ H1 fun x H2=>∃a C dx fs,x=.ref a∧H2 a=some (.ins C dx fs)∧Cls K C∧NoAttr K C f∧fs.length < 1000 ∧
 D.nx σ (upd H2 a (.ins C dx (putF f y fs)))
section
variable {X:Cx} {o e value:Expr} {f:Str} {pos pos' tpos:Pos} {ta tv:TE}
theorem pe_fld(he:PE X e ta)(hb:attributeBase e f X.env (eval e X.env)=eval e X.env):PE X (.Attribute e f pos) (tFld X.K ta f):=by
 intro pins s σ H Q I h
 refine attr_of hb (thn (he pins s σ H _ I h) fun u s1 ⟨x,H1,I1,rx,a,C,dx,fs,v,ex,ea,c,n,l,q⟩=>?_)
 subst ex
 obtain rfl:u=Value.ref a:=rx
 exact getattr_ok I1 ea c n l fun u' s2 I2 ru=>⟨v,H1,I2,ru,q⟩
theorem ps_fld(ha:PE X o ta)(hv:PE X value tv)(hs:swapsWith value (some (.Attribute o f pos')) pos.line X.env=pure false):PS X (.Assign [.Attribute o f pos'] value pos) (sFld X.K ta tv f):=by
 intro pins s σ H D I h
 refine plainObj_wpAny_Assign_Attribute (thn (hv pins s σ H _ I h) fun u s1 ⟨y,H1,I1,ry,q⟩=>thn (ha pins s1 σ H1 _ I1 q) fun ov s2 ⟨x,H2,I2,rx,a,C,dx,fs,ex,ea,c,n,l,q2⟩=>?_) hs
 subst ex
 obtain rfl:ov=Value.ref a:=rx
 exact setattr_ok I2 ea c n l ry fun s3 I3=>⟨σ,_,I3,q2⟩
end
section
variable {X:Cx} {pins:List (Addr×Obj)} {σ:St} {H:Hp} {s:Shared} {A:Around} {E:Value→Shared→Prop} {Q:Value→Shared→Prop} {c:Value} {b:Bool}
inductive TyOf(K:Fgg)(H:Hp):V→Value→Prop where
 | non:TyOf K H .non (.type "NoneType")
 | bl (x:Bool):TyOf K H (.bl x) (.type "bool")
 | int (i:Int):TyOf K H (.int i) (.type "int")
 | str (x:Str):TyOf K H (.str x) (.type "str")
 | flt (x:UInt64):TyOf K H (.flt x) (.type "float")
 | lst {a:Addr} {xs:List V} (e:H a=some (.lst xs)):TyOf K H (.ref a) (.type "list")
 | frz {a:Addr} {o:Obj} {xs:List V} (e:H a=some (.frz o (.lst xs))):TyOf K H (.ref a) (.type "list")
 | tup {a:Addr} {xs:List V} (e:H a=some (.tup xs)):TyOf K H (.ref a) (.type "tuple")
 | dK {a:Addr} {kvs:List (Key×V)} (e:H a=some (.dK kvs)):TyOf K H (.ref a) (.type "dict")
 | dT {a:Addr} {kvs:List (List Key×V)} (e:H a=some (.dT kvs)):TyOf K H (.ref a) (.type "dict")
 | ins {a C dx:Addr} {fs:List (Str×V)} (e:H a=some (.ins C dx fs)) (cl:Cls K C) (ha:PySem.W.findIn K (.ref C) "__class__"=some (some (.builtin "object.__class__")))
   (hn:PySem.W.specialIn K (.builtin "object.__class__") "__get__"=some (some (.builtin "getset_descriptor.__get__"))) (htk:PySem.W.takesIn K (.builtin "object.__class__")=some true)
   (hm:PySem.W.mroIn K C (.type "object")=some true):TyOf K H (.ref a) (.ref C)
theorem isinst_ok{x:V}{u t:Value}(I:Inv X pins σ H s)(rx:RelV x u)(ty:TyOf X.K H x t)(e:PySem.W.kitOne X.K t c=some b)(h:∀tk,Q (.bool b) {s with toks:=tk}):
  wpAny (model X.prog X.w) A (call (.builtin "isinstance") [u,c]) Q E s:=by
 cases ty with
 | non=>cases (show u=Value.none from rx); exact PySem.W.kia_one PySem.W.kitx_none I.kIn True.intro e (fun z=>nomatch z) h
 | bl y=>cases (show u=Value.bool y from rx); exact PySem.W.kia_one PySem.W.kitx_bool I.kIn True.intro e (fun z=>nomatch z) h
 | int i=>obtain ⟨t,q⟩:=(show ∃t,u=Value.int i t from rx); cases q; exact PySem.W.kia_one PySem.W.kitx_int I.kIn True.intro e (fun z=>nomatch z) h
 | str y=>obtain ⟨t,q⟩:=(show ∃t,u=Value.str y t from rx); cases q; exact PySem.W.kia_one PySem.W.kitx_str I.kIn True.intro e (fun z=>nomatch z) h
 | flt y=>obtain ⟨t,q⟩:=(show ∃t,u=Value.float y t from rx); cases q; exact PySem.W.kia_one PySem.W.kitx_float I.kIn True.intro e (fun z=>nomatch z) h
 | @lst a xs ea =>
  cases (show u=Value.ref a from rx)
  obtain ⟨_,_,n,_,h1⟩:=(show ObjOk X.prog X.w H s.heap a (.lst xs) from I.hok a _ ea)
  exact PySem.W.kia_one PySem.W.kitx_list I.kIn ⟨_,h1,rfl⟩ e (fun z=>nomatch z) h
 | @frz a ob xs ea =>
  cases (show u=Value.ref a from rx)
  obtain ⟨_,_,_,n,_,h1⟩:=(show ObjOk X.prog X.w H s.heap a (.frz ob (.lst xs)) from I.hok a _ ea)
  exact PySem.W.kia_one PySem.W.kitx_list I.kIn ⟨_,h1,rfl⟩ e (fun z=>nomatch z) h
 | @tup a xs ea =>
  cases (show u=Value.ref a from rx)
  obtain ⟨_,_,_,p⟩:=(show ObjOk X.prog X.w H s.heap a (.tup xs) from I.hok a _ ea)
  obtain ⟨o,h1,h2,_⟩:=p
  exact PySem.W.kia_one PySem.W.kitx_tuple I.kIn ⟨o,h1,h2⟩ e (fun z=>nomatch z) h
 | @dK a kvs ea =>
  cases (show u=Value.ref a from rx)
  obtain ⟨_,_,vs,_,p⟩:=(show ObjOk X.prog X.w H s.heap a (.dK kvs) from I.hok a _ ea)
  obtain ⟨o,es,ep,h1,h2,_⟩:=p
  exact PySem.W.kia_one PySem.W.kitx_dict I.kIn ⟨o,h1,h2.1⟩ e (fun z=>nomatch z) h
 | @dT a kvs ea =>
  cases (show u=Value.ref a from rx)
  obtain ⟨_,_,xs,_,o,es,ep,h1,h2,_⟩:=(show ObjOk X.prog X.w H s.heap a (.dT kvs) from I.hok a _ ea)
  exact PySem.W.kia_one PySem.W.kitx_dict I.kIn ⟨o,h1,h2.1⟩ e (fun z=>nomatch z) h
 | @ins a C dx fs ea cl ha hn htk hm =>
  cases (show u=Value.ref a from rx)
  obtain ⟨mA,O,_⟩:=ins_get I.hok ea
  obtain ⟨od,J,_⟩:=O.look
  exact PySem.W.kia_one (PySem.W.kitx_own (cl.get _) cl.hd ha hn htk hm) I.kIn J e (fun z=>nomatch z) h
end
end L2
namespace L2
open PySem PySem.Spec PyProof.Rows
structure Room(k:Nat)(A:Around):Prop where
 hd:A.handled=none
 dp:A.depth + 3 * k + 5 < recursionLimit
 un:A.units + 16 * k + 200 < cLine
 gd:A.guards=some []
theorem Room.mono{j k:Nat}{A:Around}(r:Room k A)(h:j≤k):Room j A:=⟨r.hd,by have:=r.dp; omega,by have:=r.un; omega,r.gd⟩
theorem Room.deeper{k:Nat}{A:Around}(r:Room (k + 1) A)(env:Env):Room k (A.deeper env) :=
 ⟨r.hd,by have:=r.dp; show A.depth + 1 + 3 * k + 5 < _; omega,by have:=r.un; show A.units + 3 + 16 * k + 200 < _; omega,r.gd⟩
theorem Room.in1{k:Nat}{A:Around}(r:Room (k + 1) A):Room k A.in1 :=
 ⟨r.hd,by have:=r.dp; show A.depth + 3 * k + 5 < _; omega,by have:=r.un; show A.units + 1 + 16 * k + 200 < _; omega,r.gd⟩
theorem make_depth{A:Around}{C:Addr}{us:List Value}{kw:List (Str×Value)}:(A.under (.builtin "type.__call__" ⟨.ref C::us,kw⟩)).depth=A.depth + 1:=by
 first | rfl | simp [Around.under,Code.weight,Code.isCreation,Code.isGuard,Code.isCaller,Code.frames,Code.isFrame,guardIds]
theorem make_units{A:Around}{C:Addr}{us:List Value}{kw:List (Str×Value)}:(A.under (.builtin "type.__call__" ⟨.ref C::us,kw⟩)).units=A.units + 1:=by
 first | rfl | simp [Around.under,Code.cUnits,Code.frames,Code.isFrame]
theorem Room.make{k:Nat}{A:Around}(r:Room (k + 1) A)(C:Addr)(us:List Value)(kw:List (Str×Value)):Room k (A.under (.builtin "type.__call__" ⟨.ref C::us,kw⟩)) :=
 ⟨r.hd,by have:=r.dp; rw [make_depth]; omega,by have:=r.un; rw [make_units]; omega,r.gd⟩
theorem Room.depth{k:Nat}{A:Around}(r:Room k A):A.depth < recursionLimit:=by have:=r.dp; omega
theorem Room.units{k:Nat}{A:Around}(r:Room k A):A.units + 64 < cLine:=by have:=r.un; omega
def tNil:TA:=fun _ H Q=>Q [] H
def tCons(ta:TE)(tr:TA):TA:=fun σ H Q=>ta σ H fun x H1=>tr σ H1 fun xs H2=>Q (x::xs) H2
section
variable {X:Cx} {e:Expr} {es:List Expr} {te:TE} {t:TA} {pos:Pos}
theorem pN:PA X [] tNil:=fun _ _ _ _ H Q I h=>Calls.spliced_nil ⟨[],H,I,.nil,h⟩
theorem pK(ha:PE X e te)(hr:PA X es t)(hs:starEach (e::es) X.env=(false,eval e X.env)::starEach es X.env:=by rfl):PA X (e::es) (tCons te t):=by
 intro pos pins s σ H Q I h
 rw [hs]
 show wpAny _ _ (spliced ((false,eval e X.env)::backTo pos (starEach es X.env))) _ _ s
 refine Calls.spliced_cons (thn (ha pins s σ H _ I h) fun u s1 ⟨x,H1,I1,r1,q1⟩=>?_)
 exact thn (hr pos pins s1 σ H1 _ I1 q1) fun us s2 ⟨xs,H2,I2,r2,q2⟩=>⟨x::xs,H2,I2,.cons r1 r2,q2⟩
def tTup(t:TA):TE:=fun σ H Q=>t σ H fun xs H1=>xs.length≤sizeLine∧∀p,H1 p=none→Q (.ref p) (upd H1 p (.tup xs))
def tLst(t:TA):TE:=fun σ H Q=>t σ H fun xs H1=>xs.length≤sizeLine∧∀p,H1 p=none→Q (.ref p) (upd H1 p (.lst xs))
theorem pe_tup{x1}(h:PA X es t):PE X (.Tuple es x1 pos) (tTup t):=by
 intro pins s σ H Q I hq
 refine wpAny_Tuple_spliced (thn (h pos pins s σ H _ I hq) fun us s1 ⟨xs,H1,I1,r,z,q⟩=>⟨by rw [← r.length]; exact z,?_⟩)
 have hf:H1 s1.heap.objs.size=none:=I1.hok.fresh (Nat.le_refl _)
 refine ⟨.ref s1.heap.objs.size,upd H1 s1.heap.objs.size (.tup xs),I1.laid (t':=s1.toks) (fun b u e=>Heap.get?_push_of_some _ e) (Nat.le_refl _) ?_,rfl,q _ hf⟩
 exact ⟨z,us,r,⟨_,Heap.get?_push_size _ rfl,rfl,_,rfl⟩⟩
theorem pe_lst(h:PA X es t):PE X (.List es pos) (tLst t):=by
 intro pins s σ H Q I hq
 refine wpAny_List_spliced (thn (h pos pins s σ H _ I hq) fun us s1 ⟨xs,H1,I1,r,z,q⟩=>⟨by rw [← r.length]; exact z,?_⟩)
 have hf:H1 s1.heap.objs.size=none:=I1.hok.fresh (Nat.le_refl _)
 refine ⟨.ref s1.heap.objs.size,upd H1 s1.heap.objs.size (.lst xs),I1.laid (t':=s1.toks) (fun b u e=>Heap.get?_push_of_some _ e) (Nat.le_refl _) ?_,rfl,q _ hf⟩
 exact ⟨z,us,0,r,Heap.get?_push_size _ rfl⟩
end
abbrev Sp:=List V→Hp→VK→XK→Prop
abbrev CXT:=List Env→Hp→Shared→XK→Value→Shared→Prop
structure Env0(P:Program)(w:World)(K:Fgg)(mg:Str→Option Value)(base:Heap)(A:Around)(outer:List Env)(s:Shared)(H:Hp):Prop where
 frames:A.frames=some outer
 mod:Mod K mg base
 bs:∀b o,base.get? b=some o→s.heap.get? b=some o∧H b=none
 bsz:base.objs.size≤s.heap.objs.size
 funs:s.heap.FunFrames base outer
 frf:∀b∈frs outer,H b=none
 hok:HOk P w H s.heap
 bare:AllBare s.gens
def CE(outer:List Env)(P:Program)(w:World)(H:Hp)(s:Shared)(Q:VK)(u:Value)(s':Shared):Prop :=
 ∃v H',s'.os=s.os∧AllBare s'.gens∧Un (frs outer) [] H H' s.heap s'.heap∧HOk P w H' s'.heap∧RelV v u∧Q v H'
def CR(CX:CXT)(outer:List Env)(P:Program)(w:World)(H:Hp)(s:Shared)(Q:VK)(E:XK)(r:Result)(s':Shared):Prop :=
 match r with
 | .ok (.ret u)=>CE outer P w H s Q u s'
 | .ok _=>False
 | .error e=>CX outer H s E e s'
structure FnOk(P:Program)(w:World)(K:Fgg)(mg:Str→Option Value)(base:Heap)(CX:CXT)(k:Nat)(f:Addr)(fd:FuncData)(ps:List Str)(sp:Sp):Prop where
 len:∀vs H Q E,sp vs H Q E→vs.length=ps.length
 run:∀(A:Around) (outer:List Env) (s:Shared) (H:Hp) (args:Args) (us:List Value) (vs:List V) (Q:VK) (E:XK),Room k A→Env0 P w K mg base A outer s H→BindsTo s fd args (ps.zip us)→Vals vs us→sp vs H Q E →
  codeAny (model P w) A (.call (.ref f) args) (CR CX outer P w H s Q E) s
theorem FnOk.mono{P:Program}{w:World}{K:Fgg}{mg:Str→Option Value}{base:Heap}{CX:CXT}{j k:Nat}{f:Addr}{fd:FuncData}{ps:List Str}{sp:Sp}(F:FnOk P w K mg base CX j f fd ps sp)(h:j≤k):
  FnOk P w K mg base CX k f fd ps sp:=⟨F.len,fun A outer s H args us vs Q E hr=>F.run A outer s H args us vs Q E (hr.mono h)⟩
theorem FnOk.imp{P:Program}{w:World}{K:Fgg}{mg:Str→Option Value}{base:Heap}{CX:CXT}{k:Nat}{f:Addr}{fd:FuncData}{ps:List Str}{sp sp':Sp}(F:FnOk P w K mg base CX k f fd ps sp)
  (h:∀vs H Q E,sp' vs H Q E→sp vs H Q E):FnOk P w K mg base CX k f fd ps sp' :=
 ⟨fun vs H Q E q=>F.len vs H Q E (h _ _ _ _ q),fun A outer s H args us vs Q E hr he hb hv hs=>F.run A outer s H args us vs Q E hr he hb hv (h _ _ _ _ hs)⟩
theorem Env0.make{P:Program}{w:World}{K:Fgg}{mg:Str→Option Value}{base:Heap}{A:Around}{outer:List Env}{s:Shared}{H:Hp}(e:Env0 P w K mg base A outer s H)(C:Addr)(us:List Value)(kw:List (Str×Value)):
  Env0 P w K mg base (A.under (.builtin "type.__call__" ⟨.ref C::us,kw⟩)) outer s H:=⟨by first | exact e.frames | (simpa [Around.under,Code.envs,Code.isFrame,pushEnvs] using e.frames),e.mod,e.bs,e.bsz,e.funs,e.frf,e.hok,e.bare⟩
theorem Env0.in1{P:Program}{w:World}{K:Fgg}{mg:Str→Option Value}{base:Heap}{A:Around}{outer:List Env}{s:Shared}{H:Hp}(e:Env0 P w K mg base A outer s H):
  Env0 P w K mg base A.in1 outer s H:=⟨e.frames,e.mod,e.bs,e.bsz,e.funs,e.frf,e.hok,e.bare⟩
section
variable {X:Cx} {pins:List (Addr×Obj)} {σ:St} {H:Hp} {s s':Shared}
theorem Inv.env0(I:Inv X pins σ H s):Env0 X.prog X.w X.K X.mg X.base X.A X.stack s H :=
 ⟨I.ok.frames,I.ok.mod,I.bs,Nat.le_trans I.ok.bsz I.sz,I.stack,I.stkFree,I.hok,I.bare⟩
theorem Inv.after{Q:VK}{u:Value}(I:Inv X pins σ H s)(h:CE X.stack X.prog X.w H s Q u s'):EP X pins σ Q u s':=by
 obtain ⟨v,H',os,bare,un,hok,r,q⟩:=h
 obtain ⟨hh,g,d,t,os'⟩:=s'
 obtain rfl:os'=s.os:=os
 exact ⟨v,H',I.call (h':=hh) (g':=g) (d':=d) (t':=t) (ch:=[]) un hok bare (fun b z=>absurd z (by simp)),r,q⟩
end
def tCall(sp:Sp)(dvs:List V)(E:XK)(t:TA):TE:=fun σ H Q=>t σ H fun vs H1=>sp (vs++dvs) H1 Q E
def tMeth(C:Addr)(m:Str)(sp:Sp)(dvs:List V)(E:XK)(ta:TE)(t:TA):TE:=fun σ H Q=>ta σ H fun x H1=>∃a dx fs,x=.ref a∧H1 a=some (.ins C dx fs)∧fs.lookup m=none ∧
 t σ H1 fun vs H2=>sp (x::(vs++dvs)) H2 Q E
def tMake(C:Addr)(sp:Sp)(dvs:List V)(E:XK)(t:TA):TE:=fun σ H Q=>t σ H fun vs H1=>∀x dx,H1 x=none→H1 dx=none→dx≠x →
 sp (.ref x::(vs++dvs)) (upd (upd H1 dx (.own x)) x (.ins C dx [])) (fun v H2=>v=.non∧Q (.ref x) H2) E
def Binds(K:Fgg)(fd:FuncData)(ps:List Str)(ds:List Value):Prop :=
 ∀(s:Shared) (us:List Value),K.In s.heap→(us++ds).length=ps.length→BindsTo s fd ⟨us,[]⟩ (ps.zip (us++ds))
theorem Binds.all{K:Fgg}{fd:FuncData}{ps:List Str}(h:∀us:List Value,us.length=ps.length→bindArgs fd ⟨us,[]⟩=pure (ps.zip us)):Binds K fd ps []:=fun s us _ hl=>by
 rw [List.append_nil] at hl ⊢
 exact .of_eq (h us hl)
def Passes(CX:CXT)(X:Cx)(E:XK):Prop:=∀(pins:List (Addr×Obj)) (σ:St) (H:Hp) (s:Shared) (e:Value) (s':Shared),Inv X pins σ H s→CX X.stack H s E e s'→X.xe e s'
section
variable {X:Cx} {CX:CXT} {k:Nat} {f C:Addr} {fd:FuncData} {ps:List Str} {sp:Sp} {dvs:List V} {ds:List Value} {E:XK} {x m:Str} {p pos apos:Pos} {e o:Expr} {es:List Expr} {ta:TE} {t:TA}
theorem run_fn{pins:List (Addr×Obj)}{σ:St}{H:Hp}{s:Shared}{Q:VK}{us:List Value}{vs:List V}(F:FnOk X.prog X.w X.K X.mg X.base CX k f fd ps sp)(hr:Room k X.A)(hb:Binds X.K fd ps ds)(hd:Vals dvs ds)(hx:Passes CX X E)
  (I:Inv X pins σ H s) (r:Vals vs us) (h:sp (vs++dvs) H Q E):wpAny (model X.prog X.w) X.A (call (.ref f) us) (EP X pins σ Q) X.xe s:=by
 have r2:Vals (vs++dvs) (us++ds):=r.append hd
 have hl:(us++ds).length=ps.length:=by rw [← r2.length]; exact F.len _ _ _ _ h
 refine wpAny_call (codeAny_mono (F.run X.A X.stack s H ⟨us,[]⟩ (us++ds) (vs++dvs) Q E hr I.env0 (hb s us I.kIn hl) r2 h) fun r s' hq=>?_)
 cases r with
 | error e=>exact hx pins σ H s e s' I hq
 | ok fl =>
  cases fl with
  | ret u=>exact I.after hq
  | next=>exact False.elim hq
  | brk=>exact False.elim hq
  | cont=>exact False.elim hq
theorem pe_call(F:FnOk X.prog X.w X.K X.mg X.base CX k f fd ps sp)(hr:Room k X.A)(hg:Gl X x)(hm:X.mg x=some (.ref f))(hk:PySem.W.keepIn X.K (.ref f)=true)(hb:Binds X.K fd ps ds)(hd:Vals dvs ds)(hx:Passes CX X E)
  (ha:PA X (e::es) t) (hdb:(x == ("__debug__" : Str))=false:=by decide) (he:starEach (e::es) X.env=(false,eval e X.env)::starEach es X.env:=by rfl) (hpl:(backTo pos (starEach es X.env)).any (·.1)=false:=by rfl) :
  PE X (.Call (.Name x p) (e::es) [] pos) (tCall sp dvs E t):=by
 intro pins s σ H Q I h
 refine wpAny_Call_Name_kw (ld_glob I hg hm ?_ hdb)
 refine PySem.W.callWith_K (h₀:=X.base) I.ok.mod.kin hk (thn (ha pos pins s σ H _ I h) fun us s1 ⟨vs,H1,I1,r,q⟩=>⟨I1.kIn,?_⟩) he hpl
 exact run_fn F hr hb hd hx I1 r q
theorem pe_meth{pl:Sem Bool}(he:PE X o ta)(c:Cls X.K C)(hm:Meth X.K C m f)(F:FnOk X.prog X.w X.K X.mg X.base CX k f fd ps sp)(hr:Room k X.A)(hb:Binds X.K fd ps ds)(hd:Vals dvs ds)(hx:Passes CX X E)(ha:PA X (e::es) t)
  (hst:starEach (e::es) X.env=(false,eval e X.env)::starEach es X.env:=by rfl) (hpl:(backTo pos (starEach es X.env)).any (·.1)=false:=by rfl)
  (ht:eval (.Call (.Attribute o m apos) (e::es) [] pos) X.env=(do
   let ov ← eval o X.env
   standAt apos.atName
   let (f,first) ← holding [ov] (getMethod ov m pl)
   callWith pos f first (backTo pos (starEach (e::es) X.env)) (backToKw pos (keywordEach [] X.env))):=by rfl) :
  PE X (.Call (.Attribute o m apos) (e::es) [] pos) (tMeth C m sp dvs E ta t):=by
 intro pins s σ H Q I h
 refine PySem.W.methodCall_KW (pl:=pl) (thn (he pins s σ H _ I h) fun u s1 ⟨x,H1,I1,rx,a,dx,fs,ex,ea,l,q⟩=>?_) ht
 subst ex
 obtain rfl:u=Value.ref a:=rx
 refine getmeth_ok I1 ea c hm l ?_
 refine PySem.W.callWith_K (first:=[.ref a]) (h₀:=X.base) I.ok.mod.kin hm.kp (thn (ha pos pins s1 σ H1 _ I1 q) fun us s2 ⟨vs,H2,I2,r,q2⟩=>⟨I2.kIn,?_⟩) hst hpl
 exact run_fn (us:=.ref a::us) (vs:=.ref a::vs) F hr hb hd hx I2 (.cons rfl r) q2
theorem pe_meth0{pl:Sem Bool}(he:PE X o ta)(c:Cls X.K C)(hm:Meth X.K C m f)(F:FnOk X.prog X.w X.K X.mg X.base CX k f fd ps sp)(hr:Room k X.A)(hb:Binds X.K fd ps ds)(hd:Vals dvs ds)(hx:Passes CX X E)
  (ht:eval (.Call (.Attribute o m apos) [] [] pos) X.env=(do
   let ov ← eval o X.env
   standAt apos.atName
   let (f,first) ← holding [ov] (getMethod ov m pl)
   callWith pos f first (backTo pos (starEach [] X.env)) (backToKw pos (keywordEach [] X.env))):=by rfl) :
  PE X (.Call (.Attribute o m apos) [] [] pos) (tMeth C m sp dvs E ta tNil):=by
 intro pins s σ H Q I h
 refine PySem.W.methodCall_KW (pl:=pl) (thn (he pins s σ H _ I h) fun u s1 ⟨x,H1,I1,rx,a,dx,fs,ex,ea,l,q⟩=>?_) ht
 subst ex
 obtain rfl:u=Value.ref a:=rx
 refine getmeth_ok I1 ea c hm l ?_
 exact PySem.W.callWith_K0 (first:=[.ref a]) I1.kIn hm.kp (run_fn (us:=[.ref a]) (vs:=[.ref a]) F hr hb hd hx I1 (.cons rfl .nil) q)
structure Mk(K:Fgg)(C f:Addr):Prop where
 makes:PySem.W.makesIn K C=true
 init:PySem.W.findIn K (.ref C) "__init__"=some (some (.ref f))
 fn:PySem.W.isFn K (.ref f)=true
 kp:PySem.W.keepIn K (.ref C)=true
theorem run_make{pins:List (Addr×Obj)}{σ:St}{H:Hp}{s:Shared}{Q:VK}{us:List Value}{vs:List V}(M:Mk X.K C f)(F:FnOk X.prog X.w X.K X.mg X.base CX k f fd ps sp)(hr:Room (k + 1) X.A)(hb:Binds X.K fd ps ds)(hd:Vals dvs ds)
  (hx:Passes CX X E) (I:Inv X pins σ H s) (r:Vals vs us)
  (h:∀x dx,H x=none→H dx=none→dx≠x→sp (.ref x::(vs++dvs)) (upd (upd H dx (.own x)) x (.ins C dx [])) (fun v H2=>v=.non∧Q (.ref x) H2) E) :
  wpAny (model X.prog X.w) X.A (call (.ref C) us) (EP X pins σ Q) X.xe s:=by
 have hq:=h (s.heap.objs.size + 1) s.heap.objs.size (I.hok.fresh (Nat.le_succ _)) (I.hok.fresh (Nat.le_refl _)) (Nat.ne_of_lt (Nat.lt_succ_self _))
 have I2:=Inv.made (C:=C) I
 have r2:Vals (V.ref (s.heap.objs.size + 1)::(vs++dvs)) (Value.ref (s.heap.objs.size + 1)::(us++ds)):=.cons rfl (r.append hd)
 have hl:(Value.ref (s.heap.objs.size + 1)::us++ds).length=ps.length:=by
  have e:=r2.length
  rw [F.len _ _ _ _ hq] at e
  exact e.symm
 refine wpAny_call (make_map (f:=f) I.kIn M.makes M.init (beq_iff_eq.mp M.fn) (codeAny_mono (F.run _ X.stack _ _ ⟨Value.ref (s.heap.objs.size + 1)::us,[]⟩ (Value.ref (s.heap.objs.size + 1)::(us++ds)) _ _ E (hr.make C us [])
  (I2.env0.make C us []) (hb _ (Value.ref (s.heap.objs.size + 1)::us) I2.kIn hl) r2 hq) fun r s' hq'=>?_))
 cases r with
 | error e=>exact hx pins σ _ _ e s' I2 hq'
 | ok fl =>
  cases fl with
  | ret u =>
   obtain ⟨v,H',I3,rv,ev,q3⟩:=I2.after hq'
   subst ev
   exact ⟨rv,⟨V.ref (s.heap.objs.size + 1),H',I3,rfl,q3⟩⟩
  | next=>exact False.elim hq'
  | brk=>exact False.elim hq'
  | cont=>exact False.elim hq'
theorem pe_make(M:Mk X.K C f)(F:FnOk X.prog X.w X.K X.mg X.base CX k f fd ps sp)(hr:Room (k + 1) X.A)(hg:Gl X x)(hm:X.mg x=some (.ref C))(hb:Binds X.K fd ps ds)(hd:Vals dvs ds)(hx:Passes CX X E)
  (ha:PA X (e::es) t) (hdb:(x == ("__debug__" : Str))=false:=by decide) (he:starEach (e::es) X.env=(false,eval e X.env)::starEach es X.env:=by rfl) (hpl:(backTo pos (starEach es X.env)).any (·.1)=false:=by rfl) :
  PE X (.Call (.Name x p) (e::es) [] pos) (tMake C sp dvs E t):=by
 intro pins s σ H Q I h
 refine wpAny_Call_Name_kw (ld_glob I hg hm ?_ hdb)
 refine PySem.W.callWith_K (h₀:=X.base) I.ok.mod.kin M.kp (thn (ha pos pins s σ H _ I h) fun us s1 ⟨vs,H1,I1,r,q⟩=>⟨I1.kIn,?_⟩) he hpl
 exact run_make M F hr hb hd hx I1 r q
end
section
variable {X:Cx} {CX:CXT} {k:Nat} {f C:Addr} {fd:FuncData} {ps ks:List Str} {sp:Sp} {E:XK} {x m:Str} {p pos apos kpos:Pos} {e o:Expr} {es:List Expr} {kws:List Keyword} {te ta:TE} {t tk:TA} {nm:Option Str}
structure KBinds(K:Fgg)(fd:FuncData)(ps ks:List Str)(g:List Value→List Value→List Value)(gV:List V→List V→List V):Prop where
 to:∀(s:Shared) (us ws:List Value),K.In s.heap→(g us ws).length=ps.length→BindsTo s fd ⟨us,ks.zip ws⟩ (ps.zip (g us ws))
 rel:∀{vs:List V} {us:List Value} {zs:List V} {ws:List Value},Vals vs us→Vals zs ws→Vals (gV vs zs) (g us ws)
variable {g:List Value→List Value→List Value} {gV:List V→List V→List V}
end
structure FnScope(N P:List Str)(sc:Scope):Prop where
 kind:sc.kind=.function
 co:sc.isCoroutine=false
 gen:sc.isGenerator=false
 nd:N.Nodup
 pre:N.take P.length=P
 par:∀x∈P,sc.names.lookup x=some .local∨sc.names.lookup x=some .cell
 nofree:∀y∈sc.names,y.2≠.free
theorem bindL_out{kindOf:Str→Option NameKind}{x:Str}:∀{binds:List (Str×Value)} {m:Str→Option Value},(∀v,(x,v)∉binds)→bindL kindOf binds m x=m x
 | [],_,_=>rfl
 | (n,v)::r,m,h=>by
  unfold bindL
  rw [bindL_out fun w hw=>h w (List.mem_cons_of_mem _ hw)]
  split
  ·have:x≠n:=by rintro rfl; exact h v List.mem_cons_self
   simp [this]
  ·rfl
theorem bindC_out{kindOf:Str→Option NameKind}{x:Str}:∀{binds:List (Str×Value)} {m:Str→Option Value},(∀v,(x,v)∉binds)→bindC kindOf binds m x=m x
 | [],_,_=>rfl
 | (n,v)::r,m,h=>by
  unfold bindC
  rw [bindC_out fun w hw=>h w (List.mem_cons_of_mem _ hw)]
  split
  ·rfl
  ·have:x≠n:=by rintro rfl; exact h v List.mem_cons_self
   simp [this]
theorem bindL_get{kindOf:Str→Option NameKind}{x:Str}{v:Value}:∀{P:List Str} {vs:List Value} {i:Nat} {m:Str→Option Value},P.Nodup→P[i]?=some x→vs[i]?=some v→kindOf x=some .local →
  bindL kindOf (P.zip vs) m x=some v
 | [],_,_,_,_,h,_,_=>by simp at h
 | _::_,[],_,_,_,_,h,_=>by simp at h
 | p::P,w::vs,0,m,nd,h1,h2,hk=>by
  simp at h1 h2; subst h1; subst h2
  show bindL kindOf ((p,w)::P.zip vs) m p=_
  unfold bindL
  rw [bindL_out fun v hv=>(List.nodup_cons.mp nd).1 (List.of_mem_zip hv).1,if_pos hk]
  simp
 | p::P,w::vs,i + 1,m,nd,h1,h2,hk=>by
  show bindL kindOf ((p,w)::P.zip vs) m x=_
  unfold bindL
  exact bindL_get (i:=i) (List.nodup_cons.mp nd).2 (by simpa using h1) (by simpa using h2) hk
theorem bindC_get{kindOf:Str→Option NameKind}{x:Str}{v:Value}:∀{P:List Str} {vs:List Value} {i:Nat} {m:Str→Option Value},P.Nodup→P[i]?=some x→vs[i]?=some v→kindOf x≠some .local →
  bindC kindOf (P.zip vs) m x=some v
 | [],_,_,_,_,h,_,_=>by simp at h
 | _::_,[],_,_,_,_,h,_=>by simp at h
 | p::P,w::vs,0,m,nd,h1,h2,hk=>by
  simp at h1 h2; subst h1; subst h2
  show bindC kindOf ((p,w)::P.zip vs) m p=_
  unfold bindC
  rw [bindC_out fun v hv=>(List.nodup_cons.mp nd).1 (List.of_mem_zip hv).1,if_neg hk]
  simp
 | p::P,w::vs,i + 1,m,nd,h1,h2,hk=>by
  show bindC kindOf ((p,w)::P.zip vs) m x=_
  unfold bindC
  exact bindC_get (i:=i) (List.nodup_cons.mp nd).2 (by simpa using h1) (by simpa using h2) hk
def start(N:List Str)(vs:List V):St:=vs.map some++List.replicate (N.length - vs.length) none
def cxOf(CX:CXT)(P:Program)(w:World)(K:Fgg)(mg:Str→Option Value)(base:Heap)(N:List Str)(qual:Str)(scope:Scope)(f:Addr)(cd:Value)(A:Around)(outer:List Env)(s:Shared)(H:Hp)(E:XK):Cx where
 prog:=P
 w:=w
 K:=K
 mg:=mg
 base:=base
 A:=A.deeper (envOfC qual scope s.heap.objs.size f cd)
 N:=N
 s₀:=s
 H₀:=H
 env:=envOfC qual scope s.heap.objs.size f cd
 outer:=outer
 stack:=envOfC qual scope s.heap.objs.size f cd::outer
 ex:=[]
 calm:=true
 fn:=fun _=>true
 pn:=[]
 xe:=fun e s'=>wpAny (model P w) (A.deeper (envOfC qual scope s.heap.objs.size f cd)) (leaving (envOfC qual scope s.heap.objs.size f cd) e) (fun _ s''=>CX outer H s E e s'') (fun e' s''=>CX outer H s E e' s'') s'
theorem cell_has{sc:Scope}{n:Nat}{x:Str}(h:sc.names.lookup x=some .cell):∃c,(cellsFrom n sc.names []).lookup x=some c:=by
 have q:=PySem.W.cellsFrom_some sc.names n [] (.inl h)
 exact Option.isSome_iff_exists.mp q
theorem inv_start{CX:CXT}{P:Program}{w:World}{K:Fgg}{mg:Str→Option Value}{base:Heap}{N ps:List Str}{qual:Str}{scope:Scope}{f:Addr}{cd:Value}{A:Around}{outer:List Env}{s s1:Shared}{H:Hp}{E:XK}{us:List Value}{vs:List V}
  (S:FnScope N ps scope) (hd:A.handled=none) (e0:Env0 P w K mg base A outer s H) (hl:vs.length=ps.length) (r:Vals vs us)
  (x:InCallC s s.heap.objs.size (bindL (envOfC qual scope s.heap.objs.size f cd).kindOf (ps.zip us) fun _=>none) (cellsFrom (s.heap.objs.size + 1) scope.names []) (bindC (envOfC qual scope s.heap.objs.size f cd).kindOf (ps.zip us) fun _=>none) s1) :
  Inv (cxOf CX P w K mg base N qual scope f cd A outer s H E) [] (start N vs) H s1:=by
 have hpl:ps.length≤N.length:=by have:=congrArg List.length S.pre; rw [List.length_take] at this; omega
 obtain ⟨h1,tk,rfl,hk⟩:=x.done
 have noA:∀b:Addr,b∉(cxOf CX P w K mg base N qual scope f cd A outer s H E).ex:=fun b z=>absurd (show b∈([]:List Addr) from z) (by simp)
 refine ⟨⟨e0.mod,S.kind,rfl,rfl,Nat.le_refl _,fun y z c h1 h2=>?_,fun y hy=>?_,fun y c _ h=>?_,fun _=>hd,Around.frames_deeper e0.frames,.inr ⟨rfl,rfl⟩,fun b z=>absurd z (noA b),e0.bs,e0.bsz,fun b _ _=>noA b,fun b z=>absurd z (noA b),e0.funs,e0.frf⟩,
  rfl,e0.bare,Un.kept hk,⟨_,x.toInCall.ns,fun i y v h1 h2 h3=>?_⟩,fun y c h=>⟨_,x.cell y c h⟩,e0.hok.fresh (Nat.le_refl _),fun y c h=>?_,fun p hp=>absurd (show p∈([]:List (Addr×Obj)) from hp) (by simp),e0.hok.kept hk,?_⟩
 ·exact name_of_addr x.apart (PySem.mem_of_lookup h1) (PySem.mem_of_lookup h2)
 ·have hy:scope.names.lookup y=some .cell∨scope.names.lookup y=some .free:=hy
  rcases hy with hy | hy
  ·exact cell_has hy
  ·exact absurd rfl (S.nofree _ (PySem.mem_of_lookup hy))
 ·exact Nat.le_of_lt (x.above y c (PySem.mem_of_lookup h))
 ·have hi:i < vs.length:=by
   unfold start at h2
   by_cases hi:i < vs.length
   ·exact hi
   ·rw [List.getElem?_append_right (by simpa using hi)] at h2
    rw [List.getElem?_replicate] at h2
    split at h2 <;> cases h2
  have ha:vs[i]?=some v:=by
   unfold start at h2
   rw [List.getElem?_append_left (by simpa using hi),List.getElem?_map] at h2
   cases e:vs[i]? with
   | none=>rw [e] at h2; cases h2
   | some a=>rw [e] at h2; cases h2; rfl
  obtain ⟨u,hu,rv⟩:=r.get ha
  have hp:ps[i]?=some y:=by
   rw [← S.pre,List.getElem?_take_of_lt (by omega)]; exact h1
  have ndP:ps.Nodup:=by rw [← S.pre]; exact S.nd.sublist (List.take_sublist _ _)
  refine ⟨u,rv,?_⟩
  rcases S.par y (List.mem_of_getElem? hp) with k | k
  ·exact .inl ⟨k,bindL_get ndP hp hu k⟩
  ·obtain ⟨c,e⟩:=cell_has (n:=s.heap.objs.size + 1) k
   refine .inr ⟨.inl k,c,e,?_⟩
   have q:=x.cell y c e
   rw [bindC_get ndP hp hu (by show scope.names.lookup y≠_; rw [k]; decide)] at q
   exact q
 ·exact e0.hok.fresh (Nat.le_of_lt (x.above y c (PySem.mem_of_lookup h)))
 ·unfold start
  show _=N.length
  rw [List.length_append,List.length_map,List.length_replicate]
  omega
theorem fn_of{CX:CXT}{P:Program}{w:World}{K:Fgg}{mg:Str→Option Value}{base:Heap}{k:Nat}{f:Addr}{name qual:Str}{params:Arguments}{body:List Stmt}{scope:Scope}{dV kV doc pm cdv ct oc:Value}{an od:Option Addr}
  {osl:Array (Option Value)} {N ps:List Str} {sp:Sp} (lk:K.lookup f=some ⟨oc,od,.func (PySem.W.fnOf name qual params body scope dV kV doc pm an cdv ct),osl⟩) (hcd:PySem.W.codeIn K cdv qual=true) (S:FnScope N ps scope)
  (len:∀vs H Q E,sp vs H Q E→vs.length=ps.length)
  (hbody:∀(A:Around) (outer:List Env) (s:Shared) (H:Hp) (vs:List V) (Q:VK) (E:XK),Room k (A.deeper (envOfC qual scope s.heap.objs.size f cdv))→sp vs H Q E →
   ∃t,PSs (cxOf CX P w K mg base N qual scope f cdv A outer s H E) body t∧t {nx:=fun _ H'=>Q .non H',rt:=Q} (start N vs) H) :
  FnOk P w K mg base CX (k + 1) f (PySem.W.fnOf name qual params body scope dV kV doc pm an cdv ct) ps sp:=by
 refine ⟨len,fun A outer s H args us vs Q E hr e0 hb r hsp=>?_⟩
 have hl:=len _ _ _ _ hsp
 have KX:K.In s.heap:=e0.mod.kin.keeps fun b o e=>(e0.bs b o e).1
 have lim:s.heap.NoLimit:=e0.mod.nolimit.keeps fun b o e=>(e0.bs b o e).1
 have hkind:∀y∈ps.zip us,scope.names.lookup y.1=some .local∨(scope.names.lookup y.1=some .cell∧((cellsFrom (s.heap.objs.size + 1) scope.names []).lookup y.1).isSome=true):=fun ⟨n,v⟩ hy=>by
  rcases S.par n (List.of_mem_zip hy).1 with q | q
  ·exact .inl q
  ·exact .inr ⟨q,PySem.W.cellsFrom_some _ _ _ (.inl q)⟩
 refine codeAny_call_function hr.depth (KX _ _ lk) rfl S.co S.gen rfl (PySem.W.codeRec_of KX hcd) (hb _ _ _ _ ?_)
 refine wpAny_newFunctionEnv_cells S.kind hkind fun env he s1 x=>?_
 subst he
 refine ⟨lim.keeps x.toInCall.keep,codeAny_func ?_⟩
 obtain ⟨t,ht,hq⟩:=hbody A outer s H vs Q E (hr.deeper _) hsp
 have I:Inv (cxOf CX P w K mg base N qual scope f cdv A outer s H E) [] (start N vs) H s1:=inv_start S hr.hd e0 hl r x
 refine wpAny_mono (ht [] s1 (start N vs) H _ I hq) (fun fl s' hs=>?_) fun e s' hs=>hs
 have fin:∀{σ':St} {H':Hp} {v:V} {u:Value},Inv (cxOf CX P w K mg base N qual scope f cdv A outer s H E) [] σ' H' s'→RelV v u→Q v H'→CE outer P w H s Q u s' :=
  fun {σ' H' v u} J rv q=>⟨v,H',J.os,J.bare,J.base,J.hok,rv,q⟩
 cases fl with
 | ret u =>
  obtain ⟨v,σ',H',J,rv,q⟩:=hs
  exact fin J rv q
 | next =>
  obtain ⟨σ',H',J,q⟩:=hs
  exact fin (v:=V.non) (u:=Value.none) J rfl q
 | brk =>
  obtain ⟨_,_,_,q⟩:=hs
  exact False.elim q
 | cont =>
  obtain ⟨_,_,_,q⟩:=hs
  exact False.elim q
end L2
namespace L2
open PySem PySem.Spec PyProof.Rows
section
variable {X:Cx} {x:Str} {p pos:Pos} {e:Expr} {es:List Expr} {t:TA} {id T:String} {r:List V→Hp→VK→Prop}
def tCB(r:List V→Hp→VK→Prop)(t:TA):TE:=fun σ H Q=>t σ H fun vs H1=>r vs H1 Q
theorem pe_callB(hc:CallR X (.builtin id) r)(hg:Gl X x)(hm:X.mg x=none)(hv:bootBuiltins x=some (.builtin id))(ha:PA X (e::es) t)(hn:x≠"__name__":=by decide)(hdb:(x == ("__debug__" : Str))=false:=by decide)
  (he:starEach (e::es) X.env=(false,eval e X.env)::starEach es X.env:=by rfl) (hpl:(backTo pos (starEach es X.env)).any (·.1)=false:=by rfl):PE X (.Call (.Name x p) (e::es) [] pos) (tCB r t):=by
 intro pins s σ H Q I h
 refine wpAny_Call_Name_kw (ld_blt I hg hm hv ?_ hn hdb)
 exact PyProof.Rows.callWith_builtin1 (thn (ha pos pins s σ H _ I h) fun us s1 ⟨vs,H1,I1,r1,q1⟩=>hc pins s1 σ H1 vs us Q I1 r1 q1) he hpl
theorem pe_callTy(hc:CallR X (.type T) r)(hg:Gl X x)(hm:X.mg x=none)(hv:bootBuiltins x=some (.type T))(ha:PA X (e::es) t)(hn:x≠"__name__":=by decide)(hdb:(x == ("__debug__" : Str))=false:=by decide)
  (he:starEach (e::es) X.env=(false,eval e X.env)::starEach es X.env:=by rfl) (hpl:(backTo pos (starEach es X.env)).any (·.1)=false:=by rfl):PE X (.Call (.Name x p) (e::es) [] pos) (tCB r t):=by
 intro pins s σ H Q I h
 refine wpAny_Call_Name_kw (ld_blt I hg hm hv ?_ hn hdb)
 exact PyProof.Rows.callWith_type1 (thn (ha pos pins s σ H _ I h) fun us s1 ⟨vs,H1,I1,r1,q1⟩=>hc pins s1 σ H1 vs us Q I1 r1 q1) he hpl
end
end L2
namespace HT
open PySem PyProof.Rows
section
open PySem.SeqAt
open PySem.AutoSeq1 (wpAny_loadPart')
open PySem.MeetsSeq PySem.MeetsSeq2 PySem.MeetsSeq3
end
section
variable {prog:Program} {w:World} {A:Around} {E:Value→Shared→Prop} {s:Shared}
def sIx(n d:Nat):Option Int→Nat
 | none=>d
 | some v=>if v < 0 then (v + (n:Int)).toNat else min v.toNat n
theorem sIx_none(n d:Nat):sIx n d none=d:=rfl
theorem sIx_nat(n d k:Nat):sIx n d (some (k:Int))=min k n:=by
 show (if (k:Int) < 0 then ((k:Int) + (n:Int)).toNat else min (k:Int).toNat n)=min k n
 rw [if_neg (by omega),Int.toNat_natCast]
end
end HT
namespace L2
open PySem PySem.Spec PyProof.Rows
abbrev TO:=St→Hp→(Option Int→Hp→Prop)→Prop
def PO(X:Cx)(e:Option Expr)(t:TO):Prop :=
 ∀(pins:List (Addr×Obj)) (s:Shared) (σ:St) (H:Hp) (Q:Option Int→Hp→Prop),Inv X pins σ H s→t σ H Q →
  wpAny (model X.prog X.w) X.A (evalPart e X.env) (fun u s'=>∃o H',Inv X pins σ H' s'∧IsPart u o∧Q o H') X.xe s
def tNoPart:TO:=fun _ H Q=>Q none H
def tPart(t:TE):TO:=fun σ H Q=>t σ H fun x H1=>∃i,x=.int i∧Q (some i) H1
section
variable {X:Cx} {e:Expr} {te:TE} {lo hi:Option Expr} {tl th:TO} {pos p2:Pos}
theorem po_none:PO X none tNoPart:=by
 intro pins s σ H Q I h
 rw [evalPart_none]
 exact wpAny_pure ⟨none,H,I,.none,h⟩
theorem po_some(h:PE X e te):PO X (some e) (tPart te):=by
 intro pins s σ H Q I hw
 rw [evalPart_some]
 refine thn (h pins s σ H _ I hw) fun u s1 ⟨x,H1,I1,r1,q1⟩=>?_
 obtain ⟨i,rfl,q⟩:=q1
 obtain ⟨t,rfl⟩:=r1
 exact ⟨some i,H1,I1,.int i t,q⟩
def SlR(X:Cx)(r:V→Option Int→Option Int→Hp→VK→Prop):Prop :=
 ∀(pins:List (Addr×Obj)) (s:Shared) (σ:St) (H:Hp) (x:V) (v vl vu:Value) (lo hi:Option Int) (sl:Addr) (Q:VK),Inv X pins σ H s→RelV x v→s.heap.IsSliceOf sl vl vu .none→IsPart vl lo→IsPart vu hi→r x lo hi H Q →
  ∃T id,typeLookup (.type T) "__getitem__"=pure (some (.builtin id))∧s.TypeIs v T∧wpAny (model X.prog X.w) X.A (getItem v (.ref sl)) (EP X pins σ Q) X.xe s
theorem SlR.or{r r':V→Option Int→Option Int→Hp→VK→Prop}(h:SlR X r)(h':SlR X r'):SlR X (fun x lo hi H Q=>r x lo hi H Q∨r' x lo hi H Q):=by
 intro pins s σ H x v vl vu lo hi sl Q I rx hs pl pu q
 rcases q with q | q
 ·exact h pins s σ H x v vl vu lo hi sl Q I rx hs pl pu q
 ·exact h' pins s σ H x v vl vu lo hi sl Q I rx hs pl pu q
def tSl(r:V→Option Int→Option Int→Hp→VK→Prop)(te:TE)(tl th:TO):TE:=fun σ H Q=>te σ H fun x H1=>tl σ H1 fun l H2=>th σ H2 fun u H3=>r x l u H3 Q
theorem pe_slice{r:V→Option Int→Option Int→Hp→VK→Prop}(hr:SlR X r)(he:PE X e te)(hl:PO X lo tl)(hu:PO X hi th):PE X (.Subscript e (.Slice lo hi none p2) pos) (tSl r te tl th):=by
 intro pins s σ H Q I h
 refine Subscript_ (thn (he pins s σ H _ I h) fun v s1 ⟨x,H1,I1,r1,q1⟩=>?_)
 refine wpAny_Slice (thn (hl pins s1 σ H1 _ I1 q1) fun vl s2 ⟨l,H2,I2,pl,q2⟩=>thn (hu pins s2 σ H2 _ I2 q2) fun vu s3 ⟨u,H3,I3,pu,q3⟩=>?_)
 rw [evalPart_none]
 refine wpAny_pure ?_
 have I4:Inv X pins σ H3 {s3 with heap:=s3.heap.push {cls:=.type "slice",data:=.fields #[vl,vu,.none]}}:=I3.kept (t':=s3.toks) fun b ob q=>Heap.get?_push_of_some _ q
 obtain ⟨T,id,hT,ht,hg⟩:=hr pins {s3 with heap:=s3.heap.push {cls:=.type "slice",data:=.fields #[vl,vu,.none]}} σ H3 x v vl vu l u s3.heap.objs.size Q I4 r1 (Heap.IsSliceOf.new ..) pl pu q3
 show wpAny (model X.prog X.w) X.A (subscriptTail e (.Slice lo hi none p2) v (.ref s3.heap.objs.size)) (EP X pins σ Q) X.xe {s3 with heap:=s3.heap.push {cls:=.type "slice",data:=.fields #[vl,vu,.none]}}
 exact tail_any (ops:=[.ref s3.heap.objs.size,v]) ht hT hg (by with_unfolding_all rfl)
def cutV(xs:List V)(lo hi:Option Int):List V:=(xs.drop (HT.sIx xs.length 0 lo)).take (HT.sIx xs.length xs.length hi - HT.sIx xs.length 0 lo)
theorem cutV_length(xs:List V)(lo hi:Option Int):(cutV xs lo hi).length≤xs.length:=by
 unfold cutV
 rw [List.length_take,List.length_drop]
 omega
end
end L2
namespace L2
open PySem PySem.Spec PyProof.Rows
def ixN(n:Nat)(i:Int):Option Nat:=if 0≤i then (if i < n then some i.toNat else none) else if -(n:Int)≤i then some (i + n).toNat else none
def atI{α:Type}(xs:List α)(i:Int):Option α:=(ixN xs.length i).bind fun j=>xs[j]?
theorem ixN_seq{n:Nat}{i:Int}{j:Nat}(h:ixN n i=some j):seqIndex? i n=some j∧j < n∧-(n:Int)≤i∧i < n:=by
 unfold ixN at h
 by_cases h0:0≤i
 ·rw [if_pos h0] at h
  by_cases h1:i < n
  ·rw [if_pos h1] at h
   have e:i.toNat=j:=Option.some.inj h
   exact ⟨by rw [seqIndex_of h0 h1,e],by omega,by omega,h1⟩
  ·rw [if_neg h1] at h; cases h
 ·rw [if_neg h0] at h
  by_cases h1:-(n:Int)≤i
  ·rw [if_pos h1] at h
   have e:(i + n).toNat=j:=Option.some.inj h
   exact ⟨by rw [seqIndex_neg (by omega) h1,e],by omega,h1,by omega⟩
  ·rw [if_neg h1] at h; cases h
theorem atI_get{α:Type}{xs:List α}{i:Int}{v:α}(h:atI xs i=some v):∃j,seqIndex? i xs.length=some j∧xs[j]?=some v∧j < xs.length∧-(xs.length:Int)≤i∧i < xs.length:=by
 unfold atI at h
 cases e:ixN xs.length i with
 | none=>rw [e] at h; cases h
 | some j =>
  rw [e] at h
  obtain ⟨h1,h2,h3,h4⟩:=ixN_seq e
  exact ⟨j,h1,h,h2,h3,h4⟩
theorem aN{α:Type}{xs:List α}{j:Nat}{v:α}(h:xs[j]?=some v):atI xs (j:Int)=some v:=by
 have hj:j < xs.length:=(List.getElem?_eq_some_iff.mp h).1
 have e:ixN xs.length (j:Int)=some j:=by
  unfold ixN
  rw [if_pos (by omega),if_pos (by omega)]; simp
 unfold atI; rw [e]; exact h
def PlainIx(b:Expr):Prop:=∀o i,subscripted b false o i=operate [o,i] (getItem o i)
def IxR(X:Cx)(r:R2):Prop :=
 ∀(value slice:Expr) (pins:List (Addr×Obj)) (s:Shared) (σ:St) (H:Hp) (x y:V) (v u:Value) (Q:VK),Inv X pins σ H s→RelV x v→RelV y u→r x y H Q →
  subscripted slice false v u=operate [v,u] (getItem v u)→wpAny (model X.prog X.w) X.A (subscriptTail value slice v u) (EP X pins σ Q) X.xe s
def MtR(X:Cx)(id:String)(r:V→List V→Hp→VK→Prop):Prop :=
 ∀(pins:List (Addr×Obj)) (s:Shared) (σ:St) (H:Hp) (x:V) (xs:List V) (v:Value) (us:List Value) (Q:VK),Inv X pins σ H s→RelV x v→Vals xs us→r x xs H Q →
  wpAny (model X.prog X.w) X.A (call (.builtin id) (v::us)) (EP X pins σ Q) X.xe s
section
variable {X:Cx} {a b:Expr} {ta tb:TE} {pos:Pos}
theorem IxR.or{r r':R2}(h:IxR X r)(h':IxR X r'):IxR X (fun x y H Q=>r x y H Q∨r' x y H Q):=by
 intro value slice pins s σ H x y v u Q I rx ry q hs
 rcases q with q | q
 ·exact h value slice pins s σ H x y v u Q I rx ry q hs
 ·exact h' value slice pins s σ H x y v u Q I rx ry q hs
theorem MtR.or{id:String}{r r':V→List V→Hp→VK→Prop}(h:MtR X id r)(h':MtR X id r'):MtR X id (fun x xs H Q=>r x xs H Q∨r' x xs H Q):=by
 intro pins s σ H x xs v us Q I rx rs q
 rcases q with q | q
 ·exact h pins s σ H x xs v us Q I rx rs q
 ·exact h' pins s σ H x xs v us Q I rx rs q
theorem pe_ix{r:R2}(hr:IxR X r)(ha:PE X a ta)(hb:PE X b tb)(hs:PlainIx b):PE X (.Subscript a b pos) (tOp r ta tb):=by
 intro pins s σ H Q I h
 exact Subscript_ (binT ha hb I h fun v u s2 x y H2 I2 rx ry q=>hr a b pins s2 σ H2 x y v u Q I2 rx ry q (hs _ _))
def rIxL(K:Fgg):R2:=fun x y H Q=>∃p xs i v,x=.ref p∧y=.int i∧SqL K H p xs∧atI xs i=some v∧Q v H
def rIxT(K:Fgg):R2:=fun x y H Q=>∃p xs i v,x=.ref p∧y=.int i∧SqT K H p xs∧atI xs i=some v∧Q v H
theorem ix_list:IxR X (rIxL X.K):=by
 intro value slice pins s σ H x y v u Q I rx ry h hs
 obtain ⟨p,xs,i,z,rfl,rfl,hq,he,q⟩:=h
 cases rx
 obtain ⟨t,rfl⟩:=ry
 obtain ⟨its,r,pl,hz⟩:=I.list hq
 obtain ⟨j,h1,h2,h3,h4,h5⟩:=atI_get he
 obtain ⟨w,ew,rw'⟩:=r.get h2
 have hl:=r.length
 have hn:=line63
 have fin:EP X pins σ Q w s:=⟨z,H,I,rw',q⟩
 by_cases h0:0≤i
 ·have hj:i.toNat=j:=by
   rw [seqIndex_of h0 h5] at h1
   exact Option.some.inj h1
  exact item_listR pl.isList h0 (by omega) (by rw [hj]; simpa using ew) fin hs
 ·have hj:(i + (its.toArray.size:Int)).toNat=j:=by
   rw [seqIndex_neg (by omega) h4] at h1
   rw [List.size_toArray,← hl]
   exact Option.some.inj h1
  exact subscriptTail_builtinR (x:=w) pl.isList.typeIs slot_list_getitem.lookup
   (wpAny_getItem_list_neg (Q:=fun r s'=>r=w∧EP X pins σ Q r s') pl.isList (by omega) (by rw [List.size_toArray] <;> omega) (by omega) (by rw [hj]; simpa using ew) ⟨rfl,fin⟩) hs
theorem ix_tup:IxR X (rIxT X.K):=by
 intro value slice pins s σ H x y v u Q I rx ry h hs
 obtain ⟨p,xs,i,z,rfl,rfl,hq,he,q⟩:=h
 cases rx
 obtain ⟨t,rfl⟩:=ry
 obtain ⟨its,r,pl,hz⟩:=I.tuple hq
 obtain ⟨j,h1,h2,h3,h4,h5⟩:=atI_get he
 obtain ⟨w,ew,rw'⟩:=r.get h2
 have hl:=r.length
 have hn:=line63
 have fin:EP X pins σ Q w s:=⟨z,H,I,rw',q⟩
 exact subscriptTail_builtinR (x:=w) pl.typeIs slot_tuple_getitem.lookup
  (getItem_tuple (j:=j) (Q:=fun r s'=>r=w∧EP X pins σ Q r s') pl (by omega) (by omega) (by rw [List.size_toArray,← hl]; exact h1) (by simpa using ew) ⟨rfl,fin⟩) hs
theorem mapSeq_set(its:List Value)(n j:Nat)(u:Value):Obj.mapSeq (·.setIfInBounds j u) {cls:=.type "list",data:=.seq its.toArray n}={cls:=.type "list",data:=.seq (its.set j u).toArray n}:=by
 simp [Obj.mapSeq]
theorem Inv.lst{pins:List (Addr×Obj)}{σ:St}{H:Hp}{s:Shared}{p:Addr}{xs:List V}(I:Inv X pins σ H s)(h:H p=some (.lst xs)):
  ∃(its:List Value) (n:Nat),Vals xs its∧s.heap.get? p=some {cls:=.type "list",data:=.seq its.toArray n}∧xs.length≤sizeLine:=by
 obtain ⟨z,its,n,r,e⟩:=I.hok p _ h
 exact ⟨its,n,r,e,z⟩
theorem Inv.lstUpd{pins:List (Addr×Obj)}{σ:St}{H:Hp}{s:Shared}{p:Addr}{xs ys:List V}{its its':List Value}{n n':Nat}{f:Obj→Obj}(I:Inv X pins σ H s)(h:H p=some (.lst xs))
  (ho:s.heap.get? p=some {cls:=.type "list",data:=.seq its.toArray n}) (hf:f {cls:=.type "list",data:=.seq its.toArray n}={cls:=.type "list",data:=.seq its'.toArray n'}) (r:Vals ys its') (hz:ys.length≤sizeLine) (t:Nat) :
  Inv X pins σ (upd H p (.lst ys)) {s with heap:=s.heap.update p f,toks:=t}:=by
 have e:(s.heap.update p f).get? p=some {cls:=.type "list",data:=.seq its'.toArray n'}:=by
  rw [Heap.get?_update_self f ho (by rw [hf] <;> rfl),hf]
 refine I.write (x:=p) (e:=p) (by rw [h]; trivial) (.inl rfl) (fun b u hb q=>(Heap.get?_update_other _ _ (Ne.symm hb)).trans q) ⟨_,e⟩ ?_
 exact ⟨hz,its',n',r,e⟩
def rSetL:V→V→V→Hp→(Hp→Prop)→Prop:=fun o i v H Q=>∃p xs k j,o=.ref p∧i=.int k∧H p=some (.lst xs)∧ixN xs.length k=some j∧Q (upd H p (.lst (xs.set j v)))
theorem set_list:PSet X rSetL:=by
 intro pins s σ H o i v ov iv u Q I ro ri rv h
 obtain ⟨p,xs,k,j,rfl,rfl,hp,hj,q⟩:=h
 cases ro
 obtain ⟨t,rfl⟩:=ri
 obtain ⟨its,n,r,ho,hz⟩:=I.lst hp
 obtain ⟨h1,h2,h3,h4⟩:=ixN_seq hj
 have hl:=r.length
 have hn:=line63
 have I':Inv X pins σ (upd H p (.lst (xs.set j v))) {s with heap:=s.heap.update p (Obj.mapSeq (·.setIfInBounds j u))} :=
  I.lstUpd hp ho (mapSeq_set its n j u) (r.set rv j) (by rw [List.length_set]; exact hz) s.toks
 by_cases h0:0≤k
 ·have hk:k.toNat=j:=by
   rw [seqIndex_of h0 h4] at h1
   exact Option.some.inj h1
  exact PySem.W.ki_setAt ho h0 (by omega) (by rw [List.size_toArray,← hl]; exact h4) (by rw [hk]; exact ⟨_,I',q⟩)
 ·have hk:(k + (its.toArray.size:Int)).toNat=j:=by
   rw [seqIndex_neg (by omega) h3] at h1
   rw [List.size_toArray,← hl]
   exact Option.some.inj h1
  exact PySem.W.ki_setBack ho (by omega) (by rw [List.size_toArray,← hl]; exact h3) (by omega) (by rw [hk]; exact ⟨_,I',q⟩)
theorem slice_bounds(lo hi:Option Int)(n:Nat):(sliceBounds lo hi none n).1=((HT.sIx n 0 lo:Nat):Int)∧(sliceBounds lo hi none n).2.1=((HT.sIx n n hi:Nat):Int)∧(sliceBounds lo hi none n).2.2=1:=by
 refine ⟨?_,?_,rfl⟩
 ·cases lo with
  | none=>simp [sliceBounds,HT.sIx]
  | some i =>
   simp only [sliceBounds,HT.sIx,Option.getD_none,show (1:Int) > 0 by decide,if_true]
   by_cases h:i < 0
   ·simp only [h,if_true] <;> omega
   ·simp only [h,if_false] <;> omega
 ·cases hi with
  | none=>simp [sliceBounds,HT.sIx]
  | some i =>
   simp only [sliceBounds,HT.sIx,Option.getD_none,show (1:Int) > 0 by decide,if_true]
   by_cases h:i < 0
   ·simp only [h,if_true] <;> omega
   ·simp only [h,if_false] <;> omega
theorem slicePick_cut(its:List Value)(lo hi:Option Int):slicePick its.toArray lo hi none=((its.drop (HT.sIx its.length 0 lo)).take (HT.sIx its.length its.length hi - HT.sIx its.length 0 lo)).toArray:=by
 obtain ⟨h1,h2,h3⟩:=slice_bounds lo hi its.toArray.size
 unfold slicePick
 rw [h1,h2,h3]
 simp only [sliceRange_one,pick_run,List.size_toArray] <;> rfl
def rSlL(K:Fgg):V→Option Int→Option Int→Hp→VK→Prop:=fun x lo hi H Q=>∃a xs,x=.ref a∧SqL K H a xs∧∀p,H p=none→Q (.ref p) (upd H p (.lst (cutV xs lo hi)))
theorem sl_list:SlR X (rSlL X.K):=by
 intro pins s σ H x v vl vu lo hi sl Q I rx hs pl pu h
 obtain ⟨a,xs,rfl,hx,q⟩:=h
 cases rx
 obtain ⟨its,r,ht,hz⟩:=I.list hx
 have hlen:=r.length
 refine ⟨"list",_,slot_list_getitem.lookup,ht.isList.typeIs,?_⟩
 refine wpAny_getItem_list_slice ht.isList hs pl pu .none (by simp) ?_ (by rw [List.size_toArray] <;> omega)
 rw [slicePick_cut,← hlen]
 refine ⟨.ref s.heap.objs.size,_,I.laid (t':=s.toks) (o:=.lst (cutV xs lo hi)) (fun b ob q=>Heap.get?_push_of_some _ q) (Nat.le_refl _) ?_,rfl,q _ (I.hok.fresh (Nat.le_refl _))⟩
 exact ⟨Nat.le_trans (cutV_length xs lo hi) hz,_,0,(r.drop (HT.sIx xs.length 0 lo)).take (HT.sIx xs.length xs.length hi - HT.sIx xs.length 0 lo),Heap.get?_push_size _ rfl⟩
def flatV:V→Bool
 | .non=>true
 | .bl _=>true
 | .int _=>true
 | .str _=>true
 | _=>false
def eqV:V→V→Bool
 | .non,.non=>true
 | .bl a,.bl b=>a == b
 | .bl a,.int b=>(if a then 1 else 0) == b
 | .int a,.bl b=>a == (if b then 1 else 0)
 | .int a,.int b=>a == b
 | .str a,.str b=>a == b
 | _,_=>false
theorem eqAt_V{A:Around}{s:Shared}{y x:V}{u v:Value}(ry:RelV y u)(rx:RelV x v)(fy:flatV y=true)(fx:flatV x=true):SeqAt.EqAt A s u v (eqV y x):=by
 cases y with
 | non =>
  cases ry
  cases x with
  | non=>cases rx; exact SeqAt.EqAt.same _
  | bl b=>cases rx; exact SeqAt.EqAt.none_bool b
  | int b=>obtain ⟨t,rfl⟩:=rx; exact SeqAt.EqAt.none_int b t
  | str b=>obtain ⟨t,rfl⟩:=rx; exact SeqAt.EqAt.none_str b t
  | _=>exact absurd (show false=true from fx) Bool.false_ne_true
 | bl a =>
  cases ry
  cases x with
  | non=>cases rx; exact SeqAt.EqAt.bool_none a
  | bl b=>cases rx; exact SeqAt.EqAt.bool_bool a b
  | int b=>obtain ⟨t,rfl⟩:=rx; exact SeqAt.EqAt.bool_int a b t
  | str b=>obtain ⟨t,rfl⟩:=rx; exact SeqAt.EqAt.bool_str a b t
  | _=>exact absurd (show false=true from fx) Bool.false_ne_true
 | int a =>
  obtain ⟨t',rfl⟩:=ry
  cases x with
  | non=>cases rx; exact SeqAt.EqAt.int_none a t'
  | bl b=>cases rx; exact SeqAt.EqAt.int_bool a t' b
  | int b=>obtain ⟨t,rfl⟩:=rx; exact SeqAt.EqAt.int_int a t' b t
  | str b=>obtain ⟨t,rfl⟩:=rx; exact SeqAt.EqAt.int_str a t' b t
  | _=>exact absurd (show false=true from fx) Bool.false_ne_true
 | str a =>
  obtain ⟨t',rfl⟩:=ry
  cases x with
  | non=>cases rx; exact SeqAt.EqAt.str_none a t'
  | bl b=>cases rx; exact SeqAt.EqAt.str_bool a t' b
  | int b=>obtain ⟨t,rfl⟩:=rx; exact SeqAt.EqAt.str_int a t' b t
  | str b=>obtain ⟨t,rfl⟩:=rx; exact SeqAt.EqAt.str_str a t' b t
  | _=>exact absurd (show false=true from fx) Bool.false_ne_true
 | _=>exact absurd (show false=true from fy) Bool.false_ne_true
def eqU(x:V)(u:Value):Bool:=match u with
 | .none=>eqV .non x
 | .bool b=>eqV (.bl b) x
 | .int i _=>eqV (.int i) x
 | .str z _=>eqV (.str z) x
 | _=>false
theorem eqU_of{x y:V}{u:Value}(r:RelV y u)(f:flatV y=true):eqU x u=eqV y x:=by
 cases y with
 | non=>cases r; rfl
 | bl b=>cases r; rfl
 | int i=>obtain ⟨t,rfl⟩:=r; rfl
 | str z=>obtain ⟨t,rfl⟩:=r; rfl
 | _=>exact absurd (show false=true from f) Bool.false_ne_true
theorem any_eqU{x:V}:∀{xs:List V} {us:List Value},Vals xs us→xs.all flatV=true→us.any (eqU x)=xs.any fun y=>eqV y x
 | _,_,.nil,_=>rfl
 | y::xs,u::us,.cons r t,f=>by
  rw [List.all_cons,Bool.and_eq_true] at f
  rw [List.any_cons,List.any_cons,eqU_of r f.1,any_eqU t f.2]
theorem mem_eqAt{A:Around}{s:Shared}{x:V}{v:Value}(rx:RelV x v)(fx:flatV x=true):∀{xs:List V} {us:List Value},Vals xs us→xs.all flatV=true→∀u∈us,SeqAt.EqAt A s u v (eqU x u)
 | _,_,.nil,_=>fun u hu=>by cases hu
 | y::xs,u::us,.cons r t,f=>fun u' hu=>by
  rw [List.all_cons,Bool.and_eq_true] at f
  rcases List.mem_cons.mp hu with rfl | hu
  ·rw [eqU_of r f.1]; exact eqAt_V r rx f.1 fx
  ·exact mem_eqAt rx fx t f.2 u' hu
def inV(x:V)(xs:List V):Bool:=xs.any fun y=>eqV y x
def rIn(K:Fgg)(neg:Bool):R2:=fun x y H Q=>∃p xs,y=.ref p∧(SqL K H p xs∨SqT K H p xs)∧flatV x=true∧xs.all flatV=true∧Q (.bl (if neg then !inV x xs else inV x xs)) H
theorem op_in_seq:OpR X (compareOp .In) (rIn X.K false):=by
 intro pins s σ H x y v u Q I rx ry h
 obtain ⟨p,xs,rfl,hq,fx,fs,q⟩:=h
 cases ry
 rcases hq with hq | hq
 ·obtain ⟨its,r,pl,hz⟩:=I.list hq
  refine SeqAt.in_listAt (eqU x) pl.isList (fun w hw=>mem_eqAt rx fx r fs w (by simpa using hw)) ⟨.bl _,H,I,rfl,?_⟩
  rw [show its.toArray.any (eqU x)=its.any (eqU x) by simp,any_eqU r fs]
  exact q
 ·obtain ⟨its,r,pl,hz⟩:=I.tuple hq
  refine SeqAt.in_tupleAt (eqU x) pl (fun w hw=>mem_eqAt rx fx r fs w (by simpa using hw)) ⟨.bl _,H,I,rfl,?_⟩
  rw [show its.toArray.any (eqU x)=its.any (eqU x) by simp,any_eqU r fs]
  exact q
theorem op_notIn_seq:OpR X (compareOp .NotIn) (rIn X.K true):=by
 intro pins s σ H x y v u Q I rx ry h
 obtain ⟨p,xs,rfl,hq,fx,fs,q⟩:=h
 cases ry
 rcases hq with hq | hq
 ·obtain ⟨its,r,pl,hz⟩:=I.list hq
  refine SeqAt.notIn_listAt (eqU x) pl.isList (fun w hw=>mem_eqAt rx fx r fs w (by simpa using hw)) ⟨.bl _,H,I,rfl,?_⟩
  rw [show its.toArray.any (eqU x)=its.any (eqU x) by simp,any_eqU r fs]
  exact q
 ·obtain ⟨its,r,pl,hz⟩:=I.tuple hq
  refine SeqAt.notIn_tupleAt (eqU x) pl (fun w hw=>mem_eqAt rx fx r fs w (by simpa using hw)) ⟨.bl _,H,I,rfl,?_⟩
  rw [show its.toArray.any (eqU x)=its.any (eqU x) by simp,any_eqU r fs]
  exact q
theorem call_len_seq:CallR X (.builtin "len") (fun xs H Q=>∃p ys,xs=[.ref p]∧(SqL X.K H p ys∨SqT X.K H p ys)∧Q (.int ys.length) H):=by
 intro pins s σ H xs us Q I r h
 obtain ⟨p,ys,rfl,hq,q⟩:=h
 obtain ⟨u,rfl,rx⟩:=vals1 r
 cases rx
 have hn:=line63
 rcases hq with hq | hq
 ·obtain ⟨its,r',pl,hz⟩:=I.list hq
  have hlen:=r'.length
  exact Calls.call_len_list pl.isList (by simp only [List.size_toArray] <;> omega) ⟨.int ys.length,H,I.tok _,⟨s.toks + 1,by rw [List.size_toArray,hlen]⟩,q⟩
 ·obtain ⟨its,r',pl,hz⟩:=I.tuple hq
  have hlen:=r'.length
  exact len_tuple pl (by simp only [List.size_toArray] <;> omega) ⟨.int ys.length,H,I.tok _,⟨s.toks + 1,by rw [List.size_toArray,hlen]⟩,q⟩
theorem CallR.or{f:Value}{r r':List V→Hp→VK→Prop}(h:CallR X f r)(h':CallR X f r'):CallR X f (fun xs H Q=>r xs H Q∨r' xs H Q):=by
 intro pins s σ H xs us Q I rs q
 rcases q with q | q
 ·exact h pins s σ H xs us Q I rs q
 ·exact h' pins s σ H xs us Q I rs q
theorem call_list_of:CallR X (.type "list") (fun xs H Q=>∃p ys,xs=[.ref p]∧(SqL X.K H p ys∨SqT X.K H p ys)∧∀l,H l=none→Q (.ref l) (upd H l (.lst ys))):=by
 intro pins s σ H xs us Q I r h
 obtain ⟨p,ys,rfl,hq,q⟩:=h
 obtain ⟨u,rfl,rx⟩:=vals1 r
 cases rx
 have fin:∀(its:List Value),Vals ys its→ys.length≤sizeLine→∀(h':Heap) (c':Nat),(∀b o',s.heap.get? b=some o'→h'.get? b=some o') →
   h'.get? s.heap.objs.size=some {cls:=.type "list",dict:=none,data:=.seq its.toArray c',slots:=#[]}→EP X pins σ Q (.ref s.heap.objs.size) {s with heap:=h'}:=fun its r' hz h' c' kp e =>
  ⟨.ref s.heap.objs.size,_,I.laid (t':=s.toks) kp (Nat.le_refl _) (show ObjOk X.prog X.w _ h' _ (.lst ys) from ⟨hz,its,c',r',e⟩),rfl,q _ (I.hok.fresh (Nat.le_refl _))⟩
 rcases hq with hq | hq
 ·obtain ⟨its,r',pl,hz⟩:=I.list hq
  have hlen:=r'.length
  obtain ⟨o,ho,hc,n,hd⟩:=pl.isList
  exact call_list_seq p (.inl rfl) ho hc hd (fun h' c' kp e=>fin its r' hz h' c' kp e) (by simp only [List.size_toArray] <;> omega)
 ·obtain ⟨its,r',pl,hz⟩:=I.tuple hq
  have hlen:=r'.length
  obtain ⟨o,ho,hc,n,hd⟩:=pl
  exact call_list_seq p (.inr rfl) ho hc hd (fun h' c' kp e=>fin its r' hz h' c' kp e) (by simp only [List.size_toArray] <;> omega)
theorem call_tuple_of:CallR X (.type "tuple") (fun xs H Q=>∃p ys,xs=[.ref p]∧((SqL X.K H p ys∧∀l,H l=none→Q (.ref l) (upd H l (.tup ys)))∨(SqT X.K H p ys∧Q (.ref p) H))):=by
 intro pins s σ H xs us Q I r h
 obtain ⟨p,ys,rfl,h⟩:=h
 obtain ⟨u,rfl,rx⟩:=vals1 r
 cases rx
 rcases h with ⟨hq,q⟩ | ⟨hq,q⟩
 ·obtain ⟨its,r',pl,hz⟩:=I.list hq
  have hlen:=r'.length
  refine call_tuple_list pl.isList (fun h' kp=>?_) (by simp only [List.size_toArray] <;> omega)
  have I1:Inv X pins σ H {s with heap:=h'}:=I.kept (t':=s.toks) kp
  have I2:Inv X pins σ (upd H h'.objs.size (.tup ys)) {s with heap:=h'.push {cls:=.type "tuple",data:=.seq its.toArray}} :=
   I1.laid (t':=s.toks) (fun b o e=>Heap.get?_push_of_some _ e) (Nat.le_refl _) (show ObjOk X.prog X.w _ _ _ (.tup ys) from ⟨hz,its,r',IsTup.new _ _⟩)
  exact ⟨.ref h'.objs.size,_,I2,rfl,q _ (I1.hok.fresh (Nat.le_refl _))⟩
 ·obtain ⟨its,r',pl,hz⟩:=I.tuple hq
  exact call_tuple_same pl ⟨.ref p,H,I,rfl,q⟩
def tyV(K:Fgg)(T:String)(x:V)(H:Hp):Prop:=match x with
 | .str _=>T="str"
 | .int _=>T="int"
 | .ref p=>(T="list"∧∃xs,SqL K H p xs)∨(T="tuple"∧∃o,K.lookup p=some o∧o.cls=.type "tuple"∧o.dict=none) ∨
   (T="dict"∧((∃kvs,H p=some (.dK kvs))∨∃kvs,H p=some (.dT kvs)))∨(T="set"∧∃S n,H p=some (.set S n))
 | _=>False
theorem tyV_is{pins:List (Addr×Obj)}{σ:St}{H:Hp}{s:Shared}{T:String}{x:V}{v:Value}(I:Inv X pins σ H s)(r:RelV x v)(ty:tyV X.K T x H):
  s.TypeIs v T∧∀a,v=.ref a→∃ob,s.heap.get? a=some ob∧ob.dict=none:=by
 cases x with
 | str z =>
  obtain ⟨t,rfl⟩:=r
  cases (show T="str" from ty)
  exact ⟨typeIs_str s z t,fun _ e=>nomatch e⟩
 | int i =>
  obtain ⟨t,rfl⟩:=r
  cases (show T="int" from ty)
  exact ⟨typeIs_int s i t,fun _ e=>nomatch e⟩
 | ref p =>
  cases r
  rcases ty with ⟨rfl,xs,hq⟩ | ⟨rfl,o,hk,hc,hd⟩ | ⟨rfl,hk⟩ | ⟨rfl,S,n,hk⟩
  ·obtain ⟨its,_,pl,_⟩:=I.list hq
   refine ⟨pl.isList.typeIs,fun a e=>?_⟩
   cases e
   obtain ⟨o,n,e,c,hd,_⟩:=pl
   exact ⟨o,e,hd⟩
  ·refine ⟨⟨o,I.kIn p o hk,hc⟩,fun a e=>?_⟩
   cases e
   exact ⟨o,I.kIn _ o hk,hd⟩
  ·have z:∃o,s.heap.get? p=some o∧o.ExactDict:=by
    rcases hk with ⟨kvs,hk⟩ | ⟨kvs,hk⟩
    ·obtain ⟨_,_,_,_,o,_,_,e,ex,_⟩:=I.hok p _ hk
     exact ⟨o,e,ex⟩
    ·obtain ⟨_,_,_,_,o,_,_,e,ex,_⟩:=I.hok p _ hk
     exact ⟨o,e,ex⟩
   obtain ⟨o,e,ex⟩:=z
   refine ⟨⟨o,e,ex.1⟩,fun a e2=>?_⟩
   cases e2
   exact ⟨o,e,ex.2.1⟩
  ·obtain ⟨o,_,_,_,e,ex,_⟩:=I.hok p _ hk
   refine ⟨⟨o,e,ex.1⟩,fun a e2=>?_⟩
   cases e2
   exact ⟨o,e,ex.2.1⟩
 | _=>exact False.elim ty
def tBM0(K:Fgg)(T:String)(r:V→List V→Hp→VK→Prop)(to:TE):TE:=fun σ H Q=>to σ H fun x H1=>tyV K T x H1∧r x [] H1 Q
def tBM(K:Fgg)(T:String)(r:V→List V→Hp→VK→Prop)(to:TE)(t:TA):TE:=fun σ H Q=>to σ H fun x H1=>tyV K T x H1∧t σ H1 fun xs H2=>r x xs H2 Q
variable {o e:Expr} {es:List Expr} {to:TE} {t:TA} {name:Str} {apos cpos:Pos} {T id:String} {r:V→List V→Hp→VK→Prop}
theorem pe_bm0(pa:PlainAttrs T)(slot:Slot T name id)(hty:typeOf (.builtin id)=pure (.type "method_descriptor"))(hm:MtR X id r)(ho:PE X o to)
  (hbase:attributeBase o name X.env (eval o X.env)=eval o X.env:=by rfl) (hline:(apos.endLine == cpos.line)=true:=by rfl):PE X (.Call (.Attribute o name apos) [] [] cpos) (tBM0 X.K T r to):=by
 intro pins s σ H Q I h
 refine wpAny_Call_method0_late hbase hline (thn (ho pins s σ H _ I h) fun v s1 ⟨x,H1,I1,r1,ty,q1⟩=>?_)
 obtain ⟨h1,h2⟩:=tyV_is I1 r1 ty
 exact ⟨T,id,pa,slot,hty,h1,h2,Calls.callWith_builtin rfl (PySem.evalArgs_none (hm pins s1 σ H1 x [] v [] Q I1 r1 .nil q1))⟩
theorem pe_bm(pa:PlainAttrs T)(slot:Slot T name id)(hty:typeOf (.builtin id)=pure (.type "method_descriptor"))(hm:MtR X id r)(ho:PE X o to)(ha:PA X (e::es) t)
  (hbase:attributeBase o name X.env (eval o X.env)=eval o X.env:=by rfl)
  (hfew:((backTo cpos (starEach (e::es) X.env)).all (fun x=>!x.1)&&(backToKw cpos (keywordEach [] X.env)).all (fun x=>x.1.isSome)
   && decide ((e::es).length + ([]:List Keyword).length + (if ([]:List Keyword).isEmpty then 0 else 1) < 30))=true:=by rfl)
  (hline:(apos.endLine == cpos.line)=true:=by rfl) (hs:starEach (e::es) X.env=(false,eval e X.env)::starEach es X.env:=by rfl) (hplain:(backTo cpos (starEach es X.env)).any (·.1)=false:=by rfl) :
  PE X (.Call (.Attribute o name apos) (e::es) [] cpos) (tBM X.K T r to t):=by
 intro pins s σ H Q I h
 refine wpAny_Call_method_late hbase hfew hline rfl (thn (ho pins s σ H _ I h) fun v s1 ⟨x,H1,I1,r1,ty,q1⟩=>?_)
 obtain ⟨h1,h2⟩:=tyV_is I1 r1 ty
 refine ⟨T,id,pa,slot,hty,h1,h2,?_⟩
 have hA:=ha cpos pins s1 σ H1 _ I1 q1
 rw [hs] at hA ⊢
 refine Calls.callWith_builtin (by show (false||(backTo cpos (starEach es X.env)).any (·.1))=false; rw [hplain] <;> rfl) (Calls.evalArgs_plain ?_)
 exact thn hA fun us s2 ⟨vs,H2,I2,r2,q2⟩=>hm pins s2 σ H2 x vs v us Q I2 r1 r2 q2
end
end L2
namespace L2
open PySem PySem.Spec PyProof.Rows
def MtM(X:Cx)(id:String)(r:V→List V→Hp→VK→Prop):Prop :=
 ∀(pins:List (Addr×Obj)) (s:Shared) (σ:St) (H:Hp) (x:V) (xs:List V) (v:Value) (us:List Value) (Q:VK),Inv X pins σ H s→RelV x v→Vals xs us→r x xs H Q →
  wpAny (model X.prog X.w) X.A (call (.builtin id) (v::us)) (EP X pins σ Q) X.xe s
theorem Vals.one:∀{x:V} {us:List Value},Vals [x] us→∃u,us=[u]∧RelV x u
 | _,_,.cons r .nil=>⟨_,rfl,r⟩
theorem Vals.two:∀{x y:V} {us:List Value},Vals [x,y] us→∃u v,us=[u,v]∧RelV x u∧RelV y v
 | _,_,_,.cons r (.cons q .nil)=>⟨_,_,rfl,r,q⟩
theorem Vals.zero:∀{us:List Value},Vals [] us→us=[]
 | _,.nil=>rfl
theorem Vals.dropLast{xs:List V}{us:List Value}(h:Vals xs us):Vals xs.dropLast us.dropLast:=by
 induction h with
 | nil=>exact .nil
 | cons r t ih =>
  cases t with
  | nil=>exact .nil
  | cons q t'=>exact .cons r ih
theorem Vals.eraseIdx:∀{xs:List V} {us:List Value} (i:Nat),Vals xs us→Vals (xs.eraseIdx i) (us.eraseIdx i)
 | _,_,_,.nil=>.nil
 | _,_,0,.cons _ t=>t
 | _,_,i + 1,.cons r t=>.cons r (Vals.eraseIdx i t)
theorem Vals.reverse{xs:List V}{us:List Value}(h:Vals xs us):Vals xs.reverse us.reverse:=by
 induction h with
 | nil=>exact .nil
 | cons r t ih=>rw [List.reverse_cons,List.reverse_cons]; exact Vals.append ih (.cons r .nil)
theorem Vals.rep{xs:List V}{us:List Value}(h:Vals xs us):∀k:Nat,Vals (List.replicate k xs).flatten (List.replicate k us).flatten
 | 0=>.nil
 | k + 1=>by
  rw [List.replicate_succ,List.replicate_succ,List.flatten_cons,List.flatten_cons]
  exact Vals.append h (Vals.rep h k)
theorem erase_last{α:Type}(l:List α):l.eraseIdx (l.length - 1)=l.dropLast:=by
 induction l with
 | nil=>rfl
 | cons a r ih =>
  cases r with
  | nil=>rfl
  | cons b r =>
   have e:(a::b::r).length - 1=((b::r).length - 1) + 1:=by
    have h1:(a::b::r).length=r.length + 2:=rfl
    have h2:(b::r).length=r.length + 1:=rfl
    omega
   rw [e,List.eraseIdx_cons_succ,ih]
   all_goals rfl
theorem foldl_rep(its:List Value):∀(k:Nat) (acc:List Value),
  List.foldl (fun x1 x2=>x1++x2) acc.toArray (List.replicate k its.toArray)=(acc++(List.replicate k its).flatten).toArray
 | 0,acc=>by simp
 | k + 1,acc=>by
  have e:acc.toArray++its.toArray=(acc++its).toArray:=by simp
  have e2:(acc++its)++(List.replicate k its).flatten=acc++(List.replicate (k + 1) its).flatten:=by
   rw [List.replicate_succ,List.flatten_cons,List.append_assoc]
  rw [← e2,← foldl_rep its k (acc++its),← e,List.replicate_succ,List.foldl_cons]
section
variable {X:Cx} {pins:List (Addr×Obj)} {σ:St} {H:Hp} {s:Shared} {l b:Addr} {xs ys zs:List V}
theorem Inv.lset{its its':List Value}{n:Nat}{f:Array Value→Array Value}{t':Nat}(I:Inv X pins σ H s)(hH:H l=some (.lst xs))
  (e:s.heap.get? l=some {cls:=.type "list",data:=.seq its.toArray n}) (hf:f its.toArray=its'.toArray) (hv:Vals ys its') (hz:ys.length≤sizeLine) :
  Inv X pins σ (upd H l (.lst ys)) {s with heap:=s.heap.update l (Obj.mapSeq f),toks:=t'}:=by
 have q:=PySem.IsL.update e f
 rw [hf] at q
 refine I.write (x:=l) (e:=l) (by rw [hH]; exact trivial) (.inl rfl) (fun b' u hb hu=>(Heap.get?_update_other s.heap (Obj.mapSeq f) (Ne.symm hb)).trans hu) ⟨_,q⟩ ?_
 exact ⟨hz,its',_,hv,q⟩
theorem Inv.lnew{its:List Value}{t':Nat}(I:Inv X pins σ H s)(hv:Vals ys its)(hz:ys.length≤sizeLine):
  Inv X pins σ (upd H s.heap.objs.size (.lst ys)) {s with heap:=s.heap.push {cls:=.type "list",data:=.seq its.toArray},toks:=t'} :=
 I.laid (fun _ _ q=>Heap.get?_push_of_some _ q) (Nat.le_refl _) ⟨hz,its,0,hv,Heap.get?_push_size _ rfl⟩
theorem Inv.fresh(I:Inv X pins σ H s):H s.heap.objs.size=none:=I.hok.fresh (Nat.le_refl _)
theorem Inv.lstM(I:Inv X pins σ H s)(hH:H l=some (.lst xs)):xs.length≤sizeLine∧∃(its:List Value) (n:Nat),Vals xs its∧xs.length=its.length∧s.heap.get? l=some {cls:=.type "list",data:=.seq its.toArray n}:=by
 obtain ⟨z,its,n,r,e⟩:=I.hok l _ hH
 exact ⟨z,its,n,r,r.length,e⟩
theorem notLongL{n:Nat}(h:n≤sizeLine):Builtin.List.listTooLong n=false:=by
 unfold Builtin.List.listTooLong
 exact decide_eq_false (by omega)
end
section
variable {X:Cx}
def rAppend:V→List V→Hp→VK→Prop:=fun x vs H Q=>∃l xs y,x=.ref l∧vs=[y]∧H l=some (.lst xs)∧xs.length < sizeLine∧Q .non (upd H l (.lst (xs++[y])))
theorem mt_append:MtM X "list.append" rAppend:=by
 intro pins s σ H x vs v us Q I rx rv h
 obtain ⟨l,xs,y,rfl,rfl,hH,hz,q⟩:=h
 cases rx
 obtain ⟨u,rfl,ru⟩:=rv.one
 obtain ⟨z,its,n,r,hl,e⟩:=I.lstM hH
 refine call_meets F.slot_list_append ⟨_,e,rfl⟩ F.entry_list_append (F.args_list_append_2 _ _) (PySem.list_append l its.toArray n u (by rw [List.size_toArray]; omega)) ⟨e,?_⟩
 refine ⟨.non,_,I.lset (its':=its++[u]) hH e (by simp) (r.append (.cons ru .nil)) ?_,rfl,q⟩
 rw [List.length_append,List.length_singleton]
 omega
def rExtend:V→List V→Hp→VK→Prop:=fun x vs H Q=>∃l b xs zs,x=.ref l∧vs=[.ref b]∧H l=some (.lst xs)∧H b=some (.lst zs)∧xs.length + zs.length≤sizeLine∧Q .non (upd H l (.lst (xs++zs)))
theorem mt_extend:MtM X "list.extend" rExtend:=by
 intro pins s σ H x vs v us Q I rx rv h
 obtain ⟨l,b,xs,zs,rfl,rfl,hH,hB,hz,q⟩:=h
 cases rx
 obtain ⟨u,rfl,ru⟩:=rv.one
 cases ru
 obtain ⟨z,its,n,r,hl,e⟩:=I.lstM hH
 obtain ⟨z2,its2,n2,r2,hl2,e2⟩:=I.lstM hB
 have hsz:its.toArray.size + its2.toArray.size≤sizeLine:=by rw [List.size_toArray,List.size_toArray]; omega
 have hlong:¬ (!its.toArray.isEmpty&&Builtin.List.listTooLong (its.toArray.size + its2.toArray.size))=true:=by
  rw [notLongL hsz,Bool.and_false]
  exact Bool.false_ne_true
 refine call_meets F.slot_list_extend ⟨_,e,rfl⟩ F.entry_list_extend (F.args_list_extend_2 _ _)
  (AutoSeq1.list_extend_list_list_0 l its.toArray n b its2.toArray n2 hlong (by rw [List.size_toArray]; omega) (by omega)) ⟨e,e2,?_⟩
 refine ⟨.non,_,I.lset (its':=its++its2) hH e (by simp) (r.append r2) ?_,rfl,q⟩
 rw [List.length_append]
 omega
def rPop:V→List V→Hp→VK→Prop:=fun x vs H Q=>∃l xs y,x=.ref l∧vs=[]∧H l=some (.lst xs)∧xs[xs.length - 1]?=some y∧Q y (upd H l (.lst xs.dropLast))
theorem mt_pop:MtM X "list.pop" rPop:=by
 intro pins s σ H x vs v us Q I rx rv h
 obtain ⟨l,xs,y,rfl,rfl,hH,hy,q⟩:=h
 cases rx
 have hus:=rv.zero
 subst hus
 obtain ⟨z,its,n,r,hl,e⟩:=I.lstM hH
 obtain ⟨u,hu,ru⟩:=r.get hy
 have hy':its.toArray[its.toArray.size - 1]?=some u:=by
  show its.toArray[its.length - 1]?=some u
  rw [← Array.getElem?_toList,← hl]
  exact hu
 refine call_meets F.slot_list_pop ⟨_,e,rfl⟩ F.entry_list_pop (F.args_list_pop_1 _) (MeetsSeq.list_pop_last l its.toArray n u hy' (by rw [List.size_toArray]; omega)) ⟨e,?_⟩
 refine ⟨y,_,I.lset (its':=its.dropLast) hH e ?_ r.dropLast ?_,ru,q⟩
 ·show its.toArray.eraseIdxIfInBounds (its.toArray.size - 1)=its.dropLast.toArray
  rw [List.size_toArray,List.eraseIdxIfInBounds_toArray,erase_last]
 ·rw [List.length_dropLast]
  omega
def rReverse:V→List V→Hp→VK→Prop:=fun x vs H Q=>∃l xs,x=.ref l∧vs=[]∧H l=some (.lst xs)∧Q .non (upd H l (.lst xs.reverse))
theorem mt_reverse:MtM X "list.reverse" rReverse:=by
 intro pins s σ H x vs v us Q I rx rv h
 obtain ⟨l,xs,rfl,rfl,hH,q⟩:=h
 cases rx
 have hus:=rv.zero
 subst hus
 obtain ⟨z,its,n,r,hl,e⟩:=I.lstM hH
 refine call_meets F.slot_list_reverse ⟨_,e,rfl⟩ F.entry_list_reverse (F.args_list_reverse_1 _) (AutoSeq1.list_reverse_list_0 l its.toArray n (by rw [List.size_toArray]; omega)) ⟨e,?_⟩
 refine ⟨.non,_,I.lset (its':=its.reverse) hH e (by simp) r.reverse ?_,rfl,q⟩
 rw [List.length_reverse]
 omega
def rClear:V→List V→Hp→VK→Prop:=fun x vs H Q=>∃l xs,x=.ref l∧vs=[]∧H l=some (.lst xs)∧Q .non (upd H l (.lst []))
theorem mt_clear:MtM X "list.clear" rClear:=by
 intro pins s σ H x vs v us Q I rx rv h
 obtain ⟨l,xs,rfl,rfl,hH,q⟩:=h
 cases rx
 have hus:=rv.zero
 subst hus
 obtain ⟨z,its,n,r,hl,e⟩:=I.lstM hH
 refine call_meets F.slot_list_clear ⟨_,e,rfl⟩ F.entry_list_clear (F.args_list_clear_1 _) (AutoSeq1.list_clear_list_0 l its.toArray n (by rw [List.size_toArray]; omega)) ⟨e,?_⟩
 exact ⟨.non,_,I.lset (its':=[]) (ys:=[]) hH e rfl .nil (Nat.zero_le _),rfl,q⟩
def rCat:R2:=fun x y H Q=>∃l b xs zs,x=.ref l∧y=.ref b∧H l=some (.lst xs)∧H b=some (.lst zs)∧xs.length + zs.length≤sizeLine∧∀p,H p=none→Q (.ref p) (upd H p (.lst (xs++zs)))
theorem op_cat:OpR X (binaryOp .Add) rCat:=by
 intro pins s σ H x y v u Q I rx ry h
 obtain ⟨l,b,xs,zs,rfl,rfl,hH,hB,hz,q⟩:=h
 cases rx
 cases ry
 obtain ⟨z,its,n,r,hl,e⟩:=I.lstM hH
 obtain ⟨z2,its2,n2,r2,hl2,e2⟩:=I.lstM hB
 refine PySem.P.add_list e e2 ?_ (by rw [List.size_toArray,List.size_toArray]; omega)
 have ea:its.toArray++its2.toArray=(its++its2).toArray:=by simp
 rw [ea]
 exact ⟨.ref _,_,I.lnew (t':=s.toks) (r.append r2) (by rw [List.length_append]; omega),rfl,q _ I.fresh⟩
def rRep:R2:=fun x y H Q=>∃l k xs,x=.ref l∧y=.int k∧H l=some (.lst xs)∧-(2 ^ 63)≤k∧k < 2 ^ 63∧xs.length * k.toNat≤sizeLine ∧
 ∀p,H p=none→Q (.ref p) (upd H p (.lst (List.replicate k.toNat xs).flatten))
theorem len_rep{α:Type}(xs:List α)(k:Nat):(List.replicate k xs).flatten.length=k * xs.length:=by
 induction k with
 | zero=>simp
 | succ k ih=>rw [List.replicate_succ,List.flatten_cons,List.length_append,ih,Nat.succ_mul,Nat.add_comm]
theorem op_rep:OpR X (binaryOp .Mult) rRep:=by
 intro pins s σ H x y v u Q I rx ry h
 obtain ⟨l,k,xs,rfl,rfl,hH,h1,h2,hz,q⟩:=h
 cases rx
 obtain ⟨t,rfl⟩:=ry
 obtain ⟨z,its,n,r,hl,e⟩:=I.lstM hH
 have hlen:its.toArray.size * k.toNat≤sizeLine:=by rw [List.size_toArray,← hl]; exact hz
 have hcap:¬ its.toArray.size * k.toNat > (2 ^ 63 - 1) / 8:=by
  have:(sizeLine:Nat)≤(2 ^ 63 - 1) / 8:=by decide
  omega
 have hfit:¬ (!Builtin.List.listFitsIndex k)=true:=by
  rw [fitsIndex_both h1 h2]
  exact Bool.false_ne_true
 have hlong:¬ Builtin.List.listTooLong (its.toArray.size * k.toNat)=true:=by
  rw [notLongL hlen]
  exact Bool.false_ne_true
 have hnew:List.foldl (fun x1 x2=>x1++x2) #[] (List.replicate (if its.toArray.isEmpty=true then 0 else k.toNat) its.toArray)=(List.replicate k.toNat its).flatten.toArray:=by
  have f0:∀m:Nat,List.foldl (fun x1 x2=>x1++x2) #[] (List.replicate m its.toArray)=(List.replicate m its).flatten.toArray:=fun m=>by
   have:=foldl_rep its m []
   rw [List.nil_append] at this
   exact this
  rw [f0]
  cases its with
  | nil=>simp
  | cons a r'=>rw [if_neg (by simp)]
 refine wpAny_binaryOp_repeat_ref (T:="list") (U:="int") (by decide) ⟨_,e,rfl⟩ (fun s'=>typeIs_int s' k t) noFill_list_mul F.fills_int_mul F.slot_int_rmul repeat_list F.slot_int_index.lookup
  (call_meets F.slot_int_rmul (typeIs_int s k t) F.entry_int_rmul (F.args_int_rmul_2 _ _) (int___rmul___int_list k t l its.toArray n)
   ⟨e,rfl,⟨_,e,rfl⟩,call_meets F.slot_list_mul ⟨_,e,rfl⟩ F.entry_list_mul (F.args_list_mul_2 _ _) (AutoListH.list___mul___list_int_3 l its.toArray n k t hfit hcap hlong) ⟨e,?_⟩⟩)
 rw [hnew]
 exact ⟨.ref _,_,I.lnew (t':=s.toks) (r.rep k.toNat) (by rw [len_rep,Nat.mul_comm]; exact hz),rfl,q _ I.fresh⟩
end
section
variable {prog:Program} {w:World} {A:Around} {E:Value→Shared→Prop} {s:Shared}
set_option maxRecDepth 100000 in
end
section
variable {X:Cx}
end
end L2
namespace Att
open PySem PySem.W PySem.Calls PyProof.Rows
theorem ints_of_wellAll{P:Params}{h:Heap}:∀(ns:List Int) (vs:List Value),WellAll P h vs (ns.map WData.int)→IntsAre vs ns:=by
 intro ns
 induction ns with
 | nil =>
  intro vs w
  rw [List.map_nil] at w
  cases w
  exact .nil
 | cons n ns ih =>
  intro vs w
  rw [List.map_cons] at w
  cases w with
  | cons a b =>
   cases a
   exact .cons _ _ (ih _ b)
theorem script_of{l:OpenLaw}{n:Nat}(hn:l.most=some n){P:Params}{h:Heap}{args:List WData}{vals:List Value}
  (hpre:l.row.toRowW.claim.pre args=true) (hwl:WellAll P h vals args) :
  ∃a vs ns,vals=[Value.ref a]∧args=[WData.list (ns.map WData.int)]∧h.get? a=some {cls:=.type "list",data:=.seq vs.toArray}∧IntsAre vs ns∧ns.length≤n:=by
 have hsh:WShape.hasAll [] args [.list .int]=true:=(pre_splitW hpre).1
 have hc:l.pre.holds [] {args:=args}=true:=(pre_splitW hpre).2
 obtain ⟨d,r,rfl,h1,h2⟩:=hasAllW_cons hsh
 obtain rfl:=hasAllW_nil h2
 obtain ⟨xs,rfl,h3⟩:=hasW_list h1
 obtain ⟨ns,rfl⟩:=items_int h3
 have hlen:ns.length≤n:=by
  unfold OpenLaw.pre at hc
  have h4:(WTm.not (.lt (.lit (.int (n:Int))) (.len (.arg 0)))).holds [] {args:=[.list (ns.map .int)]}=true:=by
   have h4:=(holds_andW hc).1
   rw [hn] at h4
   exact h4
  have h5:=condW_of h4 (w_not (w_lt w_lit (w_len_list (w_arg rfl))))
  rw [List.length_map] at h5
  refine Nat.le_of_not_lt fun q=>?_
  have q':(n:Int) < ((ns.length:Nat):Int):=by omega
  first
   | (rw [decide_eq_true q'] at h5; exact absurd h5 (by decide))
   | (simp at h5; omega)
 cases hwl with
 | cons w1 w2 =>
  cases w2
  cases w1 with
  | list ho hall=>exact ⟨_,_,ns,rfl,rfl,ho,ints_of_wellAll ns _ hall,hlen⟩
theorem post_true(l:OpenLaw)(args:List WData):l.row.toRowW.claim.post args (.bool true) args=true :=
 postW_of (r:=l.row.toRowW) (X:=(true == true))
  (show WShape.has [] (.bool true) .bool=true by first | rfl | decide | simp [WShape.has,WShape.arms,WShape.armsAll])
  (show (WTm.eq .res (.lit (.bool true))).value [] {args:=args,res:=some (.bool true),after:=args}=some (.bool (true == true)) from w_eq_bool (w_res rfl) w_lit) rfl
theorem attach_call{l:OpenLaw}{n:Nat}{q:Program}{loose:List Str}{XP:(Str→Option Value)→Heap→Prop}{YP:World→Heap→Prop}{d:DefRec}
  (hn:l.most=some n) (hdf:d.params.defaults=[])
  (call:∀(w:World) (s₀ s₁:Shared) (mg mb:Str→Option Value) (fa:Addr) (o:Obj) (pm cd doc:Value) (a:Addr) (vs:List Value) (ns:List Int),
   Ground q loose [] XP w s₀ mg mb s₁.heap→YP w s₁.heap →
   s₁.heap.get? fa=some o→o.data=.func (docDef d.name d.params d.body d.scope pm cd doc)→s₁.heap.CodeRec cd d.name→mg d.name=some (.ref fa) →
   s₁.heap.get? a=some {cls:=.type "list",data:=.seq vs.toArray}→IntsAre vs ns→ns.length≤n→s₁.gens=#[] →
   codeAny (model l.prog w) callerA (.call (.ref fa) ⟨[.ref a],[]⟩) (fun r s'=>r=.ok (.ret (.bool true))∧OldK s₁.heap s'.heap∧s'.os=s₁.os∧AllBare s'.gens) s₁) :
  WalkO q loose XP YP l.row.toRowW d [] (fun f vs=>PySem.call f vs):=by
 intro w s₀ s₁ mg mb G Y fa o pm cd doc dV kV ho hd hcd hD hmg hg args vals as hpre hlay hrd hwl hlo
 obtain rfl:dV=.none:=Dflts.none hD hdf
 obtain rfl:kV=.none:=Dflts.noKw hD
 obtain ⟨a,vs,ns,rfl,rfl,hobj,hints,hlen⟩:=script_of hn hpre hwl
 refine enter_call (codeAny_mono (call w s₀ s₁ mg mb fa o pm cd doc a vs ns G Y ho (fd_plain hd) hcd hmg hobj hints hlen hg) fun r s' hq=>?_)
 obtain ⟨rfl,h2,h3,h4⟩:=hq
 exact ⟨.inl ⟨.bool true,.bool true,[],rfl,fun _=>rfl,.bool true,post_true l _,fun _=>⟨List.Pairwise.nil,fun _ hm=>(nomatch hm)⟩⟩,h2,h3,h4⟩
section
variable {prog:Program} {w:World} {A:Around} {E:Value→Shared→Prop} {s:Shared} {K:Frag}
def ledger(h:Heap)(L d:Addr):List (Addr×Obj):=(List.range h.objs.size).filterMap fun a=>if a=L∨a=d then none else (h.get? a).map fun o=>(a,o)
end
end Att
namespace L2
open PySem PySem.Spec PyProof.Rows
theorem vals_ints:∀{vs:List Value} {ns:List Int},IntsAre vs ns→Vals (ns.map V.int) vs
 | _,_,.nil=>.nil
 | _,_,.cons n t h=>.cons ⟨t,rfl⟩ (vals_ints h)
def Only(H:Hp):Prop:=∀b,H b=none∨∃o xs,H b=some (.frz o (.lst xs))
theorem law_call{P:Program}{w:World}{K:Fgg}{mg mb:Str→Option Value}{CX:CXT}{k:Nat}{fa a:Addr}{fd:FuncData}{x:Str}{sp:Sp}{s₁:Shared}{vs:List Value}{ns:List Int}
  (KX:K.In s₁.heap) (hns:s₁.heap.Ns mainGlobals mg) (hb:s₁.heap.Ns builtinsNs mb) (hbb:∀x:Str,x≠"__name__"→mb x=bootBuiltins x) (hlim:s₁.heap.NoLimit) (hg:s₁.gens=#[])
  (ha:s₁.heap.get? a=some {cls:=.type "list",data:=.seq vs.toArray}) (hi:IntsAre vs ns) (hl:ns.length≤sizeLine) (hr:Room k callerA)
  (F:∀base:Heap,K.In base→base.Ns mainGlobals mg→FnOk P w K mg base CX k fa fd [x] sp) (hbind:∀(s:Shared) (u:Value),BindsTo s fd ⟨[u],[]⟩ [(x,u)])
  (hsp:∀H:Hp,Only H→SqL K H a (ns.map V.int)→sp [.ref a] H (fun v _=>v=.bl true) fun _ _ _=>False)
  (hCX:∀H e s',CX [] H s₁ (fun _ _ _=>False) e s'→False) :
  codeAny (model P w) callerA (.call (.ref fa) ⟨[.ref a],[]⟩) (fun r s'=>r=.ok (.ret (.bool true))∧OldK s₁.heap s'.heap∧s'.os=s₁.os∧AllBare s'.gens) s₁:=by
 have rv:=vals_ints hi
 have lenV:=hi.length
 have core:∀H:Hp,Only H→SqL K H a (ns.map V.int)→HOk P w H s₁.heap→(∀b,H b≠none→b=a)→(H a≠none→K.lookup a=none) →
   codeAny (model P w) callerA (.call (.ref fa) ⟨[.ref a],[]⟩) (fun r s'=>r=.ok (.ret (.bool true))∧OldK s₁.heap s'.heap∧s'.os=s₁.os∧AllBare s'.gens) s₁:=by
  intro H hO hS hok hA hK
  have base_of:∀{b:Addr} {o:Obj},s₁.heap.get? b=some o→H b=none→(hidT s₁.heap H).get? b=some o:=fun e n=>hidT_get e n
  have noA:∀{b:Addr} {o:Obj} {es:Array DictEntry} {ep:Nat},s₁.heap.get? b=some o→o.data=.dict es ep→H b=none:=fun {b o es ep} e d=>by
   cases q:H b with
   | none=>rfl
   | some u =>
    have e':b=a:=hA b (by rw [q]; simp)
    subst e'
    rw [ha] at e; cases e
    have d':Data.seq vs.toArray _=Data.dict es ep:=d
    cases d'
  have nsK:∀{b:Addr} {m:Str→Option Value},s₁.heap.Ns b m→(hidT s₁.heap H).Ns b m:=fun {b m} ⟨o,es,ep,e,d,r⟩=>⟨o,es,ep,base_of e (noA e d),d,r⟩
  have hKb:K.In (hidT s₁.heap H):=fun b o e=>base_of (KX b o e) (by
   cases q:H b with
   | none=>rfl
   | some u =>
    have e':b=a:=hA b (by rw [q]; simp)
    subst e'
    rw [hK (by rw [q]; simp)] at e; cases e)
  have hM:Mod K mg (hidT s₁.heap H):=⟨hKb,nsK hns,⟨mb,nsK hb,hbb⟩,let ⟨mc,h1,h2⟩:=hlim; ⟨mc,nsK h1,h2⟩⟩
  have e0:Env0 P w K mg (hidT s₁.heap H) callerA [] s₁ H:=⟨rfl,hM,fun b o e=>of_hidT e,Nat.le_of_eq (hidT_size _ _),trivial,fun b hb=>absurd (show b∈([]:List Addr) from hb) (by simp),hok,.of_eq hg⟩
  refine codeAny_mono ((F _ hKb (nsK hns)).run callerA [] s₁ H ⟨[.ref a],[]⟩ [.ref a] [.ref a] _ _ hr e0 (hbind s₁ (.ref a)) (.cons rfl .nil) (hsp H hO hS)) fun r s' h=>?_
  cases r with
  | error e=>exact (hCX H e s' h).elim
  | ok fl =>
   cases fl with
   | next=>exact False.elim h
   | brk=>exact False.elim h
   | cont=>exact False.elim h
   | ret u =>
    obtain ⟨v,H',os,bare,un,hok',r',q⟩:=h
    have q':v=.bl true:=q
    subst q'
    obtain rfl:u=Value.bool true:=r'
    refine ⟨rfl,OldK.of_keep fun b o e=>?_,os,bare⟩
    cases q:H b with
    | none=>exact un.keep b o e q (by intro z; exact absurd (show b∈([]:List Addr) from z) (by simp)) (by simp)
    | some u =>
     rcases hO b with z | ⟨ob,xs,z⟩
     ·rw [q] at z; cases z
     ·have z2:=un.frzs b ob _ z
      obtain ⟨e1,_⟩:=hok b _ z
      obtain ⟨e2,_⟩:=hok' b _ z2
      rw [e] at e1; cases e1
      exact e2
 cases hk:K.lookup a with
 | some o =>
  have e:=KX a o hk
  rw [ha] at e
  cases e
  refine core (fun _=>none) (fun _=>.inl rfl) (.inr ⟨_,vs.toArray,_,hk,rfl,rfl,rfl,by rw [List.size_toArray,lenV]; exact hl,by simpa using rv⟩) (fun b u z=>by have z':(none:Option HO)=some u:=z; cases z') (fun b z=>absurd rfl z) fun z=>absurd rfl z
 | none =>
  refine core (fun b=>if b=a then some (.frz {cls:=.type "list",data:=.seq vs.toArray} (.lst (ns.map V.int))) else none) (fun b=>?_) (.inl (.inr ⟨{cls:=.type "list",data:=.seq vs.toArray},if_pos rfl⟩)) (fun b u z=>?_) (fun b z=>?_) fun _=>hk
  ·by_cases hb:b=a
   ·exact .inr ⟨_,_,if_pos hb⟩
   ·exact .inl (if_neg hb)
  ·by_cases hb:b=a
   ·have z':=(if_pos hb).symm.trans z
    cases z'
    subst hb
    exact ⟨ha,by rw [List.length_map]; exact hl,vs,_,rv,ha⟩
   ·have z':=(if_neg hb).symm.trans z
    cases z'
  ·by_cases hb:b=a
   ·exact hb
   ·exact absurd (if_neg hb) z
end L2
namespace L2
open PySem PySem.Spec PyProof.Rows
abbrev KOf{K:Fgg}{h:Heap}(_:K.In h):Fgg:=K
theorem walk_of{l:PySem.W.OpenLaw}{n k:Nat}{q:Program}{loose:List Str}{XP:(Str→Option Value)→Heap→Prop}{YP:World→Heap→Prop}{d:DefRec}{K:Params→Fgg}{CX:World→CXT}{sp:World→Sp}{x:Str}
  (hn:l.most=some n) (hn2:n≤sizeLine) (hdf:d.params.defaults=[]) (hr:Room k callerA)
  (hY:∀(w:World) (h:Heap),YP w h→(K w.params).In h)
  (F:∀(w:World) (mg:Str→Option Value) (fa:Addr) (h:Heap),(K w.params).In h→h.Ns mainGlobals mg→mg d.name=some (.ref fa) →
   ∃fd:FuncData,(∀(s:Shared) (u:Value),BindsTo s fd ⟨[u],[]⟩ [(x,u)]) ∧
    ∀base:Heap,(K w.params).In base→base.Ns mainGlobals mg→FnOk l.prog w (K w.params) mg base (CX w) k fa fd [x] (sp w))
  (hsp:∀(w:World) (H:Hp) (a:Addr) (ns:List Int),ns.length≤n→Only H→SqL (K w.params) H a (ns.map V.int)→sp w [.ref a] H (fun v _=>v=.bl true) fun _ _ _=>False)
  (hCX:∀(w:World) (H:Hp) (s:Shared) (e:Value) (s':Shared),CX w [] H s (fun _ _ _=>False) e s'→False) :
  PySem.W.WalkO q loose XP YP l.row.toRowW d [] (fun f vs=>PySem.call f vs):=by
 refine Att.attach_call hn hdf fun w s₀ s₁ mg mb fa o pm cd doc a vs ns G Y ho hd hcd hmg hobj hints hlen hg=>?_
 have KX:=hY w _ Y
 obtain ⟨fd,hb,hF⟩:=F w mg fa _ KX G.T.g hmg
 exact law_call KX G.T.g G.T.b G.T.builtins G.T.nolimit hg hobj hints (Nat.le_trans hlen hn2) hr hF hb (fun H hO hS=>hsp w H a ns hlen hO hS) fun H e s'=>hCX w H s₁ e s'
end L2
namespace L2
open PySem PySem.Spec PyProof.Rows
def iC(s:Stmt)(j:Nat):Stmt:=match s with
 | .ClassDef _ _ _ body _ _ _ _ _ _ _=>body.getD j (.Pass ⟨0,0,0,0⟩)
 | _=>.Pass ⟨0,0,0,0⟩
def dA(s:Stmt):Arguments:=match s with
 | .FunctionDef _ a _ _ _ _ _ _ _ _=>a
 | _=>{posonlyargs:=[],args:=[],vararg:=none,kwonlyargs:=[],kw_defaults:=[],kwarg:=none,defaults:=[]}
def dB(s:Stmt):List Stmt:=match s with
 | .FunctionDef _ _ b _ _ _ _ _ _ _=>b
 | _=>[]
def dS(s:Stmt):Scope:=match s with
 | .FunctionDef _ _ _ _ _ _ sc _ _ _=>sc
 | _=>{kind:=.function,names:=[],isGenerator:=false,isCoroutine:=false}
abbrev CX0:CXT:=fun _ _ _ _ _ _=>False
abbrev E0:XK:=fun _ _ _=>False
theorem pass0{X:Cx}:Passes CX0 X E0:=fun _ _ _ _ _ _ _ h=>h.elim
structure Fun(K:Fgg)(x qual:Str)(st:Stmt)(f:Addr)(fd:FuncData):Prop where
 ex:∃(oc:Value) (od:Option Addr) (kV doc pm:Value) (an:Option Addr) (cdv ct:Value) (osl:Array (Option Value)),
  fd=PySem.W.fnOf x qual (dA st) (dB st) (dS st) .none kV doc pm an cdv ct∧K.lookup f=some ⟨oc,od,.func fd,osl⟩∧PySem.W.codeIn K cdv qual=true
 kp:PySem.W.keepIn K (.ref f)=true
section
variable {P:Program} {w:World} {K:Fgg} {mg:Str→Option Value} {base:Heap}
theorem Fun.ok{x qual:Str}{st:Stmt}{f:Addr}{fd:FuncData}{N ps:List Str}{k:Nat}{sp:Sp}(F:Fun K x qual st f fd)(S:FnScope N ps (dS st))(len:∀vs H Q E,sp vs H Q E→vs.length=ps.length)
  (hbody:∀(cdv:Value) (A:Around) (outer:List Env) (s:Shared) (H:Hp) (vs:List V) (Q:VK) (E:XK),Room k (A.deeper (envOfC qual (dS st) s.heap.objs.size f cdv))→sp vs H Q E →
   ∃t,PSs (cxOf CX0 P w K mg base N qual (dS st) f cdv A outer s H E).nox (dB st) t∧t {nx:=fun _ H'=>Q .non H',rt:=Q} (start N vs) H):FnOk P w K mg base CX0 (k + 1) f fd ps sp:=by
 obtain ⟨oc,od,kV,doc,pm,an,cdv,ct,osl,rfl,lk,hcd⟩:=F.ex
 refine fn_of lk hcd S len fun A outer s H vs Q E hr hsp=>?_
 obtain ⟨t,h,q⟩:=hbody cdv A outer s H vs Q E hr hsp
 exact ⟨t,h.nox,q⟩
theorem Fun.binds{x qual:Str}{st:Stmt}{f:Addr}{fd:FuncData}{ps:List Str}(F:Fun K x qual st f fd)
  (h:∀(kV doc pm:Value) (an:Option Addr) (cdv ct:Value) (us:List Value),us.length=ps.length→bindArgs (PySem.W.fnOf x qual (dA st) (dB st) (dS st) .none kV doc pm an cdv ct) ⟨us,[]⟩=pure (ps.zip us)):Binds K fd ps []:=by
 obtain ⟨oc,od,kV,doc,pm,an,cdv,ct,osl,rfl,lk,hcd⟩:=F.ex
 exact .all (h kV doc pm an cdv ct)
theorem fun_mk{x qual:Str}{st:Stmt}{f:Addr}{oc:Value}{od an:Option Addr}{osl:Array (Option Value)}{kV doc pm cdv ct:Value}(l:K.lookup f=some ⟨oc,od,.func (PySem.W.fnOf x qual (dA st) (dB st) (dS st) .none kV doc pm an cdv ct),osl⟩)
  (c:PySem.W.codeIn K cdv qual=true) (k:PySem.W.keepIn K (.ref f)=true):Fun K x qual st f (PySem.W.fnOf x qual (dA st) (dB st) (dS st) .none kV doc pm an cdv ct):=⟨⟨oc,od,kV,doc,pm,an,cdv,ct,osl,rfl,l,c⟩,k⟩
end
theorem sK{n:Nat}(h:n≤1000):n < sizeLine:=Nat.lt_of_le_of_lt h (by decide)
section
variable {X:Cx}
theorem pv(i:Nat){x:Str}{pos:Pos}(hN:X.N[i]?=some x:=by rfl)(hv:Vis X.env.scope x:=by first | exact Or.inl rfl | exact Or.inr (Or.inl rfl) | exact Or.inr (Or.inr rfl))(hd:(x == ("__debug__" : Str))=false:=by decide)
  (hcd:(x == ("__classdict__" : Str))=false:=by decide):PE X (.Name x pos) (tVar i):=pe_var hN hv hd hcd
end
theorem iteF{A B:Prop}(h:B):if false=true then A else B:=by
 rw [if_neg Bool.false_ne_true]
 exact h
theorem iteT{A B:Prop}(h:A):if true=true then A else B:=by
 rw [if_pos rfl]
 exact h
theorem ite2{c A B:Prop}[Decidable c](h1:c→A)(h2:¬ c→B):if c then A else B:=by
 by_cases h:c
 ·rw [if_pos h]
  exact h1 h
 ·rw [if_neg h]
  exact h2 h
def Same(H H':Hp):Prop:=∀b o,H b=some o→H' b=some o
theorem Same.refl(H:Hp):Same H H:=fun _ _ h=>h
theorem Same.trans{H H1 H2:Hp}(a:Same H H1)(b:Same H1 H2):Same H H2:=fun c o h=>b c o (a c o h)
theorem Same.free{H H':Hp}(e:Same H H'){l:Addr}(h:H' l=Option.none):H l=Option.none:=by
 cases q:H l with
 | none=>rfl
 | some o =>
  rw [e l o q] at h
  cases h
theorem Same.seq{K:Fgg}{H H':Hp}{a:Addr}{xs:List V}(e:Same H H')(h:SqL K H a xs):SqL K H' a xs:=by
 rcases h with (h | ⟨o,h⟩) | h
 ·exact .inl (.inl (e _ _ h))
 ·exact .inl (.inr ⟨o,e _ _ h⟩)
 ·exact .inr h
end L2
namespace L2
open PySem PySem.Spec
theorem bt_len:bootBuiltins "len"=some (.builtin "len"):=by decide +kernel
theorem bt_isinstance:bootBuiltins "isinstance"=some (.builtin "isinstance"):=by decide +kernel
theorem bt_max:bootBuiltins "max"=some (.builtin "max"):=by decide +kernel
theorem bt_min:bootBuiltins "min"=some (.builtin "min"):=by decide +kernel
theorem bt_all:bootBuiltins "all"=some (.builtin "all"):=by decide +kernel
theorem bt_int:bootBuiltins "int"=some (.type "int"):=by decide +kernel
theorem bt_bool:bootBuiltins "bool"=some (.type "bool"):=by decide +kernel
theorem bt_list:bootBuiltins "list"=some (.type "list"):=by decide +kernel
theorem bt_tuple:bootBuiltins "tuple"=some (.type "tuple"):=by decide +kernel
theorem bt_zip:bootBuiltins "zip"=some (.type "zip"):=by decide +kernel
theorem bt_enumerate:bootBuiltins "enumerate"=some (.type "enumerate"):=by decide +kernel
end L2
namespace L2
open PySem PySem.Spec PyProof.Rows
theorem ifN{c A B:Prop}[Decidable c](h:¬ c)(b:B):if decide c=true then A else B:=by rw [decide_eq_false h]; exact iteF b
theorem ifY{c A B:Prop}[Decidable c](h:c)(a:A):if decide c=true then A else B:=by rw [decide_eq_true h]; exact iteT a
theorem ifNn{c A B:Prop}[Decidable c](h:c)(b:B):if (!decide c)=true then A else B:=by rw [decide_eq_true h]; exact iteF b
theorem ifB{b:Bool}{A B:Prop}(h:b=true)(a:A):if b=true then A else B:=by rw [h]; exact iteT a
theorem ifC{b:Bool}{A B:Prop}(h:b=false)(a:B):if b=true then A else B:=by rw [h]; exact iteF a
structure Has(P:Program)(w:World)(K:Fgg)(mg:Str→Option Value)(base:Heap)(CX:CXT)(x:Str)(k:Nat)(ps:List Str)(sp:Sp):Prop where
 ex:∃(f:Addr) (fd:FuncData),FnOk P w K mg base CX k f fd ps sp∧Binds K fd ps []∧PySem.W.keepIn K (.ref f)=true∧mg x=some (.ref f)
section
variable {X:Cx} {x:Str} {k:Nat} {ps:List Str} {sp:Sp} {e:Expr} {es:List Expr} {t:TA} {p pos:Pos}
theorem pe_ch(h:Has X.prog X.w X.K X.mg X.base CX0 x k ps sp)(hr:Room k X.A)(hg:Gl X x)(ha:PA X (e::es) t)(hdb:(x == ("__debug__" : Str))=false:=by decide)
  (he:starEach (e::es) X.env=(false,eval e X.env)::starEach es X.env:=by rfl) (hpl:(backTo pos (starEach es X.env)).any (·.1)=false:=by rfl) :
  PE X (.Call (.Name x p) (e::es) [] pos) (tCall sp [] E0 t):=by
 obtain ⟨f,fd,F,b,kp,m⟩:=h.ex
 exact pe_call F hr hg m kp b .nil pass0 ha hdb he hpl
end
theorem Same.tup{K:Fgg}{H H':Hp}{a:Addr}{xs:List V}(e:Same H H')(h:SqT K H a xs):SqT K H' a xs:=by
 rcases h with (h | ⟨o,h⟩) | h
 ·exact .inl (.inl (e _ _ h))
 ·exact .inl (.inr ⟨o,e _ _ h⟩)
 ·exact .inr h
inductive RdV(K:Fgg)(H:Hp):V→PyData→Prop
 | non:RdV K H .non .none
 | bl (b:Bool):RdV K H (.bl b) (.bool b)
 | int (i:Int):RdV K H (.int i) (.int i)
 | str (x:Str):RdV K H (.str x) (.str x)
 | lst {a:Addr} {xs:List V} {ds:List PyData} (h:SqL K H a xs) (hl:xs.length=ds.length) (hi:∀(i:Nat) (x:V) (d:PyData),xs[i]?=some x→ds[i]?=some d→RdV K H x d):RdV K H (.ref a) (.list ds)
 | tup {a:Addr} {xs:List V} {ds:List PyData} (h:SqT K H a xs) (hl:xs.length=ds.length) (hi:∀(i:Nat) (x:V) (d:PyData),xs[i]?=some x→ds[i]?=some d→RdV K H x d):RdV K H (.ref a) (.tuple ds)
def RdAll(K:Fgg)(H:Hp)(xs:List V)(ds:List PyData):Prop:=xs.length=ds.length∧∀(i:Nat) (x:V) (d:PyData),xs[i]?=some x→ds[i]?=some d→RdV K H x d
theorem RdAll.nil{K:Fgg}{H:Hp}:RdAll K H [] []:=⟨rfl,fun i x d h=>by simp at h⟩
theorem RdAll.cons{K:Fgg}{H:Hp}{x:V}{d:PyData}{xs:List V}{ds:List PyData}(h:RdV K H x d)(r:RdAll K H xs ds):RdAll K H (x::xs) (d::ds) :=
 ⟨by simp [r.1],fun i y e h1 h2=>by
  cases i with
  | zero=>simp at h1 h2; subst h1; subst h2; exact h
  | succ i=>exact r.2 i y e (by simpa using h1) (by simpa using h2)⟩
theorem RdAll.snoc{K:Fgg}{H:Hp}{x:V}{d:PyData}:∀{xs:List V} {ds:List PyData},RdAll K H xs ds→RdV K H x d→RdAll K H (xs++[x]) (ds++[d])
 | [],[],_,h=>RdAll.cons h .nil
 | [],_::_,r,_=>nomatch r.1
 | _::_,[],r,_=>nomatch r.1
 | y::xs,e::ds,r,h=>by
  have q:RdAll K H xs ds:=⟨by simpa using r.1,fun i a b h1 h2=>r.2 (i + 1) a b (by simpa using h1) (by simpa using h2)⟩
  exact RdAll.cons (r.2 0 y e rfl rfl) (RdAll.snoc q h)
theorem RdV.lst'{K:Fgg}{H:Hp}{a:Addr}{xs:List V}{ds:List PyData}(h:SqL K H a xs)(r:RdAll K H xs ds):RdV K H (.ref a) (.list ds):=.lst h r.1 r.2
theorem RdV.tup'{K:Fgg}{H:Hp}{a:Addr}{xs:List V}{ds:List PyData}(h:SqT K H a xs)(r:RdAll K H xs ds):RdV K H (.ref a) (.tuple ds):=.tup h r.1 r.2
theorem RdV.same{K:Fgg}{H H':Hp}(e:Same H H'){v:V}{d:PyData}(h:RdV K H v d):RdV K H' v d:=by
 induction h with
 | non=>exact .non
 | bl b=>exact .bl b
 | int i=>exact .int i
 | str x=>exact .str x
 | lst h hl hi ih=>exact .lst (e.seq h) hl ih
 | tup h hl hi ih=>exact .tup (e.tup h) hl ih
theorem RdAll.same{K:Fgg}{H H':Hp}(e:Same H H'){xs:List V}{ds:List PyData}(h:RdAll K H xs ds):RdAll K H' xs ds:=⟨h.1,fun i x d h1 h2=>(h.2 i x d h1 h2).same e⟩
theorem readsAll_of{h:Heap}:∀{xs:List V} {us:List Value} {ds:List PyData},Vals xs us→xs.length=ds.length→(∀(i:Nat) (x:V) (d:PyData) (u:Value),xs[i]?=some x→ds[i]?=some d→RelV x u→∃as,Reads h u d as)→∃as,ReadsAll h us ds as
 | [],_,[],.nil,_,_=>⟨[],.nil⟩
 | [],_,_::_,_,hl,_=>nomatch hl
 | _::_,_,[],_,hl,_=>nomatch hl
 | x::xs,u::us,d::ds,.cons r t,hl,hi=>by
  obtain ⟨as,ha⟩:=hi 0 x d u rfl rfl r
  obtain ⟨bs,hb⟩:=readsAll_of t (by simpa using hl) fun i y e w h1 h2=>hi (i + 1) y e w (by simpa using h1) (by simpa using h2)
  exact ⟨as++bs,.cons ha hb⟩
section
variable {X:Cx} {pins:List (Addr×Obj)} {σ:St} {H:Hp} {s:Shared}
theorem RdV.reads(I:Inv X pins σ H s){v:V}{d:PyData}(h:RdV X.K H v d):∀{u:Value},RelV v u→∃as,Reads s.heap u d as:=by
 induction h with
 | non=>intro u r; cases r; exact ⟨_,.none⟩
 | bl b=>intro u r; cases r; exact ⟨_,.bool b⟩
 | int i=>intro u r; obtain ⟨t,rfl⟩:=r; exact ⟨_,.int i t⟩
 | str x=>intro u r; obtain ⟨t,rfl⟩:=r; exact ⟨_,.str x t⟩
 | lst h hl hi ih =>
  intro u r; cases r
  obtain ⟨its,rv,⟨o,n,e,c,_,d⟩,hz⟩:=I.list h
  obtain ⟨as,ha⟩:=readsAll_of (h:=s.heap) rv hl fun i x d u h1 h2 r=>ih i x d h1 h2 r
  exact ⟨_,.list e c d ha⟩
 | tup h hl hi ih =>
  intro u r; cases r
  obtain ⟨its,rv,⟨o,e,c,n,d⟩,hz⟩:=I.tuple h
  obtain ⟨as,ha⟩:=readsAll_of (h:=s.heap) rv hl fun i x d u h1 h2 r=>ih i x d h1 h2 r
  exact ⟨_,.tuple e c d ha⟩
end
section
variable {X:Cx}
def rEqD(K:Fgg):R2:=fun x y H Q=>∃d d',RdV K H x d∧RdV K H y d'∧PySem.SeqAt.shaped d=true∧PySem.SeqAt.shaped d'=true∧Q (.bl (PyData.eqv d d')) H
def rNeD(K:Fgg):R2:=fun x y H Q=>∃d d',RdV K H x d∧RdV K H y d'∧PySem.SeqAt.shaped d=true∧PySem.SeqAt.shaped d'=true∧Q (.bl (!PyData.eqv d d')) H
theorem op_eqD(hu:X.A.units + 64 < cLine):OpR X (compareOp .Eq) (rEqD X.K):=by
 intro pins s σ H x y v u Q I rx ry h
 obtain ⟨d,d',h1,h2,s1,s2,q⟩:=h
 obtain ⟨as,r1⟩:=h1.reads I rx
 obtain ⟨bs,r2⟩:=h2.reads I ry
 exact eq_dataH r1 r2 s1 s2 hu ⟨.bl _,H,I,rfl,q⟩
theorem op_neD(hu:X.A.units + 64 < cLine):OpR X (compareOp .NotEq) (rNeD X.K):=by
 intro pins s σ H x y v u Q I rx ry h
 obtain ⟨d,d',h1,h2,s1,s2,q⟩:=h
 obtain ⟨as,r1⟩:=h1.reads I rx
 obtain ⟨bs,r2⟩:=h2.reads I ry
 exact ne_dataH r1 r2 s1 s2 hu ⟨.bl _,H,I,rfl,q⟩
def DctAt(a:Addr):Heap→Prop:=fun h=>∃o,h.get? a=some o∧o.cls=.type "dict"
inductive TyV(K:Fgg)(H:Hp):V→String→Prop
 | non:TyV K H .non "NoneType"
 | bl (b:Bool):TyV K H (.bl b) "bool"
 | int (i:Int):TyV K H (.int i) "int"
 | str (x:Str):TyV K H (.str x) "str"
 | lst {a:Addr} {xs:List V} (h:SqL K H a xs):TyV K H (.ref a) "list"
 | tup {a:Addr} {xs:List V} (h:SqT K H a xs):TyV K H (.ref a) "tuple"
 | dct {a:Addr} (h:H a=some (.ext (DctAt a))):TyV K H (.ref a) "dict"
def rIsi(K:Fgg):List V→Hp→VK→Prop:=fun vs H Q=>∃x n t b,vs=[x,.ty n]∧TyV K H x t∧PySem.W.kitOne K (.type t) (.type n)=some b∧Q (.bl b) H
theorem call_isi:CallR X (.builtin "isinstance") (rIsi X.K):=by
 intro pins s σ H xs us Q I r h
 obtain ⟨x,n,t,b,rfl,ty,e,q⟩:=h
 obtain ⟨u,w',rfl,rx,rw'⟩:=vals2 r
 cases rw'
 have fin:∀tk,EP X pins σ Q (.bool b) {s with toks:=tk}:=fun tk=>⟨.bl b,H,I.tok tk,rfl,q⟩
 cases ty with
 | non=>cases rx; exact PySem.W.kia_one PySem.W.kitx_none I.kIn True.intro e (fun z=>nomatch z) fin
 | bl y=>cases rx; exact PySem.W.kia_one PySem.W.kitx_bool I.kIn True.intro e (fun z=>nomatch z) fin
 | int i=>obtain ⟨t,rfl⟩:=rx; exact PySem.W.kia_one PySem.W.kitx_int I.kIn True.intro e (fun z=>nomatch z) fin
 | str y=>obtain ⟨t,rfl⟩:=rx; exact PySem.W.kia_one PySem.W.kitx_str I.kIn True.intro e (fun z=>nomatch z) fin
 | lst h =>
  cases rx
  obtain ⟨its,rv,⟨o,n,e1,c,_,d⟩,hz⟩:=I.list h
  exact PySem.W.kia_one PySem.W.kitx_list I.kIn ⟨o,e1,c⟩ e (fun z=>nomatch z) fin
 | dct h =>
  cases rx
  obtain ⟨⟨o,e1,c⟩,_⟩:=I.hok _ _ h
  exact PySem.W.kia_one PySem.W.kitx_dict I.kIn ⟨o,e1,c⟩ e (fun z=>nomatch z) fin
 | tup h =>
  cases rx
  obtain ⟨its,rv,⟨o,e1,c,n,d⟩,hz⟩:=I.tuple h
  exact PySem.W.kia_one PySem.W.kitx_tuple I.kIn ⟨o,e1,c⟩ e (fun z=>nomatch z) fin
def rListOf(K:Fgg):List V→Hp→VK→Prop:=fun xs H Q=>∃p ys,xs=[.ref p]∧(SqL K H p ys∨SqT K H p ys)∧∀l,H l=none→Q (.ref l) (upd H l (.lst ys))
def CMulB(i j:Int):Prop:=(-340282366920938463463374607431768211456 < i∧i < 340282366920938463463374607431768211456)∧(-340282366920938463463374607431768211456 < j∧j < 340282366920938463463374607431768211456)
theorem CMulB.ok{i j:Int}(h:CMulB i j):IntMulOk i j:=by
 have e:(2:Nat) ^ 128=340282366920938463463374607431768211456:=by decide
 obtain ⟨⟨h1,h2⟩,h3,h4⟩:=h
 have a:i.natAbs < 2 ^ 128:=by rw [e]; omega
 have b:j.natAbs < 2 ^ 128:=by rw [e]; omega
 exact IntMulOk.of_bits (Nat.le_trans (PyProof.Rows.intBits_le a) (by decide)) (Nat.le_trans (PyProof.Rows.intBits_le b) (by decide))
theorem op_mulB:OpR X (binaryOp .Mult) (rI CMulB fun i j=>.int (i * j)):=opI fun _ _ _ _ _ _ _ hc q=>mul_int q hc.ok
end
end L2
namespace L2
open PySem PySem.Spec PyProof.Rows
def clGo(cells:List (Str×Addr)):List (Str×NameKind)→List (Str×Addr)→List (Str×Addr)
 | [],cs=>cs
 | (n,k)::r,cs=>clGo cells r (if k == .free then (match cells.lookup n with | some c=>(n,c)::cs | none=>cs) else cs)
theorem clGo_sub{cells:List (Str×Addr)}:∀(names:List (Str×NameKind)) (cs:List (Str×Addr)),(∀x c,cs.lookup x=some c→cells.lookup x=some c)→∀x c,(clGo cells names cs).lookup x=some c→cells.lookup x=some c
 | [],_,h=>h
 | (n,k)::r,cs,h=>by
  refine clGo_sub r _ fun x c e=>?_
  split at e
  ·split at e
   ·rename_i c' hc
    rw [List.lookup_cons] at e
    by_cases z:(x == n)=true
    ·rw [z] at e
     have z':x=n:=by simpa using z
     rw [z']
     exact hc.trans e
    ·rw [Bool.not_eq_true] at z
     rw [z] at e
     exact h x c e
   ·exact h x c e
  ·exact h x c e
theorem clGo_keep{cells:List (Str×Addr)}{x:Str}{c:Addr}(hx:cells.lookup x=some c):∀(names:List (Str×NameKind)) (cs:List (Str×Addr)),cs.lookup x=some c→(clGo cells names cs).lookup x=some c
 | [],_,h=>h
 | (n,k)::r,cs,h=>by
  refine clGo_keep hx r _ ?_
  split
  ·split
   ·rename_i c' hc
    rw [List.lookup_cons]
    by_cases z:(x == n)=true
    ·rw [z]
     have z':x=n:=by simpa using z
     rw [z'] at hx
     exact hc.symm.trans hx
    ·rw [Bool.not_eq_true] at z
     rw [z]
     exact h
   ·exact h
  ·exact h
theorem clGo_has{cells:List (Str×Addr)}{x:Str}{c:Addr}(hx:cells.lookup x=some c):∀(names:List (Str×NameKind)) (cs:List (Str×Addr)),(x,NameKind.free)∈names→(clGo cells names cs).lookup x=some c
 | [],_,h=>nomatch h
 | (n,k)::r,cs,h=>by
  rcases List.mem_cons.mp h with e | h
  ·cases e
   refine clGo_keep hx r _ ?_
   simp [hx,List.lookup_cons]
  ·exact clGo_has hx r _ h
theorem closureFor_go{env:Env}{scope:Scope}(h:∀y∈scope.names,y.2=NameKind.free→∃c,env.cells.lookup y.1=some c):closureFor scope env=pure (clGo env.cells scope.names []):=by
 have go:∀(names:List (Str×NameKind)) (cs:List (Str×Addr)),(∀y∈names,y.2=NameKind.free→∃c,env.cells.lookup y.1=some c) →
   (forIn names cs fun x (r:List (Str×Addr))=>if (x.2 == NameKind.free)=true then do let c ← cellOf env x.1; pure (ForInStep.yield ((x.1,c)::r)) else pure (ForInStep.yield r):Sem (List (Str×Addr)))=pure (clGo env.cells names cs):=by
  intro names
  induction names with
  | nil=>intro cs _; rfl
  | cons y r ih =>
   intro cs hy
   obtain ⟨n,k⟩:=y
   rw [List.forIn_cons]
   by_cases hk:k=NameKind.free
   ·subst hk
    obtain ⟨c,hc⟩:=hy _ List.mem_cons_self rfl
    have hc':env.cells.lookup n=some c:=hc
    have hcell:cellOf env n=pure c:=by simp only [cellOf,hc']
    simp only [hcell,beq_self_eq_true,if_true,pure_bind]
    rw [ih _ fun y hm=>hy y (List.mem_cons_of_mem _ hm)]
    simp only [clGo,beq_self_eq_true,if_true,hc']
   ·have hb:(k == NameKind.free)=false:=by simpa using hk
    simp only [hb,Bool.false_eq_true,if_false,pure_bind]
    rw [ih _ fun y hm=>hy y (List.mem_cons_of_mem _ hm)]
    simp only [clGo,hb,Bool.false_eq_true,if_false]
 have e:=go scope.names [] h
 unfold closureFor
 simp only [bind_pure] at e ⊢
 exact e
theorem relab_look{scope:Scope}{env:Env}(x:Str):(relabel scope env).names.lookup x=(scope.names.lookup x).map fun k=>if (k == NameKind.free&&env.scope.kind == .function&&env.kindOf x == some .cell)=true then .cell else k:=by
 show (scope.names.map fun (n,k)=>if (k == NameKind.free&&env.scope.kind == .function&&env.kindOf n == some .cell)=true then (n,NameKind.cell) else (n,k)).lookup x=_
 induction scope.names with
 | nil=>rfl
 | cons y r ih =>
  obtain ⟨n,k⟩:=y
  rw [List.map_cons]
  by_cases z:(x == n)=true
  ·have z':x=n:=by simpa using z
   subst z'
   by_cases hc:(k == NameKind.free&&env.scope.kind == .function&&env.kindOf x == some .cell)=true
   ·simp only [hc,if_true,List.lookup_cons,beq_self_eq_true,Option.map_some]
   ·simp only [hc,if_false,List.lookup_cons,beq_self_eq_true,Option.map_some,Bool.false_eq_true]
  ·rw [Bool.not_eq_true] at z
   by_cases hc:(k == NameKind.free&&env.scope.kind == .function&&env.kindOf n == some .cell)=true
   ·simp only [hc,if_true,List.lookup_cons,z]; exact ih
   ·simp only [hc,if_false,List.lookup_cons,z,Bool.false_eq_true]; exact ih
theorem mem_of_look{α β:Type}[BEq α][LawfulBEq α]{x:α}{b:β}:∀{l:List (α×β)},l.lookup x=some b→(x,b)∈l
 | [],h=>by simp at h
 | (n,k)::r,h=>by
  rw [List.lookup_cons] at h
  by_cases z:(x == n)=true
  ·rw [z] at h
   have z':x=n:=by simpa using z
   cases h
   rw [z']
   exact List.mem_cons_self
  ·rw [Bool.not_eq_true] at z
   rw [z] at h
   exact List.mem_cons_of_mem _ (mem_of_look h)
def Cx.blk(X:Cx)(N:List Str)(scope:Scope)(C:Addr)(ex:List Addr)(s:Shared)(H:Hp):Cx where
 prog:=X.prog
 w:=X.w
 K:=X.K
 mg:=X.mg
 base:=X.base
 A:=X.A
 N:=N
 s₀:=s
 H₀:=H
 env:=compEnvC scope (clGo X.env.cells scope.names []) C X.env
 outer:=X.stack
 stack:=X.stack
 ex:=ex
 fn:=fun _=>false
 calm:=X.calm
 pn:=[]
 xe:=fun _ _=>False
structure BlkOk(X:Cx)(own:Nat)(N:List Str)(ix:List Nat)(scope:Scope):Prop where
 kind:scope.kind=.function
 calm:X.calm=true
 free:scope.names.all (fun y=>y.2 != .free||X.env.kindOf y.1 == some .cell)=true
 cell:scope.names.all (fun y=>y.2 != .cell)=true
 loc:scope.names.all (fun y=>y.2 != .local||scope.names.lookup y.1 == some .local)=true
 ixs:(ix.map fun i=>X.N[i]?)=(N.drop own).map some
 fr:(N.drop own).all (fun x=>scope.names.lookup x == some .free)=true
 len:N.length=own + ix.length
def blkSt(own:Nat)(ix:List Nat)(σ:St):St:=List.replicate own none++ix.map fun i=>(σ[i]?).getD none
theorem blkSt_drop(own:Nat)(ix:List Nat)(σ:St):(blkSt own ix σ).drop own=ix.map fun i=>(σ[i]?).getD none:=by
 unfold blkSt
 rw [List.drop_left' (by simp)]
theorem blkSt_get{own:Nat}{ix:List Nat}{σ:St}{j:Nat}{v:V}(h:(blkSt own ix σ)[j]?=some (some v)):∃i,own≤j∧ix[j - own]?=some i∧σ[i]?=some (some v):=by
 unfold blkSt at h
 by_cases hj:j < own
 ·rw [List.getElem?_append_left (by simpa using hj)] at h
  rw [List.getElem?_replicate] at h
  simp [hj] at h
 ·rw [List.getElem?_append_right (by simpa using hj)] at h
  rw [List.length_replicate,List.getElem?_map] at h
  cases e:ix[j - own]? with
  | none=>rw [e] at h; simp at h
  | some i =>
   rw [e] at h
   refine ⟨i,by omega,rfl,?_⟩
   have h':(σ[i]?).getD none=some v:=by simpa using h
   cases q:σ[i]? with
   | none=>rw [q] at h'; simp at h'
   | some o=>rw [q] at h'; simp at h'; rw [h']
theorem blkSt_weak{own:Nat}{ix:List Nat}{σ σ2:St}(hd:σ2.drop own=ix.map fun i=>(σ[i]?).getD none):∀(j:Nat) v,(blkSt own ix σ)[j]?=some (some v)→σ2[j]?=some (some v):=fun j v h=>by
 by_cases hj:j < own
 ·obtain ⟨i,h1,_⟩:=blkSt_get h
  omega
 ·have e:(blkSt own ix σ)[j]?=((blkSt own ix σ).drop own)[j - own]?:=by rw [List.getElem?_drop]; congr 1; omega
  have e2:σ2[j]?=(σ2.drop own)[j - own]?:=by rw [List.getElem?_drop]; congr 1; omega
  rw [e,blkSt_drop,← hd,← e2] at h
  exact h
section
variable {X:Cx} {pins:List (Addr×Obj)} {σ:St} {H:Hp} {s:Shared} {own:Nat} {N:List Str} {ix:List Nat} {scope:Scope}
theorem BlkOk.has(B:BlkOk X own N ix scope)(I:Inv X pins σ H s):∀y∈scope.names,y.2=NameKind.free→X.env.kindOf y.1=some .cell∧∃c,X.env.cells.lookup y.1=some c:=fun y hy e=>by
 have z:=List.all_eq_true.mp B.free y hy
 rw [e] at z
 have z':X.env.kindOf y.1=some .cell:=by simpa using z
 exact ⟨z',I.ok.has y.1 (.inl z')⟩
theorem blk_start{C:Addr}{ex:List Addr}{h':Heap}{tk:Nat}(B:BlkOk X own N ix scope)(I:Inv X pins σ H s)(hC:C=s.heap.objs.size)(hx:∀b∈ex,FpOk X pins H b)(hlt:∀b∈ex,b < s.heap.objs.size)
  (hn:h'.Ns C (fun _=>none)) (hk:∀b o,s.heap.get? b=some o→h'.get? b=some o):Inv (X.blk N scope C ex s H) [] (blkSt own ix σ) H {s with heap:=h',toks:=tk}:=by
 have sub:∀x c,(clGo X.env.cells scope.names []).lookup x=some c→X.env.cells.lookup x=some c:=clGo_sub scope.names [] fun x c e=>by simp at e
 have nb:∀b o,X.base.get? b=some o→b∉ex:=fun b o e hb=>by
  rcases (hx b hb).2.2.2.1 with z | z
  ·exact I.ok.noex b o e z
  ·exact absurd (Nat.lt_of_lt_of_le (Heap.lt_size e) (Nat.le_trans I.ok.bsz z)) (Nat.lt_irrefl _)
 have nstk:∀b∈ex,b∉frs X.stack:=fun b hb z=>by
  rcases List.mem_cons.mp (I.stkSub b z) with e | e
  ·exact (hx b hb).2.1 e
  ·exact (hx b hb).2.2.1 e
 refine ⟨⟨I.ok.mod,B.kind,I.ok.glob,I.ok.blt,?_,fun x y c e1 e2=>I.ok.inj x y c (sub x c e1) (sub y c e2),fun x hk'=>?_,(fun _ _ z=>absurd (show false=true from z) (by decide)),I.ok.hd,I.ok.frames,.inl rfl,fun b hb=>⟨?_,fun x c e=>(hx b hb).2.2.2.2.1 x c (sub x c e)⟩,
  fun b o e=>I.bs b o e,Nat.le_trans I.ok.bsz I.sz,nb,nstk,I.stack,I.stkFree⟩,rfl,I.bare,Un.kept hk,⟨_,hn,fun j x v e1 e2 e3=>?_⟩,fun x c e=>?_,?_,fun x c e=>I.freeC x c (sub x c e),(fun p hp=>nomatch hp),I.hok.kept hk,?_⟩
 ·show s.heap.objs.size≤C
  exact Nat.le_of_eq hC.symm
 ·have hk'':(relabel scope X.env).names.lookup x=some .cell∨(relabel scope X.env).names.lookup x=some .free:=hk'
  rw [relab_look] at hk''
  have hf:scope.names.lookup x=some .free:=by
   cases q:scope.names.lookup x with
   | none=>rw [q] at hk''; rcases hk'' with z | z <;> cases z
   | some k =>
    rw [q] at hk''
    by_cases hkf:k=.free
    ·rw [hkf]
    ·exfalso
     have hb:(k == NameKind.free)=false:=by simpa using hkf
     have hm:=List.all_eq_true.mp B.cell (x,k) (mem_of_look q)
     simp only [Option.map_some,hb,Bool.false_and,Bool.false_eq_true,if_false] at hk''
     rcases hk'' with z | z
     ·rw [Option.some.inj z] at hm; exact absurd hm (by simp)
     ·exact hkf (Option.some.inj z)
  obtain ⟨_,c,hc⟩:=B.has I (x,.free) (mem_of_look hf) rfl
  exact ⟨c,clGo_has hc scope.names [] (mem_of_look hf)⟩
 ·show b≠C
  rw [hC]
  exact Nat.ne_of_lt (hlt b hb)
 ·obtain ⟨i,h1,h2,h3⟩:=blkSt_get e2
  have hN:N[j]?=some x:=e1
  have hxN:X.N[i]?=some x:=by
   have e:(ix.map fun i=>X.N[i]?)[j - own]?=((N.drop own).map some)[j - own]?:=by rw [B.ixs]
   rw [List.getElem?_map,h2,List.getElem?_map,List.getElem?_drop] at e
   have hj:own + (j - own)=j:=by omega
   rw [hj,hN] at e
   simpa using e
  have hfr:scope.names.lookup x=some .free:=by
   have hm:x∈N.drop own:=by
    refine List.mem_of_getElem? (i:=j - own) ?_
    rw [List.getElem?_drop,show own + (j - own)=j by omega]
    exact hN
   have:=List.all_eq_true.mp B.fr x hm
   simpa using this
  obtain ⟨hkc,c,hc⟩:=B.has I (x,.free) (mem_of_look hfr) rfl
  obtain ⟨m,hm,hl⟩:=I.loc
  obtain ⟨u,r,l⟩:=hl i x v hxN h3 (.inr (.inl hkc))
  refine ⟨u,r,?_⟩
  rcases l with ⟨z,_⟩ | ⟨_,c',hc',hz⟩
  ·have z':X.env.kindOf x=some .local:=z
   have hkc':X.env.kindOf x=some .cell:=hkc
   rw [hkc'] at z'
   cases z'
  ·rw [hc] at hc'
   cases hc'
   refine .inr ⟨.inl ?_,c,clGo_has hc scope.names [] (mem_of_look hfr),?_⟩
   ·show (relabel scope X.env).names.lookup x=some .cell
    rw [relab_look,hfr]
    have hkc':X.env.kindOf x=some .cell:=hkc
    have hkf:X.env.scope.kind=.function:=I.ok.kind
    simp [hkc',hkf]
   ·obtain ⟨o,ho,hd⟩:=hz
    exact ⟨o,hk _ _ ho,hd⟩
 ·obtain ⟨v,o,ho,hd⟩:=I.cell x c (sub x c e)
  exact ⟨v,o,hk _ _ ho,hd⟩
 ·show H C=none
  exact I.hok.fresh (Nat.le_of_eq hC.symm)
 ·show (blkSt own ix σ).length=N.length
  rw [B.len]
  simp [blkSt]
theorem blk_end{C:Addr}{ex:List Addr}{σ':St}{H':Hp}{s':Shared}(I:Inv X pins σ H s)(hx:∀b∈ex,FpOk X pins H b)(I':Inv (X.blk N scope C ex s H) [] σ' H' s'):Inv X pins σ H' s' :=
 I.call' (ch:=ex) I'.os I'.base I'.hok I'.bare fun b hb=>⟨(hx b hb).2.2.2.1,(hx b hb).2.1,(hx b hb).2.2.2.2.1,(hx b hb).2.2.2.2.2⟩
def PIf(X:Cx)(ifs:List Expr)(tt:TT):Prop:=∀(pins:List (Addr×Obj)) (s:Shared) (σ:St) (H:Hp) (Q:Bool→Hp→Prop),Inv X pins σ H s→tt σ H Q →
 wpAny (model X.prog X.w) X.A (forIn ifs true fun c r=>if r=true then do let ok ← isTrue c X.env (eval c X.env); pure (ForInStep.yield ok) else pure (ForInStep.yield r)) (TP X pins σ Q) X.xe s
def tYes:TT:=fun _ H Q=>Q true H
theorem pif_nil{X:Cx}:PIf X [] tYes:=fun _ _ _ H _ I h=>wpAny_tests_nil ⟨H,I,h⟩
def LcW(J:It)(own:Nat)(ix:List Nat)(σ:St)(g:TG)(tt:TT)(te:TE)(D:Addr)(H1:Hp)(Q:VK):Prop:=∃W:Nat→Nat→List V→Hp→Prop,
 (∃m,W 0 m [] (upd H1 D (.lst [])))∧∀i m ys H2,W i m ys H2→H2 D=some (.lst ys)∧((J.stop i H2∧Q (.ref D) H2)∨(J.go i H2∧ys.length < sizeLine∧∃Nx:List V→Hp→Prop,(∀ys' H',Nx ys' H'→∃m',m' < m∧W (i + 1) m' ys' H')∧∀x H3,J.yld i H2 x H3 →
  g x (blkSt own ix σ) H3 fun σ2 H4=>σ2.drop own=(ix.map fun i=>(σ[i]?).getD none)∧tt σ2 H4 fun b H5=>if b=true then te σ2 H5 fun v H6=>H6 D=some (.lst ys)∧Nx (ys++[v]) (upd H6 D (.lst (ys++[v]))) else Nx ys H5))
def tLc(own:Nat)(ix:List Nat)(wi:TI)(g:TG)(tt:TT)(te:TE):TE:=fun σ H Q=>wi σ H fun J H1=>∀D,H1 D=none→LcW J own ix σ g tt te D H1 Q
theorem compLoop_go{prog:Program}{w:World}{A:Around}{R:Result→Shared→Prop}{s:Shared}{elt target iter:Expr}{ifs:List Expr}{scope:Scope}{pos:Pos}{it acc:Value}{env:Env}(I:Nat→Shared→Prop)
  (turn:∀n s,I n s→wpAny (model prog w) A (pyNext it) (fun r s1=>match r with
   | none=>R (.ok .next) s1
   | some v=>wpAny (model prog w) A (letOwnedTupleGo target it v) (fun _ s1'=>wpAny (model prog w) A (assign target env v) (fun _ s2 =>
     wpAny (model prog w) A (forIn ifs true fun c r=>if r=true then do let ok ← isTrue c env (eval c env); pure (ForInStep.yield ok) else pure (ForInStep.yield r)) (fun ok s3 =>
      if ok=true then wpAny (model prog w) A (eval elt env) (fun x s4=>wpAny (model prog w) A (call (.builtin "list.append") [acc,x]) (fun _ s5=>∃m,m < n∧I m s5) (fun _ _=>False) s4) (fun _ _=>False) s3
      else ∃m,m < n∧I m s3) (fun _ _=>False) s2) (fun _ _=>False) s1') (fun _ _=>False) s1) (fun _ _=>False) s)
  (n:Nat) (h:I n s):codeAny (model prog w) A (.compLoop (.ListComp elt [⟨target,iter,ifs,0⟩] scope pos) 0 it acc env) R s:=by
 refine codeAny_loop rfl I (fun n s hI=>?_) n h
 show wpAny _ A ((compTurn (.ListComp elt [⟨target,iter,ifs,0⟩] scope pos) 0 it acc env).onRaise (fun x=>do noteFrame x env; theTreesLotGoes x)) _ _ s
 refine wpAny_noted ?_
 rw [compTurn_list]
 refine wpAny_bind (wpAny_standAt (wpAny_bind (wpAny_mono (turn n s hI) (fun r s1 h1=>?_) fun _ _ z=>z.elim)))
 cases r with
 | none=>exact wpAny_pure h1
 | some v =>
  refine wpAny_bind (wpAny_mono h1 (fun _ s1' h1'=>?_) fun _ _ z=>z.elim)
  refine wpAny_bind (wpAny_mono h1' (fun _ s2 h2=>wpAny_bind (wpAny_mono h2 (fun ok s3 h3=>?_) fun _ _ z=>z.elim)) fun _ _ z=>z.elim)
  cases ok with
  | false=>exact wpAny_pure ⟨rfl,h3⟩
  | true=>exact wpAny_bind (wpAny_bind (wpAny_mono h3 (fun x s4 h4=>wpAny_bind (wpAny_mono h4 (fun _ s5 h5=>wpAny_pure (wpAny_pure ⟨rfl,h5⟩)) fun _ _ z=>z.elim)) fun _ _ z=>z.elim))
theorem blk_run{elt tg iter:Expr}{ifs:List Expr}{pos:Pos}{g:TG}{tt:TT}{te:TE}{it:Addr}{fp:List Addr}{tn:Nat→Heap→Prop}{J:It}{Q:VK}{E:Value→Shared→Prop}{RR:Value→Addr→Result→Shared→Prop}(B:BlkOk X own N ix scope)
  (hin:∀(C:Addr) (s:Shared) (H:Hp),PG (X.blk N scope C fp s H) tg g∧PIf (X.blk N scope C fp s H) ifs tt∧PE (X.blk N scope C fp s H) elt te)
  (I:Inv X pins σ H s) (T:Turn X.prog X.w X.K tg J fp it tn) (st:tn 0 s.heap) (hf:∀b∈fp,FpOk X pins H b)
  (h:∀D,H D=none→LcW J own ix σ g tt te D H Q)
  (fin:∀(D C:Addr) (H':Hp) (s':Shared) (m:Str→Option Value),Inv X pins σ H' s'→s'.heap.Ns C m→H' C=none→C≠X.env.locals→(X.s₀.heap.objs.size≤C)→(∀x c,X.env.cells.lookup x=some c→c≠C)→(∀p∈X.pn++pins,p.1≠C)→Q (.ref D) H'→RR (.ref D) C (.ok .next) s') :
  wpAny (model X.prog X.w) X.A (newList []) (fun acc s3=>wpAny (model X.prog X.w) X.A (newFunctionEnv scope X.env.globals (clGo X.env.cells scope.names []) [] X.env.qual none .none (some X.env)) (fun cenv s4 =>
   codeAny (model X.prog X.w) X.A (.compStart (.ListComp elt [⟨tg,iter,ifs,0⟩] scope pos) 0 (.ref it) acc {cenv with scope:=relabel scope X.env}) (RR acc cenv.locals) s4) E s3) E s:=by
 obtain ⟨W,⟨m0,w0⟩,turn⟩:=h s.heap.objs.size I.fresh
 refine wpAny_newObj_type ?_
 have I3:=I.lnew (its:=[]) (ys:=[]) (t':=s.toks) .nil (Nat.zero_le _)
 have hcell:∀y∈scope.names,y.2≠NameKind.cell:=fun y hy e=>by
  have:=List.all_eq_true.mp B.cell y hy
  rw [e] at this
  exact absurd this (by decide)
 refine wpAny_newFunctionEnv hcell (by intro y hy; simp at hy) (fun h1 hns1 hsb1=>?_) B.kind
 dsimp only at hns1 hsb1 ⊢
 generalize hH2:s.heap.push {cls:=.type "list",dict:=none,data:=.seq ([]:List Value).toArray}=h2 at hns1 hsb1 ⊢
 have I3':Inv X pins σ (upd H s.heap.objs.size (.lst [])) {s with heap:=h2}:=by
  have z:({s with heap:=s.heap.push {cls:=.type "list",data:=.seq ([]:List Value).toArray},toks:=s.toks}:Shared)={s with heap:=h2}:=by rw [← hH2]
  rw [← z]
  exact I3
 have sz:h2.objs.size=s.heap.objs.size + 1:=by rw [← hH2,Heap.size_push]
 have old2:∀b o,s.heap.get? b=some o→h2.get? b=some o:=fun b o e=>by rw [← hH2]; exact Heap.get?_push_of_some _ e
 have keep1:∀b o,h2.get? b=some o→h1.get? b=some o:=fun b o e=>hsb1.extBut b o (Nat.ne_of_lt (Heap.lt_size e)) (Heap.get?_push_of_some _ e)
 have there:∀b∈fp,b < s.heap.objs.size:=fun b hb=>by obtain ⟨o,e,_⟩:=T.obj _ _ st b hb; exact Heap.lt_size e
 have hf3:∀b∈fp,FpOk X pins (upd H s.heap.objs.size (.lst [])) b:=fun b hb=>⟨by rw [uN (Nat.ne_of_lt (there b hb))]; exact (hf b hb).1,(hf b hb).2⟩
 have hn1:h1.Ns h2.objs.size (fun _=>none):=by simpa using hns1
 have I4:=blk_start (tk:=s.toks + ([]:List (Str×Value)).length) (own:=own) (N:=N) (ix:=ix) B I3' rfl hf3 (fun b hb=>Nat.lt_of_lt_of_le (there b hb) (by show s.heap.objs.size≤h2.objs.size; rw [sz]; exact Nat.le_succ _)) hn1 keep1
 have st4:tn 0 h1:=T.keep _ _ _ st fun b _ o e=>keep1 b o (old2 b o e)
 have Bc:(X.blk N scope h2.objs.size fp {s with heap:=h2} (upd H s.heap.objs.size (.lst []))).calm=true:=B.calm
 obtain ⟨pg,pif,pe⟩:=hin h2.objs.size {s with heap:=h2} (upd H s.heap.objs.size (.lst []))
 have fpb:∀{H':Hp},(∀b∈fp,H' b=none)→∀b∈fp,FpOk (X.blk N scope h2.objs.size fp {s with heap:=h2} (upd H s.heap.objs.size (.lst []))) [] H' b:=fun hz b hb =>
  ⟨hz b hb,Nat.ne_of_lt (Nat.lt_of_lt_of_le (there b hb) (by show s.heap.objs.size≤h2.objs.size; rw [sz]; exact Nat.le_succ _)),I4.ok.exfs b hb,.inl hb,fun x c e=>(I4.ok.exf b hb).2 x c e,(fun p hp=>nomatch hp)⟩
 have loop:∀s3:Shared,s3={s with heap:=h1,toks:=s.toks + ([]:List (Str×Value)).length} →
   codeAny (model X.prog X.w) X.A (.compLoop (.ListComp elt [⟨tg,iter,ifs,0⟩] scope pos) 0 (.ref it) (.ref s.heap.objs.size) (compEnvC scope (clGo X.env.cells scope.names []) h2.objs.size X.env)) (RR (.ref s.heap.objs.size) h2.objs.size) s3:=by
  rintro s3 rfl
  refine compLoop_go (fun n s'=>∃i ys H',Inv (X.blk N scope h2.objs.size fp {s with heap:=h2} (upd H s.heap.objs.size (.lst []))) [] (blkSt own ix σ) H' s'∧tn i s'.heap∧(∀b∈fp,H' b=none)∧W i n ys H') ?_ m0
   ⟨0,[],_,I4,st4,fun b hb=>(hf3 b hb).1,w0⟩
  rintro n s5 ⟨i,ys,H5,I5,st5,fr5,w5⟩
  obtain ⟨hD,t5⟩:=turn i n ys H5 w5
  rcases t5 with ⟨stop,qn⟩ | ⟨go,hz,Nx,hNx,step⟩
  ·refine thn (T.done (X.blk N scope h2.objs.size fp {s with heap:=h2} (upd H s.heap.objs.size (.lst []))) rfl rfl rfl Bc i [] s5 _ H5 (fun _ _=>False) I5 (fpb fr5) st5 stop) fun r s6 ⟨hr,I6⟩=>?_
   subst hr
   obtain ⟨m,hm,_⟩:=I6.loc
   refine fin _ _ H5 s6 m (blk_end I3' hf3 I6) hm I6.free ?_ ?_ (fun x c e z=>?_) (fun p hp z=>?_) qn
   ·have:=I3'.lt
    exact Nat.ne_of_gt this
   ·exact I3'.sz
   ·obtain ⟨v,q⟩:=I3'.cell x c e
    have:=q.lt
    rw [z] at this
    exact absurd this (Nat.lt_irrefl _)
   ·have:=Heap.lt_size (I3'.pin p hp).1
    rw [z] at this
    exact absurd this (Nat.lt_irrefl _)
  ·refine thn (T.item (X.blk N scope h2.objs.size fp {s with heap:=h2} (upd H s.heap.objs.size (.lst []))) rfl rfl rfl Bc i [] s5 _ H5 (fun _ _=>False) I5 (fpb fr5) st5 go) fun r s6 ⟨u,hr,h6⟩=>?_
   subst hr
   refine thn h6 fun _ s7 ⟨x,H7,I7,r7,y7,st7,fr7⟩=>?_
   have I7':=I7.pinned (fpb fr7) (T.obj _ _ st7)
   refine thn (pg _ s7 _ H7 x u _ I7' r7 (step x H7 y7)) fun _ s8 ⟨σ8,H8,I8,hd8,q8⟩=>?_
   refine thn (pif _ s8 σ8 H8 _ I8 q8) fun b s9 ⟨H9,I9,q9⟩=>?_
   have again:∀{ys':List V} {H':Hp} {s':Shared},Inv (X.blk N scope h2.objs.size fp {s with heap:=h2} (upd H s.heap.objs.size (.lst []))) ([]++pinsAt fp s7.heap) σ8 H' s'→Nx ys' H' →
     ∃m,m < n∧∃i ys H',Inv (X.blk N scope h2.objs.size fp {s with heap:=h2} (upd H s.heap.objs.size (.lst []))) [] (blkSt own ix σ) H' s'∧tn i s'.heap∧(∀b∈fp,H' b=none)∧W i m ys H':=by
    intro ys' H' s' I' w'
    obtain ⟨m',hm,w'⟩:=hNx _ _ w'
    refine ⟨m',hm,i + 1,ys',H',(I'.unpinned).weak ?_ (blkSt_weak hd8),T.keep _ _ _ st7 fun b hb o e=>(I'.pin (b,o) (List.mem_append_right _ (List.mem_append_right _ (mem_pinsAt hb e)))).1,fun b hb=>?_,w'⟩
    ·rw [I'.len,← I4.len]
    ·obtain ⟨o,e,d⟩:=T.obj _ _ st7 b hb
     exact (I'.pin (b,o) (List.mem_append_right _ (List.mem_append_right _ (mem_pinsAt hb e)))).2.1
   cases b with
   | true =>
    simp only [if_true] at q9 ⊢
    refine thn (pe _ s9 σ8 H9 _ I9 q9) fun v s10 ⟨y,H10,I10,r10,hD10,q10⟩=>?_
    refine thn (mt_append _ s10 σ8 H10 (.ref _) [y] (.ref _) [v] (fun _ H'=>Nx (ys++[y]) H') I10 rfl (.cons r10 .nil) ⟨_,ys,y,rfl,rfl,hD10,hz,q10⟩) fun _ s11 ⟨_,H11,I11,_,q11⟩=>?_
    exact again I11 q11
   | false =>
    simp only [Bool.false_eq_true,if_false] at q9 ⊢
    exact again I9 q9
 exact codeAny_compStart_list (loop _ rfl) (T.self _ 0 _ _ _ st4 (loop _ rfl))
theorem lc_range{lo:Int}{n:Nat}{g:TG}{tt:TT}{te:TE}{H1:Hp}{Q:VK}{D:Addr}(Pv:Nat→List V→Hp→Prop)(hn:n≤sizeLine)(h0:Pv 0 [] (upd H1 D (.lst [])))(hD:∀i ys H,Pv i ys H→H D=some (.lst ys)∧ys.length≤i)
  (hs:∀i ys H2,i < n→Pv i ys H2→g (.int (lo + i)) (blkSt own ix σ) H2 fun σ2 H4=>σ2.drop own=(ix.map fun i=>(σ[i]?).getD none)∧tt σ2 H4 fun b H5=>if b=true then te σ2 H5 fun v H6=>H6 D=some (.lst ys)∧Pv (i + 1) (ys++[v]) (upd H6 D (.lst (ys++[v]))) else Pv (i + 1) ys H5)
  (hd:∀ys H2,Pv n ys H2→Q (.ref D) H2) :
  LcW (Itr lo n) own ix σ g tt te D H1 Q:=by
 refine ⟨fun i m ys H=>m=n - i∧i≤n∧Pv i ys H,⟨n,by simp,Nat.zero_le _,h0⟩,?_⟩
 rintro i m ys H2 ⟨rfl,hi,p⟩
 obtain ⟨q1,q2⟩:=hD i ys H2 p
 refine ⟨q1,?_⟩
 by_cases hlt:i < n
 ·refine .inr ⟨hlt,by omega,Pv (i + 1),fun ys' H' p'=>⟨n - (i + 1),by omega,rfl,hlt,p'⟩,fun x H3 y=>?_⟩
  obtain ⟨e1,e2⟩:=y
  subst e1 e2
  exact hs i ys _ hlt p
 ·have e:i=n:=by omega
  subst e
  exact .inl ⟨Nat.le_refl _,hd ys H2 p⟩
theorem lc_list{K:Fgg}{a:Addr}{xs:List V}{g:TG}{tt:TT}{te:TE}{H1:Hp}{Q:VK}{D:Addr}(Pv:Nat→List V→Hp→Prop)(hn:xs.length≤sizeLine)(h0:Pv 0 [] (upd H1 D (.lst [])))(hD:∀i ys H,i≤xs.length→Pv i ys H→H D=some (.lst ys)∧ys.length≤i∧SqL K H a xs)
  (hs:∀i x ys H2,xs[i]?=some x→Pv i ys H2→g x (blkSt own ix σ) H2 fun σ2 H4=>σ2.drop own=(ix.map fun i=>(σ[i]?).getD none)∧tt σ2 H4 fun b H5=>if b=true then te σ2 H5 fun v H6=>H6 D=some (.lst ys)∧Pv (i + 1) (ys++[v]) (upd H6 D (.lst (ys++[v]))) else Pv (i + 1) ys H5)
  (hd:∀ys H2,Pv xs.length ys H2→Q (.ref D) H2) :
  LcW (Itl K a) own ix σ g tt te D H1 Q:=by
 refine ⟨fun i m ys H=>m=xs.length - i∧i≤xs.length∧Pv i ys H,⟨xs.length,by simp,Nat.zero_le _,h0⟩,?_⟩
 rintro i m ys H2 ⟨rfl,hi,p⟩
 obtain ⟨q1,q2,q3⟩:=hD i ys H2 hi p
 refine ⟨q1,?_⟩
 by_cases hlt:i < xs.length
 ·refine .inr ⟨⟨xs,xs[i],q3,by simp [hlt]⟩,by omega,Pv (i + 1),fun ys' H' p'=>⟨xs.length - (i + 1),by omega,rfl,hlt,p'⟩,fun x H3 y=>?_⟩
  obtain ⟨e1,e2⟩:=y
  subst e1
  exact hs i x ys _ (e2 xs q3) p
 ·have e:i=xs.length:=by omega
  subst e
  exact .inl ⟨⟨xs,q3,Nat.le_refl _⟩,hd ys H2 p⟩
theorem lc_tup{K:Fgg}{a:Addr}{xs:List V}{g:TG}{tt:TT}{te:TE}{H1:Hp}{Q:VK}{D:Addr}(Pv:Nat→List V→Hp→Prop)(hn:xs.length≤sizeLine)(h0:Pv 0 [] (upd H1 D (.lst [])))(hD:∀i ys H,i≤xs.length→Pv i ys H→H D=some (.lst ys)∧ys.length≤i∧SqT K H a xs)
  (hs:∀i x ys H2,xs[i]?=some x→Pv i ys H2→g x (blkSt own ix σ) H2 fun σ2 H4=>σ2.drop own=(ix.map fun i=>(σ[i]?).getD none)∧tt σ2 H4 fun b H5=>if b=true then te σ2 H5 fun v H6=>H6 D=some (.lst ys)∧Pv (i + 1) (ys++[v]) (upd H6 D (.lst (ys++[v]))) else Pv (i + 1) ys H5)
  (hd:∀ys H2,Pv xs.length ys H2→Q (.ref D) H2) :
  LcW (Itt K a) own ix σ g tt te D H1 Q:=by
 refine ⟨fun i m ys H=>m=xs.length - i∧i≤xs.length∧Pv i ys H,⟨xs.length,by simp,Nat.zero_le _,h0⟩,?_⟩
 rintro i m ys H2 ⟨rfl,hi,p⟩
 obtain ⟨q1,q2,q3⟩:=hD i ys H2 hi p
 refine ⟨q1,?_⟩
 by_cases hlt:i < xs.length
 ·refine .inr ⟨⟨xs,xs[i],q3,by simp [hlt]⟩,by omega,Pv (i + 1),fun ys' H' p'=>⟨xs.length - (i + 1),by omega,rfl,hlt,p'⟩,fun x H3 y=>?_⟩
  obtain ⟨e1,e2⟩:=y
  subst e1
  exact hs i x ys _ (e2 xs q3) p
 ·have e:i=xs.length:=by omega
  subst e
  exact .inl ⟨⟨xs,q3,Nat.le_refl _⟩,hd ys H2 p⟩
theorem pe_lc{elt tg iter:Expr}{ifs:List Expr}{pos:Pos}{wi:TI}{g:TG}{tt:TT}{te:TE}(own:Nat)(N:List Str)(ix:List Nat)(B:BlkOk X own N ix scope)(hi:PI X tg iter wi)
  (hin:∀(C:Addr) (fp:List Addr) (s:Shared) (H:Hp),PG (X.blk N scope C fp s H) tg g∧PIf (X.blk N scope C fp s H) ifs tt∧PE (X.blk N scope C fp s H) elt te)
  (hs:∀x,foldedSetIterable iter X.env x=pure x:=by intro _; rfl):PE X (.ListComp elt [⟨tg,iter,ifs,0⟩] scope pos) (tLc own ix wi g tt te):=by
 intro pins s σ H Q I h
 have hnames:∀y∈scope.names,y.2=NameKind.local→scope.names.lookup y.1=some .local:=fun y hy e=>by
  have:=List.all_eq_true.mp B.loc y hy
  rw [e] at this
  simpa using this
 rw [eval_ListComp]
 refine wpAny_comprehension_free (use:=none) rfl hs (closureFor_go fun y hy e=>(B.has I y hy e).2) B.kind hnames (thn (hi pins s σ H _ I h) fun v s1 h1=>thn h1 fun itv s2 h2=>?_)
 obtain ⟨it,fp,tn,J,H2,e,I2,T,st2,f2,rd⟩:=h2
 subst e
 refine blk_run (Q:=Q) (RR:=fun acc C=>compPost (model X.prog X.w) X.A X.xe none (EP X pins σ Q) acc C) B (fun C s H=>hin C fp s H) I2 T st2 f2 rd ?_
 intro D C H' s' m I' hn hC hL hsz hce hpi q
 exact ⟨m,hn,fun h' sb=>⟨.ref D,H',I'.turned (t':=s'.toks) (fun b o hb e=>(sb.2 b hb).trans e) hC hL (.inr hsz) hce hpi,rfl,q⟩⟩
theorem ps_setLC{i:Nat}{x:Str}{elt tg iter:Expr}{ifs:List Expr}{pos pos' spos:Pos}{wi:TI}{g:TG}{tt:TT}{te:TE}(hN:X.N.Nodup)(hxi:X.N[i]?=some x)(hx:Loc X.env.scope x)(own:Nat)(N:List Str)(ix:List Nat)(B:BlkOk X own N ix scope)(hi:PI X tg iter wi)
  (hin:∀(C:Addr) (fp:List Addr) (s:Shared) (H:Hp),PG (X.blk N scope C fp s H) tg g∧PIf (X.blk N scope C fp s H) ifs tt∧PE (X.blk N scope C fp s H) elt te)
  (hsw:swapsWith (.ListComp elt [⟨tg,iter,ifs,0⟩] scope pos) (some (.Name x pos')) spos.line X.env=pure true:=by rfl) (hs:∀x,foldedSetIterable iter X.env x=pure x:=by intro _; rfl)
  (hfn:X.fn x=true∨X.env.scope.names.lookup x=some .local:=by first | exact .inl rfl | exact .inr rfl):PS X (.Assign [.Name x pos'] (.ListComp elt [⟨tg,iter,ifs,0⟩] scope pos) spos) (tAsg (tLc own ix wi g tt te) (gName i)):=by
 intro pins s σ H D0 I h
 have hnames:∀y∈scope.names,y.2=NameKind.local→scope.names.lookup y.1=some .local:=fun y hy e=>by
  have:=List.all_eq_true.mp B.loc y hy
  rw [e] at this
  simpa using this
 rw [exec_Assign_Name_used _ _ _ _ hsw]
 refine wpAny_bind (wpAny_standAt (wpAny_bind ?_))
 show wpAny _ X.A (do let _ ← comprehension (.ListComp elt [⟨tg,iter,ifs,0⟩] scope pos) scope X.env _ (newList []) false (eval iter X.env) (some (assign (.Name x pos') X.env))) _ _ s
 refine wpAny_bind (thn (wpAny_comprehension_free (use:=some (assign (.Name x pos') X.env)) (Q:=fun _ s'=>SP X pins D0 .next s') rfl hs (closureFor_go fun y hy e=>(B.has I y hy e).2) B.kind hnames (thn (hi pins s σ H _ I h) fun v s1 h1=>thn h1 fun itv s2 h2=>?_)) fun _ s' hq=>wpAny_pure (wpAny_pure hq))
 obtain ⟨it,fp,tn,J,H2,e,I2,T,st2,f2,rd⟩:=h2
 subst e
 refine blk_run (Q:=fun v H'=>gName i v σ H' D0.nx) (RR:=fun acc C=>compPost (model X.prog X.w) X.A X.xe (some (assign (.Name x pos') X.env)) (fun _ s'=>SP X pins D0 .next s') acc C) B (fun C s H=>hin C fp s H) I2 T st2 f2 rd ?_
 intro D C H' s' m I' hn hC hL hsz hce hpi q
 show wpAny _ X.A (assign (.Name x pos') X.env (.ref D)) _ _ s'
 refine wpAny_assign_Name (store_ok2 I' hN hxi hx (v:=.ref D) rfl (fun s'' I'' ⟨a,sb,ha⟩=>?_) hfn)
 refine ⟨m,hn.sameBut sb ?_,fun h' sb'=>⟨_,H',I''.turned (t':=s''.toks) (fun b o hb e=>(sb'.2 b hb).trans e) hC hL (.inr hsz) hce hpi,q⟩⟩
 rcases ha with e | e
 ·rw [e]; exact hL
 ·exact Ne.symm (hce x a e)
end
end L2
namespace L2
open PySem PySem.Spec PyProof.Rows
theorem range_all(bs:List Bool):(List.range bs.length).all (fun i=>(bs[i]?).getD true)=bs.all id:=by
 rw [Bool.eq_iff_iff,List.all_eq_true,List.all_eq_true]
 constructor
 ·intro h b hb
  obtain ⟨i,hi,e⟩:=List.mem_iff_getElem.mp hb
  have z:=h i (List.mem_range.mpr hi)
  rw [gee hi,e] at z
  exact z
 ·intro h i hi
  have hi':=List.mem_range.mp hi
  rw [gee hi']
  exact h _ (List.getElem_mem hi')
section
variable {X:Cx}
def rAll(K:Fgg):List V→Hp→VK→Prop:=fun xs H Q=>∃(p:Addr) (bs:List Bool),xs=[.ref p]∧SqL K H p (bs.map V.bl)∧Q (.bl (bs.all id)) H
theorem call_all(hc:X.calm=true):CallR X (.builtin "all") (rAll X.K):=by
 intro pins s σ H xs us Q I r h
 obtain ⟨p,bs,rfl,hS,q⟩:=h
 obtain ⟨u,rfl,ru⟩:=vals1 r
 cases ru
 obtain ⟨its,rv,pl,hz⟩:=I.list hS
 have hlen:its.toArray.size=bs.length:=by
  have:=rv.length
  simp at this
  simp [this]
 have hlt:p < s.heap.objs.size:=by obtain ⟨o,n,e,_⟩:=pl; exact Heap.lt_size e
 refine call_all_walk (wpAny_pyIter_list pl.isList ?_)
 refine ⟨s.heap.objs.size,_,_,its.toArray.size,_,_,fun i=>(bs[i]?).getD true,rfl,Walks.list (show X.A.in1.handled=none from I.ok.hd hc) _ _ (Nat.ne_of_lt hlt) its.toArray,⟨⟨_,Heap.get?_push_size _ rfl,rfl,rfl⟩,pl.isList.push _⟩,?_,fun h' tk k=>?_⟩
 ·intro i v s' Q' E' hv hq
  have hi:i < bs.length:=by
   rw [← hlen]
   exact (Array.getElem?_eq_some_iff.mp hv).1
  obtain ⟨u',hu',ru'⟩:=rv.get (i:=i) (x:=.bl bs[i]) (by rw [List.getElem?_map,gee hi]; rfl)
  have e:its[i]?=some v:=by simpa using hv
  rw [hu'] at e
  cases e
  cases ru'
  have hq':Q' ((bs[i]?).getD true) s':=hq
  rw [gee hi] at hq'
  exact wpAny_truthy_bool hq'
 ·rw [hlen,range_all]
  exact ⟨.bl _,H,I.kept (t':=tk) fun b o e=>k b o (by simpa using Nat.ne_of_lt (Heap.lt_size e)) (Heap.get?_push_of_some _ e),rfl,q⟩
def rCatS(K:Fgg):R2:=fun x y H Q=>∃l b xs zs,x=.ref l∧y=.ref b∧SqL K H l xs∧SqL K H b zs∧xs.length + zs.length≤sizeLine∧∀p,H p=none→Q (.ref p) (upd H p (.lst (xs++zs)))
theorem op_catS:OpR X (binaryOp .Add) (rCatS X.K):=by
 intro pins s σ H x y v u Q I rx ry h
 obtain ⟨l,b,xs,zs,rfl,rfl,hH,hB,hz,q⟩:=h
 cases rx
 cases ry
 obtain ⟨its,r,⟨⟨c1,d1,a1,sl1⟩,n,e,rfl,rfl,rfl⟩,z⟩:=I.list hH
 obtain ⟨its2,r2,⟨⟨c2,d2,a2,sl2⟩,n2,e2,rfl,rfl,rfl⟩,z2⟩:=I.list hB
 have hl:=r.length
 have hl2:=r2.length
 refine concat_meets ⟨_,e,rfl⟩ ⟨_,e2,rfl⟩ noFill_list_add seq_list_add PySem.F.slot_list_add PySem.F.entry_list_add (PySem.F.args_list_add_2 _ _)
  (list_addW l b its.toArray its2.toArray n n2 none none sl1 sl2 (by rw [List.size_toArray,List.size_toArray]; omega)) ⟨e,e2,?_⟩
 rw [show its.toArray++its2.toArray=(its++its2).toArray by simp]
 exact ⟨.ref _,_,I.lnew (t':=s.toks) (r.append r2) (by rw [List.length_append]; omega),rfl,q _ I.fresh⟩
end
section
variable {X:Cx} {tg:Expr}
end
end L2
namespace L2
open PySem PySem.Spec PyProof.Rows
def DiD(K:Fgg)(w:World)(d:Addr)(kds:List (Str×PyData)):Prop :=
 (d == sysModules)=false∧∃(o:Obj) (vs:List (Str×Value)),K.lookup d=some o∧(∀P:Program,o.IsDictOf (strKind P w) vs) ∧
  Paired (fun a b=>a.1=b.1∧∃v,RelV v a.2∧∀H:Hp,RdV K H v b.2) vs kds
def getP(kds:List (Str×PyData))(k:Str):Option PyData:=(kds.find? fun kv=>decide (kv.1=k)).map (·.2)
theorem paired_get{K:Fgg}{vs:List (Str×Value)}{kds:List (Str×PyData)}(k:Str)(h:Paired (fun a b=>a.1=b.1∧∃v,RelV v a.2∧∀H:Hp,RdV K H v b.2) vs kds):
  (valueAt vs k=none∧getP kds k=none)∨∃u d v,valueAt vs k=some u∧getP kds k=some d∧RelV v u∧∀H:Hp,RdV K H v d:=by
 induction h with
 | nil=>exact .inl ⟨rfl,rfl⟩
 | @cons a b as bs hab t ih =>
  obtain ⟨e,v,h1,h2⟩:=hab
  by_cases q:a.1=k
  ·refine .inr ⟨a.2,b.2,v,?_,?_,h1,h2⟩
   ·unfold valueAt; rw [List.find?_cons_of_pos (by simpa using q)]; rfl
   ·unfold getP; rw [List.find?_cons_of_pos (by simpa [← e] using q)]; rfl
  ·have e1:valueAt (a::as) k=valueAt as k:=by unfold valueAt; rw [List.find?_cons_of_neg (by simpa using q)]
   have e2:getP (b::bs) k=getP bs k:=by unfold getP; rw [List.find?_cons_of_neg (by simpa [← e] using q)]
   rw [e1,e2]
   exact ih
def entC(w:World)(e:Str×Tok×Value):DictEntry:={hash:=PyData.keyHash w.params e.1,key:=.str e.1 e.2.1,val:=e.2.2}
theorem diD_of{K:Fgg}{w:World}{d:Addr}{ep:Nat}{ent:List (Str×Tok×Value)}{kds:List (Str×PyData)}(hd:(d == sysModules)=false)
  (lk:K.lookup d=some {cls:=.type "dict",data:=.dict (ent.map (entC w)).toArray ep}) (nd:(ent.map (·.1)).Nodup)
  (h:Paired (fun (e:Str×Tok×Value) (kd:Str×PyData)=>e.1=kd.1∧∃v,RelV v e.2.2∧∀H:Hp,RdV K H v kd.2) ent kds):DiD K w d kds:=by
 refine ⟨hd,_,ent.map (fun e=>(e.1,e.2.2)),lk,fun P=>⟨_,ep,⟨rfl,rfl,rfl⟩,rfl,?_,?_,?_⟩,?_⟩
 ·intro e he
  simp at he
  obtain ⟨a,b,c,_,rfl⟩:=he
  exact ⟨a,strKind_is _ _ _ _,rfl⟩
 ·show Pairs _ (ent.map (entC w)) _
  clear h nd lk
  induction ent with
  | nil=>exact .nil
  | cons e r ih=>exact .cons (strKind_is _ _ _ _) rfl ih
 ·rw [List.map_map]
  exact nd
 ·clear lk nd
  induction h with
  | nil=>exact .nil
  | cons a t ih=>exact .cons a ih
theorem rdK_tup{K:Fgg}{r:Addr}{its:List Value}{ds:List PyData}(lk:K.lookup r=some {cls:=.type "tuple",data:=.seq its.toArray 0})(hz:its.length≤sizeLine)
  (h:Paired (fun u d=>∃v,RelV v u∧∀H:Hp,RdV K H v d) its ds):∃v,RelV v (.ref r)∧∀H:Hp,RdV K H v (.tuple ds):=by
 have key:∃xs:List V,Vals xs its∧∀H:Hp,RdAll K H xs ds:=by
  clear lk hz
  induction h with
  | nil=>exact ⟨[],.nil,fun H=>RdAll.nil⟩
  | cons a t ih =>
   obtain ⟨v,h1,h2⟩:=a
   obtain ⟨xs,g1,g2⟩:=ih
   exact ⟨v::xs,.cons h1 g1,fun H=>RdAll.cons (h2 H) (g2 H)⟩
 obtain ⟨xs,h1,h2⟩:=key
 exact ⟨.ref r,rfl,fun H=>.tup' (.inr ⟨_,its.toArray,0,lk,rfl,rfl,by simpa using hz,h1⟩) (h2 H)⟩
theorem rdK_ref{K:Fgg}{r:Addr}{d:PyData}(h:∃v,RelV v (.ref r)∧∀H:Hp,RdV K H v d):∀H:Hp,RdV K H (.ref r) d:=by
 obtain ⟨v,h1,h2⟩:=h
 intro H
 cases v <;> simp [RelV] at h1
 subst h1
 exact h2 H
theorem rdK_str{K:Fgg}{x:Str}{t:Tok}:∃v,RelV v (.str x t)∧∀H:Hp,RdV K H v (.str x):=⟨.str x,⟨t,rfl⟩,fun _=>.str x⟩
theorem rdK_int{K:Fgg}{i:Int}{t:Tok}:∃v,RelV v (.int i t)∧∀H:Hp,RdV K H v (.int i):=⟨.int i,⟨t,rfl⟩,fun _=>.int i⟩
section
variable {X:Cx}
theorem DiD.at{K:Fgg}{pins:List (Addr×Obj)}{σ:St}{H:Hp}{s:Shared}{w:World}{d:Addr}{kds:List (Str×PyData)}(hK:X.K=K)(I:Inv X pins σ H s)(h:DiD K w d kds):
  (d == sysModules)=false∧∃vs,(∀P,s.heap.DictOf (strKind P w) d vs)∧Paired (fun a b=>a.1=b.1∧∃v,RelV v a.2∧∀H:Hp,RdV K H v b.2) vs kds:=by
 obtain ⟨h0,o,vs,lk,hd,hp⟩:=h
 subst hK
 exact ⟨h0,vs,fun P=>Heap.dictOf_iff.mpr ⟨o,I.kIn d o lk,hd P⟩,hp⟩
def rInK(K:Fgg)(w:World)(neg:Bool):R2:=fun x y H Q=>∃d kds k,y=.ref d∧x=.str k∧DiD K w d kds∧Q (.bl (if neg then !(getP kds k).isSome else (getP kds k).isSome)) H
theorem op_inK:OpR X (compareOp .In) (rInK X.K X.w false):=by
 intro pins s σ H x y v u Q I rx ry h
 obtain ⟨d,kds,k,rfl,rfl,hd,q⟩:=h
 cases ry
 obtain ⟨t,rfl⟩:=rx
 obtain ⟨h0,vs,hm,hp⟩:=hd.at rfl I
 refine wpAny_in_of (strKind_is X.prog X.w k t) h0 (hm X.prog).mapOf ⟨.bl _,H,I.tok _,rfl,?_⟩
 have e:(valueAt vs k).isSome=(getP kds k).isSome:=by
  rcases paired_get k hp with ⟨a,b⟩ | ⟨_,_,_,a,b,_⟩ <;> rw [a,b] <;> rfl
 rw [e]
 exact q
def rIxK(K:Fgg)(w:World):R2:=fun x y H Q=>∃d kds k dt,x=.ref d∧y=.str k∧DiD K w d kds∧getP kds k=some dt∧∀v:V,(∀H:Hp,RdV K H v dt)→Q v H
theorem ix_dictK:IxR X (rIxK X.K X.w):=by
 intro value slice pins s σ H x y v u Q I rx ry h hs
 obtain ⟨d,kds,k,dt,rfl,rfl,hd,hg,q⟩:=h
 cases rx
 obtain ⟨t,rfl⟩:=ry
 obtain ⟨h0,vs,hm,hp⟩:=hd.at rfl I
 rcases paired_get k hp with ⟨a,b⟩ | ⟨u,e,z,a,b,c1,c2⟩
 ·rw [b] at hg; cases hg
 ·rw [b] at hg
  cases hg
  exact subscriptTail_builtinR (x:=u) (hm X.prog).mapOf.typeIs slot_dict_getitem.lookup
   (wpAny_getItem_of (Q:=fun r s'=>r=u∧EP X pins σ Q r s') (strKind_is X.prog X.w k t) (hm X.prog).mapOf a ⟨rfl,⟨z,H,I.tok _,c1,q z c2⟩⟩) hs
def tGetK(K:Fgg)(w:World)(to:TE)(t:TA):TE:=fun σ H Q=>to σ H fun x H1=>∃d kds,x=.ref d∧DiD K w d kds∧t σ H1 fun xs H2=>∃k z,xs=[.str k,z]∧(getP kds k=none→Q z H2) ∧
 ∀dt,getP kds k=some dt→∀v:V,(∀H:Hp,RdV K H v dt)→Q v H2
variable {o e:Expr} {es:List Expr} {to:TE} {t:TA} {apos cpos:Pos}
theorem pe_getK(ho:PE X o to)(ha:PA X (e::es) t)
  (hbase:attributeBase o "get" X.env (eval o X.env)=eval o X.env:=by rfl)
  (hfew:((backTo cpos (starEach (e::es) X.env)).all (fun x=>!x.1)&&(backToKw cpos (keywordEach [] X.env)).all (fun x=>x.1.isSome)
   && decide ((e::es).length + ([]:List Keyword).length + (if ([]:List Keyword).isEmpty then 0 else 1) < 30))=true:=by rfl)
  (hline:(apos.endLine == cpos.line)=true:=by rfl) (hs:starEach (e::es) X.env=(false,eval e X.env)::starEach es X.env:=by rfl) (hplain:(backTo cpos (starEach es X.env)).any (·.1)=false:=by rfl) :
  PE X (.Call (.Attribute o "get" apos) (e::es) [] cpos) (tGetK X.K X.w to t):=by
 intro pins s σ H Q I h
 refine wpAny_Call_method_late hbase hfew hline rfl (thn (ho pins s σ H _ I h) fun v s1 ⟨x,H1,I1,r1,d,kds,ex,hd,q1⟩=>?_)
 subst ex
 cases r1
 obtain ⟨h0,vs,hm,hp⟩:=hd.at rfl I1
 refine ⟨"dict","dict.get",PySem.F.plainAttrs_dict,PySem.F.slot_dict_get,PySem.F.type_dict_get,(hm X.prog).mapOf.typeIs,fun b eb=>?_,?_⟩
 ·cases eb
  obtain ⟨ob,_,_,g1,g2,_⟩:=hm X.prog
  exact ⟨ob,g1,g2.2.1⟩
 have hA:=ha cpos pins s1 σ H1 _ I1 q1
 rw [hs] at hA ⊢
 refine Calls.callWith_builtin (by show (false||(backTo cpos (starEach es X.env)).any (·.1))=false; rw [hplain] <;> rfl) (Calls.evalArgs_plain ?_)
 refine thn hA fun us s2 ⟨ws,H2,I2,r2,k,z,ez,q2,q3⟩=>?_
 subst ez
 obtain ⟨u1,u2,rfl,ru1,ru2⟩:=vals2 r2
 obtain ⟨tk,rfl⟩:=ru1
 obtain ⟨h0,vs,hm,hp⟩:=hd.at rfl I2
 refine call_meetsIn PySem.F.slot_dict_get (hm X.prog).mapOf.typeIs PySem.F.entry_dict_get (PySem.F.args_dict_get_3 _ _ _) (meets_dict_get_default (strKind X.prog X.w) d (strKind_is X.prog X.w k tk) h0 u2) ⟨_,(hm X.prog).mapOf,?_⟩
 rcases paired_get k hp with ⟨a,b⟩ | ⟨u,dt,v,a,b,c1,c2⟩
 ·rw [a]
  exact ⟨z,H2,I2.tok _,ru2,q2 b⟩
 ·rw [a]
  exact ⟨v,H2,I2.tok _,c1,q3 dt b v c2⟩
end
end L2
namespace L2
open PySem PySem.Spec PyProof.Rows
theorem Inv.turnNew{X:Cx}{pins:List (Addr×Obj)}{σ:List (Option V)}{H:Hp}{s:Shared}{h':Heap}{fp:List Addr}{a:Addr}{o:HO}{t':Nat}(I:Inv X pins σ H s)(hf:∀b∈fp,FpOk X pins H b)
  (k:∀b u,b∉fp→s.heap.get? b=some u→h'.get? b=some u) (hp:s.heap.objs.size≤a) (new:ObjOk X.prog X.w (upd H a o) h' a o):Inv X pins σ (upd H a o) {s with heap:=h',toks:=t'}:=by
 have hn:=I.hok.fresh hp
 have nfp:∀b u,H b=some u→b∉fp:=fun b u e z=>by rw [(hf b z).1] at e; cases e
 refine I.step (g':=s.gens) (d':=s.drawn) (ch:=fp) (fun b hb=>⟨(hf b hb).2.2.2.1,(hf b hb).2.1,(hf b hb).2.2.2.2.1,(hf b hb).2.2.2.2.2⟩) (fun b o _ _ hc e _=>k b o hc e) (fun b o _ _ hc e _=>⟨o.slots,k b o hc e⟩)
  (fun b o hc e n=>by rw [uN (Nat.ne_of_lt (Nat.lt_of_lt_of_le (Heap.lt_size e) hp))]; exact n) (fun b o hc e=>⟨o,k b o hc e⟩) (fun b xs e=>by rw [uN (nN e hn)]; exact e) (fun b u xs e=>by rw [uN (nN e hn)]; exact e)
  (fun b ps e=>⟨#[],by rw [uN (nN e hn),e]; simp⟩) (fun m hm=>?_) (fun b u e=>?_) I.bare
 ·obtain ⟨o,es,ep,ho,r⟩:=hm
  exact ⟨o,es,ep,k _ o (fun z=>(hf _ z).2.1 rfl) ho,r⟩
 ·by_cases hb:b=a
  ·subst hb; rw [uS] at e; cases e; exact new
  ·rw [uN hb] at e
   refine (I.hok b u e).stay (fun c v hc q=>k c v ?_ q) (fun c q=>by rw [uN (nN q hn)]; exact q) fun c xs q=>by rw [uN (nN q hn)]; exact q
   rcases hc with z | z
   ·rw [z]; exact nfp b u e
   ·exact nfp c _ z
theorem Inv.turnedL{X:Cx}{pins:List (Addr×Obj)}{σ:List (Option V)}{H:Hp}{s:Shared}{h':Heap}{fp:List Addr}{t':Nat}(I:Inv X pins σ H s)(hf:∀b∈fp,FpOk X pins H b)
  (k:∀b u,b∉fp→s.heap.get? b=some u→h'.get? b=some u):Inv X pins σ H {s with heap:=h',toks:=t'}:=by
 have nfp:∀b u,H b=some u→b∉fp:=fun b u e z=>by rw [(hf b z).1] at e; cases e
 refine I.step (g':=s.gens) (d':=s.drawn) (ch:=fp) (fun b hb=>⟨(hf b hb).2.2.2.1,(hf b hb).2.1,(hf b hb).2.2.2.2.1,(hf b hb).2.2.2.2.2⟩) (fun b o _ _ hc e _=>k b o hc e) (fun b o _ _ hc e _=>⟨o.slots,k b o hc e⟩)
  (fun _ _ _ _ n=>n) (fun b o hc e=>⟨o,k b o hc e⟩) (fun _ _ e=>e) (fun _ _ _ e=>e) (fun b ps e=>⟨#[],by rw [e]; simp⟩) (fun m hm=>?_) (fun b u e=>?_) I.bare
 ·obtain ⟨o,es,ep,ho,r⟩:=hm
  exact ⟨o,es,ep,k _ o (fun z=>(hf _ z).2.1 rfl) ho,r⟩
 ·refine (I.hok b u e).stay (fun c v hc q=>k c v ?_ q) (fun _ q=>q) fun _ _ q=>q
  rcases hc with z | z
  ·rw [z]; exact nfp b u e
  ·exact nfp c _ z
def sqAt(q:Bool)(h:Heap)(a:Addr)(its:Array Value):Prop:=match q with | true=>h.IsList a its | false=>h.IsTuple a its
def itAt(q:Bool)(h:Heap)(it a:Addr)(i:Nat):Prop:=match q with | true=>h.IsListIter it a i | false=>h.IsTupleIter it a i
def itC(q:Bool):String:=match q with | true=>"list_iterator" | false=>"tuple_iterator"
theorem sqAt.at{q:Bool}{h h':Heap}{a:Addr}{its:Array Value}(x:sqAt q h a its)(e:∀o,h.get? a=some o→h'.get? a=some o):sqAt q h' a its:=by
 cases q <;> (obtain ⟨o,ho,r⟩:=x; exact ⟨o,e _ ho,r⟩)
theorem itAt.at{q:Bool}{h h':Heap}{it a:Addr}{i:Nat}(x:itAt q h it a i)(e:∀o,h.get? it=some o→h'.get? it=some o):itAt q h' it a i:=by
 cases q <;> (obtain ⟨o,ho,r⟩:=x; exact ⟨o,e _ ho,r⟩)
theorem itAt.obj{q:Bool}{h:Heap}{it a:Addr}{i:Nat}(x:itAt q h it a i):∃o,h.get? it=some o∧∀v,o.data≠.cell v:=by
 cases q <;> (obtain ⟨o,ho,c,d⟩:=x; exact ⟨o,ho,fun v z=>by rw [d] at z; cases z⟩)
section
variable {prog:Program} {w:World} {A:Around} {E:Value→Shared→Prop} {s:Shared}
theorem nxT_item{it t:Addr}{i:Nat}{its:Array Value}{x:Value}{Q:Value→Shared→Prop}(hit:s.heap.IsTupleIter it t i)(ht:s.heap.IsTuple t its)(hx:its[i]?=some x)
  (hQ:∀h',h'.IsTupleIter it t (i + 1)→Heap.SameBut it s.heap h'→Q x {s with heap:=h'}):wpAny (model prog w) A (Builtin.SmallTypes.nextOf (.ref it)) Q E s:=by
 obtain ⟨o,g1,g2,g3⟩:=id hit
 obtain ⟨ot,g4,_,nt,g5⟩:=ht
 unfold Builtin.SmallTypes.nextOf
 refine wpAny_bind (wpAny_callSpecial?_slot (name:=Str.ofString "__next__") hit.typeIs F.slot_tuple_iterator_next (wpAny_call_entry F.slot_tuple_iterator_next hit.typeIs F.entry_tuple_iterator_next ?_ (F.args_tuple_iterator_next_1 _)))
 show wpAny _ _ (field (.ref it) 0 >>= _) _ _ s
 refine wpAny_bind (wpAny_field g1 g3 (x:=.ref t) rfl ?_)
 show wpAny _ _ (if (Value.ref t == Value.none)=true then _ else _) _ _ s
 rw [if_neg (show ¬ ((Value.ref t == Value.none)=true) from Bool.false_ne_true)]
 show wpAny _ _ (field (.ref it) 1 >>= _) _ _ s
 refine wpAny_bind (wpAny_field g1 g3 (x:=.int i 0) rfl ?_)
 show wpAny _ _ (seqItems? (.ref t) >>= _) _ _ s
 refine wpAny_bind (wpAny_seqItems g4 g5 ?_)
 simp only [Int.toNat_natCast,hx]
 refine wpAny_bind (wpAny_setField g1 g3 (by simp) (wpAny_pure ⟨x,rfl,wpAny_pure (hQ _ ?_ (Heap.SameBut.update ..))⟩))
 exact ⟨_,Heap.get?_update_self _ g1 (Obj.isFreed_of_fields (Obj.data_mapFields g3 _)),(Obj.cls_mapFields ..).trans g2,by rw [Obj.data_mapFields g3]; simp [rawInt]⟩
theorem nxT_end{it t:Addr}{i:Nat}{its:Array Value}{Q:Value→Shared→Prop}(hh:A.handled=none)(hit:s.heap.IsTupleIter it t i)(ht:s.heap.IsTuple t its)(hx:its[i]?=none)
  (hE:∀h' e,Heap.ExtBut it s.heap h'→(∃o,h'.get? e=some o∧o.cls=.type "StopIteration")→E (.ref e) {s with heap:=h'}):wpAny (model prog w) A (Builtin.SmallTypes.nextOf (.ref it)) Q E s:=by
 obtain ⟨o,g1,g2,g3⟩:=id hit
 obtain ⟨ot,g4,_,nt,g5⟩:=ht
 unfold Builtin.SmallTypes.nextOf
 refine wpAny_bind (wpAny_callSpecial?_slot (name:=Str.ofString "__next__") hit.typeIs F.slot_tuple_iterator_next (wpAny_call_entry F.slot_tuple_iterator_next hit.typeIs F.entry_tuple_iterator_next ?_ (F.args_tuple_iterator_next_1 _)))
 show wpAny _ _ (field (.ref it) 0 >>= _) _ _ s
 refine wpAny_bind (wpAny_field g1 g3 (x:=.ref t) rfl ?_)
 show wpAny _ _ (if (Value.ref t == Value.none)=true then _ else _) _ _ s
 rw [if_neg (show ¬ ((Value.ref t == Value.none)=true) from Bool.false_ne_true)]
 show wpAny _ _ (field (.ref it) 1 >>= _) _ _ s
 refine wpAny_bind (wpAny_field g1 g3 (x:=.int i 0) rfl ?_)
 show wpAny _ _ (seqItems? (.ref t) >>= _) _ _ s
 refine wpAny_bind (wpAny_seqItems g4 g5 ?_)
 simp only [Int.toNat_natCast,hx]
 refine wpAny_bind (wpAny_rule (wpAny_bind (wpAny_setField g1 g3 (by simp) ?_)))
 show wpAny _ _ (newExc (.type "StopIteration") [] >>= _) _ _ _
 refine wpAny_bind ?_
 simp only [newExc,newTuple]
 refine wpAny_bind (wpAny_newObj_type ?_ (by size_fits))
 refine wpAny_bind (m:=firstArgMember _ _) (wpAny_of_eq (a:=Value.none) (by first | rfl | (simp only [firstArgMember]; rfl)) ?_)
 refine wpAny_newObj_type ?_ (by size_fits)
 simp only [raiseNew]
 refine wpAny_bind (wpAny_handled ?_)
 first | rw [show A.in1.handled=none from hh] | rw [hh]
 refine wpAny_bind (wpAny_pure (wpAny_throw ?_))
 exact hE _ _ (((Heap.SameBut.update ..).extBut.push _).push _) ⟨_,Heap.get?_push_size _ rfl,rfl⟩
theorem nx_item{q:Bool}{it t:Addr}{i:Nat}{its:Array Value}{x:Value}{Q:Value→Shared→Prop}(hit:itAt q s.heap it t i)(ht:sqAt q s.heap t its)(hx:its[i]?=some x)
  (hQ:∀h',itAt q h' it t (i + 1)→Heap.SameBut it s.heap h'→Q x {s with heap:=h'}):wpAny (model prog w) A (Builtin.SmallTypes.nextOf (.ref it)) Q E s:=by
 cases q with
 | true=>exact wpAny_nextOf_list_item hit ht hx hQ
 | false=>exact nxT_item hit ht hx hQ
theorem nx_end{q:Bool}{it t:Addr}{i:Nat}{its:Array Value}{Q:Value→Shared→Prop}(hh:A.handled=none)(hit:itAt q s.heap it t i)(ht:sqAt q s.heap t its)(hx:its[i]?=none)
  (hE:∀h' e,Heap.ExtBut it s.heap h'→(∃o,h'.get? e=some o∧o.cls=.type "StopIteration")→E (.ref e) {s with heap:=h'}):wpAny (model prog w) A (Builtin.SmallTypes.nextOf (.ref it)) Q E s:=by
 cases q with
 | true=>exact wpAny_nextOf_list_end hh hit ht hx hE
 | false=>exact nxT_end hh hit ht hx hE
variable {q1 q2:Bool} {z TI TO i1 i2 l1 l2:Addr} {k1 k2:Nat} {xs ys:Array Value} {x y a b:Value}
theorem zipQ_item{Q:Option Value→Shared→Prop}(D:ZipApart z TI TO i1 i2 l1 l2)(hz:IsZip s.heap z TI TO .none)(hTI:IsPair s.heap TI (.ref i1) (.ref i2))(hTO:IsPair s.heap TO a b)
  (h1:itAt q1 s.heap i1 l1 k1) (h2:itAt q2 s.heap i2 l2 k2) (hl1:sqAt q1 s.heap l1 xs) (hl2:sqAt q2 s.heap l2 ys) (hx:xs[k1]?=some x) (hy:ys[k2]?=some y)
  (hQ:∀h',IsZip h' z TI TO (rawInt s.heap.objs.size)→IsPair h' TO x y→itAt q1 h' i1 l1 (k1 + 1)→itAt q2 h' i2 l2 (k2 + 1)→IsPair h' s.heap.objs.size x y →
   (∀c o,c≠z→c≠TO→c≠i1→c≠i2→s.heap.get? c=some o→h'.get? c=some o)→Q (some (.ref s.heap.objs.size)) {s with heap:=h'}):wpAny (model prog w) A (pyNext (.ref z)) Q E s:=by
 have hT:s.TypeIs (.ref z) "zip":=⟨_,hz,rfl⟩
 unfold pyNext
 refine wpAny_bind (wpAny_attempt (wpAny_callSpecial?_slot (name:=Str.ofString "__next__") hT F.slot_zip_next (wpAny_call_entry F.slot_zip_next hT F.entry_zip_next ?_ (F.args_zip_next_1 _))))
 show wpAny _ _ (field (.ref z) 2 >>= _) _ _ _
 refine wpAny_bind (wpAny_field hz rfl (x:=.bool false) rfl ?_)
 show wpAny _ _ (field (.ref z) 3 >>= _) _ _ _
 refine wpAny_bind (wpAny_field hz rfl (x:=.ref TI) rfl (wpAny_bind (wpAny_seqItems hTI rfl ?_)))
 show wpAny _ _ (Builtin.SmallTypes.ownedTupleIsFree (.ref z) >>= _) _ _ _
 refine wpAny_bind ?_
 unfold Builtin.SmallTypes.ownedTupleIsFree
 refine wpAny_bind (wpAny_field hz rfl (x:=.none) rfl (wpAny_pure ?_))
 simp only [if_true]
 refine wpAny_bind (wpAny_rule (wpAny_bind (wpAny_field hz rfl (x:=.ref TO) rfl (wpAny_bind (wpAny_setField_rec hz (by simp) fun u1 hz1 b1=>?_)))))
 replace hz1:IsZip u1 z TI TO .ellipsis:=hz1
 refine wpAny_bind ?_
 simp only [List.zipIdx_cons,List.zipIdx_nil,List.forIn_cons,List.forIn_nil]
 refine wpAny_bind (wpAny_bind (wpAny_onRaise ?_))
 show wpAny _ _ (Builtin.SmallTypes.nextOf (.ref i1) >>= _) _ _ _
 refine wpAny_bind (nx_item (h1.at fun o e=>b1.extBut _ o D.i1z e) (hl1.at fun o e=>b1.extBut _ o D.l1z e) hx fun u2 h12 b2=>wpAny_pure ?_)
 have hTO2:IsPair u2 TO a b:=b2.extBut _ _ D.TOi1 (b1.extBut _ _ D.TOz hTO)
 refine wpAny_bind (wpAny_seqItems hTO2 rfl (wpAny_bind (wpAny_updateSeq_pair hTO2 fun u3 hTO3 b3=>?_)))
 replace hTO3:IsPair u3 TO x b:=hTO3
 refine wpAny_bind (wpAny_letGo (wpAny_pure (wpAny_bind (wpAny_bind (wpAny_onRaise ?_)))))
 show wpAny _ _ (Builtin.SmallTypes.nextOf (.ref i2) >>= _) _ _ _
 refine wpAny_bind (nx_item (h2.at fun o e=>b3.extBut _ o D.TOi2.symm (b2.extBut _ o D.i12.symm (b1.extBut _ o D.i2z e))) (hl2.at fun o e=>b3.extBut _ o D.l2TO (b2.extBut _ o D.l2i1 (b1.extBut _ o D.l2z e))) hy fun u4 h24 b4=>wpAny_pure ?_)
 have hTO4:IsPair u4 TO x b:=b4.extBut _ _ D.TOi2 hTO3
 refine wpAny_bind (wpAny_seqItems hTO4 rfl (wpAny_bind (wpAny_updateSeq_pair hTO4 fun u5 hTO5 b5=>?_)))
 replace hTO5:IsPair u5 TO x y:=hTO5
 refine wpAny_bind (wpAny_letGo (wpAny_pure (wpAny_pure ?_)))
 refine wpAny_bind (wpAny_seqItems hTO5 rfl (wpAny_bind (wpAny_newTuple ?_)))
 have hsz:u5.objs.size=s.heap.objs.size:=by rw [b5.1,b4.1,b3.1,b2.1,b1.1]
 have hz5:IsZip u5 z TI TO .ellipsis:=b5.extBut _ _ D.TOz.symm (b4.extBut _ _ D.i2z.symm (b3.extBut _ _ D.TOz.symm (b2.extBut _ _ D.i1z.symm hz1)))
 have hk5:∀c o,c≠z→c≠TO→c≠i1→c≠i2→s.heap.get? c=some o→u5.get? c=some o:=fun c o c1 c2 c3 c4 e=>b5.extBut _ _ c2 (b4.extBut _ _ c4 (b3.extBut _ _ c2 (b2.extBut _ _ c3 (b1.extBut _ _ c1 e))))
 have h15:itAt q1 u5 i1 l1 (k1 + 1):=h12.at fun o e=>b5.extBut _ o D.TOi1.symm (b4.extBut _ o D.i12 (b3.extBut _ o D.TOi1.symm e))
 have h25:itAt q2 u5 i2 l2 (k2 + 1):=h24.at fun o e=>b5.extBut _ o D.TOi2.symm e
 have hzl:z < u5.objs.size:=Heap.lt_size hz5
 show wpAny _ _ (Builtin.SmallTypes.ownedTupleHandOut (.ref z) (.ref u5.objs.size) >>= _) _ _ _
 refine wpAny_bind ?_
 unfold Builtin.SmallTypes.ownedTupleHandOut
 have hz6:IsZip (u5.push {cls:=.type "tuple",data:=.seq #[x,y]}) z TI TO .ellipsis:=Heap.get?_push_of_some _ hz5
 refine wpAny_bind (wpAny_setField_rec hz6 (by simp) fun u7 hz7 b7=>?_)
 replace hz7:IsZip u7 z TI TO (rawInt u5.objs.size):=hz7
 refine wpAny_setField_rec hz7 (by simp) fun u8 hz8 b8=>?_
 replace hz8:IsZip u8 z TI TO (rawInt u5.objs.size):=hz8
 have up:∀c o,c≠z→u5.get? c=some o→u8.get? c=some o:=fun c o c1 e=>b8.extBut _ _ c1 (b7.extBut _ _ c1 (Heap.get?_push_of_some _ e))
 have hT8:IsPair u8 u5.objs.size x y:=b8.extBut _ _ (Nat.ne_of_gt hzl) (b7.extBut _ _ (Nat.ne_of_gt hzl) (Heap.get?_push_size _ rfl))
 rw [hsz] at hz8 hT8
 refine wpAny_pure ⟨_,rfl,wpAny_pure ?_⟩
 show Q (some (.ref u5.objs.size)) _
 rw [hsz]
 exact hQ u8 hz8 (up _ _ D.TOz hTO5) (h15.at fun o e=>up _ o D.i1z e) (h25.at fun o e=>up _ o D.i2z e) hT8 fun c o c1 c2 c3 c4 e=>up c o c1 (hk5 c o c1 c2 c3 c4 e)
theorem zipQ_end{Q:Option Value→Shared→Prop}(hh:A.handled=none)(D:ZipApart z TI TO i1 i2 l1 l2)(hz:IsZip s.heap z TI TO .none)(hTI:IsPair s.heap TI (.ref i1) (.ref i2))(hTO:IsPair s.heap TO a b)
  (h1:itAt q1 s.heap i1 l1 k1) (h2:itAt q2 s.heap i2 l2 k2) (hl1:sqAt q1 s.heap l1 xs) (hl2:sqAt q2 s.heap l2 ys) (hend:xs[k1]?=none∨ys[k2]?=none)
  (hQ:∀h',(∀c o,c≠z→c≠TO→c≠i1→c≠i2→s.heap.get? c=some o→h'.get? c=some o)→Q none {s with heap:=h'}):wpAny (model prog w) A (pyNext (.ref z)) Q E s:=by
 have hT:s.TypeIs (.ref z) "zip":=⟨_,hz,rfl⟩
 have fin:∀(h':Heap) (e:Addr),(∀c o,c≠z→c≠TO→c≠i1→c≠i2→s.heap.get? c=some o→h'.get? c=some o)→(∃o,h'.get? e=some o∧o.cls=.type "StopIteration") →
   wpAny (model prog w) A (do let b ← isInstance (.ref e) (.type "StopIteration"); if b=true then pure none else throw (.ref e)) Q E {s with heap:=h'}:=fun h' e hk ⟨o,ho,hc⟩ =>
  wpAny_bind (wpAny_isInstance (T:="StopIteration") (b:=true) ⟨o,ho,hc⟩ isSubtype_stop (wpAny_pure (hQ _ hk)))
 unfold pyNext
 refine wpAny_bind (wpAny_attempt (wpAny_callSpecial?_slot (name:=Str.ofString "__next__") hT F.slot_zip_next (wpAny_call_entry F.slot_zip_next hT F.entry_zip_next ?_ (F.args_zip_next_1 _))))
 show wpAny _ _ (field (.ref z) 2 >>= _) _ _ _
 refine wpAny_bind (wpAny_field hz rfl (x:=.bool false) rfl ?_)
 show wpAny _ _ (field (.ref z) 3 >>= _) _ _ _
 refine wpAny_bind (wpAny_field hz rfl (x:=.ref TI) rfl (wpAny_bind (wpAny_seqItems hTI rfl ?_)))
 show wpAny _ _ (Builtin.SmallTypes.ownedTupleIsFree (.ref z) >>= _) _ _ _
 refine wpAny_bind ?_
 unfold Builtin.SmallTypes.ownedTupleIsFree
 refine wpAny_bind (wpAny_field hz rfl (x:=.none) rfl (wpAny_pure ?_))
 simp only [if_true]
 refine wpAny_bind (wpAny_rule (wpAny_bind (wpAny_field hz rfl (x:=.ref TO) rfl (wpAny_bind (wpAny_setField_rec hz (by simp) fun u1 hz1 b1=>?_)))))
 replace hz1:IsZip u1 z TI TO .ellipsis:=hz1
 refine wpAny_bind ?_
 simp only [List.zipIdx_cons,List.zipIdx_nil,List.forIn_cons,List.forIn_nil]
 refine wpAny_bind (wpAny_bind (wpAny_onRaise ?_))
 show wpAny _ _ (Builtin.SmallTypes.nextOf (.ref i1) >>= _) _ _ _
 cases hx:xs[k1]? with
 | none =>
  refine wpAny_bind (nx_end hh (h1.at fun o e=>b1.extBut _ o D.i1z e) (hl1.at fun o e=>b1.extBut _ o D.l1z e) hx fun u2 e b2 he=>?_)
  obtain ⟨oe,hoe,hce⟩:=he
  have hz2:IsZip u2 z TI TO .ellipsis:=b2 _ _ D.i1z.symm hz1
  have hez:e≠z:=fun x=>by subst x; rw [hz2] at hoe; cases hoe; simp at hce
  exact wpAny_setField_rec hz2 (by simp) fun u3 _ b3=>fin u3 e (fun c o c1 _ c3 _ x=>b3.extBut _ _ c1 (b2 _ _ c3 (b1.extBut _ _ c1 x))) ⟨oe,b3.extBut _ _ hez hoe,hce⟩
 | some x =>
  have hy:ys[k2]?=none:=by rcases hend with h | h; rw [hx] at h; cases h; exact h
  refine wpAny_bind (nx_item (h1.at fun o e=>b1.extBut _ o D.i1z e) (hl1.at fun o e=>b1.extBut _ o D.l1z e) hx fun u2 h12 b2=>wpAny_pure ?_)
  have hTO2:IsPair u2 TO a b:=b2.extBut _ _ D.TOi1 (b1.extBut _ _ D.TOz hTO)
  refine wpAny_bind (wpAny_seqItems hTO2 rfl (wpAny_bind (wpAny_updateSeq_pair hTO2 fun u3 hTO3 b3=>?_)))
  refine wpAny_bind (wpAny_letGo (wpAny_pure (wpAny_bind (wpAny_bind (wpAny_onRaise ?_)))))
  show wpAny _ _ (Builtin.SmallTypes.nextOf (.ref i2) >>= _) _ _ _
  refine wpAny_bind (nx_end hh (h2.at fun o e=>b3.extBut _ o D.TOi2.symm (b2.extBut _ o D.i12.symm (b1.extBut _ o D.i2z e))) (hl2.at fun o e=>b3.extBut _ o D.l2TO (b2.extBut _ o D.l2i1 (b1.extBut _ o D.l2z e))) hy fun u4 e b4 he=>?_)
  obtain ⟨oe,hoe,hce⟩:=he
  have hz4:IsZip u4 z TI TO .ellipsis:=b4 _ _ D.i2z.symm (b3.extBut _ _ D.TOz.symm (b2.extBut _ _ D.i1z.symm hz1))
  have hez:e≠z:=fun x=>by subst x; rw [hz4] at hoe; cases hoe; simp at hce
  exact wpAny_setField_rec hz4 (by simp) fun u5 _ b5=>fin u5 e (fun c o c1 c2 c3 c4 x=>b5.extBut _ _ c1 (b4 _ _ c4 (b3.extBut _ _ c2 (b2.extBut _ _ c3 (b1.extBut _ _ c1 x))))) ⟨oe,b5.extBut _ _ hez hoe,hce⟩
theorem it_start{q:Bool}{l:Addr}{its:Array Value}{Q:Value→Shared→Prop}(hl:sqAt q s.heap l its)(hQ:Q (.ref s.heap.objs.size) {s with heap:=s.heap.push {cls:=.type (itC q),data:=.fields #[.ref l,.int 0 0]}}):
  wpAny (model prog w) A (pyIter (.ref l)) Q E s:=by
 cases q with
 | true=>exact wpAny_pyIter_list hl hQ
 | false=>exact wpAny_pyIter_tuple hl hQ
theorem it_at{q:Bool}{h:Heap}{it l:Addr}(e:h.get? it=some {cls:=.type (itC q),data:=.fields #[.ref l,.int 0 0]}):itAt q h it l 0:=by
 cases q <;> exact ⟨_,e,rfl,rfl⟩
end
def zq1(q1:Bool)(h:Heap)(l1:Addr):Heap:=h.push {cls:=.type (itC q1),data:=.fields #[.ref l1,.int 0 0]}
def zq2(q1 q2:Bool)(h:Heap)(l1 l2:Addr):Heap:=(zq1 q1 h l1).push {cls:=.type (itC q2),data:=.fields #[.ref l2,.int 0 0]}
def zq3(q1 q2:Bool)(h:Heap)(l1 l2:Addr):Heap:=(zq2 q1 q2 h l1 l2).push {cls:=.type "tuple",data:=.seq #[.ref h.objs.size,.ref (zq1 q1 h l1).objs.size]}
def zq4(q1 q2:Bool)(h:Heap)(l1 l2:Addr):Heap:=(zq3 q1 q2 h l1 l2).push {cls:=.type "tuple",data:=.seq #[.none,.none]}
def zq5(q1 q2:Bool)(h:Heap)(l1 l2:Addr):Heap:=(zq4 q1 q2 h l1 l2).push {cls:=.type "zip",data:=.fields #[.none,.bool false,.bool false,.ref (zq2 q1 q2 h l1 l2).objs.size,.ref (zq3 q1 q2 h l1 l2).objs.size]}
theorem meets_zipQ(q1 q2:Bool)(l1 l2:Addr)(xs ys:Array Value):
  Meets (Builtin.«zip.__new__» ⟨[.type "zip",.ref l1,.ref l2],[]⟩) (fun _ R s=>sqAt q1 s.heap l1 xs∧sqAt q2 s.heap l2 ys∧R (.ok (.ret (.ref (zq4 q1 q2 s.heap l1 l2).objs.size))) {s with heap:=zq5 q1 q2 s.heap l1 l2}) :=
 .of_wp fun prog w A R s h=>by
  obtain ⟨hp,g,d,tk,os⟩:=s; obtain ⟨hl1,hl2,h⟩:=h
  have hsub:=sub_zip
  have hL1:sqAt q1 (Shared.heap ⟨hp,g,d,tk,os⟩) l1 xs:=hl1
  have hL2:sqAt q2 (Shared.heap ⟨hp.push {cls:=.type (itC q1),data:=.fields #[.ref l1,.int 0 0]},g,d,tk,os⟩) l2 ys:=sqAt.at hl2 fun o e=>Heap.get?_push_of_some _ e
  wp_walk using it_start hL1,it_start hL2
  exact ⟨_,rfl,h⟩
section
variable {prog:Program} {w:World} {A:Around} {E:Value→Shared→Prop} {s:Shared} {q1 q2:Bool}
theorem call_zipQ{l1 l2:Addr}{xs ys:Array Value}{Q:Value→Shared→Prop}(hl1:sqAt q1 s.heap l1 xs)(hl2:sqAt q2 s.heap l2 ys)
  (h:∀h',IsZip h' (s.heap.objs.size + 4) (s.heap.objs.size + 2) (s.heap.objs.size + 3) .none→IsPair h' (s.heap.objs.size + 2) (.ref s.heap.objs.size) (.ref (s.heap.objs.size + 1)) →
   IsPair h' (s.heap.objs.size + 3) .none .none→itAt q1 h' s.heap.objs.size l1 0→itAt q2 h' (s.heap.objs.size + 1) l2 0→(∀c o,s.heap.get? c=some o→h'.get? c=some o)→Q (.ref (s.heap.objs.size + 4)) {s with heap:=h'}) :
  wpAny (model prog w) A (call (.type "zip") [.ref l1,.ref l2]) Q E s:=by
 refine callType_new F.called_zip (by decide) (F.typeCall_zip_2 _ _) (F.newCall_zip_2 _ _) (fun obj=>F.args_object_init_3 obj _ _) F.entry_zip_new (meets_zipQ q1 q2 l1 l2 xs ys) ⟨hl1,hl2,?_⟩
 have z1:(zq1 q1 s.heap l1).objs.size=s.heap.objs.size + 1:=Heap.size_push ..
 have z2:(zq2 q1 q2 s.heap l1 l2).objs.size=s.heap.objs.size + 2:=by unfold zq2; rw [Heap.size_push,z1]
 have z3:(zq3 q1 q2 s.heap l1 l2).objs.size=s.heap.objs.size + 3:=by unfold zq3; rw [Heap.size_push,z2]
 have z4:(zq4 q1 q2 s.heap l1 l2).objs.size=s.heap.objs.size + 4:=by unfold zq4; rw [Heap.size_push,z3]
 have g5:(zq5 q1 q2 s.heap l1 l2).get? (zq4 q1 q2 s.heap l1 l2).objs.size=some _:=Heap.get?_push_size _ rfl
 have g4:(zq5 q1 q2 s.heap l1 l2).get? (zq3 q1 q2 s.heap l1 l2).objs.size=some _:=Heap.get?_push_of_some _ (Heap.get?_push_size _ rfl)
 have g3:(zq5 q1 q2 s.heap l1 l2).get? (zq2 q1 q2 s.heap l1 l2).objs.size=some _:=Heap.get?_push_of_some _ (Heap.get?_push_of_some _ (Heap.get?_push_size _ rfl))
 have g2:(zq5 q1 q2 s.heap l1 l2).get? (zq1 q1 s.heap l1).objs.size=some _:=Heap.get?_push_of_some _ (Heap.get?_push_of_some _ (Heap.get?_push_of_some _ (Heap.get?_push_size _ rfl)))
 have g1:(zq5 q1 q2 s.heap l1 l2).get? s.heap.objs.size=some _:=Heap.get?_push_of_some _ (Heap.get?_push_of_some _ (Heap.get?_push_of_some _ (Heap.get?_push_of_some _ (Heap.get?_push_size _ rfl))))
 show _∧_
 rw [z2,z3,z4] at g5
 rw [z1,z2] at g3
 rw [z3] at g4
 rw [z1] at g2
 rw [z4]
 exact ⟨⟨_,g5,rfl⟩,h _ g5 g3 g4 (it_at g1) (it_at g2) fun c o x=>Heap.get?_push_of_some _ (Heap.get?_push_of_some _ (Heap.get?_push_of_some _ (Heap.get?_push_of_some _ (Heap.get?_push_of_some _ x))))⟩
end
def sqV(q:Bool)(K:Fgg)(H:Hp)(a:Addr)(xs:List V):Prop:=match q with | true=>SqL K H a xs | false=>SqT K H a xs
theorem sqV.heap{X:Cx}{pins:List (Addr×Obj)}{σ:St}{H:Hp}{s:Shared}{q:Bool}{a:Addr}{xs:List V}(I:Inv X pins σ H s)(h:sqV q X.K H a xs):∃its:List Value,Vals xs its∧sqAt q s.heap a its.toArray:=by
 cases q with
 | true=>obtain ⟨its,r,p,_⟩:=I.list h; exact ⟨its,r,p.isList⟩
 | false=>obtain ⟨its,r,p,_⟩:=I.tuple h; exact ⟨its,r,p⟩
theorem sqAt.lt{q:Bool}{h:Heap}{a:Addr}{its:Array Value}(x:sqAt q h a its):a < h.objs.size:=by
 cases q <;> (obtain ⟨o,ho,r⟩:=x; exact Heap.lt_size ho)
theorem itAt.lt{q:Bool}{h:Heap}{it a:Addr}{i:Nat}(x:itAt q h it a i):it < h.objs.size:=by
 obtain ⟨o,ho,_⟩:=x.obj; exact Heap.lt_size ho
def Itz(q1 q2:Bool)(K:Fgg)(l1 l2:Addr)(xs ys:List V):It :=
 ⟨fun i H=>i < xs.length∧i < ys.length∧sqV q1 K H l1 xs∧sqV q2 K H l2 ys,
  fun i H x H'=>∃T u v,H T=none∧x=.ref T∧H'=upd H T (.tup [u,v])∧xs[i]?=some u∧ys[i]?=some v,
  fun i H=>(xs.length≤i∨ys.length≤i)∧sqV q1 K H l1 xs∧sqV q2 K H l2 ys⟩
theorem turn_zip{P:Program}{w:World}{K:Fgg}{elts:List Expr}{kx}{pos:Pos}{q1 q2:Bool}{z TI TO i1 i2 l1 l2:Addr}(xs ys:List V)(D:ZipApart z TI TO i1 i2 l1 l2):
  Turn P w K (.Tuple elts kx pos) (Itz q1 q2 K l1 l2 xs ys) [z,TI,TO,i1,i2] z (fun i h=>IsZip h z TI TO .none∧IsPair h TI (.ref i1) (.ref i2)∧(∃a b,IsPair h TO a b)∧itAt q1 h i1 l1 i∧itAt q2 h i2 l2 i) where
 mem:=by simp
 obj:=fun i h st b hb=>by
  obtain ⟨hz,hTI,⟨a,b',hTO⟩,h1,h2⟩:=st
  simp at hb
  rcases hb with e | e | e | e | e
  ·subst e; exact ⟨_,hz,fun v z=>by cases z⟩
  ·subst e; exact ⟨_,hTI,fun v z=>by cases z⟩
  ·subst e; exact ⟨_,hTO,fun v z=>by cases z⟩
  ·subst e; exact h1.obj
  ·subst e; exact h2.obj
 keep:=fun i h h' st k=>by
  obtain ⟨hz,hTI,⟨a,b',hTO⟩,h1,h2⟩:=st
  exact ⟨k z (by simp) _ hz,k TI (by simp) _ hTI,⟨a,b',k TO (by simp) _ hTO⟩,h1.at fun o e=>k i1 (by simp) o e,h2.at fun o e=>k i2 (by simp) o e⟩
 item:=by
  intro X hP hw hK hc i pins s σ H E I hf st hg
  subst hP hw hK
  obtain ⟨g1,g2,s1,s2⟩:=hg
  obtain ⟨hz,hTI,⟨a,b',hTO⟩,h1,h2⟩:=st
  obtain ⟨us,r1,p1⟩:=s1.heap I
  obtain ⟨vs,r2,p2⟩:=s2.heap I
  obtain ⟨u,hu,ru⟩:=r1.get (gee g1)
  obtain ⟨v,hv,rv⟩:=r2.get (gee g2)
  refine zipQ_item (x:=u) (y:=v) D hz hTI hTO h1 h2 p1 p2 (by simpa using hu) (by simpa using hv) fun h' a1 a2 a3 a4 a5 hk=>?_
  refine ⟨_,rfl,wpAny_letOwnedTupleGo_zip a1 fun h'' b1 sb=>?_⟩
  have nT:∀{c o},s.heap.get? c=some o→c≠s.heap.objs.size:=fun e=>Nat.ne_of_lt (Heap.lt_size e)
  have hT:IsPair h'' s.heap.objs.size u v:=sb.extBut _ _ (nT hz).symm a5
  have kk:∀c o,c∉[z,TI,TO,i1,i2]→s.heap.get? c=some o→h''.get? c=some o:=fun c o hc e=>by
   simp at hc
   exact sb.extBut _ _ hc.1 (hk c o hc.1 hc.2.2.1 hc.2.2.2.1 hc.2.2.2.2 e)
  refine ⟨.ref s.heap.objs.size,upd H s.heap.objs.size (.tup [xs[i],ys[i]]),I.turnNew hf kk (Nat.le_refl _) ⟨by show 2≤sizeLine; decide,[u,v],.cons ru (.cons rv .nil),_,hT,rfl,_,rfl⟩,rfl,⟨_,_,_,I.fresh,rfl,rfl,gee g1,gee g2⟩,?_,fun b hb=>?_⟩
  ·exact ⟨b1,sb.extBut _ _ D.TIz (hk _ _ D.TIz D.TITO D.TIi1 D.TIi2 hTI),⟨_,_,sb.extBut _ _ D.TOz a2⟩,a3.at fun o e=>sb.extBut _ o D.i1z e,a4.at fun o e=>sb.extBut _ o D.i2z e⟩
  ·rw [uN ?_]
   ·exact (hf b hb).1
   ·simp at hb
    rcases hb with e | e | e | e | e
    ·subst e; exact nT hz
    ·subst e; exact nT hTI
    ·subst e; exact nT hTO
    ·subst e; exact Nat.ne_of_lt h1.lt
    ·subst e; exact Nat.ne_of_lt h2.lt
 done:=by
  intro X hP hw hK hc i pins s σ H E I hf st hg
  subst hP hw hK
  obtain ⟨g1,s1,s2⟩:=hg
  obtain ⟨hz,hTI,⟨a,b',hTO⟩,h1,h2⟩:=st
  obtain ⟨us,r1,p1⟩:=s1.heap I
  obtain ⟨vs,r2,p2⟩:=s2.heap I
  have e1:=r1.length
  have e2:=r2.length
  refine zipQ_end (I.ok.hd hc) D hz hTI hTO h1 h2 p1 p2 ?_ fun h' hk=>⟨rfl,I.turnedL (t':=s.toks) hf fun c o hc e=>?_⟩
  ·rcases g1 with g | g
   ·exact .inl (by simp; omega)
   ·exact .inr (by simp; omega)
  ·simp at hc
   exact hk c o hc.1 hc.2.2.1 hc.2.2.2.1 hc.2.2.2.2 e
 self:=fun _ _ _ _ _ st h=>wpAny_pyIter_zip st.1 h
section
variable {X:Cx}
def iZip(q1 q2:Bool)(K:Fgg)(ta:TA):TI:=fun σ H R=>ta σ H fun vs H1=>∃l1 l2 xs ys,vs=[.ref l1,.ref l2]∧sqV q1 K H1 l1 xs∧sqV q2 K H1 l2 ys∧R (Itz q1 q2 K l1 l2 xs ys) H1
theorem pi_zip(q1 q2:Bool){elts:List Expr}{kx}{tpos:Pos}{a b:Expr}{ta:TA}{p pos:Pos}(hg:Gl X "zip")(hm:X.mg "zip"=none)(ha:PA X [a,b] ta)(hs:starEach [a,b] X.env=[(false,eval a X.env),(false,eval b X.env)]:=by rfl)(hs2:starEach [b] X.env=[(false,eval b X.env)]:=by rfl):
  PI X (.Tuple elts kx tpos) (.Call (.Name "zip" p) [a,b] [] pos) (iZip q1 q2 X.K ta):=by
 intro pins s σ H R I h
 refine Call_ (ld_blt I hg hm bt_zip (PyProof.Rows.callWith_type1 (thn (ha pos pins s σ H _ I h) fun us s1 ⟨vs,H1,I1,r1,q1⟩=>?_) (by rw [hs,hs2]) (by rw [hs2]; rfl)))
 obtain ⟨l1,l2,xs,ys,rfl,s1',s2',q⟩:=q1
 obtain ⟨u1,u2,rfl,ru1,ru2⟩:=vals2 r1
 cases ru1
 cases ru2
 obtain ⟨us1,r1,p1⟩:=s1'.heap I1
 obtain ⟨vs1,r2,p2⟩:=s2'.heap I1
 have n1:=p1.lt
 have n2:=p2.lt
 refine call_zipQ p1 p2 fun h' hz hTI hTO h1 h2 kk=>?_
 refine wpAny_pyIter_zip hz ?_
 refine ⟨s1.heap.objs.size + 4,[s1.heap.objs.size + 4,s1.heap.objs.size + 2,s1.heap.objs.size + 3,s1.heap.objs.size,s1.heap.objs.size + 1],_,_,H1,rfl,I1.kept (t':=s1.toks) kk,turn_zip xs ys ⟨?_,?_,?_,?_,?_,?_,?_,?_,?_,?_,?_,?_,?_,?_,?_,?_,?_,?_⟩,⟨hz,hTI,⟨_,_,hTO⟩,h1,h2⟩,?_,q⟩
 all_goals first | exact Nat.ne_of_lt (Nat.add_lt_add_left (by decide) _) | exact Nat.ne_of_gt (Nat.add_lt_add_left (by decide) _) | exact Nat.ne_of_lt (Nat.lt_add_of_pos_right (by decide)) | exact Nat.ne_of_gt (Nat.lt_add_of_pos_right (by decide)) | exact Nat.ne_of_lt (Nat.lt_of_lt_of_le n1 (Nat.le_add_right _ _)) | exact Nat.ne_of_lt (Nat.lt_of_lt_of_le n2 (Nat.le_add_right _ _)) | exact Nat.ne_of_lt n1 | exact Nat.ne_of_lt n2 | skip
 intro c hb
 have hb':s1.heap.objs.size≤c:=by
  simp at hb
  rcases hb with e | e | e | e | e <;> (rw [e]; first | exact Nat.le_refl _ | exact Nat.le_add_right _ _)
 exact I1.fpOk hb' (I1.hok.fresh hb')
end
theorem for_zip{q1 q2:Bool}{K:Fgg}{l1 l2:Addr}{xs ys:List V}{g:TG}{tb:TS}{D:Ends}{σ:St}{H:Hp}(n:Nat)(Pv:Nat→St→Hp→Prop)(hx:n≤xs.length)(hy:n≤ys.length)(he:xs.length≤n∨ys.length≤n)
  (h0:Pv 0 σ H) (hl:∀i σ H,i≤n→Pv i σ H→sqV q1 K H l1 xs∧sqV q2 K H l2 ys)
  (hs:∀i u v σ H T,xs[i]?=some u→ys[i]?=some v→i < n→Pv i σ H→H T=none→g (.ref T) σ (upd H T (.tup [u,v])) fun σ2 H2=>tb {D with nx:=Pv (i + 1),ct:=Pv (i + 1),bk:=D.nx} σ2 H2) (hd:∀σ H,Pv n σ H→D.nx σ H) :
  ∃W:Nat→Nat→St→Hp→Prop,(∃m,W 0 m σ H)∧∀i m σ H,W i m σ H →
   ((Itz q1 q2 K l1 l2 xs ys).stop i H∧D.nx σ H)∨((Itz q1 q2 K l1 l2 xs ys).go i H∧∃N:St→Hp→Prop,(∀σ' H',N σ' H'→∃m',m' < m∧W (i + 1) m' σ' H')∧∀x H',(Itz q1 q2 K l1 l2 xs ys).yld i H x H'→g x σ H' fun σ2 H2=>tb {D with nx:=N,ct:=N,bk:=D.nx} σ2 H2):=by
 refine ⟨fun i m σ H=>m=n - i∧i≤n∧Pv i σ H,⟨n,by simp,Nat.zero_le _,h0⟩,?_⟩
 rintro i m σ H ⟨rfl,hi,p⟩
 obtain ⟨p3,p4⟩:=hl i σ H hi p
 by_cases hlt:i < n
 ·refine .inr ⟨⟨by omega,by omega,p3,p4⟩,Pv (i + 1),fun σ' H' p'=>⟨n - (i + 1),by omega,rfl,hlt,p'⟩,fun x H' y=>?_⟩
  obtain ⟨T,u,v,t1,e1,e2,t2,t3⟩:=y
  subst e1 e2
  exact hs i u v σ _ T t2 t3 hlt p t1
 ·have e:i=n:=by omega
  subst e
  exact .inl ⟨⟨he,p3,p4⟩,hd σ H p⟩
end L2
namespace L2
open PySem PySem.Spec PyProof.Rows
structure Fly(P:Program)(w:World)(fs:List Env)(H H':Hp)(h0 B:Heap)(a:Addr)(cls a0:Value)(h:Heap):Prop where
 keep:∀b o,h0.get? b=some o→H b=none→b∉frs fs→B.get? b=some o
 there:∀b o,h0.get? b=some o→b∉frs fs→∃o',B.get? b=some o'
 slot:∀b o,h0.get? b=some o→b∈frs fs→∃sl,h.get? b=some {o with slots:=sl}
 free:∀b o,h0.get? b=some o→H b=none→H' b=none
 tups:∀b xs,H b=some (.tup xs)→H' b=some (.tup xs)
 frzs:∀b o u,H b=some (.frz o u)→H' b=some (.frz o u)
 tbls:∀b ps,H b=some (.tbl ps)→∃more,H' b=some (.tbl (ps++more))
 hok:HOk P w H' B
 fly:Heap.FlyingW B fs a cls a0 h
section
variable {P:Program} {w:World} {fs:List Env} {H H':Hp} {h0 B h h':Heap} {a:Addr} {cls a0:Value}
theorem Fly.un(F:Fly P w fs H H' h0 B a cls a0 h):Un (frs fs) [] H H' h0 h where
 keep:=fun b o e n hb _=>F.fly.1 b o (F.keep b o e n hb)
 slot:=fun b o e _ hb _=>F.slot b o e hb
 free:=fun b o e n _=>F.free b o e n
 there:=fun b o e _=>by
  by_cases hb:b∈frs fs
  ·obtain ⟨sl,q⟩:=F.slot b o e hb
   exact ⟨_,q⟩
  ·obtain ⟨o',q⟩:=F.there b o e hb
   exact ⟨o',F.fly.1 b o' q⟩
 tups:=F.tups
 frzs:=F.frzs
 tbls:=F.tbls
theorem Fly.new(F:Fly P w fs H H' h0 B a cls a0 h):H' a=none:=by
 cases q:H' a with
 | none=>rfl
 | some u =>
  have:=(F.hok a u q).lt
  have z:=F.fly.2.1
  exact absurd z (by
   intro z
   have e:∃o,B.get? a=some o:=by
    have ok:=F.hok a u q
    cases u with
    | lst xs=>obtain ⟨_,_,_,_,e⟩:=ok; exact ⟨_,e⟩
    | tup xs=>obtain ⟨_,_,_,o,e,_⟩:=ok; exact ⟨_,e⟩
    | dK kvs=>obtain ⟨_,_,_,_,o,_,_,e,_⟩:=ok; exact ⟨_,e⟩
    | dT kvs=>obtain ⟨_,_,_,_,o,_,_,e,_⟩:=ok; exact ⟨_,e⟩
    | set S n=>obtain ⟨o,_,_,_,e,_⟩:=ok; exact ⟨_,e⟩
    | ins C dx fs=>obtain ⟨_,_,_,e,_⟩:=ok; exact ⟨_,e⟩
    | own y=>exact ok
    | xd fs=>obtain ⟨_,⟨o,_,_,e,_⟩,_⟩:=ok; exact ⟨_,e⟩
    | rng lo hi=>obtain ⟨_,_,_,e⟩:=ok; exact ⟨_,e⟩
    | frz ob u=>obtain ⟨e,_⟩:=ok; exact ⟨_,e⟩
    | tbl ps=>exact ⟨_,ok⟩
    | met f y=>exact ⟨_,ok⟩
    | ext φ=>obtain ⟨_,e,_⟩:=ok; exact e
   obtain ⟨o,e⟩:=e
   rw [z] at e
   cases e)
theorem Fly.on(F:Fly P w fs H H' h0 B a cls a0 h)(fl:Heap.FlyingW B fs a cls a0 h')(u:h.UpToSlots h'):Fly P w fs H H' h0 B a cls a0 h' :=
 ⟨F.keep,F.there,fun b o e hb=>by
  obtain ⟨sl,q⟩:=F.slot b o e hb
  obtain ⟨_,o',ho',hn⟩:=F.fly.2.2.1.mem hb
  rw [q] at ho'
  have e1:=Option.some.inj ho'
  obtain ⟨sl',q'⟩:=u b _ q (by rw [e1]; exact hn)
  exact ⟨sl',q'⟩,F.free,F.tups,F.frzs,F.tbls,F.hok,fl⟩
end
section
variable {P:Program} {w:World} {K:Fgg} {mg:Str→Option Value} {base:Heap} {N:List Str} {qual:Str} {scope:Scope} {f:Addr} {cd:Value} {A:Around} {outer:List Env} {s₀:Shared} {H₀:Hp} {E:XK}
end
def bmVE:List Value:=[.type "ValueError",.type "Exception",.type "BaseException",.type "object"]
section
variable {X:Cx} {x:Str} {C:Addr} {E:XK} {np cpos pos:Pos}
end
end L2
namespace L2
open PySem PySem.Spec PyProof.Rows
def CDivL(_i j:Int):Prop:=j≠0∧j.natAbs < 18446744073709551616
theorem CDivL.ok{i j:Int}(hc:CDivL i j):Builtin.divisionGoesByPylong i j=false:=by
 refine PyProof.noPylong_of_log2 ?_
 have z:j.natAbs≠0:=fun z=>hc.1 (Int.natAbs_eq_zero.mp z)
 exact Nat.lt_of_lt_of_le ((Nat.log2_lt z).mpr (show j.natAbs < 2 ^ 64 from hc.2)) (by decide)
theorem op_fdivL{X:Cx}:OpR X (binaryOp .FloorDiv) (rI CDivL fun i j=>.int (i.fdiv j)):=opI fun _ _ _ _ _ _ _ hc q=>floordiv_int hc.1 q (.inl hc.ok)
end L2
namespace L2
open PySem PySem.Spec PyProof.Rows
def stepS(σ:List Str)(v:Str):List Str:=if σ.any (· == v) then σ else σ++[v]
section
variable {prog:Program} {w:World} {A:Around} {R:Result→Shared→Prop} {I:Addr} {fp wr:List Addr} {G:Array GenState→Array GenState→Prop} {n:Nat} {P:Nat→Value→Prop} {St:Nat→Shared→Prop}
end
section
variable {prog:Program} {w:World} {A:Around} {E:Value→Shared→Prop} {s:Shared}
set_option maxHeartbeats 3200000 in
end
section
variable {X:Cx}
end
end L2
namespace L2
open PySem PySem.Spec PyProof.Rows
def Ite(K:Fgg)(l:Addr)(xs:List V):It :=
 ⟨fun i H=>i < xs.length∧SqL K H l xs,
  fun i H x H'=>∃T v,H T=none∧x=.ref T∧H'=upd H T (.tup [.int (i:Int),v])∧xs[i]?=some v,
  fun i H=>xs.length≤i∧SqL K H l xs⟩
theorem turn_enum{P:Program}{w:World}{K:Fgg}{elts:List Expr}{kx}{pos:Pos}{e it l:Addr}(xs:List V)(hne:e≠it):
  Turn P w K (.Tuple elts kx pos) (Ite K l xs) [e,it] e (fun i h=>(∃old,IsEnum h e it i old)∧h.IsListIter it l i) where
 mem:=by simp
 obj:=fun i h st b hb=>by
  obtain ⟨⟨old,he⟩,h1⟩:=st
  simp at hb
  rcases hb with z | z
  ·subst z; exact ⟨_,he,fun v z=>by cases z⟩
  ·subst z; exact (show itAt true h b l i from h1).obj
 keep:=fun i h h' st k=>by
  obtain ⟨⟨old,he⟩,h1⟩:=st
  exact ⟨⟨old,k e (by simp) _ he⟩,(show itAt true h it l i from h1).at fun o x=>k it (by simp) o x⟩
 item:=by
  intro X hP hw hK hc i pins s σ H E I hf st hg
  subst hP hw hK
  obtain ⟨g1,s1⟩:=hg
  obtain ⟨⟨old,he⟩,h1⟩:=st
  obtain ⟨us,r1,p1,hz⟩:=I.list s1
  obtain ⟨u,hu,ru⟩:=r1.get (gee g1)
  refine wpAny_pyNext_enum_item (x:=u) he h1 p1.isList (by simpa using hu) hne fun h' a1 a2 a3 a4 hk=>?_
  refine ⟨_,rfl,wpAny_letOwnedTupleGo_enum a1 fun h'' b1 sb=>?_⟩
  have nT:∀{c o},s.heap.get? c=some o→c≠s.heap.objs.size:=fun e=>Nat.ne_of_lt (Heap.lt_size e)
  have hT:=sb.extBut _ _ (nT he).symm a3
  have kk:∀c o,c∉[e,it]→s.heap.get? c=some o→h''.get? c=some o:=fun c o hc x=>by
   simp at hc
   exact sb.extBut _ _ hc.1 (hk c o hc.1 hc.2 x)
  refine ⟨.ref s.heap.objs.size,upd H s.heap.objs.size (.tup [.int (i:Int),xs[i]]),I.turnNew hf kk (Nat.le_refl _) ⟨by show 2≤sizeLine; decide,[.int i s.toks,u],.cons ⟨_,rfl⟩ (.cons ru .nil),_,hT,rfl,_,rfl⟩,rfl,⟨_,_,I.fresh,rfl,rfl,gee g1⟩,?_,fun b hb=>?_⟩
  ·exact ⟨⟨_,b1⟩,(show itAt true h' it l (i + 1) from a2).at fun o x=>sb.extBut _ o hne.symm x⟩
  ·rw [uN ?_]
   ·exact (hf b hb).1
   ·simp at hb
    rcases hb with z | z
    ·subst z; exact nT he
    ·subst z; exact Nat.ne_of_lt (show itAt true s.heap b l i from h1).lt
 done:=by
  intro X hP hw hK hc i pins s σ H E I hf st hg
  subst hP hw hK
  obtain ⟨g1,s1⟩:=hg
  obtain ⟨⟨old,he⟩,h1⟩:=st
  obtain ⟨us,r1,p1,hz⟩:=I.list s1
  have e1:=r1.length
  refine wpAny_pyNext_enum_end (I.ok.hd hc) he h1 p1.isList (by simp; omega) fun h' hk=>⟨rfl,I.turnedL (t':=s.toks) hf fun c o hc x=>?_⟩
  simp at hc
  exact hk c o hc.2 x
 self:=fun _ _ _ _ _ st h=>by
  obtain ⟨⟨old,he⟩,_⟩:=st
  exact wpAny_pyIter_enum he h
section
variable {X:Cx}
def iEnum(K:Fgg)(ta:TA):TI:=fun σ H R=>ta σ H fun vs H1=>∃l xs,vs=[.ref l]∧SqL K H1 l xs∧R (Ite K l xs) H1
theorem pi_enum{elts:List Expr}{kx}{tpos:Pos}{a:Expr}{ta:TA}{p pos:Pos}(hg:Gl X "enumerate")(hm:X.mg "enumerate"=none)(ha:PA X [a] ta)(hs:starEach [a] X.env=[(false,eval a X.env)]:=by rfl):
  PI X (.Tuple elts kx tpos) (.Call (.Name "enumerate" p) [a] [] pos) (iEnum X.K ta):=by
 intro pins s σ H R I h
 refine Call_ (ld_blt I hg hm bt_enumerate (PyProof.Rows.callWith_type1 (thn (ha pos pins s σ H _ I h) fun us s1 ⟨vs,H1,I1,r1,q1⟩=>?_) hs rfl))
 obtain ⟨l,xs,rfl,s1',q⟩:=q1
 obtain ⟨u1,rfl,ru1⟩:=vals1 r1
 cases ru1
 obtain ⟨us1,r1,p1,hz⟩:=I1.list s1'
 refine call_enumerate_list p1.isList fun h' he h1 hsz kk=>?_
 refine wpAny_pyIter_enum he ?_
 refine ⟨s1.heap.objs.size + 1,[s1.heap.objs.size + 1,s1.heap.objs.size],_,_,H1,rfl,I1.kept (t':=s1.toks) kk,turn_enum xs (Nat.ne_of_gt (Nat.lt_succ_self _)),⟨⟨_,he⟩,h1⟩,?_,q⟩
 intro c hb
 have hb':s1.heap.objs.size≤c:=by
  simp at hb
  rcases hb with e | e <;> (rw [e]; first | exact Nat.le_refl _ | exact Nat.le_add_right _ _)
 exact I1.fpOk hb' (I1.hok.fresh hb')
end
theorem for_enum{K:Fgg}{l:Addr}{xs:List V}{g:TG}{tb:TS}{D:Ends}{σ:St}{H:Hp}(Pv:Nat→St→Hp→Prop)
  (h0:Pv 0 σ H) (hl:∀i σ H,i≤xs.length→Pv i σ H→SqL K H l xs)
  (hs:∀i v σ H T,xs[i]?=some v→Pv i σ H→H T=none→g (.ref T) σ (upd H T (.tup [.int (i:Int),v])) fun σ2 H2=>tb {D with nx:=Pv (i + 1),ct:=Pv (i + 1),bk:=D.nx} σ2 H2) (hd:∀σ H,Pv xs.length σ H→D.nx σ H) :
  ∃W:Nat→Nat→St→Hp→Prop,(∃m,W 0 m σ H)∧∀i m σ H,W i m σ H →
   ((Ite K l xs).stop i H∧D.nx σ H)∨((Ite K l xs).go i H∧∃N:St→Hp→Prop,(∀σ' H',N σ' H'→∃m',m' < m∧W (i + 1) m' σ' H')∧∀x H',(Ite K l xs).yld i H x H'→g x σ H' fun σ2 H2=>tb {D with nx:=N,ct:=N,bk:=D.nx} σ2 H2):=by
 refine ⟨fun i m σ H=>m=xs.length - i∧i≤xs.length∧Pv i σ H,⟨xs.length,by simp,Nat.zero_le _,h0⟩,?_⟩
 rintro i m σ H ⟨rfl,hi,p⟩
 have p3:=hl i σ H hi p
 by_cases hlt:i < xs.length
 ·refine .inr ⟨⟨hlt,p3⟩,Pv (i + 1),fun σ' H' p'=>⟨xs.length - (i + 1),by omega,rfl,hlt,p'⟩,fun x H' y=>?_⟩
  obtain ⟨T,v,t1,e1,e2,t2⟩:=y
  subst e1 e2
  exact hs i v σ H T t2 p t1
 ·have e:i=xs.length:=by omega
  subst e
  exact .inl ⟨⟨Nat.le_refl _,p3⟩,hd σ H p⟩
end L2
namespace L2
open PySem PySem.Spec PyProof.Rows
section
variable {X:Cx}
theorem TyV.same{K:Fgg}{H H':Hp}{v:V}{t:String}(e:Same H H')(h:TyV K H v t):TyV K H' v t:=by
 cases h with
 | non=>exact .non
 | bl b=>exact .bl b
 | int i=>exact .int i
 | str x=>exact .str x
 | lst h=>exact .lst (e.seq h)
 | tup h=>exact .tup (e.tup h)
 | dct h=>exact .dct (e _ _ h)
end
end L2
namespace L2
open PySem PySem.Spec PyProof.Rows
section
variable {X:Cx}
theorem ps_try0{body:List Stmt}{h0:ExceptHandler}{hs:List ExceptHandler}{t:TS}{pos:Pos}(hb:∀E,PSs (X.wish E) body t):PS X (.Try body (h0::hs) [] [] pos) t:=by
 intro pins s σ H D I hw
 refine wpAny_Try_except ?_
 let Et:Value→Shared→Prop:=fun e s₁=>wpAny (model X.prog X.w) X.A (noteFrame e X.env) (fun _ s₂=>wpAny (model X.prog X.w) X.A (setFlight e none) (fun _ s₃=>wpAny (model X.prog X.w) X.A (handleBy e X.env (h0::hs)) (SP X pins D) X.xe s₃) X.xe s₂) X.xe s₁
 refine wpAny_mono (hb Et pins s σ H D (I.wish Et) hw) (fun fl s1 h1=>?_) fun _ _ z=>z
 cases fl with
 | next =>
  obtain ⟨σ',H',I',q⟩:=h1
  exact wpAny_execs_nil ⟨σ',H',I'.unwish,q⟩
 | brk =>
  obtain ⟨σ',H',I',q⟩:=h1
  exact ⟨σ',H',I'.unwish,q⟩
 | cont =>
  obtain ⟨σ',H',I',q⟩:=h1
  exact ⟨σ',H',I'.unwish,q⟩
 | ret u =>
  obtain ⟨v,σ',H',I',r,q⟩:=h1
  exact ⟨v,σ',H',I'.unwish,r,q⟩
end
end L2
namespace L2
open PySem PySem.Spec PyProof.Rows PySem.W PySem.Builtin PySem.Builtin.ObjectAttr
def excInI(K:Frag)(C:Addr)(bmB:List Value)(newId:String):Bool:=match K.lookup C with
 | some ⟨.type "type",_,.cls cd,sl⟩=>(match cd.mro,sl.toList with
  | .ref C'::bm,[_,_,_,_,some (.builtin n),_]=>C' == C&&n == newId&&!cd.hasDel&&tailIn K bmB bm&&nsOkIn K cd.ns&&cd.hasDict
  | _,_=>false)
 | _=>false
section
variable {prog:Program} {w:World} {A:Around} {E:Value→Shared→Prop} {K:Frag} {h:Heap} {g:Array GenState} {d:Drawn} {t:Nat} {os:OsState}
variable {nm q:Str} {C N:Addr} {bs bm bmB:List Value} {hdct:Bool} {sn:List Str} {sub:List Value} {ab:Bool} {col:Option Bool} {dd:Option Addr} {k0 k1 k2 k3 k5:Option Value} {B Bn newId nid initId inN:String} {bmN:List Value}
end
section
variable {prog:Program} {w:World} {A:Around} {K:Frag} {s:Shared} {x C:Addr} {R:Result→Shared→Prop}
end
section
variable {prog:Program} {w:World} {A:Around} {E:Value→Shared→Prop} {h:Heap} {g:Array GenState} {d:Drawn} {t:Nat} {os:OsState}
variable {nm q:Str} {C N x:Addr} {bs bm:List Value} {sn:List Str} {sub:List Value} {ab:Bool} {col:Option Bool} {dd:Option Addr} {k0 k1 k2 k3 k5:Option Value} {newId:String} {name:Str} {v:Value}
end
def XP(C e:Addr)(dx:Option Addr):Heap→Prop:=fun h=>∃t0,h.get? e=some {cls:=.ref C,dict:=dx,data:=.fields #[.ref t0,.none,.none,.none,.bool false,.none]}
def XD(dx:Addr)(fs:List (Str×V)):Heap→Prop:=fun h=>∃mA,h.Ns1 dx mA∧(∀f,RelO (fs.lookup f) (mA f))∧Within mA (fs.map (·.1))
structure KXs(K:Frag)(C:Addr):Prop where
 sa:findIn K (.ref C) "__setattr__"=some (some (.builtin "object.__setattr__"))
 ex:excInI K C bmVE "ValueError.__new__"=true
 mo:mroIn K C (.type "object")=some true
theorem Ns1.obj{h:Heap}{a:Addr}{m:Str→Option Value}(n:h.Ns1 a m):∃o,h.get? a=some o:=let ⟨o,_,_,e,_⟩:=n; ⟨o,e⟩
section
variable {X:Cx} {C a:Addr} {pins:List (Addr×Obj)} {σ:St} {H:Hp} {s:Shared} {A:Around} {E:Value→Shared→Prop} {f:Str}
end
section
variable {X:Cx} {o e value:Expr} {f:Str} {pos pos' tpos:Pos} {ta tv:TE}
end
section
variable {prog:Program} {w:World} {A:Around} {E:Value→Shared→Prop} {K:Frag} {a C:Addr} {o:Obj} {od:Option Obj} {h:Heap} {g:Array GenState} {d:Drawn} {t:Nat} {os:OsState} {name:Str} {v:Value}
end
structure MkX(K:Frag)(C f:Addr):Prop where
 ex:excInI K C bmVE "ValueError.__new__"=true
 init:findIn K (.ref C) "__init__"=some (some (.ref f))
 fn:isFn K (.ref f)=true
 kp:keepIn K (.ref C)=true
section
variable {X:Cx} {CX:CXT} {k:Nat} {f C:Addr} {fd:FuncData} {ps:List Str} {sp:Sp} {dvs:List V} {ds:List Value} {E:XK} {x m:Str} {p pos apos:Pos} {e o:Expr} {es:List Expr} {ta:TE} {t:TA}
end
def spInit(K:Frag)(fs:List Str):Sp:=fun vs H Q _=>∃a C ys,vs=.ref a::ys∧ys.length=fs.length∧KXs K C∧(∀f∈fs,NoAttr K C f)∧H a=some (.ext (XP C a none)) ∧
 ∀dx,H dx=none→dx≠a→Q .non (upd (upd H dx (.ext (XD dx (fs.zip ys)))) a (.ext (XP C a (some dx))))
structure NewX(P:Program)(w:World)(K:Frag)(mg:Str→Option Value)(base:Heap)(C:Addr)(fs:List Str):Prop where
 s:KXs K C
 no:∀f∈fs,NoAttr K C f
 le:fs.length≤1000
 ini:∃f fd,MkX K C f∧FnOk P w K mg base CX0 1 f fd ("self"::fs) (spInit K fs)∧Binds K fd ("self"::fs) []
section
variable {X:Cx} {C:Addr} {fs:List Str} {x:Str} {p pos:Pos} {e:Expr} {es:List Expr} {t:TA}
theorem PA.mono{t':TA}(ha:PA X es t)(h:∀σ H Q,t' σ H Q→t σ H Q):PA X es t':=fun pos pins s σ H Q I q=>ha pos pins s σ H Q I (h σ H Q q)
end
end L2
namespace L2
open PySem PySem.Spec PyProof.Rows PySem.W
def Dk(h h':Heap):Prop:=∀b o,h.get? b=some o→∃o',h'.get? b=some o'∧o'.dict=o.dict
theorem Dk.refl(h:Heap):Dk h h:=fun _ o e=>⟨o,e,rfl⟩
theorem Dk.trans{h1 h2 h3:Heap}(x:Dk h1 h2)(y:Dk h2 h3):Dk h1 h3:=fun b o e =>
 let ⟨o1,e1,d1⟩:=x b o e; let ⟨o2,e2,d2⟩:=y b o1 e1; ⟨o2,e2,d2.trans d1⟩
section
variable {α β:Type}
end
end L2
namespace L2
open PySem PySem.Spec PyProof.Rows PySem.W
structure HeldX(h:Heap)(a C t T L:Addr):Prop where
 ne:T≠a
 ex:∃oe vs oT ts,h.get? a=some oe∧oe.cls=.ref C∧vs[0]?=some (.ref t)∧oe.data=.fields vs∧vs[1]?=some (.ref T)∧h.get? T=some oT∧oT.data=.fields ts∧ts[3]?=some (rawInt L)
theorem HeldX.of{B:Heap}{l:List Env}{a C t L:Addr}{h:Heap}(x:B.HeldW l a (.ref C) (.ref t) L h):∃T,HeldX h a C t T L∧B.get? T=none:=by
 obtain ⟨_,_,_,oe,vs,T,oT,ts,h1,⟨h2,h3⟩,h4,h5,h6,h7,h8,h9,h10⟩:=x
 exact ⟨T,⟨h7,oe,vs,oT,ts,h1,h2,h3,h4,h5,h8,h9,h10⟩,h6⟩
theorem HeldX.eq{h h':Heap}{a C t T L:Addr}(x:HeldX h a C t T L)(ha:h'.get? a=h.get? a)(hT:h'.get? T=h.get? T):HeldX h' a C t T L:=by
 obtain ⟨n,oe,vs,oT,ts,h1,h2,h3,h4,h5,h6,h7,h8⟩:=x
 exact ⟨n,oe,vs,oT,ts,ha.trans h1,h2,h3,h4,h5,hT.trans h6,h7,h8⟩
theorem HeldX.held{h:Heap}{a C t T L:Addr}{l:List Env}{base:Heap}(x:HeldX h a C t T L)(st:h.FunFrames base l){hid:List Addr}(h1:a∈hid)(h2:T∈hid)(h3:∀v∈l,∀b,v.frame=some b→b∈hid):(hideAll h hid).HeldW l a (.ref C) (.ref t) L h:=by
 obtain ⟨n,oe,vs,oT,ts,e1,e2,e3,e4,e5,e6,e7,e8⟩:=x
 exact ⟨fun b o q=>of_hideAll _ q,hideAll_none _ h1,funFrames_hide st h3,oe,vs,T,oT,ts,e1,⟨e2,e3⟩,e4,e5,hideAll_none _ h2,n,e6,e7,e8⟩
section
variable {P:Program} {w:World} {K:Fgg} {mg:Str→Option Value} {base:Heap} {N:List Str} {qual:Str} {scope:Scope} {f:Addr} {cd:Value} {A:Around} {outer:List Env} {s₀:Shared} {H₀:Hp} {E:XK}
end
theorem HOk.has{P:Program}{w:World}{H:Hp}{B:Heap}{a:Addr}(k:HOk P w H B)(z:B.get? a=none):H a=none:=by
 cases q:H a with
 | none=>rfl
 | some u =>
  have e:∃o,B.get? a=some o:=by
   have ok:=k a u q
   cases u with
   | lst xs=>obtain ⟨_,_,_,_,e⟩:=ok; exact ⟨_,e⟩
   | tup xs=>obtain ⟨_,_,_,o,e,_⟩:=ok; exact ⟨_,e⟩
   | dK kvs=>obtain ⟨_,_,_,_,o,_,_,e,_⟩:=ok; exact ⟨_,e⟩
   | dT kvs=>obtain ⟨_,_,_,_,o,_,_,e,_⟩:=ok; exact ⟨_,e⟩
   | set S n=>obtain ⟨o,_,_,_,e,_⟩:=ok; exact ⟨_,e⟩
   | ins C dx fs=>obtain ⟨_,_,_,e,_⟩:=ok; exact ⟨_,e⟩
   | own y=>exact ok
   | xd fs=>obtain ⟨_,⟨o,_,_,e,_⟩,_⟩:=ok; exact ⟨_,e⟩
   | rng lo hi=>obtain ⟨_,_,_,e⟩:=ok; exact ⟨_,e⟩
   | frz ob u=>obtain ⟨e,_⟩:=ok; exact ⟨_,e⟩
   | tbl ps=>exact ⟨_,ok⟩
   | met f y=>exact ⟨_,ok⟩
   | ext φ=>obtain ⟨_,e,_⟩:=ok; exact e
  obtain ⟨o,e⟩:=e
  rw [z] at e
  cases e
section
variable {X:Cx} {pins:List (Addr×Obj)} {σ:St} {H:Hp} {s:Shared} {own:Nat} {N:List Str} {ix:List Nat} {scope:Scope} {E:XK}
end
section
variable {X:Cx} {pins:List (Addr×Obj)} {σ:St} {H:Hp} {s:Shared} {own:Nat} {N:List Str} {ix:List Nat} {scope:Scope} {E:XK}
end
end L2
namespace L2
open PySem PySem.Spec PyProof.Rows
section
variable {κ:Type} [DecidableEq κ]
def valV(kvs:List (κ×V))(k:κ):Option V:=(kvs.find? fun kv=>decide (kv.1=k)).map (·.2)
def putK(kvs:List (κ×V))(k:κ)(v:V):List (κ×V) :=
 if (kvs.any fun kv=>decide (kv.1=k))=true then kvs.map (fun kv=>if kv.1=k then (kv.1,v) else kv) else kvs++[(k,v)]
def dropK(kvs:List (κ×V))(k:κ):List (κ×V):=kvs.filter fun kv=>decide (kv.1≠k)
theorem valV_pos{p:κ×V}{r:List (κ×V)}{k:κ}(e:p.1=k):valV (p::r) k=some p.2:=by simp [valV,List.find?_cons,e]
theorem valV_neg{p:κ×V}{r:List (κ×V)}{k:κ}(e:¬ p.1=k):valV (p::r) k=valV r k:=by simp [valV,List.find?_cons,e]
theorem valV_any(k:κ):∀kvs:List (κ×V),(kvs.any fun kv=>decide (kv.1=k))=(valV kvs k).isSome
 | []=>rfl
 | p::r=>by
  rw [List.any_cons]
  by_cases e:p.1=k
  ·simp only [valV_pos e,decide_eq_true e,Bool.true_or,Option.isSome_some]
  ·rw [valV_neg e,decide_eq_false e,Bool.false_or]; exact valV_any k r
theorem RelO.isSome_eq{o:Option V}{u:Option Value}(r:RelO o u):o.isSome=u.isSome:=by
 cases o with
 | none=>cases u with
  | none=>rfl
  | some _=>exact (show False from r).elim
 | some _=>cases u with
  | none=>exact (show False from r).elim
  | some _=>rfl
theorem RelO.getD{o:Option V}{u:Option Value}{d:V}{d':Value}(r:RelO o u)(rd:RelV d d'):RelV (o.getD d) (u.getD d'):=by
 cases o with
 | none=>cases u with
  | none=>exact rd
  | some _=>exact (show False from r).elim
 | some _=>cases u with
  | none=>exact (show False from r).elim
  | some _=>exact r
theorem KV.val{kvs:List (κ×V)}{vs:List (κ×Value)}(r:KV kvs vs)(k:κ):RelO (valV kvs k) (valueAt vs k):=by
 unfold KV at r
 induction r with
 | nil=>exact True.intro
 | @cons p q ps qs h t ih =>
  obtain ⟨h1,h2⟩:=h
  by_cases e:p.1=k
  ·have e':q.1=k:=h1.symm.trans e
   have b:valueAt (q::qs) k=some q.2:=by simp [valueAt,List.find?_cons,e']
   rw [valV_pos e,b]; exact h2
  ·have e':¬ q.1=k:=fun z=>e (h1.trans z)
   have b:valueAt (q::qs) k=valueAt qs k:=by simp [valueAt,List.find?_cons,e']
   rw [valV_neg e,b]; exact ih
theorem KV.any{kvs:List (κ×V)}{vs:List (κ×Value)}(r:KV kvs vs)(k:κ):(kvs.any fun kv=>decide (kv.1=k))=vs.any fun kv=>decide (kv.1=k):=by
 unfold KV at r
 induction r with
 | nil=>rfl
 | cons h t ih=>rw [List.any_cons,List.any_cons,ih,h.1]
theorem KV.repl{kvs:List (κ×V)}{vs:List (κ×Value)}(r:KV kvs vs)(k:κ){y:V}{u:Value}(ry:RelV y u):
  KV (kvs.map fun kv=>if kv.1=k then (kv.1,y) else kv) (vs.map fun kv=>if kv.1=k then (kv.1,u) else kv):=by
 unfold KV at r ⊢
 induction r with
 | nil=>exact .nil
 | @cons p q ps qs h t ih =>
  rw [List.map_cons,List.map_cons]
  refine .cons ?_ ih
  obtain ⟨h1,h2⟩:=h
  by_cases e:p.1=k
  ·rw [if_pos e,if_pos (h1.symm.trans e)]; exact ⟨h1,ry⟩
  ·rw [if_neg e,if_neg (fun z=>e (h1.trans z))]; exact ⟨h1,h2⟩
theorem KV.put{kvs:List (κ×V)}{vs:List (κ×Value)}(r:KV kvs vs)(k:κ){y:V}{u:Value}(ry:RelV y u):KV (putK kvs k y) (stored vs k u):=by
 unfold putK stored
 rw [r.any k]
 by_cases e:(vs.any fun kv=>decide (kv.1=k))=true
 ·rw [if_pos e,if_pos e]; exact r.repl k ry
 ·rw [if_neg e,if_neg e]; exact Paired.snoc r ⟨rfl,ry⟩
theorem KV.drop{kvs:List (κ×V)}{vs:List (κ×Value)}(r:KV kvs vs)(k:κ):KV (dropK kvs k) (without vs k):=by
 unfold KV at r ⊢
 unfold dropK without
 induction r with
 | nil=>exact .nil
 | @cons p q ps qs h t ih =>
  obtain ⟨h1,h2⟩:=h
  rw [List.filter_cons,List.filter_cons]
  by_cases e:p.1=k
  ·have a:¬ decide (p.1≠k)=true:=by simp [e]
   have b:¬ decide (q.1≠k)=true:=by simp [h1.symm.trans e]
   rw [if_neg a,if_neg b]; exact ih
  ·have e':¬ q.1=k:=fun z=>e (h1.trans z)
   have a:decide (p.1≠k)=true:=by simp [e]
   have b:decide (q.1≠k)=true:=by simp [e']
   rw [if_pos a,if_pos b]; exact .cons ⟨h1,h2⟩ ih
theorem KV.keys{kvs:List (κ×V)}{vs:List (κ×Value)}(r:KV kvs vs):kvs.map (·.1)=vs.map (·.1):=by
 unfold KV at r
 induction r with
 | nil=>rfl
 | cons h t ih=>rw [List.map_cons,List.map_cons,ih,h.1]
theorem KV.length{kvs:List (κ×V)}{vs:List (κ×Value)}(r:KV kvs vs):kvs.length=vs.length:=Paired.length r
end
abbrev KT(H:Hp):List (List Key×V)→List (List Key×Addr×Value)→Prop:=Paired fun p q=>p.1=q.1∧H q.2.1=some (.tup (p.1.map kV))∧RelV p.2 q.2.2
theorem KT.val{H:Hp}{kvs:List (List Key×V)}{xs:List (List Key×Addr×Value)}(r:KT H kvs xs)(k:List Key):RelO (valV kvs k) ((atKey xs k).map (·.2)):=by
 induction r with
 | nil=>exact True.intro
 | @cons p q ps qs h t ih =>
  obtain ⟨h1,_,h2⟩:=h
  by_cases e:p.1=k
  ·have e':q.1=k:=h1.symm.trans e
   have b:atKey (q::qs) k=some q.2:=by simp [atKey,List.find?_cons,e']
   rw [valV_pos e,b]; exact h2
  ·have e':¬ q.1=k:=fun z=>e (h1.trans z)
   have b:atKey (q::qs) k=atKey qs k:=by simp [atKey,List.find?_cons,e']
   rw [valV_neg e,b]; exact ih
theorem KT.repl{H:Hp}{kvs:List (List Key×V)}{xs:List (List Key×Addr×Value)}(r:KT H kvs xs)(k:List Key){y:V}{u:Value}(ry:RelV y u):
  KT H (kvs.map fun kv=>if kv.1=k then (kv.1,y) else kv) (xs.map (putAt k u)):=by
 induction r with
 | nil=>exact .nil
 | @cons p q ps qs h t ih =>
  rw [List.map_cons,List.map_cons]
  refine .cons ?_ ih
  obtain ⟨h1,h2,h3⟩:=h
  unfold putAt
  by_cases e:p.1=k
  ·rw [if_pos e,if_pos (h1.symm.trans e)]; exact ⟨h1,h2,ry⟩
  ·rw [if_neg e,if_neg (fun z=>e (h1.trans z))]; exact ⟨h1,h2,h3⟩
theorem KT.put{H:Hp}{kvs:List (List Key×V)}{xs:List (List Key×Addr×Value)}(r:KT H kvs xs)(k:List Key){b:Addr}{y:V}{u:Value}(hb:H b=some (.tup (k.map kV)))(ry:RelV y u):
  KT H (putK kvs k y) (storedH xs k b u):=by
 have e:(kvs.any fun kv=>decide (kv.1=k))=(atKey xs k).isSome:=by
  rw [valV_any,(r.val k).isSome_eq,Option.isSome_map]
 unfold putK storedH
 rw [e]
 by_cases q:(atKey xs k).isSome=true
 ·rw [if_pos q,if_pos q]; exact r.repl k ry
 ·rw [if_neg q,if_neg q]; exact Paired.snoc r ⟨rfl,hb,ry⟩
theorem KT.keeps{H H':Hp}{kvs:List (List Key×V)}{xs:List (List Key×Addr×Value)}(r:KT H kvs xs)(ht:∀b ys,H b=some (.tup ys)→H' b=some (.tup ys)):KT H' kvs xs :=
 Paired.mapP r fun _ _ z=>⟨z.1,ht _ _ z.2.1,z.2.2⟩
section
variable {P:Program} {w:World} {H:Hp} {h:Heap} {a:Addr}
end
def DGet(H:Hp)(a:Addr)(y:V)(r:Option V):Prop :=
 (∃kvs k,Rd H a (.dK kvs)∧y=kV k∧r=valV kvs k)∨∃kvs k b,Rd H a (.dT kvs)∧y=.ref b∧H b=some (.tup (k.map kV))∧r=valV kvs k
def DPut(H:Hp)(a:Addr)(y v:V)(H':Hp):Prop :=
 (∃kvs k,H a=some (.dK kvs)∧y=kV k∧kvs.length < sizeLine∧H'=upd H a (.dK (putK kvs k v))) ∨
 ∃kvs k b,H a=some (.dT kvs)∧y=.ref b∧H b=some (.tup (k.map kV))∧kvs.length < sizeLine∧H'=upd H a (.dT (putK kvs k v))
theorem DGet.k{H:Hp}{a:Addr}{kvs:List (Key×V)}{k:Key}(e:H a=some (.dK kvs)):DGet H a (kV k) (valV kvs k):=.inl ⟨kvs,k,.inl e,rfl,rfl⟩
theorem DGet.t{H:Hp}{a b:Addr}{kvs:List (List Key×V)}{k:List Key}(e:H a=some (.dT kvs))(eb:H b=some (.tup (k.map kV))):DGet H a (.ref b) (valV kvs k):=.inr ⟨kvs,k,b,.inl e,rfl,eb,rfl⟩
theorem DPut.k{H:Hp}{a:Addr}{kvs:List (Key×V)}{k:Key}{v:V}(e:H a=some (.dK kvs))(hl:kvs.length < sizeLine):DPut H a (kV k) v (upd H a (.dK (putK kvs k v))):=.inl ⟨kvs,k,e,rfl,hl,rfl⟩
theorem DPut.t{H:Hp}{a b:Addr}{kvs:List (List Key×V)}{k:List Key}{v:V}(e:H a=some (.dT kvs))(eb:H b=some (.tup (k.map kV)))(hl:kvs.length < sizeLine):
  DPut H a (.ref b) v (upd H a (.dT (putK kvs k v))):=.inr ⟨kvs,k,b,e,rfl,eb,hl,rfl⟩
section
variable {X:Cx} {pins:List (Addr×Obj)} {σ:St} {H:Hp} {s:Shared} {a:Addr} {y v:V} {u r:Value} {o:Option V} {A:Around} {E:Value→Shared→Prop}
end
section
variable {X:Cx} {pins:List (Addr×Obj)} {σ:St} {H:Hp} {s:Shared} {a:Addr} {kvs:List (Key×V)} {k:Key} {u:Value} {A:Around} {E:Value→Shared→Prop}
end
section
variable {X:Cx} {o i e value:Expr} {pos pos' tpos:Pos} {td ty tv:TE}
end
section
variable {X:Cx} {pos:Pos}
end
end L2
namespace L2
open PySem PySem.Spec PyProof.Rows
structure HasM(P:Program)(w:World)(K:Fgg)(mg:Str→Option Value)(base:Heap)(CX:CXT)(C:Addr)(m:Str)(k:Nat)(ps:List Str)(sp:Sp):Prop where
 ex:∃(f:Addr) (fd:FuncData),FnOk P w K mg base CX k f fd ps sp∧Binds K fd ps []∧Meth K C m f
 cl:Cls K C
structure HasN(P:Program)(w:World)(K:Fgg)(mg:Str→Option Value)(base:Heap)(CX:CXT)(C:Addr)(x:Str)(k:Nat)(ps:List Str)(sp:Sp):Prop where
 ex:∃(f:Addr) (fd:FuncData),FnOk P w K mg base CX k f fd ps sp∧Binds K fd ps []∧Mk K C f∧mg x=some (.ref C)
section
variable {X:Cx} {x m:Str} {k:Nat} {ps:List Str} {sp:Sp} {o e:Expr} {es:List Expr} {ta:TE} {t:TA} {p pos apos:Pos} {C:Addr} {CX:CXT} {E:XK} {pl:Sem Bool}
theorem pe_cm(he:PE X o ta)(h:HasM X.prog X.w X.K X.mg X.base CX C m k ps sp)(hx:Passes CX X E)(hr:Room k X.A)(ha:PA X (e::es) t)
  (hst:starEach (e::es) X.env=(false,eval e X.env)::starEach es X.env:=by rfl) (hpl:(backTo pos (starEach es X.env)).any (·.1)=false:=by rfl)
  (ht:eval (.Call (.Attribute o m apos) (e::es) [] pos) X.env=(do
   let ov ← eval o X.env
   standAt apos.atName
   let (f,first) ← holding [ov] (getMethod ov m pl)
   callWith pos f first (backTo pos (starEach (e::es) X.env)) (backToKw pos (keywordEach [] X.env))):=by rfl) :
  PE X (.Call (.Attribute o m apos) (e::es) [] pos) (tMeth C m sp [] E ta t):=by
 obtain ⟨f,fd,F,b,M⟩:=h.ex
 exact pe_meth he h.cl M F hr b .nil hx ha hst hpl ht
theorem pe_cm0(he:PE X o ta)(h:HasM X.prog X.w X.K X.mg X.base CX C m k ps sp)(hx:Passes CX X E)(hr:Room k X.A)
  (ht:eval (.Call (.Attribute o m apos) [] [] pos) X.env=(do
   let ov ← eval o X.env
   standAt apos.atName
   let (f,first) ← holding [ov] (getMethod ov m pl)
   callWith pos f first (backTo pos (starEach [] X.env)) (backToKw pos (keywordEach [] X.env))):=by rfl) :
  PE X (.Call (.Attribute o m apos) [] [] pos) (tMeth C m sp [] E ta tNil):=by
 obtain ⟨f,fd,F,b,M⟩:=h.ex
 exact pe_meth0 he h.cl M F hr b .nil hx ht
theorem pe_cn(h:HasN X.prog X.w X.K X.mg X.base CX C x k ps sp)(hx:Passes CX X E)(hr:Room (k + 1) X.A)(hg:Gl X x)(ha:PA X (e::es) t)(hdb:(x == ("__debug__" : Str))=false:=by decide)
  (he:starEach (e::es) X.env=(false,eval e X.env)::starEach es X.env:=by rfl) (hpl:(backTo pos (starEach es X.env)).any (·.1)=false:=by rfl) :
  PE X (.Call (.Name x p) (e::es) [] pos) (tMake C sp [] E t):=by
 obtain ⟨f,fd,F,b,M,m⟩:=h.ex
 exact pe_make M F hr hg m b .nil hx ha hdb he hpl
end
end L2
namespace L2
open PySem PySem.Spec PyProof.Rows
def rIsiO(K:Fgg):List V→Hp→VK→Prop:=fun vs H Q=>∃(a C dx:Addr) (fs:List (Str×V)) (c:V) (D:Value) (b:Bool),vs=[.ref a,c]∧H a=some (.ins C dx fs)∧TyOf K H (.ref a) (.ref C)∧RelV c D∧PySem.W.kitOne K (.ref C) D=some b∧Q (.bl b) H
theorem call_isiO{X:Cx}:CallR X (.builtin "isinstance") (rIsiO X.K):=by
 intro pins s σ H xs us Q I r h
 obtain ⟨a,C,dx,fs,c,D,b,rfl,hH,ty,rc,e,q⟩:=h
 obtain ⟨u,w',rfl,rx,rw'⟩:=vals2 r
 have hD:w'=D:=by
  cases c <;> simp [RelV] at rc rw' <;> first | (rw [rw',rc]) | (obtain ⟨t1,e1⟩:=rc; obtain ⟨t2,e2⟩:=rw'; subst e1; subst e2; exact absurd e (by simp [PySem.W.kitOne,PySem.W.kitCls]))
 subst hD
 exact isinst_ok I rx ty e fun tk=>⟨.bl b,H,I.tok tk,rfl,q⟩
end L2
namespace L2
open PySem PySem.Spec PyProof.Rows
theorem goS{X:Cx}{st:Stmt}{rest:List Stmt}{t:TS}{D:Ends}{σ:St}{H:Hp}(h:PS X st t)(k:∀R:St→Hp→Prop,(∀σ' H',(∃u,PSs X rest u∧u D σ' H')→R σ' H')→t {D with nx:=R} σ H):∃v,PSs X (st::rest) v∧v D σ H :=
 ⟨tSeq t (fun D σ H=>∃u,PSs X rest u∧u D σ H),qK h (fun pins s σ H D I ⟨_,hu,q⟩=>hu pins s σ H D I q),k _ fun _ _ x=>x⟩
theorem goE{X:Cx}{st:Stmt}{t:TS}{D:Ends}{σ:St}{H:Hp}(h:PS X st t)(k:t D σ H):∃v,PSs X [st] v∧v D σ H:=⟨_,qO h,k⟩
structure PEv(X:Cx)(e:Expr)(t:TE):Prop where
 h:PE X e t
theorem ps_setU{X:Cx}{i:Nat}{x:Str}{e:Expr}{pos pos':Pos}{tl:TE}(hN:X.N.Nodup)(hi:X.N[i]?=some x)(hx:Loc X.env.scope x)(he:PE X e tl)(hsw:swapsWith e (some (.Name x pos')) pos.line X.env=pure false)(hf:X.fn x=true∨X.env.scope.names.lookup x=some .local):PS X (.Assign [.Name x pos'] e pos) (tAsg tl (gName i)):=ps_set hN hi hx he hsw hf
theorem ps_setV{X:Cx}{i:Nat}{x:Str}{e:Expr}{pos pos':Pos}{tl:TE}(hN:X.N.Nodup)(hi:X.N[i]?=some x)(hx:Loc X.env.scope x)(he:PEv X e tl)(hsw:swapsWith e (some (.Name x pos')) pos.line X.env=pure false)(hf:X.fn x=true∨X.env.scope.names.lookup x=some .local):PS X (.Assign [.Name x pos'] e pos) (tAsg tl (gName i)):=ps_set hN hi hx he.h hsw hf
theorem pv_cT{X:Cx}{es0 es:List Expr}{n:Nat}{pos:Pos}{te:TE}{t:TA}(ha:PE X (.Tuple es0 n pos) te)(hr:PA X es t):PA X (.Tuple es0 n pos::es) (tCons te t):=pK ha hr rfl
theorem pv_cL{X:Cx}{es0 es:List Expr}{pos:Pos}{te:TE}{t:TA}(ha:PE X (.List es0 pos) te)(hr:PA X es t):PA X (.List es0 pos::es) (tCons te t):=pK ha hr rfl
theorem pv_cC{X:Cx}{c:Const}{es:List Expr}{j}{pos:Pos}{te:TE}{t:TA}(ha:PE X (.Constant c j pos) te)(hr:PA X es t):PA X (.Constant c j pos::es) (tCons te t):=pK ha hr rfl
end L2
local macro_rules | `(tactic| walk_at "cond")=>`(tactic| first | rfl | decide | omega | (show (0:Int) < _; decide) | (show (0:Int) < _; omega) | exact ⟨by decide,by decide⟩ | exact ⟨by omega,by omega⟩ | exact Or.inl ⟨by decide,by decide⟩ | exact Or.inr ⟨by decide,by decide⟩ | exact Or.inl ⟨by omega,by omega⟩ | exact Or.inr ⟨by omega,by omega⟩ | assumption)
local macro_rules | `(tactic| walk_at "rd1")=>`(tactic| first
 | refine ⟨_,rfl,?_⟩
 | refine ⟨_,_,rfl,rfl,?_⟩
 | (refine And.intro ?_ ?_; walk_at "cond"))
local macro_rules | `(tactic| walk_at "rd")=>`(tactic| repeat walk_at "rd1")
set_option maxHeartbeats 4000000
local macro_rules | `(tactic| walk_at "sc")=>`(tactic| exact ⟨rfl,rfl,rfl,by decide +kernel,rfl,by decide +kernel,by decide +kernel⟩)
namespace Mine
open PySem L2
theorem ln0{α:Type}{P:List α→Prop}(h:P []):∀us:List α,us.length=0→P us:=fun us hl=>by
 cases us with
 | nil=>exact h
 | cons a r=>exact absurd hl (Nat.succ_ne_zero _)
theorem ln1{α:Type}{P:List α→Prop}(h:∀a0:α,P [a0]):∀us:List α,us.length=1→P us:=fun us hl=>by
 cases us with
 | nil=>exact absurd hl.symm (Nat.succ_ne_zero _)
 | cons a r=>exact ln0 (P:=fun r=>P (a::r)) (h a) r (Nat.succ.inj hl)
theorem ln2{α:Type}{P:List α→Prop}(h:∀a0 a1:α,P [a0,a1]):∀us:List α,us.length=2→P us:=fun us hl=>by
 cases us with
 | nil=>exact absurd hl.symm (Nat.succ_ne_zero _)
 | cons a r=>exact ln1 (P:=fun r=>P (a::r)) (fun a1=>h a a1) r (Nat.succ.inj hl)
theorem ln3{α:Type}{P:List α→Prop}(h:∀a0 a1 a2:α,P [a0,a1,a2]):∀us:List α,us.length=3→P us:=fun us hl=>by
 cases us with
 | nil=>exact absurd hl.symm (Nat.succ_ne_zero _)
 | cons a r=>exact ln2 (P:=fun r=>P (a::r)) (fun a1 a2=>h a a1 a2) r (Nat.succ.inj hl)
theorem ln4{α:Type}{P:List α→Prop}(h:∀a0 a1 a2 a3:α,P [a0,a1,a2,a3]):∀us:List α,us.length=4→P us:=fun us hl=>by
 cases us with
 | nil=>exact absurd hl.symm (Nat.succ_ne_zero _)
 | cons a r=>exact ln3 (P:=fun r=>P (a::r)) (fun a1 a2 a3=>h a a1 a2 a3) r (Nat.succ.inj hl)
theorem ln5{α:Type}{P:List α→Prop}(h:∀a0 a1 a2 a3 a4:α,P [a0,a1,a2,a3,a4]):∀us:List α,us.length=5→P us:=fun us hl=>by
 cases us with
 | nil=>exact absurd hl.symm (Nat.succ_ne_zero _)
 | cons a r=>exact ln4 (P:=fun r=>P (a::r)) (fun a1 a2 a3 a4=>h a a1 a2 a3 a4) r (Nat.succ.inj hl)
theorem ln6{α:Type}{P:List α→Prop}(h:∀a0 a1 a2 a3 a4 a5:α,P [a0,a1,a2,a3,a4,a5]):∀us:List α,us.length=6→P us:=fun us hl=>by
 cases us with
 | nil=>exact absurd hl.symm (Nat.succ_ne_zero _)
 | cons a r=>exact ln5 (P:=fun r=>P (a::r)) (fun a1 a2 a3 a4 a5=>h a a1 a2 a3 a4 a5) r (Nat.succ.inj hl)
theorem ex1{α:Type}{xs:List α}(h:xs.length=1):∃a0,xs=[a0]:=ln1 (P:=fun xs=>∃a0,xs=[a0]) (fun a0=>⟨a0,rfl⟩) xs h
theorem ex2{α:Type}{xs:List α}(h:xs.length=2):∃a0 a1,xs=[a0,a1]:=ln2 (P:=fun xs=>∃a0 a1,xs=[a0,a1]) (fun a0 a1=>⟨a0,a1,rfl⟩) xs h
theorem ex3{α:Type}{xs:List α}(h:xs.length=3):∃a0 a1 a2,xs=[a0,a1,a2]:=ln3 (P:=fun xs=>∃a0 a1 a2,xs=[a0,a1,a2]) (fun a0 a1 a2=>⟨a0,a1,a2,rfl⟩) xs h
theorem ex6{α:Type}{xs:List α}(h:xs.length=6):∃a0 a1 a2 a3 a4 a5,xs=[a0,a1,a2,a3,a4,a5]:=ln6 (P:=fun xs=>∃a0 a1 a2 a3 a4 a5,xs=[a0,a1,a2,a3,a4,a5]) (fun a0 a1 a2 a3 a4 a5=>⟨a0,a1,a2,a3,a4,a5,rfl⟩) xs h
def tf(p:Program)(i:Nat):Stmt:=p.main.body.getD i (.Pass ⟨0,0,0,0⟩)
def top(i:Nat):Stmt:=tf PySem.Challenge.pw_stackwarden_k33_straight_code i
abbrev s_law_cell:Stmt:=top 49
abbrev s_law_wrapped:Stmt:=top 51
abbrev s_law_reckoned:Stmt:=top 52
abbrev s_law_done:Stmt:=top 55
abbrev s_law_fit:Stmt:=top 53
abbrev s_law_word:Stmt:=top 50
abbrev s_law_row:Stmt:=top 54
abbrev s_law_grown:Stmt:=top 56
abbrev s_law_bare:Stmt:=top 58
abbrev s_law_no_truths:Stmt:=top 59
abbrev s_law_tagged:Stmt:=top 57
abbrev s_frame_told:Stmt:=top 36
abbrev s_Plain_frames:Stmt:=iC (top 42) 2
abbrev s_Plain_heap:Stmt:=iC (top 42) 3
abbrev s_Plain_bare:Stmt:=iC (top 42) 19
abbrev s_Watched_bare:Stmt:=iC (top 47) 2
abbrev s_Plain_do_give:Stmt:=iC (top 42) 15
abbrev s_wrapped:Stmt:=top 12
abbrev s_divided:Stmt:=top 14
abbrev s_reckoned:Stmt:=top 13
abbrev s_taken:Stmt:=top 34
abbrev s_Plain_tagged:Stmt:=iC (top 42) 18
abbrev s_Watched_tagged:Stmt:=iC (top 47) 1
abbrev s_Plain_do_reckoning:Stmt:=iC (top 42) 8
abbrev s_Plain_do_straight:Stmt:=iC (top 42) 6
abbrev s_catcher:Stmt:=top 29
abbrev s_caught_at:Stmt:=top 35
abbrev s_Plain_fault:Stmt:=iC (top 42) 16
abbrev s_Plain_do_row:Stmt:=iC (top 42) 5
abbrev s_Plain_looked:Stmt:=iC (top 42) 23
abbrev s_elders_of:Stmt:=top 5
abbrev s_fields_of:Stmt:=top 6
abbrev s_full_mask:Stmt:=top 8
abbrev s_asked_of_records:Stmt:=top 27
abbrev s_asked:Stmt:=top 26
abbrev s_is_under:Stmt:=top 7
abbrev s_record_has_kind:Stmt:=top 45
abbrev s_has_kind:Stmt:=top 44
abbrev s_leaves:Stmt:=top 28
abbrev s_Watched_looked:Stmt:=iC (top 47) 6
abbrev s_Plain_step:Stmt:=iC (top 42) 4
abbrev s_Plain_told:Stmt:=iC (top 42) 1
abbrev s_law_keeps:Stmt:=top 60
abbrev s_is_door:Stmt:=top 21
abbrev s_check_door:Stmt:=top 22
abbrev s_copied:Stmt:=top 19
abbrev s_Frame___init__:Stmt:=iC (top 32) 0
abbrev s_started:Stmt:=top 33
abbrev s_Plain_nothing:Stmt:=iC (top 42) 17
abbrev s_Watched_nothing:Stmt:=iC (top 47) 0
abbrev s_Plain_add_frame:Stmt:=iC (top 42) 13
abbrev s_Plain___init__:Stmt:=iC (top 42) 0
abbrev s_law:Stmt:=top 61
structure AC_Frame(K:Fgg)(C:Addr):Prop where
 cl:Cls K C
 a_part:NoAttr K C "part"
 a_at:NoAttr K C "at"
 a_boxes:NoAttr K C "boxes"
 a_stack:NoAttr K C "stack"
structure AC_Plain(K:Fgg)(C:Addr):Prop where
 cl:Cls K C
 a_book:NoAttr K C "book"
 a_live:NoAttr K C "live"
 a_records:NoAttr K C "records"
 a_said:NoAttr K C "said"
 a_left:NoAttr K C "left"
 a_end:NoAttr K C "end"
def kd_ALWAYS:List (Str×PyData):=[("push",.tuple []),("load",.tuple []),("store",.tuple [.tuple [.str "any"]]),("dup",.tuple [.tuple [.str "any"]]),("swap",.tuple [.tuple [.str "any"],.tuple [.str "any"]]),("drop",.tuple [.tuple [.str "any"]]),("add",.tuple [.tuple [.str "number"],.tuple [.str "number"]]),("sub",.tuple [.tuple [.str "number"],.tuple [.str "number"]]),("mul",.tuple [.tuple [.str "number"],.tuple [.str "number"]]),("div",.tuple [.tuple [.str "number"],.tuple [.str "number"]]),("rem",.tuple [.tuple [.str "number"],.tuple [.str "number"]]),("less",.tuple [.tuple [.str "number"],.tuple [.str "number"]]),("same",.tuple [.tuple [.str "number"],.tuple [.str "number"]]),("jump",.tuple []),("zero",.tuple [.tuple [.str "number"]]),("kin",.tuple [.tuple [.str "whole",.int 0]]),("make",.tuple []),("toss",.tuple [.tuple [.str "number"]]),("say",.tuple [.tuple [.str "number"]])]
def kd_GOING:PyData:=.tuple [.str "jump",.str "zero",.str "kin"]
def kd_LEFT:List (Str×PyData):=[("store",.int 0),("dup",.int 2),("swap",.int 2),("drop",.int 0),("jump",.int 0),("zero",.int 0),("put",.int 0),("toss",.int 0),("say",.int 0),("give",.int 0)]
def kd_OF_RECORDS:PyData:=.tuple [.str "make",.str "fill",.str "begin",.str "get",.str "put"]
def kd_RECKONING:PyData:=.tuple [.str "add",.str "sub",.str "mul",.str "div",.str "rem",.str "less",.str "same"]
inductive Kd where
 | any | num | whole (c:Nat) | raw (c m:Nat)
 deriving DecidableEq
def kdV:Kd→List V
 | .any=>[.str "any"]
 | .num=>[.str "number"]
 | .whole c=>[.str "whole",.int c]
 | .raw c m=>[.str "raw",.int c,.int m]
def kdL:Kd→List PyData
 | .any=>[.str "any"]
 | .num=>[.str "number"]
 | .whole c=>[.str "whole",.int c]
 | .raw c m=>[.str "raw",.int c,.int m]
abbrev Mks:=List (Option Nat×List Kd)
def elV:Option Nat→V
 | none=>.non
 | some n=>.int n
def elD:Option Nat→PyData
 | none=>.none
 | some n=>.int n
def mkD(m:Option Nat×List Kd):PyData:=.tuple [elD m.1,.list (m.2.map fun k=>.tuple (kdL k))]
def mksD(ms:Mks):PyData:=.list (ms.map mkD)
structure Wf(ms:Mks):Prop where
 ne:0 < ms.length
 few:ms.length≤8
 first:∀m,ms[0]?=some m→m.1=none
 ahead:∀(i:Nat) m,ms[i]?=some m→0 < i→∃j,m.1=some j∧j < i
def elOf(ms:Mks)(c:Nat):Option Nat:=(ms[c]?).bind (·.1)
theorem Wf.el{ms:Mks}(w:Wf ms){c:Nat}(hc:c < ms.length):∃m,ms[c]?=some m∧elOf ms c=m.1∧∀j,m.1=some j→j < c:=by
 refine ⟨ms[c],gee hc,by unfold elOf; rw [gee hc]; rfl,fun j hj=>?_⟩
 rcases Nat.eq_zero_or_pos c with z | z
 ·subst z
  have:=w.first _ (gee hc)
  rw [hj] at this
  cases this
 ·obtain ⟨j',h1,h2⟩:=w.ahead c _ (gee hc) z
  rw [hj] at h1
  cases h1
  exact h2
def eldN(ms:Mks):Nat→Nat→List Nat
 | 0,_=>[]
 | n + 1,c=>c::(match elOf ms c with | none=>[] | some j=>eldN ms n j)
def elders(ms:Mks)(c:Nat):List Nat:=eldN ms (c + 1) c
theorem eldN_eq{ms:Mks}(w:Wf ms):∀c:Nat,c < ms.length→∀n,c + 1≤n→eldN ms n c=eldN ms (c + 1) c:=by
 intro c
 induction c using Nat.strongRecOn with
 | ind c ih =>
  intro hc n hn
  obtain ⟨n',rfl⟩:∃n',n=n' + 1:=⟨n - 1,by omega⟩
  show (c::(match elOf ms c with | none=>[] | some j=>eldN ms n' j))=c::(match elOf ms c with | none=>[] | some j=>eldN ms c j)
  obtain ⟨m,_,e,hj⟩:=w.el hc
  cases q:elOf ms c with
  | none=>rfl
  | some j =>
   have hlt:j < c:=hj j (by rw [← e,q])
   show c::eldN ms n' j=c::eldN ms c j
   rw [ih j hlt (by omega) n' (by omega),ih j hlt (by omega) c (by omega)]
def rest(ms:Mks):Option Nat→List Nat
 | none=>[]
 | some j=>elders ms j
theorem elders_step{ms:Mks}(w:Wf ms){c:Nat}(hc:c < ms.length):elders ms c=c::rest ms (elOf ms c):=by
 show (c::(match elOf ms c with | none=>[] | some j=>eldN ms c j))=_
 obtain ⟨m,_,e,hj⟩:=w.el hc
 cases q:elOf ms c with
 | none=>rfl
 | some j =>
  have hlt:j < c:=hj j (by rw [← e,q])
  show c::eldN ms c j=c::eldN ms (j + 1) j
  rw [eldN_eq w j (by omega) c (by omega)]
theorem elders_le{ms:Mks}(w:Wf ms):∀c:Nat,c < ms.length→(elders ms c).length≤c + 1∧∀x∈elders ms c,x≤c:=by
 intro c
 induction c using Nat.strongRecOn with
 | ind c ih =>
  intro hc
  rw [elders_step w hc]
  obtain ⟨m,_,e,hj⟩:=w.el hc
  cases q:elOf ms c with
  | none=>exact ⟨by simp [rest],fun x hx=>by simp [rest] at hx; omega⟩
  | some j =>
   have hlt:j < c:=hj j (by rw [← e,q])
   obtain ⟨h1,h2⟩:=ih j hlt (by omega)
   refine ⟨by simp only [rest,List.length_cons]; omega,fun x hx=>?_⟩
   rcases List.mem_cons.mp hx with z | z
   ·omega
   ·have:=h2 x z
    omega
abbrev natsV(l:List Nat):List V:=l.map fun (n:Nat)=>V.int (n:Int)
theorem inV_nats(n:Nat):∀l:List Nat,inV (.int (n:Int)) (natsV l)=decide (n∈l)
 | []=>by simp [inV,natsV]
 | x::r=>by
  have ih:=inV_nats n r
  show (eqV (.int (x:Int)) (.int (n:Int))||inV (.int (n:Int)) (natsV r))=decide (n∈x::r)
  rw [ih]
  show (((x:Int) == (n:Int))||decide (n∈r))=_
  by_cases h:n=x
  ·subst h; simp
  ·have h':((x:Int) == (n:Int))=false:=by
    rw [beq_eq_false_iff_ne]
    intro z
    exact h (Int.ofNat.inj z).symm
   rw [h']
   simp [h]
theorem flat_nats:∀l:List Nat,(natsV l).all flatV=true
 | []=>rfl
 | _::r=>by show (true&&(natsV r).all flatV)=true; rw [flat_nats r]; rfl
def MIt(K:Fgg)(H:Hp)(xs:List V)(ms:Mks):Prop:=xs.length=ms.length∧∀(i:Nat) x m,xs[i]?=some x→ms[i]?=some m→∃(t l:Addr) (ks:List V),x=.ref t∧SqT K H t [elV m.1,.ref l]∧SqL K H l ks∧RdAll K H ks (m.2.map fun k=>.tuple (kdL k))
def MksAt(K:Fgg)(H:Hp)(a:Addr)(ms:Mks):Prop:=∃xs,SqL K H a xs∧MIt K H xs ms
theorem MIt.same{K:Fgg}{H H':Hp}{xs:List V}{ms:Mks}(e:Same H H')(h:MIt K H xs ms):MIt K H' xs ms:=⟨h.1,fun i x m h1 h2=>by
 obtain ⟨t,l,ks,e1,e2,e3,e4⟩:=h.2 i x m h1 h2
 exact ⟨t,l,ks,e1,e.tup e2,e.seq e3,e4.same e⟩⟩
theorem MksAt.same{K:Fgg}{H H':Hp}{a:Addr}{ms:Mks}(e:Same H H')(h:MksAt K H a ms):MksAt K H' a ms:=let ⟨xs,h1,h2⟩:=h; ⟨xs,e.seq h1,h2.same e⟩
theorem RdV.el(K:Fgg)(H:Hp):∀o:Option Nat,RdV K H (elV o) (elD o)
 | none=>.non
 | some n=>.int n
theorem MksAt.rd{K:Fgg}{H:Hp}{a:Addr}{ms:Mks}(h:MksAt K H a ms):RdV K H (.ref a) (mksD ms):=by
 obtain ⟨xs,h1,h2,h3⟩:=h
 refine .lst h1 (by rw [List.length_map]; exact h2) fun i x d hx hd=>?_
 rw [List.getElem?_map] at hd
 cases q:ms[i]? with
 | none=>rw [q] at hd; cases hd
 | some m =>
  rw [q] at hd
  cases hd
  obtain ⟨t,l,ks,rfl,e2,e3,e4⟩:=h3 i x m hx q
  exact .tup' e2 (.cons (RdV.el K H m.1) (.cons (.lst' e3 e4) .nil))
def KdOk(zs:List Nat):Kd→Prop
 | .any=>True
 | .num=>True
 | .whole c=>c < zs.length
 | .raw c m=>∃z,zs[c]?=some z∧m < 2 ^ z
theorem sN{H:Hp}{p:Addr}(h:H p=none)(o:HO):Same H (upd H p o):=fun b u q=>by rw [uN (nN q h)]; exact q
def SameB(r:Addr)(H H':Hp):Prop:=∀b o,b≠r→H b=some o→H' b=some o
theorem Same.b{r:Addr}{H H':Hp}(e:Same H H'):SameB r H H':=fun b o _ h=>e b o h
theorem SameB.refl(r:Addr)(H:Hp):SameB r H H:=fun _ _ _ h=>h
theorem SameB.trans{r:Addr}{H H1 H2:Hp}(a:SameB r H H1)(b:SameB r H1 H2):SameB r H H2:=fun c o n h=>b c o n (a c o n h)
theorem SameB.at{r:Addr}(H:Hp)(o:HO):SameB r H (upd H r o):=fun b u n h=>by rw [uN n]; exact h
theorem SameB.over{r:Addr}{H H':Hp}(e:SameB r H H')(o:HO):Same (upd H r o) (upd H' r o):=fun b u h=>by
 by_cases z:b=r
 ·subst z; rw [uS] at h ⊢; exact h
 ·rw [uN z] at h ⊢; exact e b u z h
theorem SameB.same{r:Addr}{H H':Hp}(e:SameB r H H')(h:H r=none):Same H H':=fun b o q=>e b o (nN q h) q
theorem SameB.free{r:Addr}{H H':Hp}(e:SameB r H H'){b:Addr}(n:b≠r)(h:H' b=none):H b=none:=by
 cases q:H b with
 | none=>rfl
 | some o=>rw [e b o n q] at h; cases h
theorem upd_self{H:Hp}{r:Addr}{o:HO}(h:H r=some o):upd H r o=H:=by
 funext b
 by_cases z:b=r
 ·subst z; rw [uS,h]
 ·rw [uN z]
theorem tup_upd{K:Fgg}{H:Hp}{t r:Addr}{xs ys:List V}{o:HO}(h:SqT K H t xs)(hr:H r=some (.lst ys)):SqT K (upd H r o) t xs:=by
 rcases h with (h | ⟨u,h⟩) | h
 ·exact .inl (.inl (by rw [uN (ne_of h hr (by intro z; cases z))]; exact h))
 ·exact .inl (.inr ⟨u,by rw [uN (ne_of h hr (by intro z; cases z))]; exact h⟩)
 ·exact .inr h
def MFr(K:Fgg)(H:Hp)(r:Addr)(xs:List V)(ms:Mks):Prop:=∀o,MIt K (upd H r o) xs ms
theorem MFr.mono{K:Fgg}{H H':Hp}{r:Addr}{xs:List V}{ms:Mks}(h:MFr K H r xs ms)(e:SameB r H H'):MFr K H' r xs ms:=fun o=>(h o).same (e.over o)
theorem MFr.it{K:Fgg}{H:Hp}{r:Addr}{xs:List V}{ms:Mks}{o:HO}(h:MFr K H r xs ms)(hr:H r=some o):MIt K H xs ms:=by
 have:=h o
 rw [upd_self hr] at this
 exact this
theorem MIt.nil(K:Fgg)(H:Hp):MIt K H [] []:=⟨rfl,fun i x m h=>by simp at h⟩
theorem MIt.snoc{K:Fgg}{H:Hp}{x:V}{m:Option Nat×List Kd}{xs:List V}{ms:Mks}(h:MIt K H xs ms)(hx:∃(t l:Addr) (ks:List V),x=.ref t∧SqT K H t [elV m.1,.ref l]∧SqL K H l ks∧RdAll K H ks (m.2.map fun k=>.tuple (kdL k))):
  MIt K H (xs++[x]) (ms++[m]):=by
 refine ⟨by simp [h.1],fun i y n h1 h2=>?_⟩
 by_cases hi:i < xs.length
 ·rw [List.getElem?_append_left hi] at h1
  rw [List.getElem?_append_left (by rw [← h.1]; exact hi)] at h2
  exact h.2 i y n h1 h2
 ·have hl:i < (xs++[x]).length:=(List.getElem?_eq_some_iff.mp h1).1
  have e:i=xs.length:=by simp at hl; omega
  subst e
  rw [List.getElem?_append_right (Nat.le_refl _)] at h1
  rw [h.1,List.getElem?_append_right (Nat.le_refl _)] at h2
  simp at h1 h2
  subst h1; subst h2
  exact hx
theorem rd_kd{K:Fgg}{H:Hp}{t:Addr}{k:Kd}(h:SqT K H t (kdV k)):RdV K H (.ref t) (.tuple (kdL k)):=by
 refine .tup' h ?_
 cases k with
 | any=>exact .cons (.str _) .nil
 | num=>exact .cons (.str _) .nil
 | whole c=>exact .cons (.str _) (.cons (.int _) .nil)
 | raw c m=>exact .cons (.str _) (.cons (.int _) (.cons (.int _) .nil))
structure ShOk(sh:List (Option Nat×Nat))(zs:List Nat):Prop where
 len:sh.length=zs.length
 ne:0 < sh.length
 s0:sh[0]?=some (none,0)
 z0:zs[0]?=some 0
 six:∀z∈zs,z≤6
 go:∀(i:Nat) (s:Option Nat×Nat),0 < i→sh[i]?=some s→∃j z,s.1=some j∧j < i∧zs[j]?=some z∧zs[i]?=some (z + s.2)
def ShIt(K:Fgg)(H:Hp)(xs:List V)(sh:List (Option Nat×Nat)):Prop:=xs.length=sh.length∧∀(i:Nat) x s,xs[i]?=some x→sh[i]?=some s→∃t:Addr,x=.ref t∧SqT K H t [elV s.1,.int (s.2:Int)]
theorem ShIt.same{K:Fgg}{H H':Hp}{xs:List V}{sh:List (Option Nat×Nat)}(e:Same H H')(h:ShIt K H xs sh):ShIt K H' xs sh:=⟨h.1,fun i x s h1 h2=>by
 obtain ⟨t,e1,e2⟩:=h.2 i x s h1 h2
 exact ⟨t,e1,e.tup e2⟩⟩
theorem ShIt.upd{K:Fgg}{H:Hp}{xs ys:List V}{sh:List (Option Nat×Nat)}{r:Addr}{o:HO}(h:ShIt K H xs sh)(hr:H r=some (.lst ys)):ShIt K (upd H r o) xs sh:=⟨h.1,fun i x s h1 h2=>by
 obtain ⟨t,e1,e2⟩:=h.2 i x s h1 h2
 exact ⟨t,e1,tup_upd e2 hr⟩⟩
theorem ShIt.snoc{K:Fgg}{H:Hp}{t:Addr}{s:Option Nat×Nat}{xs:List V}{sh:List (Option Nat×Nat)}(h:ShIt K H xs sh)(ht:SqT K H t [elV s.1,.int (s.2:Int)]):ShIt K H (xs++[.ref t]) (sh++[s]):=by
 refine ⟨by simp [h.1],fun i y n h1 h2=>?_⟩
 by_cases hi:i < xs.length
 ·rw [List.getElem?_append_left hi] at h1
  rw [List.getElem?_append_left (by rw [← h.1]; exact hi)] at h2
  exact h.2 i y n h1 h2
 ·have hl:i < (xs++[V.ref t]).length:=(List.getElem?_eq_some_iff.mp h1).1
  have e:i=xs.length:=by simp at hl; omega
  subst e
  rw [List.getElem?_append_right (Nat.le_refl _)] at h1
  rw [h.1,List.getElem?_append_right (Nat.le_refl _)] at h2
  simp at h1 h2
  subst h1; subst h2
  exact ⟨t,rfl,ht⟩
theorem ShOk.snoc{sh:List (Option Nat×Nat)}{zs:List Nat}(h:ShOk sh zs){j n z:Nat}(hj:j < sh.length)(hz:zs[j]?=some z)(h6:z + n≤6):ShOk (sh++[(some j,n)]) (zs++[z + n]) where
 len:=by simp [h.len]
 ne:=by simp
 s0:=by rw [List.getElem?_append_left h.ne]; exact h.s0
 z0:=by rw [List.getElem?_append_left (by rw [← h.len]; exact h.ne)]; exact h.z0
 six:=fun x hx=>by
  rcases List.mem_append.mp hx with q | q
  ·exact h.six x q
  ·simp at q; omega
 go:=fun i s h0 hs=>by
  by_cases hi:i < sh.length
  ·rw [List.getElem?_append_left hi] at hs
   obtain ⟨j',z',e1,e2,e3,e4⟩:=h.go i s h0 hs
   exact ⟨j',z',e1,e2,by rw [List.getElem?_append_left (by rw [← h.len]; omega)]; exact e3,by rw [List.getElem?_append_left (by rw [← h.len]; exact hi)]; exact e4⟩
  ·have hl:i < (sh++[(some j,n)]).length:=(List.getElem?_eq_some_iff.mp hs).1
   have e:i=sh.length:=by simp at hl; omega
   subst e
   rw [List.getElem?_append_right (Nat.le_refl _)] at hs
   simp at hs
   subst hs
   refine ⟨j,z,rfl,hj,by rw [List.getElem?_append_left (by rw [← h.len]; exact hj)]; exact hz,?_⟩
   rw [h.len,List.getElem?_append_right (Nat.le_refl _)]
   simp
structure Good(ms:Mks)(zs:List Nat):Prop where
 wf:Wf ms
 len:ms.length=zs.length
 own0:∀m,ms[0]?=some m→m.2=[]
 z0:zs[0]?=some 0
 six:∀z∈zs,z≤6
 go:∀(i:Nat) m,0 < i→ms[i]?=some m→∃j z,m.1=some j∧j < i∧zs[j]?=some z∧zs[i]?=some (z + m.2.length)
 kds:∀(i:Nat) m,ms[i]?=some m→∀k∈m.2,KdOk zs k
theorem ShIt.nil(K:Fgg)(H:Hp):ShIt K H [] []:=⟨rfl,fun i x m h=>by simp at h⟩
def KIt(K:Fgg)(H:Hp)(ys:List V)(ks:List Kd):Prop:=ys.length=ks.length∧∀(j:Nat) y k,ys[j]?=some y→ks[j]?=some k→∃t:Addr,y=.ref t∧SqT K H t (kdV k)
theorem KIt.nil(K:Fgg)(H:Hp):KIt K H [] []:=⟨rfl,fun i x m h=>by simp at h⟩
theorem KIt.same{K:Fgg}{H H':Hp}{ys:List V}{ks:List Kd}(e:Same H H')(h:KIt K H ys ks):KIt K H' ys ks:=⟨h.1,fun i x s h1 h2=>by
 obtain ⟨t,e1,e2⟩:=h.2 i x s h1 h2
 exact ⟨t,e1,e.tup e2⟩⟩
theorem KIt.upd{K:Fgg}{H:Hp}{ys zs:List V}{ks:List Kd}{r:Addr}{o:HO}(h:KIt K H ys ks)(hr:H r=some (.lst zs)):KIt K (upd H r o) ys ks:=⟨h.1,fun i x s h1 h2=>by
 obtain ⟨t,e1,e2⟩:=h.2 i x s h1 h2
 exact ⟨t,e1,tup_upd e2 hr⟩⟩
theorem KIt.snoc{K:Fgg}{H:Hp}{t:Addr}{k:Kd}{ys:List V}{ks:List Kd}(h:KIt K H ys ks)(ht:SqT K H t (kdV k)):KIt K H (ys++[.ref t]) (ks++[k]):=by
 refine ⟨by simp [h.1],fun i y n h1 h2=>?_⟩
 by_cases hi:i < ys.length
 ·rw [List.getElem?_append_left hi] at h1
  rw [List.getElem?_append_left (by rw [← h.1]; exact hi)] at h2
  exact h.2 i y n h1 h2
 ·have hl:i < (ys++[V.ref t]).length:=(List.getElem?_eq_some_iff.mp h1).1
  have e:i=ys.length:=by simp at hl; omega
  subst e
  rw [List.getElem?_append_right (Nat.le_refl _)] at h1
  rw [h.1,List.getElem?_append_right (Nat.le_refl _)] at h2
  simp at h1 h2
  subst h1; subst h2
  exact ⟨t,rfl,ht⟩
theorem KIt.rd{K:Fgg}{H:Hp}{ys:List V}{ks:List Kd}(h:KIt K H ys ks):RdAll K H ys (ks.map fun k=>.tuple (kdL k)):=by
 refine ⟨by rw [List.length_map]; exact h.1,fun i x d hx hd=>?_⟩
 rw [List.getElem?_map] at hd
 cases q:ks[i]? with
 | none=>rw [q] at hd; cases hd
 | some k =>
  rw [q] at hd
  cases hd
  obtain ⟨t,rfl,e2⟩:=h.2 i x k hx q
  exact rd_kd e2
theorem MIt.set{K:Fgg}{H:Hp}{x:V}{m:Option Nat×List Kd}{xs:List V}{ms:Mks}{i:Nat}(h:MIt K H xs ms)(hx:∃(t l:Addr) (ks:List V),x=.ref t∧SqT K H t [elV m.1,.ref l]∧SqL K H l ks∧RdAll K H ks (m.2.map fun k=>.tuple (kdL k))):
  MIt K H (xs.set i x) (ms.set i m):=by
 refine ⟨by simp [h.1],fun j y n h1 h2=>?_⟩
 by_cases e:i=j
 ·subst e
  have l1:i < (xs.set i x).length:=(List.getElem?_eq_some_iff.mp h1).1
  have l2:i < (ms.set i m).length:=(List.getElem?_eq_some_iff.mp h2).1
  rw [List.length_set] at l1 l2
  rw [List.getElem?_set_self l1] at h1
  rw [List.getElem?_set_self l2] at h2
  cases h1; cases h2
  exact hx
 ·rw [List.getElem?_set_ne e] at h1 h2
  exact h.2 j y n h1 h2
theorem MIt.take{K:Fgg}{H:Hp}{xs:List V}{ms:Mks}(h:MIt K H xs ms)(n:Nat):MIt K H (xs.take n) (ms.take n):=by
 refine ⟨by simp [h.1],fun j y m h1 h2=>?_⟩
 by_cases e:j < n
 ·rw [List.getElem?_take_of_lt e] at h1 h2
  exact h.2 j y m h1 h2
 ·have l1:j < (xs.take n).length:=(List.getElem?_eq_some_iff.mp h1).1
  rw [List.length_take] at l1
  omega
def ownOf(ms:Mks)(c:Nat):List Kd:=match ms[c]? with | some m=>m.2 | none=>[]
def fieldsUp(ms:Mks):List Nat→List Kd
 | []=>[]
 | e::r=>fieldsUp ms r++ownOf ms e
def fields(ms:Mks)(c:Nat):List Kd:=fieldsUp ms (elders ms c)
theorem fieldsUp_rev(ms:Mks):∀l:List Nat,fieldsUp ms l=(l.reverse.map (ownOf ms)).flatten
 | []=>rfl
 | e::r=>by
  show fieldsUp ms r++ownOf ms e=_
  rw [fieldsUp_rev ms r]
  simp
theorem RdAll.append{K:Fgg}{H:Hp}:∀{xs ys:List V} {ds es:List PyData},RdAll K H xs ds→RdAll K H ys es→RdAll K H (xs++ys) (ds++es)
 | [],_,[],_,_,r=>r
 | [],_,_::_,_,h,_=>nomatch h.1
 | _::_,_,[],_,h,_=>nomatch h.1
 | x::xs,ys,d::ds,es,h,r=>RdAll.cons (h.2 0 x d rfl rfl) (RdAll.append ⟨by simpa using h.1,fun i a b h1 h2=>h.2 (i + 1) a b (by simpa using h1) (by simpa using h2)⟩ r)
abbrev kdsD(ks:List Kd):List PyData:=ks.map fun k=>PyData.tuple (kdL k)
theorem bitAnd_nat(m n:Nat):Builtin.bitAnd (m:Int) (n:Int)=((m&&&n:Nat):Int):=by
 unfold Builtin.bitAnd
 simp
def below(ms:Mks):Kd→Kd→Bool
 | _,.any=>true
 | .num,.num=>true
 | .whole c,.whole d=>decide (d∈elders ms c)
 | .raw c m,.raw d n=>decide (c=d)&&decide (m&&&n=n)
 | _,_=>false
def KAt(K:Fgg)(H:Hp)(v:V)(k:Kd):Prop:=∃t:Addr,v=.ref t∧SqT K H t (kdV k)
theorem KAt.same{K:Fgg}{H H':Hp}{v:V}{k:Kd}(e:Same H H')(h:KAt K H v k):KAt K H' v k:=let ⟨t,a,b⟩:=h; ⟨t,a,e.tup b⟩
theorem KIt.at{K:Fgg}{H:Hp}{ys:List V}{ks:List Kd}(h:KIt K H ys ks){i:Nat}{y:V}(hy:ys[i]?=some y):∃k,ks[i]?=some k∧KAt K H y k:=by
 have hi:i < ks.length:=by rw [← h.1]; exact (List.getElem?_eq_some_iff.mp hy).1
 obtain ⟨t,e1,e2⟩:=h.2 i y _ hy (gee hi)
 exact ⟨ks[i],gee hi,t,e1,e2⟩
theorem kdD_ok(k:Kd):PySem.SeqAt.shaped (.tuple (kdL k))=true:=by
 cases k <;> (simp only [kdL,PySem.SeqAt.shaped,PyData.canLay0,PyData.canLayAll0,PyData.depth,PyData.depthAll]; decide +kernel)
theorem V_int_nat{a b:Nat}:(V.int (a:Int)=V.int (b:Int))↔a=b:=⟨fun h=>by
 have h':(a:Int)=(b:Int):=V.int.inj h
 omega,fun h=>by rw [h]⟩
theorem dec_nat(a b:Nat):decide (V.int (a:Int)=V.int (b:Int))=decide (a=b):=decide_eq_decide.mpr V_int_nat
theorem nWA:¬ (V.str "whole"=V.str "any"):=by decide +kernel
theorem nRA:¬ (V.str "raw"=V.str "any"):=by decide +kernel
theorem nNA:¬ (V.str "number"=V.str "any"):=by decide +kernel
theorem nAN:¬ (V.str "any"=V.str "number"):=by decide +kernel
theorem nWN:¬ (V.str "whole"=V.str "number"):=by decide +kernel
theorem nRN:¬ (V.str "raw"=V.str "number"):=by decide +kernel
theorem nRW:¬ (V.str "raw"=V.str "whole"):=by decide +kernel
theorem KIt.set{K:Fgg}{H:Hp}{t:Addr}{k:Kd}{ys:List V}{ks:List Kd}{i:Nat}(h:KIt K H ys ks)(ht:SqT K H t (kdV k)):KIt K H (ys.set i (.ref t)) (ks.set i k):=by
 refine ⟨by simp [h.1],fun j y n h1 h2=>?_⟩
 by_cases e:i=j
 ·subst e
  have l1:i < (ys.set i (.ref t)).length:=(List.getElem?_eq_some_iff.mp h1).1
  have l2:i < (ks.set i k).length:=(List.getElem?_eq_some_iff.mp h2).1
  rw [List.length_set] at l1 l2
  rw [List.getElem?_set_self l1] at h1
  rw [List.getElem?_set_self l2] at h2
  cases h1; cases h2
  exact ⟨t,rfl,ht⟩
 ·rw [List.getElem?_set_ne e] at h1 h2
  exact h.2 j y n h1 h2
theorem KIt.append{K:Fgg}{H:Hp}{xs ys:List V}{js ks:List Kd}(h:KIt K H xs js)(r:KIt K H ys ks):KIt K H (xs++ys) (js++ks):=by
 refine ⟨by simp [h.1,r.1],fun i y n h1 h2=>?_⟩
 by_cases hi:i < xs.length
 ·rw [List.getElem?_append_left hi] at h1
  rw [List.getElem?_append_left (by rw [← h.1]; exact hi)] at h2
  exact h.2 i y n h1 h2
 ·rw [List.getElem?_append_right (by omega)] at h1
  rw [List.getElem?_append_right (by rw [← h.1]; omega),← h.1] at h2
  exact r.2 _ y n h1 h2
theorem RdV.tupInv{K:Fgg}{H:Hp}{v:V}{ds:List PyData}(h:RdV K H v (.tuple ds)):∃(a:Addr) (xs:List V),v=.ref a∧SqT K H a xs∧RdAll K H xs ds:=by
 cases h with
 | tup h hl hi=>exact ⟨_,_,rfl,h,hl,hi⟩
theorem RdV.intInv{K:Fgg}{H:Hp}{v:V}{i:Int}(h:RdV K H v (.int i)):v=.int i:=by cases h; rfl
def Few(ms:Mks):Prop:=∀(i:Nat) m,ms[i]?=some m→m.2.length≤50
theorem Few.up{ms:Mks}(f:Few ms):∀l:List Nat,(fieldsUp ms l).length≤50 * l.length
 | []=>Nat.le_refl _
 | e::r=>by
  have ih:=f.up r
  show (fieldsUp ms r++ownOf ms e).length≤_
  rw [List.length_append,List.length_cons]
  have:(ownOf ms e).length≤50:=by
   unfold ownOf
   cases q:ms[e]? with
   | none=>simp
   | some m=>exact f e m q
  omega
theorem Few.fields{ms:Mks}(f:Few ms)(w:Wf ms){c:Nat}(hc:c < ms.length):(Mine.fields ms c).length≤400:=by
 have h1:=f.up (elders ms c)
 have h2:=(elders_le w c hc).1
 have h3:=w.few
 show (fieldsUp ms (elders ms c)).length≤400
 omega
theorem inV_strs(n:Str):∀l:List Str,inV (.str n) (l.map V.str)=decide (n∈l)
 | []=>by simp [inV]
 | x::r=>by
  have ih:=inV_strs n r
  show (eqV (.str x) (.str n)||inV (.str n) (r.map V.str))=decide (n∈x::r)
  rw [ih]
  by_cases h:x=n
  ·subst h; simp [eqV]
  ·have h':¬ n=x:=fun e=>h e.symm
   simp [eqV,h,h',List.mem_cons]
theorem flat_strs:∀l:List Str,(l.map V.str).all flatV=true
 | []=>rfl
 | x::r=>by show (flatV (.str x)&&(r.map V.str).all flatV)=true; rw [flat_strs r]; rfl
inductive Rw where
 | push (w:Int) | load (b:Nat) | store (b:Nat) | bare (s:Str) | jump (t:Nat) | zero (t:Nat) | kin (c t:Nat) | make (c:Nat) | beg (c:Nat) | fill (c f:Nat) | get (c f:Nat) | put (c f:Nat) | call (p:Nat)
def rwS:Rw→Str
 | .push _=>"push" | .load _=>"load" | .store _=>"store" | .bare s=>s | .jump _=>"jump" | .zero _=>"zero" | .kin _ _=>"kin" | .make _=>"make" | .beg _=>"begin" | .fill _ _=>"fill" | .get _ _=>"get" | .put _ _=>"put" | .call _=>"call"
def rwN:Rw→List Int
 | .push w=>[w] | .load b=>[b] | .store b=>[b] | .bare _=>[] | .jump t=>[t] | .zero t=>[t] | .kin c t=>[c,t] | .make c=>[c] | .beg c=>[c] | .fill c f=>[c,f] | .get c f=>[c,f] | .put c f=>[c,f] | .call p=>[p]
def rwV(r:Rw):List V:=.str (rwS r)::(rwN r).map V.int
def rwD(r:Rw):PyData:=.tuple (.str (rwS r)::(rwN r).map PyData.int)
def bareL:List Str:=["dup","swap","drop","add","sub","mul","div","rem","less","same","toss","say","give"]
def Rw.Ok(zs:List Nat)(np nb nr:Nat):Rw→Prop
 | .push w=>-2147483648≤w∧w < 2147483648
 | .load b=>b < nb
 | .store b=>b < nb
 | .bare s=>s∈bareL
 | .jump t=>t < nr
 | .zero t=>t < nr
 | .kin c t=>c < zs.length∧t < nr
 | .make c=>c < zs.length
 | .beg c=>c < zs.length
 | .fill c f=>∃z,zs[c]?=some z∧f < z
 | .get c f=>∃z,zs[c]?=some z∧f < z
 | .put c f=>∃z,zs[c]?=some z∧f < z
 | .call p=>p < np
structure Pt where
 takes:List Kd
 gives:Kd
 boxes:Nat
 height:Nat
 rows:List Rw
 spans:List (Nat×Nat×Nat)
def stV(s:Nat×Nat×Nat):List V:=[.int (s.1:Int),.int (s.2.1:Int),.int (s.2.2:Int)]
def stD(s:Nat×Nat×Nat):PyData:=.tuple [.int (s.1:Int),.int (s.2.1:Int),.int (s.2.2:Int)]
def ptD(p:Pt):PyData:=.tuple [.list (kdsD p.takes),.tuple (kdL p.gives),.int (p.boxes:Int),.int (p.height:Int),.list (p.rows.map rwD),.list (p.spans.map stD)]
def bkD(ms:Mks)(ps:List Pt):PyData:=.tuple [mksD ms,.list (ps.map ptD)]
structure PtOk(zs:List Nat)(np:Nat)(p:Pt):Prop where
 tk:∀k∈p.takes,KdOk zs k
 gv:KdOk zs p.gives
 bx:p.boxes≤8
 tb:p.takes.length≤p.boxes
 h1:1≤p.height
 h8:p.height≤8
 r1:1≤p.rows.length
 r2:p.rows.length≤100
 ro:∀r∈p.rows,r.Ok zs np p.boxes p.rows.length
 la:∃l r,p.rows=l++[r]∧(r=.bare "toss"∨r=.bare "give"∨∃t,r=.jump t)
 s8:p.spans.length≤8
 so:∀s∈p.spans,s.1 < s.2.1∧s.2.1≤p.rows.length∧s.2.2 < p.rows.length
theorem rd_ints{K:Fgg}{H:Hp}:∀l:List Int,RdAll K H (l.map V.int) (l.map PyData.int)
 | []=>.nil
 | x::r=>.cons (.int x) (rd_ints r)
theorem rd_rw{K:Fgg}{H:Hp}{t:Addr}{r:Rw}(h:SqT K H t (rwV r)):RdV K H (.ref t) (rwD r):=.tup' h (.cons (.str _) (rd_ints _))
theorem rd_st{K:Fgg}{H:Hp}{t:Addr}{s:Nat×Nat×Nat}(h:SqT K H t (stV s)):RdV K H (.ref t) (stD s):=.tup' h (.cons (.int _) (.cons (.int _) (.cons (.int _) .nil)))
theorem modN{e:Int}{n:Nat}(h:0 < n):∃k:Nat,e % (n:Int)=(k:Int)∧k < n:=by
 have a0:=Int.emod_nonneg e (show (n:Int)≠0 by omega)
 have a1:=Int.emod_lt_of_pos e (show (0:Int) < (n:Int) by omega)
 exact ⟨(e % (n:Int)).toNat,by omega,by omega⟩
theorem ints_lay:∀l:List Int,PyData.canLayAll0 (l.map PyData.int)=true∧PyData.depthAll (l.map PyData.int)=0
 | []=>⟨rfl,rfl⟩
 | x::r=>by
  obtain ⟨h1,h2⟩:=ints_lay r
  refine ⟨?_,?_⟩
  ·show (PyData.canLay0 (.int x)&&PyData.canLayAll0 (r.map PyData.int))=true
   rw [h1]; rfl
  ·show max (PyData.depth (.int x)) (PyData.depthAll (r.map PyData.int))=0
   rw [h2]; rfl
theorem lay_mapS{α:Type}{f:α→PyData}{n:Nat}:∀(l:List α) (_:∀x∈l,PyData.canLay0 (f x)=true∧PyData.depth (f x)≤n),PyData.canLayAll0 (l.map f)=true∧PyData.depthAll (l.map f)≤n
 | [],_=>⟨rfl,Nat.zero_le _⟩
 | x::r,hf=>by
  obtain ⟨h1,h2⟩:=lay_mapS r (fun y hy=>hf y (List.mem_cons_of_mem _ hy))
  have hx:=hf x List.mem_cons_self
  refine ⟨?_,?_⟩
  ·show (PyData.canLay0 (f x)&&PyData.canLayAll0 (r.map f))=true
   rw [hx.1,h1]; rfl
  ·exact Nat.max_le.mpr ⟨hx.2,h2⟩
theorem lay_map{α:Type}{f:α→PyData}{n:Nat}(hf:∀x,PyData.canLay0 (f x)=true∧PyData.depth (f x)≤n)(l:List α):PyData.canLayAll0 (l.map f)=true∧PyData.depthAll (l.map f)≤n:=lay_mapS l fun x _=>hf x
def Rw.Sg(r:Rw):Prop:=PyData.canLay0 (.str (rwS r))=true
theorem Rw.Ok.sg{zs:List Nat}{np nb nr:Nat}{r:Rw}(h:r.Ok zs np nb nr):r.Sg:=by
 have all:∀s∈bareL,PyData.canLay0 (.str s)=true:=by decide +kernel
 cases r with
 | bare s=>exact all s h
 | push w=>exact (by decide +kernel:PyData.canLay0 (.str "push")=true)
 | load b=>exact (by decide +kernel:PyData.canLay0 (.str "load")=true)
 | store b=>exact (by decide +kernel:PyData.canLay0 (.str "store")=true)
 | jump b=>exact (by decide +kernel:PyData.canLay0 (.str "jump")=true)
 | zero b=>exact (by decide +kernel:PyData.canLay0 (.str "zero")=true)
 | kin c b=>exact (by decide +kernel:PyData.canLay0 (.str "kin")=true)
 | make c=>exact (by decide +kernel:PyData.canLay0 (.str "make")=true)
 | beg c=>exact (by decide +kernel:PyData.canLay0 (.str "begin")=true)
 | fill c b=>exact (by decide +kernel:PyData.canLay0 (.str "fill")=true)
 | get c b=>exact (by decide +kernel:PyData.canLay0 (.str "get")=true)
 | put c b=>exact (by decide +kernel:PyData.canLay0 (.str "put")=true)
 | call b=>exact (by decide +kernel:PyData.canLay0 (.str "call")=true)
theorem rw_lay(r:Rw)(hs:r.Sg):PyData.canLay0 (rwD r)=true∧PyData.depth (rwD r)≤1:=by
 obtain ⟨h1,h2⟩:=ints_lay (rwN r)
 refine ⟨?_,?_⟩
 ·show (PyData.canLay0 (.str (rwS r))&&PyData.canLayAll0 ((rwN r).map PyData.int))=true
  rw [h1,Bool.and_true]
  exact hs
 ·show max (PyData.depth (.str (rwS r))) (PyData.depthAll ((rwN r).map PyData.int)) + 1≤1
  rw [h2]; exact Nat.le_refl _
theorem RdV.lstInv{K:Fgg}{H:Hp}{v:V}{ds:List PyData}(h:RdV K H v (.list ds)):∃(a:Addr) (xs:List V),v=.ref a∧SqL K H a xs∧RdAll K H xs ds:=by
 cases h with
 | lst h hl hi=>exact ⟨_,_,rfl,h,hl,hi⟩
theorem RdAll.at{K:Fgg}{H:Hp}{xs:List V}{ds:List PyData}{i:Nat}{d:PyData}(h:RdAll K H xs ds)(hd:ds[i]?=some d):∃x,xs[i]?=some x∧RdV K H x d:=by
 have hi:i < xs.length:=by rw [h.1]; exact (List.getElem?_eq_some_iff.mp hd).1
 exact ⟨xs[i],gee hi,h.2 i _ d (gee hi) hd⟩
theorem rd_el{K:Fgg}{H:Hp}{v:V}{o:Option Nat}(h:RdV K H v (elD o)):v=elV o:=by
 cases o with
 | none=>cases h; rfl
 | some n=>cases h; rfl
theorem MksAt.ofRd{K:Fgg}{H:Hp}{v:V}{ms:Mks}(h:RdV K H v (mksD ms)):∃a,v=.ref a∧MksAt K H a ms:=by
 obtain ⟨a,xs,rfl,hS,hR⟩:=RdV.lstInv h
 refine ⟨a,rfl,xs,hS,by have:=hR.1; simpa using this,fun i x m hx hm=>?_⟩
 have z:=hR.2 i x (mkD m) hx (by rw [List.getElem?_map,hm]; rfl)
 obtain ⟨t,ys,rfl,hT,hY⟩:=RdV.tupInv z
 have hl:=hY.1
 obtain ⟨y0,y1,rfl⟩:=ex2 hl
 have e0:=rd_el (hY.2 0 y0 (elD m.1) rfl rfl)
 obtain ⟨l,ks,e1,hls,hk⟩:=RdV.lstInv (hY.2 1 y1 _ rfl rfl)
 subst e0; subst e1
 exact ⟨t,l,ks,rfl,hT,hls,hk⟩
theorem bk_inv{K:Fgg}{H:Hp}{v:V}{ms:Mks}{ps:List Pt}(hB:RdV K H v (bkD ms ps)):∃(b mk pl:Addr) (xs:List V),v=.ref b∧SqT K H b [.ref mk,.ref pl]∧MksAt K H mk ms∧SqL K H pl xs∧RdAll K H xs (ps.map ptD):=by
 obtain ⟨b',bs,e,hT,hR⟩:=RdV.tupInv hB
 have hl:=hR.1
 obtain ⟨v0,v1,rfl⟩:=ex2 hl
 obtain ⟨mk,rfl,hM⟩:=MksAt.ofRd (hR.2 0 v0 _ rfl rfl)
 obtain ⟨pl,xs,rfl,hL,hP⟩:=RdV.lstInv (hR.2 1 v1 _ rfl rfl)
 exact ⟨b',mk,pl,xs,e,hT,hM,hL,hP⟩
theorem pt_inv{K:Fgg}{H:Hp}{v:V}{p:Pt}(h:RdV K H v (ptD p)):∃(t l0 l4 l5:Addr) (ks vs4 vs5:List V) (g:V),v=.ref t∧SqT K H t [.ref l0,g,.int (p.boxes:Int),.int (p.height:Int),.ref l4,.ref l5]∧SqL K H l0 ks∧RdAll K H ks (kdsD p.takes)∧RdV K H g (.tuple (kdL p.gives))∧SqL K H l4 vs4∧RdAll K H vs4 (p.rows.map rwD)∧SqL K H l5 vs5∧RdAll K H vs5 (p.spans.map stD):=by
 obtain ⟨t,fs,e,hT,hR⟩:=RdV.tupInv h
 have hfl:=hR.1
 obtain ⟨f0,f1,f2,f3,f4,f5,rfl⟩:=ex6 hfl
 obtain ⟨l0,ks,z0,hl0,hk⟩:=RdV.lstInv (hR.2 0 f0 _ rfl rfl)
 have rg:=hR.2 1 f1 _ rfl rfl
 have z2:=RdV.intInv (hR.2 2 f2 _ rfl rfl)
 have z3:=RdV.intInv (hR.2 3 f3 _ rfl rfl)
 obtain ⟨l4,vs4,z4,hl4,hk4⟩:=RdV.lstInv (hR.2 4 f4 _ rfl rfl)
 obtain ⟨l5,vs5,z5,hl5,hk5⟩:=RdV.lstInv (hR.2 5 f5 _ rfl rfl)
 subst z0; subst z2; subst z3; subst z4; subst z5
 exact ⟨t,l0,l4,l5,ks,vs4,vs5,f1,e,hT,hl0,hk,rg,hl4,hk4,hl5,hk5⟩
def TIt{α:Type}(f:α→List V)(K:Fgg)(H:Hp)(ys:List V)(ks:List α):Prop:=ys.length=ks.length∧∀(j:Nat) y k,ys[j]?=some y→ks[j]?=some k→∃t:Addr,y=.ref t∧SqT K H t (f k)
theorem TIt.nil{α:Type}{f:α→List V}(K:Fgg)(H:Hp):TIt f K H [] []:=⟨rfl,fun i x m h=>by simp at h⟩
theorem TIt.same{α:Type}{f:α→List V}{K:Fgg}{H H':Hp}{ys:List V}{ks:List α}(e:Same H H')(h:TIt f K H ys ks):TIt f K H' ys ks:=⟨h.1,fun i x s h1 h2=>by
 obtain ⟨t,e1,e2⟩:=h.2 i x s h1 h2
 exact ⟨t,e1,e.tup e2⟩⟩
theorem TIt.upd{α:Type}{f:α→List V}{K:Fgg}{H:Hp}{ys zs:List V}{ks:List α}{r:Addr}{o:HO}(h:TIt f K H ys ks)(hr:H r=some (.lst zs)):TIt f K (upd H r o) ys ks:=⟨h.1,fun i x s h1 h2=>by
 obtain ⟨t,e1,e2⟩:=h.2 i x s h1 h2
 exact ⟨t,e1,tup_upd e2 hr⟩⟩
theorem TIt.snoc{α:Type}{f:α→List V}{K:Fgg}{H:Hp}{t:Addr}{k:α}{ys:List V}{ks:List α}(h:TIt f K H ys ks)(ht:SqT K H t (f k)):TIt f K H (ys++[.ref t]) (ks++[k]):=by
 refine ⟨by simp [h.1],fun j y x hy hx=>?_⟩
 by_cases hj:j < ys.length
 ·rw [List.getElem?_append_left hj] at hy
  rw [List.getElem?_append_left (by rw [← h.1]; exact hj)] at hx
  exact h.2 j y x hy hx
 ·have hl:j=ys.length:=by
   have:=(List.getElem?_eq_some_iff.mp hy).1
   simp at this
   omega
  subst hl
  rw [List.getElem?_append_right (Nat.le_refl _),Nat.sub_self] at hy
  rw [h.1,List.getElem?_append_right (Nat.le_refl _),Nat.sub_self] at hx
  cases hy
  cases hx
  exact ⟨t,rfl,ht⟩
theorem TIt.rd{α:Type}{f:α→List V}{g:α→PyData}{K:Fgg}{H:Hp}{ys:List V}{ks:List α}(hf:∀t k,SqT K H t (f k)→RdV K H (.ref t) (g k))(h:TIt f K H ys ks):RdAll K H ys (ks.map g):=by
 refine ⟨by rw [h.1,List.length_map],fun i x d h1 h2=>?_⟩
 rw [List.getElem?_map] at h2
 cases e:ks[i]? with
 | none=>rw [e] at h2; cases h2
 | some k =>
  rw [e] at h2
  cases h2
  obtain ⟨t,rfl,ht⟩:=h.2 i x k h1 e
  exact hf t k ht
theorem sK{n:Nat}(h:n≤1000):n < sizeLine:=Nat.lt_of_le_of_lt h (by decide)
def Pt.wt(p:Pt)(tk:List Kd):Pt:={p with takes:=tk}
def KeepX(ls:List Addr)(H HX:Hp):Prop:=∀c o,c∉ls→H c=some o→HX c=some o
structure HandAt(K:Fgg)(H:Hp)(mk pl:Addr)(ys:List V)(ls:List Addr)(ms:Mks)(ps:List Pt):Prop where
 ln:ls.length=ps.length
 nd:ls.Nodup
 pls:H pl=some (.lst ys)
 np:pl∉ls
 my:∀HX,KeepX ls H HX→MksAt K HX mk ms
 pt:∀HX,KeepX ls H HX→∀(j:Nat) (p:Pt) (l:Addr),ps[j]?=some p→ls[j]?=some l→∃(t:Addr) (g r s:V) (ks:List V),ys[j]?=some (.ref t)∧SqT K HX t [.ref l,g,.int (p.boxes:Int),.int (p.height:Int),r,s]∧H l=some (.lst ks)∧RdAll K HX ks (kdsD p.takes)∧∀vs tk,HX l=some (.lst vs)→RdAll K HX vs (kdsD tk)→RdV K HX (.ref t) (ptD (p.wt tk))
theorem KeepX.refl{ls:List Addr}{H:Hp}:KeepX ls H H:=fun _ _ _ h=>h
theorem KeepX.same{ls:List Addr}{H H1 H2:Hp}(h:KeepX ls H H1)(e:Same H1 H2):KeepX ls H H2:=fun c o n q=>e c o (h c o n q)
theorem RdAll.of{K:Fgg}{H:Hp}{α:Type}{f:α→PyData}{ys:List V}{ps:List α}(hl:ys.length=ps.length)(h:∀(j:Nat) (p:α),ps[j]?=some p→∃v,ys[j]?=some v∧RdV K H v (f p)):RdAll K H ys (ps.map f):=by
 refine ⟨by rw [hl,List.length_map],fun i x d h1 h2=>?_⟩
 rw [List.getElem?_map] at h2
 cases e:ps[i]? with
 | none=>rw [e] at h2; cases h2
 | some p =>
  rw [e] at h2
  cases h2
  obtain ⟨v,e1,e2⟩:=h i p e
  rw [h1] at e1
  cases e1
  exact e2
theorem rep_rd{K:Fgg}{H:Hp}{v:V}{d:PyData}(h:RdV K H v d):∀n:Nat,RdAll K H (List.replicate n v) (List.replicate n d)
 | 0=>.nil
 | n + 1=>.cons h (rep_rd h n)
theorem bk_part{K:Fgg}{H:Hp}{xs:List V}{ps:List Pt}{j:Nat}{p:Pt}(hP:RdAll K H xs (ps.map ptD))(hp:ps[j]?=some p):∃v,xs[j]?=some v∧RdV K H v (ptD p):=by
 obtain ⟨v,h1,h2⟩:=RdAll.at hP (i:=j) (d:=ptD p) (by rw [List.getElem?_map,hp]; rfl)
 exact ⟨v,h1,h2⟩
theorem RdAll.set{K:Fgg}{H:Hp}{xs:List V}{ds:List PyData}{v:V}{d:PyData}{i:Nat}(h:RdAll K H xs ds)(hv:RdV K H v d):RdAll K H (xs.set i v) (ds.set i d):=by
 refine ⟨by rw [List.length_set,List.length_set,h.1],fun j x e hx he=>?_⟩
 rw [List.getElem?_set] at hx he
 by_cases hj:i=j
 ·subst hj
  rw [if_pos rfl] at hx he
  split at hx
  ·split at he
   ·cases hx; cases he; exact hv
   ·cases he
  ·cases hx
 ·rw [if_neg hj] at hx he
  exact h.2 j x e hx he
theorem ixN_nat{n m:Nat}(h:m < n):ixN n (m:Int)=some m:=by
 unfold ixN
 rw [if_pos (by omega),if_pos (by omega),Int.toNat_natCast]
theorem tSeq_hide{t u:TS}{D:Ends}{σ:St}{H:Hp}(h:∀R:St→Hp→Prop,(∀σ' H',u D σ' H'→R σ' H')→t {D with nx:=R} σ H):tSeq t u D σ H:=h _ fun _ _ x=>x
inductive AskR(ms:Mks):Str→List V→List Kd→Prop
 | begin {c:Nat} (hc:c < ms.length):AskR ms "begin" [.int c] [.raw c (2 ^ (fields ms c).length - 1)]
 | get {c f:Nat}:AskR ms "get" [.int c,.int f] [.whole c]
 | fill {c f:Nat} {k:Kd} (hc:c < ms.length) (hf:(fields ms c)[f]?=some k):AskR ms "fill" [.int c,.int f] [.raw c 0,k]
 | put {c f:Nat} {k:Kd} (hc:c < ms.length) (hf:(fields ms c)[f]?=some k):AskR ms "put" [.int c,.int f] [.whole c,k]
inductive AsksH(K:Fgg)(H:Hp)(mk pl:Addr)(part:Nat):Str→List V→List Kd→Prop
 | always {sign:Str} {xs:List V} {ks:List Kd} (h:getP kd_ALWAYS sign=some (.tuple (kdsD ks))):AsksH K H mk pl part sign xs ks
 | call {q:Nat} {ys rest vs:List V} {t l:Addr} {ks:List Kd} (h1:SqL K H pl ys) (h2:ys[q]?=some (.ref t)) (h3:SqT K H t (.ref l::rest)) (h4:SqL K H l vs) (h5:RdAll K H vs (kdsD ks)):AsksH K H mk pl part "call" [.int q] ks
 | give {ys rest:List V} {t:Addr} {v0 v:V} {k:Kd} (h1:SqL K H pl ys) (h2:ys[part]?=some (.ref t)) (h3:SqT K H t (v0::v::rest)) (h4:RdV K H v (.tuple (kdL k))):AsksH K H mk pl part "give" [] [k]
 | ofR {ms:Mks} {sign:Str} {xs:List V} {ks:List Kd} (hM:MksAt K H mk ms) (hw:Wf ms) (hf:Few ms) (h:AskR ms sign xs ks):AsksH K H mk pl part sign xs ks
def leftOf(sign:Str):Int:=match getP kd_LEFT sign with | some (.int i)=>i | _=>1
theorem getP_mem{kds:List (Str×PyData)}{k:Str}{d:PyData}(h:getP kds k=some d):∃kv∈kds,kv.2=d:=by
 unfold getP at h
 obtain ⟨kv,h1,h2⟩:=Option.map_eq_some_iff.mp h
 exact ⟨kv,List.mem_of_find?_eq_some h1,h2⟩
theorem left_int{sign:Str}{d:PyData}(h:getP kd_LEFT sign=some d):∃i,d=.int i:=by
 obtain ⟨kv,h1,rfl⟩:=getP_mem h
 simp [kd_LEFT] at h1
 rcases h1 with e | e | e | e | e | e | e | e | e | e <;> exact ⟨_,by rw [e]⟩
structure Rc where
 c:Nat
 begun:Bool
 mask:Nat
 fs:List (Option Int)
def fvD:Option Int→PyData
 | none=>.none
 | some w=>.tuple [.str "number",.int w]
def rcD(r:Rc):PyData:=.tuple [.int (r.c:Int),.bool r.begun,.int (r.mask:Int),.tuple (r.fs.map fvD)]
inductive Vl where
 | none | num (w:Int) | rcd (n:Nat)
def vlD:Vl→PyData
 | .none=>.none
 | .num w=>.tuple [.str "number",.int w]
 | .rcd n=>.tuple [.str "record",.int (n:Int)]
def hasR(ms:Mks)(r:Rc):Kd→Bool
 | .whole c=>r.begun&&decide (c∈elders ms r.c)
 | .raw c m=>decide (r.c=c)&&decide (r.mask&&&m=m)
 | .any=>true
 | .num=>false
def hasN(ms:Mks)(rcs:List Rc)(k:Kd):Vl→Bool
 | .none=>false
 | .num _=>decide (k=.num)
 | .rcd n=>match rcs[n]? with
  | some r=>hasR ms r k
  | none=>false
def hasB(ms:Mks)(rcs:List Rc)(v:Vl):Kd→Bool
 | .any=>true
 | .num=>hasN ms rcs .num v
 | .whole c=>hasN ms rcs (.whole c) v
 | .raw c m=>hasN ms rcs (.raw c m) v
theorem hasB_of{ms:Mks}{rcs:List Rc}{x:Vl}{k:Kd}(h:k≠.any):hasB ms rcs x k=hasN ms rcs k x:=by
 cases k with
 | any=>exact absurd rfl h
 | num=>rfl
 | whole c=>rfl
 | raw c m=>rfl
theorem hasN_rcd{ms:Mks}{rcs:List Rc}{n:Nat}{r:Rc}{k:Kd}(h:rcs[n]?=some r):hasN ms rcs k (.rcd n)=hasR ms r k:=by
 show (match rcs[n]? with | some r=>hasR ms r k | none=>false)=_
 rw [h]
theorem rc_inv{K:Fgg}{H:Hp}{v:V}{r:Rc}(h:RdV K H v (rcD r)):∃(t:Addr) (f:V),v=.ref t∧SqT K H t [.int (r.c:Int),.bl r.begun,.int (r.mask:Int),f]∧RdV K H f (.tuple (r.fs.map fvD)):=by
 obtain ⟨t,fs,e,hT,hR⟩:=RdV.tupInv h
 have hfl:=hR.1
 match fs,hfl,hT,hR with
 | [f0,f1,f2,f3],_,hT,hR =>
  have z0:=RdV.intInv (hR.2 0 f0 _ rfl rfl)
  have z1:f1=.bl r.begun:=by have:=hR.2 1 f1 _ rfl rfl; cases this; rfl
  have z2:=RdV.intInv (hR.2 2 f2 _ rfl rfl)
  subst z0; subst z1; subst z2
  exact ⟨t,f3,e,hT,hR.2 3 f3 _ rfl rfl⟩
theorem vl_num{K:Fgg}{H:Hp}{v:V}{w:Int}(h:RdV K H v (vlD (.num w))):∃t,v=.ref t∧SqT K H t [.str "number",.int w]:=by
 obtain ⟨t,fs,e,hT,hR⟩:=RdV.tupInv h
 have hfl:=hR.1
 match fs,hfl,hT,hR with
 | [f0,f1],_,hT,hR =>
  have z0:f0=.str "number":=by have:=hR.2 0 f0 _ rfl rfl; cases this; rfl
  have z1:=RdV.intInv (hR.2 1 f1 _ rfl rfl)
  subst z0; subst z1
  exact ⟨t,e,hT⟩
theorem vl_rec{K:Fgg}{H:Hp}{v:V}{n:Nat}(h:RdV K H v (vlD (.rcd n))):∃t,v=.ref t∧SqT K H t [.str "record",.int (n:Int)]:=by
 obtain ⟨t,fs,e,hT,hR⟩:=RdV.tupInv h
 have hfl:=hR.1
 match fs,hfl,hT,hR with
 | [f0,f1],_,hT,hR =>
  have z0:f0=.str "record":=by have:=hR.2 0 f0 _ rfl rfl; cases this; rfl
  have z1:=RdV.intInv (hR.2 1 f1 _ rfl rfl)
  subst z0; subst z1
  exact ⟨t,e,hT⟩
theorem vl_none{K:Fgg}{H:Hp}{v:V}(h:RdV K H v (vlD .none)):v=.non:=by
 have h:RdV K H v .none:=h
 cases h; rfl
theorem nRcN:¬ (V.str "record"=V.str "number"):=by decide +kernel
theorem nNRc:¬ (V.str "number"=V.str "record"):=by decide +kernel
def kdS:Kd→Str
 | .any=>"any" | .num=>"number" | .whole _=>"whole" | .raw _ _=>"raw"
theorem kd_at0(k:Kd):atI (kdV k) 0=some (.str (kdS k)):=by cases k <;> rfl
theorem kdS_any{k:Kd}(h:k≠.any):¬ (V.str (kdS k)=V.str "any"):=by
 cases k with
 | any=>exact absurd rfl h
 | num=>exact nNA
 | whole c=>exact nWA
 | raw c m=>exact nRA
theorem kdS_num{k:Kd}:(V.str (kdS k)=V.str "number")↔k=.num:=by
 cases k with
 | any=>exact ⟨fun h=>absurd h nAN,fun h=>by cases h⟩
 | num=>exact ⟨fun _=>rfl,fun _=>rfl⟩
 | whole c=>exact ⟨fun h=>absurd h nWN,fun h=>by cases h⟩
 | raw c m=>exact ⟨fun h=>absurd h nRN,fun h=>by cases h⟩
def wrapI(n:Int):Int:=(n + 2147483648) % 4294967296 - 2147483648
def inW(n:Int):Prop:=-2147483648≤n∧n≤2147483647
def rk(sign:Str)(a b:Int):Int :=
 if sign="add" then wrapI (a + b) else if sign="sub" then wrapI (a - b) else if sign="mul" then wrapI (a * b)
 else if sign="less" then (if a < b then 1 else 0) else if sign="same" then (if a=b then 1 else 0) else if sign="div" then wrapI (a.fdiv b) else a.fmod b
def parts(sign:Str):Prop:=sign="div"∨sign="rem"
instance (sign:Str):Decidable (parts sign):=by unfold parts; exact inferInstance
theorem wrap_in(n:Int):-2147483648≤wrapI n∧wrapI n≤2147483647∧(n - wrapI n) % 4294967296=0:=by
 unfold wrapI
 omega
theorem dv:¬ parts "add"∧¬ parts "sub"∧¬ parts "mul"∧¬ parts "less"∧¬ parts "same":=by decide +kernel
theorem rk_add(a b:Int):rk "add" a b=wrapI (a + b):=by unfold rk; rw [if_pos rfl]
theorem rk_sub(a b:Int):rk "sub" a b=wrapI (a - b):=by unfold rk; rw [if_neg (by decide +kernel),if_pos rfl]
theorem rk_mul(a b:Int):rk "mul" a b=wrapI (a * b):=by unfold rk; rw [if_neg (by decide +kernel),if_neg (by decide +kernel),if_pos rfl]
theorem rk_less(a b:Int):rk "less" a b=if a < b then 1 else 0:=by unfold rk; rw [if_neg (by decide +kernel),if_neg (by decide +kernel),if_neg (by decide +kernel),if_pos rfl]
theorem rk_same(a b:Int):rk "same" a b=if a=b then 1 else 0:=by unfold rk; rw [if_neg (by decide +kernel),if_neg (by decide +kernel),if_neg (by decide +kernel),if_neg (by decide +kernel),if_pos rfl]
theorem rk_div(a b:Int):rk "div" a b=wrapI (a.fdiv b):=by unfold rk; rw [if_neg (by decide +kernel),if_neg (by decide +kernel),if_neg (by decide +kernel),if_neg (by decide +kernel),if_neg (by decide +kernel),if_pos rfl]
theorem rk_rem(a b:Int):rk "rem" a b=a.fmod b:=by unfold rk; rw [if_neg (by decide +kernel),if_neg (by decide +kernel),if_neg (by decide +kernel),if_neg (by decide +kernel),if_neg (by decide +kernel),if_neg (by decide +kernel)]
def bareV:Vl→Int
 | .none=>0
 | .num w=>w
 | .rcd n=>(n:Int)
def MutC(o:HO):Prop:=(∃xs,o=.lst xs)∨∃C dx fs,o=.ins C dx fs
def MutAll(H:Hp)(F:List Addr):Prop:=∀c∈F,∃o,H c=some o∧MutC o
theorem SqT.keep{K:Fgg}{H H':Hp}{F:List Addr}{t:Addr}{xs:List V}(k:KeepX F H H')(m:MutAll H F)(h:SqT K H t xs):SqT K H' t xs:=by
 rcases h with (h | ⟨u,h⟩) | h
 ·refine .inl (.inl (k _ _ (fun hf=>?_) h))
  obtain ⟨o,e,z⟩:=m t hf
  rw [h] at e
  cases e
  rcases z with ⟨xs,z⟩ | ⟨C,dx,fs,z⟩ <;> cases z
 ·refine .inl (.inr ⟨u,k _ _ (fun hf=>?_) h⟩)
  obtain ⟨o,e,z⟩:=m t hf
  rw [h] at e
  cases e
  rcases z with ⟨xs,z⟩ | ⟨C,dx,fs,z⟩ <;> cases z
 ·exact .inr h
theorem vl_keep{K:Fgg}{H H':Hp}{F:List Addr}{v:V}{x:Vl}(k:KeepX F H H')(m:MutAll H F)(h:RdV K H v (vlD x)):RdV K H' v (vlD x):=by
 cases x with
 | none=>rw [vl_none h]; exact .non
 | num w =>
  obtain ⟨t,rfl,ht⟩:=vl_num h
  exact .tup' (SqT.keep k m ht) (.cons (.str _) (.cons (.int _) .nil))
 | rcd n =>
  obtain ⟨t,rfl,ht⟩:=vl_rec h
  exact .tup' (SqT.keep k m ht) (.cons (.str _) (.cons (.int _) .nil))
def VlA(K:Fgg)(H:Hp)(wt:Bool)(v:V)(x:Vl):Prop:=if wt=true then RdV K H v (vlD x) else v=.int (bareV x)
theorem VlA.same{K:Fgg}{H H':Hp}{wt:Bool}{v:V}{x:Vl}(e:Same H H')(h:VlA K H wt v x):VlA K H' wt v x:=by
 cases wt with
 | true=>exact RdV.same e (show RdV K H v (vlD x) from h)
 | false=>exact h
theorem VlA.keep{K:Fgg}{H H':Hp}{F:List Addr}{wt:Bool}{v:V}{x:Vl}(k:KeepX F H H')(m:MutAll H F)(h:VlA K H wt v x):VlA K H' wt v x:=by
 cases wt with
 | true=>exact vl_keep k m (show RdV K H v (vlD x) from h)
 | false=>exact h
def VIt(K:Fgg)(H:Hp)(wt:Bool)(ys:List V)(xs:List Vl):Prop:=ys.length=xs.length∧∀(j:Nat) y x,ys[j]?=some y→xs[j]?=some x→VlA K H wt y x
theorem VIt.nil{K:Fgg}{H:Hp}{wt:Bool}:VIt K H wt [] []:=⟨rfl,fun j y x h=>by simp at h⟩
theorem VIt.same{K:Fgg}{H H':Hp}{wt:Bool}{ys:List V}{xs:List Vl}(e:Same H H')(h:VIt K H wt ys xs):VIt K H' wt ys xs:=⟨h.1,fun j y x h1 h2=>(h.2 j y x h1 h2).same e⟩
theorem VIt.keep{K:Fgg}{H H':Hp}{F:List Addr}{wt:Bool}{ys:List V}{xs:List Vl}(k:KeepX F H H')(m:MutAll H F)(h:VIt K H wt ys xs):VIt K H' wt ys xs:=⟨h.1,fun j y x h1 h2=>(h.2 j y x h1 h2).keep k m⟩
theorem VIt.snoc{K:Fgg}{H:Hp}{wt:Bool}{ys:List V}{xs:List Vl}{y:V}{x:Vl}(h:VIt K H wt ys xs)(hy:VlA K H wt y x):VIt K H wt (ys++[y]) (xs++[x]):=by
 refine ⟨by simp [h.1],fun j z u hz hu=>?_⟩
 by_cases hj:j < ys.length
 ·rw [List.getElem?_append_left hj] at hz
  rw [List.getElem?_append_left (by rw [← h.1]; exact hj)] at hu
  exact h.2 j z u hz hu
 ·have hl:j=ys.length:=by
   have:=(List.getElem?_eq_some_iff.mp hz).1
   simp at this
   omega
  subst hl
  rw [List.getElem?_append_right (Nat.le_refl _),Nat.sub_self] at hz
  rw [h.1,List.getElem?_append_right (Nat.le_refl _),Nat.sub_self] at hu
  cases hz
  cases hu
  exact hy
theorem VIt.take{K:Fgg}{H:Hp}{wt:Bool}{ys:List V}{xs:List Vl}(h:VIt K H wt ys xs)(n:Nat):VIt K H wt (ys.take n) (xs.take n):=by
 refine ⟨by rw [List.length_take,List.length_take,h.1],fun j y k hy hk=>?_⟩
 have hj:j < (ys.take n).length:=(List.getElem?_eq_some_iff.mp hy).1
 rw [List.length_take] at hj
 rw [List.getElem?_take_of_lt (by omega)] at hy hk
 exact h.2 _ y k hy hk
theorem VIt.drop{K:Fgg}{H:Hp}{wt:Bool}{ys:List V}{xs:List Vl}(h:VIt K H wt ys xs)(n:Nat):VIt K H wt (ys.drop n) (xs.drop n):=by
 refine ⟨by rw [List.length_drop,List.length_drop,h.1],fun j y k hy hk=>?_⟩
 rw [List.getElem?_drop] at hy hk
 exact h.2 _ y k hy hk
theorem VIt.dropLast{K:Fgg}{H:Hp}{wt:Bool}{ys:List V}{xs:List Vl}(h:VIt K H wt ys xs):VIt K H wt ys.dropLast xs.dropLast:=by
 rw [List.dropLast_eq_take,List.dropLast_eq_take,h.1]
 exact h.take _
theorem VIt.set{K:Fgg}{H:Hp}{wt:Bool}{ys:List V}{xs:List Vl}{y:V}{x:Vl}(h:VIt K H wt ys xs)(hy:VlA K H wt y x)(i:Nat):VIt K H wt (ys.set i y) (xs.set i x):=by
 refine ⟨by rw [List.length_set,List.length_set,h.1],fun j z u hz hu=>?_⟩
 rw [List.getElem?_set] at hz hu
 by_cases hj:i=j
 ·subst hj
  rw [if_pos rfl] at hz hu
  split at hz
  ·split at hu
   ·cases hz; cases hu; exact hy
   ·cases hu
  ·cases hz
 ·rw [if_neg hj] at hz hu
  exact h.2 j z u hz hu
theorem VIt.at{K:Fgg}{H:Hp}{wt:Bool}{ys:List V}{xs:List Vl}(h:VIt K H wt ys xs){i:Nat}{x:Vl}(hx:xs[i]?=some x):∃y,ys[i]?=some y∧VlA K H wt y x:=by
 have hi:i < ys.length:=by rw [h.1]; exact (List.getElem?_eq_some_iff.mp hx).1
 exact ⟨ys[i],gee hi,h.2 i _ x (gee hi) hx⟩
theorem VIt.append{K:Fgg}{H:Hp}{wt:Bool}{ys zs:List V}{xs us:List Vl}(h:VIt K H wt ys xs)(h':VIt K H wt zs us):VIt K H wt (ys++zs) (xs++us):=by
 refine ⟨by simp [h.1,h'.1],fun j z u hz hu=>?_⟩
 by_cases hj:j < ys.length
 ·rw [List.getElem?_append_left hj] at hz
  rw [List.getElem?_append_left (by rw [← h.1]; exact hj)] at hu
  exact h.2 j z u hz hu
 ·rw [List.getElem?_append_right (by omega)] at hz
  rw [List.getElem?_append_right (by rw [← h.1]; omega),← h.1] at hu
  exact h'.2 _ z u hz hu
theorem VIt.rep{K:Fgg}{H:Hp}{wt:Bool}{v:V}{x:Vl}(h:VlA K H wt v x)(n:Nat):VIt K H wt (List.replicate n v) (List.replicate n x):=by
 refine ⟨by simp,fun j y z hy hz=>?_⟩
 rw [List.eq_of_mem_replicate (List.mem_of_getElem? hy),List.eq_of_mem_replicate (List.mem_of_getElem? hz)]
 exact h
structure Fm where
 fa:Addr
 bl:Addr
 sl:Addr
 part:Nat
 at':Nat
 bx:List Vl
 st:List Vl
def fmF(part at':Int)(bl sl:Addr):List (Str×V):=[("part",.int part),("at",.int at'),("boxes",.ref bl),("stack",.ref sl)]
structure FmAt(K:Fgg)(H:Hp)(CF:Addr)(wt:Bool)(f:Fm):Prop where
 ob:∃dx,H f.fa=some (.ins CF dx (fmF f.part f.at' f.bl f.sl))
 bo:∃ys,H f.bl=some (.lst ys)∧VIt K H wt ys f.bx
 sk:∃ys,H f.sl=some (.lst ys)∧VIt K H wt ys f.st
 ne:f.bl≠f.sl
def fmL(f:Fm):List Addr:=[f.fa,f.bl,f.sl]
theorem FmAt.mut{K:Fgg}{H:Hp}{CF:Addr}{wt:Bool}{f:Fm}(h:FmAt K H CF wt f):MutAll H (fmL f):=by
 intro c hc
 simp only [fmL,List.mem_cons,List.not_mem_nil,or_false] at hc
 rcases hc with rfl | rfl | rfl
 ·obtain ⟨dx,e⟩:=h.ob
  exact ⟨_,e,.inr ⟨_,_,_,rfl⟩⟩
 ·obtain ⟨ys,e,_⟩:=h.bo
  exact ⟨_,e,.inl ⟨_,rfl⟩⟩
 ·obtain ⟨ys,e,_⟩:=h.sk
  exact ⟨_,e,.inl ⟨_,rfl⟩⟩
theorem FmAt.same{K:Fgg}{H H':Hp}{CF:Addr}{wt:Bool}{f:Fm}(e:Same H H')(h:FmAt K H CF wt f):FmAt K H' CF wt f:=by
 obtain ⟨⟨dx,h1⟩,⟨ys,h2,h3⟩,⟨zs,h4,h5⟩,ne⟩:=h
 exact ⟨⟨dx,e _ _ h1⟩,⟨ys,e _ _ h2,h3.same e⟩,⟨zs,e _ _ h4,h5.same e⟩,ne⟩
theorem lk1{f:Str}{v:V}{r:List (Str×V)}:List.lookup f ((f,v)::r)=some v:=by simp
theorem lk2{f g:Str}{v:V}{r:List (Str×V)}(h:¬ g=f):List.lookup g ((f,v)::r)=List.lookup g r:=by
 have hb:(g == f)=false:=by simpa using h
 simp [List.lookup,hb]
theorem pf1{f:Str}{v w:V}{r:List (Str×V)}:putF f w ((f,v)::r)=(f,w)::r:=by
 show (if f=f then _ else _)=_
 rw [if_pos rfl]
theorem pf2{f g:Str}{v w:V}{r:List (Str×V)}(h:¬ f=g):putF g w ((f,v)::r)=(f,v)::putF g w r:=by
 show (if f=g then _ else _)=_
 rw [if_neg h]
theorem fm_part{p a:Int}{b s:Addr}:(fmF p a b s).lookup ("part" : Str)=some (.int p):=lk1
theorem fm_at{p a:Int}{b s:Addr}:(fmF p a b s).lookup ("at" : Str)=some (.int a):=by
 unfold fmF; rw [lk2 (by decide +kernel),lk1]
theorem fm_boxes{p a:Int}{b s:Addr}:(fmF p a b s).lookup ("boxes" : Str)=some (.ref b):=by
 unfold fmF; rw [lk2 (by decide +kernel),lk2 (by decide +kernel),lk1]
theorem fm_stack{p a:Int}{b s:Addr}:(fmF p a b s).lookup ("stack" : Str)=some (.ref s):=by
 unfold fmF; rw [lk2 (by decide +kernel),lk2 (by decide +kernel),lk2 (by decide +kernel),lk1]
theorem fm_putAt{p a a':Int}{b s:Addr}:putF "at" (.int a') (fmF p a b s)=fmF p a' b s:=by
 unfold fmF; rw [pf2 (by decide +kernel),pf1]
theorem fm_new{p a:Int}{b s:Addr}:putF "stack" (.ref s) (putF "boxes" (.ref b) (putF "at" (.int a) (putF "part" (.int p) [])))=fmF p a b s:=by
 have e1:putF "part" (.int p) []=([("part",.int p)]:List (Str×V)):=rfl
 have e2:putF "at" (.int a) ([("part",.int p)]:List (Str×V))=([("part",.int p),("at",.int a)]:List (Str×V)):=by rw [pf2 (by decide +kernel)]; rfl
 have e3:putF "boxes" (.ref b) ([("part",.int p),("at",.int a)]:List (Str×V))=([("part",.int p),("at",.int a),("boxes",.ref b)]:List (Str×V)):=by rw [pf2 (by decide +kernel),pf2 (by decide +kernel)]; rfl
 rw [e1,e2,e3,pf2 (by decide +kernel),pf2 (by decide +kernel),pf2 (by decide +kernel)]
 rfl
theorem FmAt.keep{K:Fgg}{H H':Hp}{CF:Addr}{wt:Bool}{f:Fm}{F:List Addr}(k:KeepX F H H')(m:MutAll H F)(d:∀c∈fmL f,c∉F)(h:FmAt K H CF wt f):FmAt K H' CF wt f:=by
 obtain ⟨⟨dx,h1⟩,⟨ys,h2,h3⟩,⟨zs,h4,h5⟩,ne⟩:=h
 exact ⟨⟨dx,k _ _ (d _ (by simp [fmL])) h1⟩,⟨ys,k _ _ (d _ (by simp [fmL])) h2,h3.keep k m⟩,⟨zs,k _ _ (d _ (by simp [fmL])) h4,h5.keep k m⟩,ne⟩
def atV:Str ⊕ Int→V
 | .inl s=>.str s
 | .inr i=>.int i
def atD:Str ⊕ Int→PyData
 | .inl s=>.str s
 | .inr i=>.int i
def finD(l:List (Str ⊕ Int)):PyData:=if l=[] then .none else .tuple (l.map atD)
def EndAt(K:Fgg)(H:Hp)(ev:V)(l:List (Str ⊕ Int)):Prop:=(l=[]∧ev=.non)∨(l≠[]∧∃t,ev=.ref t∧SqT K H t (l.map atV))
theorem EndAt.same{K:Fgg}{H H':Hp}{ev:V}{l:List (Str ⊕ Int)}(e:Same H H')(h:EndAt K H ev l):EndAt K H' ev l:=by
 rcases h with h | ⟨n,t,h1,h2⟩
 ·exact .inl h
 ·exact .inr ⟨n,t,h1,e.tup h2⟩
theorem EndAt.keep{K:Fgg}{H H':Hp}{F:List Addr}{ev:V}{l:List (Str ⊕ Int)}(k:KeepX F H H')(m:MutAll H F)(h:EndAt K H ev l):EndAt K H' ev l:=by
 rcases h with h | ⟨n,t,h1,h2⟩
 ·exact .inl h
 ·exact .inr ⟨n,t,h1,SqT.keep k m h2⟩
theorem rd_ats{K:Fgg}{H:Hp}:∀l:List (Str ⊕ Int),RdAll K H (l.map atV) (l.map atD)
 | []=>.nil
 | .inl s::r=>.cons (.str s) (rd_ats r)
 | .inr i::r=>.cons (.int i) (rd_ats r)
theorem EndAt.rd{K:Fgg}{H:Hp}{ev:V}{l:List (Str ⊕ Int)}(h:EndAt K H ev l):RdV K H ev (finD l):=by
 rcases h with ⟨h1,h2⟩ | ⟨n,t,h1,h2⟩
 ·subst h1; subst h2; exact .non
 ·subst h1
  unfold finD
  rw [if_neg n]
  exact .tup' h2 (rd_ats l)
structure Mc where
 ma:Addr
 b:Addr
 lv:Addr
 rc:Addr
 sd:Addr
 ms:Mks
 ps:List Pt
 frs:List Fm
 said:List Int
 left:Int
 fin:List (Str ⊕ Int)
def foot(m:Mc):List Addr:=m.ma::m.lv::m.rc::m.sd::m.frs.flatMap fmL
def mcF(b lv rc sd:Addr)(left:Int)(ev:V):List (Str×V):=[("book",.ref b),("live",.ref lv),("records",.ref rc),("said",.ref sd),("left",.int left),("end",ev)]
theorem MutAll.sub{H:Hp}{F G:List Addr}(h:MutAll H F)(s:∀c∈G,c∈F):MutAll H G:=fun c hc=>h c (s c hc)
theorem KeepX.sub{F G:List Addr}{H H':Hp}(k:KeepX F H H')(s:∀c∈F,c∈G):KeepX G H H':=fun c o n e=>k c o (fun z=>n (s c z)) e
theorem KeepX.trans{F:List Addr}{H H1 H2:Hp}(k:KeepX F H H1)(k':KeepX F H1 H2):KeepX F H H2:=fun c o n e=>k' c o n (k c o n e)
def BkX(K:Fgg)(F:List Addr)(H:Hp)(b:Addr)(ms:Mks)(ps:List Pt):Prop:=∃(mk pl:Addr) (xs:List V),∀HX,KeepX F H HX→SqT K HX b [.ref mk,.ref pl]∧MksAt K HX mk ms∧SqL K HX pl xs∧RdAll K HX xs (ps.map ptD)
theorem BkX.to{K:Fgg}{F G:List Addr}{H H':Hp}{b:Addr}{ms:Mks}{ps:List Pt}(h:BkX K F H b ms ps)(k:KeepX F H H')(s:∀c∈G,c∈F):BkX K G H' b ms ps:=by
 obtain ⟨mk,pl,xs,h⟩:=h
 exact ⟨mk,pl,xs,fun HX kx=>h HX (KeepX.trans k (KeepX.sub kx s))⟩
structure McAt(K:Fgg)(H:Hp)(CF C:Addr)(wt:Bool)(m:Mc):Prop where
 ob:∃dx ev,H m.ma=some (.ins C dx (mcF m.b m.lv m.rc m.sd m.left ev))∧EndAt K H ev m.fin
 bk:BkX K (foot m) H m.b m.ms m.ps
 lv:H m.lv=some (.lst (m.frs.map fun f=>.ref f.fa))
 rc:H m.rc=some (.lst [])
 sd:H m.sd=some (.lst (m.said.map V.int))
 fr:∀f∈m.frs,FmAt K H CF wt f
 nd:(foot m).Nodup
theorem mc_book{b lv rc sd:Addr}{l:Int}{e:V}:(mcF b lv rc sd l e).lookup ("book" : Str)=some (.ref b):=lk1
theorem mc_live{b lv rc sd:Addr}{l:Int}{e:V}:(mcF b lv rc sd l e).lookup ("live" : Str)=some (.ref lv):=by
 unfold mcF; rw [lk2 (by decide +kernel),lk1]
theorem mc_recs{b lv rc sd:Addr}{l:Int}{e:V}:(mcF b lv rc sd l e).lookup ("records" : Str)=some (.ref rc):=by
 unfold mcF; rw [lk2 (by decide +kernel),lk2 (by decide +kernel),lk1]
theorem mc_said{b lv rc sd:Addr}{l:Int}{e:V}:(mcF b lv rc sd l e).lookup ("said" : Str)=some (.ref sd):=by
 unfold mcF; rw [lk2 (by decide +kernel),lk2 (by decide +kernel),lk2 (by decide +kernel),lk1]
theorem mc_left{b lv rc sd:Addr}{l:Int}{e:V}:(mcF b lv rc sd l e).lookup ("left" : Str)=some (.int l):=by
 unfold mcF; rw [lk2 (by decide +kernel),lk2 (by decide +kernel),lk2 (by decide +kernel),lk2 (by decide +kernel),lk1]
theorem mc_end{b lv rc sd:Addr}{l:Int}{e:V}:(mcF b lv rc sd l e).lookup ("end" : Str)=some e:=by
 unfold mcF; rw [lk2 (by decide +kernel),lk2 (by decide +kernel),lk2 (by decide +kernel),lk2 (by decide +kernel),lk2 (by decide +kernel),lk1]
theorem mc_putEnd{b lv rc sd:Addr}{l:Int}{e e':V}:putF "end" e' (mcF b lv rc sd l e)=mcF b lv rc sd l e':=by
 unfold mcF; rw [pf2 (by decide +kernel),pf2 (by decide +kernel),pf2 (by decide +kernel),pf2 (by decide +kernel),pf2 (by decide +kernel),pf1]
theorem mc_no{b lv rc sd:Addr}{l:Int}{e:V}{m:Str}(h:¬ m∈(["book","live","records","said","left","end"]:List Str)):(mcF b lv rc sd l e).lookup m=none:=by
 simp only [List.mem_cons,List.not_mem_nil,or_false,not_or] at h
 unfold mcF
 rw [lk2 h.1,lk2 h.2.1,lk2 h.2.2.1,lk2 h.2.2.2.1,lk2 h.2.2.2.2.1,lk2 h.2.2.2.2.2]
 rfl
theorem McAt.mut{K:Fgg}{H:Hp}{CF C:Addr}{wt:Bool}{m:Mc}(h:McAt K H CF C wt m):MutAll H (foot m):=by
 intro c hc
 simp only [foot,List.mem_cons,List.mem_flatMap] at hc
 rcases hc with rfl | rfl | rfl | rfl | ⟨f,hf,hc⟩
 ·obtain ⟨dx,ev,e,_⟩:=h.ob
  exact ⟨_,e,.inr ⟨_,_,_,rfl⟩⟩
 ·exact ⟨_,h.lv,.inl ⟨_,rfl⟩⟩
 ·exact ⟨_,h.rc,.inl ⟨_,rfl⟩⟩
 ·exact ⟨_,h.sd,.inl ⟨_,rfl⟩⟩
 ·exact (h.fr f hf).mut c hc
theorem keep_upd{H:Hp}{a:Addr}{o:HO}:KeepX [a] H (upd H a o):=fun c p n e=>by
 rw [uN (fun z=>n (by rw [z]; exact List.mem_singleton.mpr rfl))]
 exact e
theorem keep_of{F:List Addr}{H H':Hp}(s:Same H H'):KeepX F H H':=fun c o _ e=>s c o e
theorem McAt.same{K:Fgg}{H H':Hp}{CF C:Addr}{wt:Bool}{m:Mc}(e:Same H H')(h:McAt K H CF C wt m):McAt K H' CF C wt m:=by
 obtain ⟨⟨dx,ev,h1,h2⟩,bk,lv,rc,sd,fr,nd⟩:=h
 exact ⟨⟨dx,ev,e _ _ h1,h2.same e⟩,bk.to (keep_of e) (fun c hc=>hc),e _ _ lv,e _ _ rc,e _ _ sd,fun f hf=>(fr f hf).same e,nd⟩
theorem McAt.own{K:Fgg}{H H':Hp}{CF C dx:Addr}{wt:Bool}{m:Mc}{l:Int}{ev:V}{fin:List (Str ⊕ Int)}(h:McAt K H CF C wt m)(k:KeepX [m.ma] H H')(e:H' m.ma=some (.ins C dx (mcF m.b m.lv m.rc m.sd l ev)))(he:EndAt K H' ev fin):McAt K H' CF C wt {m with left:=l,fin:=fin}:=by
 have nd:=h.nd
 simp only [foot,List.nodup_cons,List.mem_cons,not_or] at nd
 have sub:∀c∈[m.ma],c∈foot m:=fun c hc=>by rw [msp hc]; exact List.mem_cons_self
 have mu:=h.mut.sub sub
 refine ⟨⟨dx,ev,e,he⟩,h.bk.to (k.sub sub) (fun c hc=>hc),k _ _ ?_ h.lv,k _ _ ?_ h.rc,k _ _ ?_ h.sd,fun f hf=>(h.fr f hf).keep k mu ?_,h.nd⟩
 ·exact fun z=>nd.1.1 (msp z).symm
 ·exact fun z=>nd.1.2.1 (msp z).symm
 ·exact fun z=>nd.1.2.2.1 (msp z).symm
 ·intro c hc z
  rw [msp z] at hc
  exact nd.1.2.2.2 (List.mem_flatMap.mpr ⟨f,hf,hc⟩)
theorem McAt.says{K:Fgg}{H H':Hp}{CF C:Addr}{wt:Bool}{m:Mc}{sd:List Int}(h:McAt K H CF C wt m)(k:KeepX [m.sd] H H')(e:H' m.sd=some (.lst (sd.map V.int))):McAt K H' CF C wt {m with said:=sd}:=by
 have nd:=h.nd
 simp only [foot,List.nodup_cons,List.mem_cons,not_or] at nd
 have sub:∀c∈[m.sd],c∈foot m:=fun c hc=>by rw [msp hc]; simp [foot]
 have mu:=h.mut.sub sub
 obtain ⟨dx,ev,h1,h2⟩:=h.ob
 refine ⟨⟨dx,ev,k _ _ ?_ h1,h2.keep k mu⟩,h.bk.to (k.sub sub) (fun c hc=>hc),k _ _ ?_ h.lv,k _ _ ?_ h.rc,e,fun f hf=>(h.fr f hf).keep k mu ?_,h.nd⟩
 ·exact fun z=>nd.1.2.2.1 (msp z)
 ·exact fun z=>nd.2.1.2.1 (msp z)
 ·exact fun z=>nd.2.2.1.1 (msp z)
 ·intro c hc z
  rw [msp z] at hc
  exact nd.2.2.2.1 (List.mem_flatMap.mpr ⟨f,hf,hc⟩)
theorem foot_top{m:Mc}{fs:List Fm}{f:Fm}(hf:m.frs=fs++[f]):foot m=m.ma::m.lv::m.rc::m.sd::(fs.flatMap fmL++fmL f):=by
 unfold foot; rw [hf]; simp
theorem McAt.top{K:Fgg}{H H':Hp}{CF C:Addr}{wt:Bool}{m:Mc}{fs:List Fm}{f f':Fm}(h:McAt K H CF C wt m)(hf:m.frs=fs++[f])(a1:f'.fa=f.fa)(a2:f'.bl=f.bl)(a3:f'.sl=f.sl)(k:KeepX (fmL f) H H')(hF:FmAt K H' CF wt f'):McAt K H' CF C wt {m with frs:=fs++[f']}:=by
 have nd:=h.nd
 rw [foot_top hf] at nd
 have ef:foot {m with frs:=fs++[f']}=foot m:=by
  rw [foot_top (m:={m with frs:=fs++[f']}) rfl,foot_top hf]
  show m.ma::m.lv::m.rc::m.sd::(fs.flatMap fmL++fmL f')=_
  unfold fmL
  rw [a1,a2,a3]
 have sub:∀c∈fmL f,c∈foot m:=fun c hc=>by rw [foot_top hf]; simp [hc]
 have mu:=h.mut.sub sub
 simp only [List.nodup_cons,List.mem_cons,List.mem_append,not_or] at nd
 obtain ⟨dx,ev,h1,h2⟩:=h.ob
 refine ⟨⟨dx,ev,k _ _ (fun z=>nd.1.2.2.2.2 z) h1,h2.keep k mu⟩,h.bk.to (k.sub sub) (fun c hc=>by rw [← ef]; exact hc),k _ _ (fun z=>nd.2.1.2.2.2 z) ?_,k _ _ (fun z=>nd.2.2.1.2.2 z) h.rc,k _ _ (fun z=>nd.2.2.2.1.2 z) h.sd,fun g hg=>?_,by rw [ef]; exact h.nd⟩
 ·have:=h.lv
  rw [hf] at this
  show H m.lv=some (.lst ((fs++[f']).map fun f=>.ref f.fa))
  rw [this,List.map_append,List.map_append]
  simp [a1]
 ·rcases List.mem_append.mp hg with z | z
  ·refine (h.fr g (by rw [hf]; exact List.mem_append_left _ z)).keep k mu (fun c hc hz=>?_)
   have nn:=nd.2.2.2.2
   rw [List.nodup_append] at nn
   exact nn.2.2 c (List.mem_flatMap.mpr ⟨g,z,hc⟩) c hz rfl
  ·rw [msp z]
   exact hF
theorem McAt.pop{K:Fgg}{H H':Hp}{CF C:Addr}{wt:Bool}{m:Mc}{fs:List Fm}{f:Fm}(h:McAt K H CF C wt m)(hf:m.frs=fs++[f])(k:KeepX [m.lv] H H')(e:H' m.lv=some (.lst (fs.map fun f=>.ref f.fa))):McAt K H' CF C wt {m with frs:=fs}:=by
 have nd:=h.nd
 have nd':=nd
 rw [foot_top hf] at nd
 simp only [List.nodup_cons,List.mem_cons,List.mem_append,not_or] at nd
 have sub:∀c∈[m.lv],c∈foot m:=fun c hc=>by rw [msp hc]; simp [foot]
 have sub2:∀c∈foot {m with frs:=fs},c∈foot m:=fun c hc=>by
  rw [foot_top hf]
  simp only [foot,List.mem_cons] at hc
  simp only [List.mem_cons,List.mem_append]
  rcases hc with hc | hc | hc | hc | hc
  ·exact .inl hc
  ·exact .inr (.inl hc)
  ·exact .inr (.inr (.inl hc))
  ·exact .inr (.inr (.inr (.inl hc)))
  ·exact .inr (.inr (.inr (.inr (.inl hc))))
 have mu:=h.mut.sub sub
 obtain ⟨dx,ev,h1,h2⟩:=h.ob
 refine ⟨⟨dx,ev,k _ _ (fun z=>nd.1.1 (msp z)) h1,h2.keep k mu⟩,h.bk.to (k.sub sub) sub2,e,k _ _ (fun z=>nd.2.1.1 (msp z).symm) h.rc,k _ _ (fun z=>nd.2.1.2.1 (msp z).symm) h.sd,fun g hg=>(h.fr g (by rw [hf]; exact List.mem_append_left _ hg)).keep k mu (fun c hc hz=>?_),?_⟩
 ·rw [msp hz] at hc
  exact nd.2.1.2.2.1 (List.mem_flatMap.mpr ⟨g,hg,hc⟩)
 ·have nn:=nd.2.2.2.2
  rw [List.nodup_append] at nn
  simp only [foot,List.nodup_cons,List.mem_cons,not_or]
  exact ⟨⟨nd.1.1,nd.1.2.1,nd.1.2.2.1,nd.1.2.2.2.1⟩,⟨nd.2.1.1,nd.2.1.2.1,nd.2.1.2.2.1⟩,⟨nd.2.2.1.1,nd.2.2.1.2.1⟩,nd.2.2.2.1.1,nn.1⟩
theorem FmAt.fs{K:Fgg}{H:Hp}{CF:Addr}{wt:Bool}{f:Fm}(h:FmAt K H CF wt f):f.fa≠f.bl∧f.fa≠f.sl:=by
 obtain ⟨⟨dx,h1⟩,⟨ys,h2,_⟩,⟨zs,h4,_⟩,_⟩:=h
 exact ⟨ne_of h1 h2 (by intro z; cases z),ne_of h1 h4 (by intro z; cases z)⟩
theorem FmAt.setSt{K:Fgg}{H H1:Hp}{CF:Addr}{wt:Bool}{f:Fm}{ys:List V}{st:List Vl}(h:FmAt K H CF wt f)(s:Same H H1)(hy:VIt K H1 wt ys st):FmAt K (upd H1 f.sl (.lst ys)) CF wt {f with st:=st}∧KeepX (fmL f) H (upd H1 f.sl (.lst ys)):=by
 obtain ⟨n1,n2⟩:=h.fs
 have h1:=h.same s
 have kx:KeepX [f.sl] H1 (upd H1 f.sl (.lst ys)):=keep_upd
 have mu:MutAll H1 [f.sl]:=h1.mut.sub (fun c hc=>by rw [msp hc]; simp [fmL])
 obtain ⟨⟨dx,e1⟩,⟨bs,e2,e3⟩,⟨zs,e4,e5⟩,ne⟩:=h1
 refine ⟨⟨⟨dx,(uN n2).trans e1⟩,⟨bs,(uN ne).trans e2,e3.keep kx mu⟩,⟨ys,uS,hy.keep kx mu⟩,ne⟩,fun c o hc e=>?_⟩
 rw [uN (fun z=>hc (by rw [z]; simp [fmL]))]
 exact s c o e
theorem FmAt.setBx{K:Fgg}{H H1:Hp}{CF:Addr}{wt:Bool}{f:Fm}{ys:List V}{bx:List Vl}(h:FmAt K H CF wt f)(s:Same H H1)(hy:VIt K H1 wt ys bx):FmAt K (upd H1 f.bl (.lst ys)) CF wt {f with bx:=bx}∧KeepX (fmL f) H (upd H1 f.bl (.lst ys)):=by
 obtain ⟨n1,n2⟩:=h.fs
 have h1:=h.same s
 have kx:KeepX [f.bl] H1 (upd H1 f.bl (.lst ys)):=keep_upd
 have mu:MutAll H1 [f.bl]:=h1.mut.sub (fun c hc=>by rw [msp hc]; simp [fmL])
 obtain ⟨⟨dx,e1⟩,⟨bs,e2,e3⟩,⟨zs,e4,e5⟩,ne⟩:=h1
 refine ⟨⟨⟨dx,(uN n1).trans e1⟩,⟨ys,uS,hy.keep kx mu⟩,⟨zs,(uN ne.symm).trans e4,e5.keep kx mu⟩,ne⟩,fun c o hc e=>?_⟩
 rw [uN (fun z=>hc (by rw [z]; simp [fmL]))]
 exact s c o e
theorem FmAt.setAt{K:Fgg}{H:Hp}{CF dx:Addr}{wt:Bool}{f:Fm}{a:Nat}(h:FmAt K H CF wt f):FmAt K (upd H f.fa (.ins CF dx (fmF f.part a f.bl f.sl))) CF wt {f with at':=a}∧KeepX (fmL f) H (upd H f.fa (.ins CF dx (fmF f.part a f.bl f.sl))):=by
 obtain ⟨n1,n2⟩:=h.fs
 have kx:KeepX [f.fa] H (upd H f.fa (.ins CF dx (fmF f.part a f.bl f.sl))):=keep_upd
 have mu:MutAll H [f.fa]:=h.mut.sub (fun c hc=>by rw [msp hc]; simp [fmL])
 obtain ⟨⟨dx',e1⟩,⟨bs,e2,e3⟩,⟨zs,e4,e5⟩,ne⟩:=h
 refine ⟨⟨⟨dx,uS⟩,⟨bs,(uN n1.symm).trans e2,e3.keep kx mu⟩,⟨zs,(uN n2.symm).trans e4,e5.keep kx mu⟩,ne⟩,fun c o hc e=>?_⟩
 rw [uN (fun z=>hc (by rw [z]; simp [fmL]))]
 exact e
theorem McAt.last{K:Fgg}{H:Hp}{CF C:Addr}{wt:Bool}{m:Mc}{fs:List Fm}{f:Fm}(h:McAt K H CF C wt m)(hf:m.frs=fs++[f]):FmAt K H CF wt f:=h.fr f (by rw [hf]; simp)
theorem foot_fm{m:Mc}{fs:List Fm}{f:Fm}(hf:m.frs=fs++[f]):∀c∈fmL f,c∈foot m:=fun c hc=>by rw [foot_top hf]; simp [hc]
theorem foot_set{m:Mc}{fs:List Fm}{f f':Fm}(hf:m.frs=fs++[f])(a1:f'.fa=f.fa)(a2:f'.bl=f.bl)(a3:f'.sl=f.sl):foot {m with frs:=fs++[f']}=foot m:=by
 rw [foot_top (m:={m with frs:=fs++[f']}) rfl,foot_top hf]
 show m.ma::m.lv::m.rc::m.sd::(fs.flatMap fmL++fmL f')=_
 unfold fmL
 rw [a1,a2,a3]
inductive StK:Rw→Fm→List Int→Fm→List Int→Prop
 | push {w:Int} {f:Fm} {sd:List Int}:StK (.push w) f sd {f with st:=f.st++[.num w]} sd
 | load {b:Nat} {f:Fm} {sd:List Int} {x:Vl}:f.bx[b]?=some x→StK (.load b) f sd {f with st:=f.st++[x]} sd
 | store {b:Nat} {f:Fm} {sd:List Int} {st:List Vl} {x:Vl}:f.st=st++[x]→b < f.bx.length→StK (.store b) f sd {f with bx:=f.bx.set b x,st:=st} sd
 | dup {f:Fm} {sd:List Int} {st:List Vl} {x:Vl}:f.st=st++[x]→StK (.bare "dup") f sd {f with st:=f.st++[x]} sd
 | swap {f:Fm} {sd:List Int} {st:List Vl} {x y:Vl}:f.st=st++[x,y]→StK (.bare "swap") f sd {f with st:=st++[y,x]} sd
 | drop {f:Fm} {sd:List Int} {st:List Vl} {x:Vl}:f.st=st++[x]→StK (.bare "drop") f sd {f with st:=st} sd
 | say {f:Fm} {sd:List Int} {st:List Vl} {x:Vl}:f.st=st++[x]→x≠.none→StK (.bare "say") f sd {f with st:=st} (sd++[bareV x])
theorem StK.addr{r:Rw}{f f':Fm}{sd sd':List Int}(h:StK r f sd f' sd'):f'.fa=f.fa∧f'.bl=f.bl∧f'.sl=f.sl∧f'.at'=f.at'∧f'.part=f.part:=by
 cases h <;> exact ⟨rfl,rfl,rfl,rfl,rfl⟩
theorem last_at{α:Type}{l:List α}{x:α}:(l++[x])[(l++[x]).length - 1]?=some x:=by simp
theorem VIt.lastOf{K:Fgg}{H:Hp}{wt:Bool}{ys:List V}{st:List Vl}{x:Vl}(h:VIt K H wt ys (st++[x])):∃zs y,ys=zs++[y]∧VIt K H wt zs st∧VlA K H wt y x:=by
 have hl:=h.1
 rw [List.length_append,List.length_singleton] at hl
 obtain ⟨y,hy,hv⟩:=h.at (i:=st.length) (x:=x) (by simp)
 refine ⟨ys.take st.length,y,?_,?_,hv⟩
 ·have e:=List.take_append_drop st.length ys
  have d:ys.drop st.length=[y]:=by
   rw [List.drop_eq_getElem?_toList_append,hy,List.drop_of_length_le (by omega)]
   rfl
  rw [d] at e
  exact e.symm
 ·have:=h.take st.length
  rw [List.take_left' rfl] at this
  exact this
theorem atI_neg1{l:List V}{y:V}:atI (l++[y]) (-1)=some y:=by
 unfold atI ixN
 rw [if_neg (by omega),if_pos (by simp; omega)]
 have:((-1:Int) + (((l++[y]).length:Nat):Int)).toNat=l.length:=by simp; omega
 show ((l++[y])[((-1:Int) + (((l++[y]).length:Nat):Int)).toNat]?)=some y
 rw [this]
 simp
theorem Same_upd{H H':Hp}{a:Addr}(s:Same H H')(hn:H a=none)(o:HO):Same H (upd H' a o):=fun c p e=>by
 rw [uN (nN e hn)]
 exact s c p e
theorem FmAt.putSt{K:Fgg}{H H':Hp}{CF:Addr}{wt:Bool}{f:Fm}{ys:List V}{st:List Vl}(h:FmAt K H CF wt f)(k:KeepX [f.sl] H H')(e:H' f.sl=some (.lst ys))(hy:VIt K H' wt ys st):FmAt K H' CF wt {f with st:=st}∧KeepX (fmL f) H H':=by
 obtain ⟨n1,n2⟩:=h.fs
 have mu:MutAll H [f.sl]:=h.mut.sub (fun c hc=>by rw [msp hc]; simp [fmL])
 obtain ⟨⟨dx,e1⟩,⟨bs,e2,e3⟩,⟨zs,e4,e5⟩,ne⟩:=h
 exact ⟨⟨⟨dx,k _ _ (fun z=>n2 (msp z)) e1⟩,⟨bs,k _ _ (fun z=>ne (msp z)) e2,e3.keep k mu⟩,⟨ys,e,hy⟩,ne⟩,k.sub (fun c hc=>by rw [msp hc]; simp [fmL])⟩
theorem VIt.last2{K:Fgg}{H:Hp}{wt:Bool}{ys:List V}{st:List Vl}{x y:Vl}(h:VIt K H wt ys (st++[x,y])):∃zs a b,ys=zs++[a,b]∧VIt K H wt zs st∧VlA K H wt a x∧VlA K H wt b y:=by
 have e:st++[x,y]=(st++[x])++[y]:=by simp
 rw [e] at h
 obtain ⟨zs,b,rfl,hz,hb⟩:=h.lastOf
 obtain ⟨zs,a,rfl,hz,ha⟩:=hz.lastOf
 exact ⟨zs,a,b,by simp,hz,ha,hb⟩
theorem tk2{α:Type}{zs:List α}{a b:α}:(zs++[a,b]).drop ((zs++[a,b]).length - 2)=[a,b]∧(zs++[a,b]).take ((zs++[a,b]).length - 2)=zs:=by
 have e:(zs++[a,b]).length - 2=zs.length:=by simp
 rw [e]
 exact ⟨List.drop_left' rfl,List.take_left' rfl⟩
abbrev Sts:=List (Int×Int×Int)
def SIt(K:Fgg)(H:Hp)(ys:List V)(ss:Sts):Prop:=ys.length=ss.length∧∀(j:Nat) y x,ys[j]?=some y→ss[j]?=some x→∃t:Addr,y=.ref t∧SqT K H t [.int x.1,.int x.2.1,.int x.2.2]
theorem SIt.same{K:Fgg}{H H':Hp}{ys:List V}{ss:Sts}(e:Same H H')(h:SIt K H ys ss):SIt K H' ys ss:=⟨h.1,fun i x s h1 h2=>by
 obtain ⟨t,e1,e2⟩:=h.2 i x s h1 h2
 exact ⟨t,e1,e.tup e2⟩⟩
theorem SIt.at{K:Fgg}{H:Hp}{ys:List V}{ss:Sts}(h:SIt K H ys ss){i:Nat}{y:V}(hy:ys[i]?=some y):∃x,ss[i]?=some x∧∃t:Addr,y=.ref t∧SqT K H t [.int x.1,.int x.2.1,.int x.2.2]:=by
 have hi:i < ss.length:=by rw [← h.1]; exact (List.getElem?_eq_some_iff.mp hy).1
 exact ⟨ss[i],gee hi,h.2 i y _ hy (gee hi)⟩
def optV:Option Int→V
 | none=>.non
 | some i=>.int i
def caught(ss:Sts)(p:Int):Option Int:=(ss.find? fun x=>decide (x.1≤p)&&decide (p < x.2.1)).map (·.2.2)
theorem caught_here{ss:Sts}{p:Int}{i:Nat}{x:Int×Int×Int}(hx:ss[i]?=some x)(ha:∀j,j < i→∀y,ss[j]?=some y→¬ (y.1≤p∧p < y.2.1))(hp:x.1≤p∧p < x.2.1):caught ss p=some x.2.2:=by
 have:ss.find? (fun x=>decide (x.1≤p)&&decide (p < x.2.1))=some x:=by
  rw [List.find?_eq_some_iff_getElem]
  refine ⟨by simp [hp],i,(List.getElem?_eq_some_iff.mp hx).1,(List.getElem?_eq_some_iff.mp hx).2,fun j hj=>?_⟩
  have hjl:j < ss.length:=Nat.lt_trans hj (List.getElem?_eq_some_iff.mp hx).1
  have:=ha j hj ss[j] (gee hjl)
  simp only [Bool.not_eq_true',Bool.and_eq_false_iff,decide_eq_false_iff_not]
  by_cases z:ss[j].1≤p
  ·exact .inr fun y=>this ⟨z,y⟩
  ·exact .inl z
 unfold caught
 rw [this]
 rfl
theorem caught_none{ss:Sts}{p:Int}(ha:∀j,j < ss.length→∀y,ss[j]?=some y→¬ (y.1≤p∧p < y.2.1)):caught ss p=none:=by
 have:ss.find? (fun x=>decide (x.1≤p)&&decide (p < x.2.1))=none:=by
  rw [List.find?_eq_none]
  intro x hx
  obtain ⟨j,hj,e⟩:=List.mem_iff_getElem.mp hx
  have:=ha j hj x (by rw [gee hj,e])
  simp only [Bool.and_eq_true,decide_eq_true_eq]
  exact this
 unfold caught
 rw [this]
 rfl
def stsI(ss:List (Nat×Nat×Nat)):List (Int×Int×Int):=ss.map fun x=>((x.1:Int),(x.2.1:Int),(x.2.2:Int))
theorem SIt.ofRd{K:Fgg}{H:Hp}{ys:List V}{ss:List (Nat×Nat×Nat)}(h:RdAll K H ys (ss.map stD)):SIt K H ys (stsI ss):=by
 refine ⟨by rw [h.1,List.length_map]; unfold stsI; rw [List.length_map],fun j y x hy hx=>?_⟩
 unfold stsI at hx
 rw [List.getElem?_map] at hx
 cases e:ss[j]? with
 | none=>rw [e] at hx; cases hx
 | some s =>
  rw [e] at hx
  cases hx
  obtain ⟨t,xs,rfl,hT,hR⟩:=RdV.tupInv (h.2 j y (stD s) hy (by rw [List.getElem?_map,e]; rfl))
  have hl:=hR.1
  match xs,hl,hT,hR with
  | [x0,x1,x2],_,hT,hR =>
   have z0:=RdV.intInv (hR.2 0 x0 _ rfl rfl)
   have z1:=RdV.intInv (hR.2 1 x1 _ rfl rfl)
   have z2:=RdV.intInv (hR.2 2 x2 _ rfl rfl)
   subst z0; subst z1; subst z2
   exact ⟨t,rfl,hT⟩
theorem fm_few{p a:Int}{b s:Addr}:(fmF p a b s).length < 1000:=by show 4 < 1000; decide
theorem mc_few{b lv rc sd:Addr}{l:Int}{e:V}:(mcF b lv rc sd l e).length < 1000:=by show 6 < 1000; decide
theorem kd_inv{K:Fgg}{H:Hp}{v:V}{k:Kd}(h:RdV K H v (.tuple (kdL k))):KAt K H v k:=by
 obtain ⟨t,xs,rfl,hT,hR⟩:=RdV.tupInv h
 refine ⟨t,rfl,?_⟩
 have e:xs=kdV k:=by
  have hl:=hR.1
  have at':∀(i:Nat) (x:V) (d:PyData),xs[i]?=some x→(kdL k)[i]?=some d→RdV K H x d:=hR.2
  cases k with
  | any =>
   obtain ⟨x0,rfl⟩:=ex1 hl
   have z:=at' 0 x0 _ rfl rfl
   cases z
   rfl
  | num =>
   obtain ⟨x0,rfl⟩:=ex1 hl
   have z:=at' 0 x0 _ rfl rfl
   cases z
   rfl
  | whole c =>
   obtain ⟨x0,x1,rfl⟩:=ex2 hl
   have z:=at' 0 x0 _ rfl rfl
   have z1:=RdV.intInv (at' 1 x1 _ rfl rfl)
   cases z
   rw [z1]
   rfl
  | raw c m =>
   obtain ⟨x0,x1,x2,rfl⟩:=ex3 hl
   have z:=at' 0 x0 _ rfl rfl
   have z1:=RdV.intInv (at' 1 x1 _ rfl rfl)
   have z2:=RdV.intInv (at' 2 x2 _ rfl rfl)
   cases z
   rw [z1,z2]
   rfl
 rw [← e]
 exact hT
theorem KIt.ofRd{K:Fgg}{H:Hp}{ys:List V}{ks:List Kd}(h:RdAll K H ys (kdsD ks)):KIt K H ys ks:=by
 refine ⟨by rw [h.1,List.length_map],fun j y k hy hk=>?_⟩
 exact kd_inv (h.2 j y _ hy (by rw [List.getElem?_map,hk]; rfl))
theorem cut_from{xs:List V}{n:Nat}(h:n≤xs.length):cutV xs (some (n:Int)) none=xs.drop n:=by
 unfold cutV
 rw [HT.sIx_none,HT.sIx_nat]
 have:min n xs.length=n:=by omega
 rw [this,List.take_of_length_le (by simp)]
theorem stepS{x y:Str}{A B:Prop}(h1:x=y→A)(h2:¬ x=y→B):if decide (V.str x=V.str y)=true then A else B:=by
 by_cases e:x=y
 ·rw [if_pos (decide_eq_true (congrArg V.str e))]; exact h1 e
 ·rw [if_neg (fun z=>e (V.str.inj (of_decide_eq_true z)))]; exact h2 e
theorem stepL{x:Str}{l:List Str}{A B:Prop}(h1:x∈l→A)(h2:¬ x∈l→B):if inV (.str x) (l.map V.str)=true then A else B:=by
 rw [inV_strs]
 by_cases e:x∈l
 ·rw [if_pos (decide_eq_true e)]; exact h1 e
 ·rw [if_neg (fun z=>e (of_decide_eq_true z))]; exact h2 e
theorem rd_strs{K:Fgg}{H:Hp}{ss:List Str}{xs:List V}(h:RdAll K H xs (ss.map PyData.str)):xs=ss.map V.str:=by
 have hl:=h.1
 rw [List.length_map] at hl
 apply List.ext_getElem?
 intro i
 by_cases hi:i < xs.length
 ·have z:=h.2 i xs[i] (.str (ss[i]'(by omega))) (gee hi) (by rw [List.getElem?_map,gee (by omega)]; rfl)
  have e:xs[i]=.str (ss[i]'(by omega)):=by
   generalize xs[i]=y at z ⊢
   cases z
   rfl
  rw [gee hi,e,List.getElem?_map,gee (by omega)]
  rfl
 ·rw [List.getElem?_eq_none (by omega),List.getElem?_eq_none (by simp; omega)]
theorem const_tup{K:Fgg}{d:Addr}{l:List Str}(c:∀H:Hp,RdV K H (.ref d) (.tuple (l.map PyData.str)))(H:Hp):SqT K H d (l.map V.str):=by
 obtain ⟨a,xs,e,h1,h2⟩:=RdV.tupInv (c H)
 cases e
 have z:=rd_strs (ss:=l) h2
 rw [← z]
 exact h1
def goL:List Str:=["jump","zero","kin"]
def recL:List Str:=["make","fill","begin","get","put"]
def rekL:List Str:=["add","sub","mul","div","rem","less","same"]
def isRek(s:Str):Prop:=s="add"∨s="sub"∨s="mul"∨s="less"∨s="same"∨parts s
inductive RowDo(m:Mc)(fs:List Fm)(f:Fm):Rw→Mc→Prop
 | str {r:Rw} {f':Fm} {sd:List Int}:StK r f m.said f' sd→RowDo m fs f r {m with frs:=fs++[{f' with at':=f.at' + 1}],said:=sd}
 | rek {s:Str} {st:List Vl} {a b:Int}:f.st=st++[.num a,.num b]→isRek s→inW a→inW b→(parts s→b≠0)→RowDo m fs f (.bare s) {m with frs:=fs++[{f with st:=st++[.num (rk s a b)],at':=f.at' + 1}]}
 | give {st:List Vl} {x:Vl}:fs=[]→f.st=st++[x]→x≠.none→RowDo m fs f (.bare "give") {m with frs:=[],fin:=[.inl "gave",.inr (bareV x)]}
 | toss {st:List Vl} {x:Vl}:f.st=st++[x]→x≠.none→(∀g∈fs++[f],∃p,m.ps[g.part]?=some p∧caught (stsI p.spans) (g.at':Int)=none)→RowDo m fs f (.bare "toss") {m with frs:=[],fin:=[.inl "fault",.inr (bareV x)]}
def strL:List Str:=["push","load","store","dup","swap","drop","say"]
theorem StK.sign{r:Rw}{f f':Fm}{sd sd':List Int}(h:StK r f sd f' sd'):rwS r∈strL:=by
 cases h with
 | push=>exact (by decide +kernel:("push" : Str)∈strL)
 | load _=>exact (by decide +kernel:("load" : Str)∈strL)
 | store _ _=>exact (by decide +kernel:("store" : Str)∈strL)
 | dup _=>exact (by decide +kernel:("dup" : Str)∈strL)
 | swap _=>exact (by decide +kernel:("swap" : Str)∈strL)
 | drop _=>exact (by decide +kernel:("drop" : Str)∈strL)
 | say _ _=>exact (by decide +kernel:("say" : Str)∈strL)
theorem isRek.mem{s:Str}(h:isRek s):s∈rekL:=by
 rcases h with rfl | rfl | rfl | rfl | rfl | rfl | rfl <;> decide +kernel
theorem rw_inv{K:Fgg}{H:Hp}{v:V}{r:Rw}(h:RdV K H v (rwD r)):∃t,v=.ref t∧SqT K H t (rwV r):=by
 obtain ⟨rt,rx,rfl,hRT,hRR⟩:=RdV.tupInv h
 have hrx:rx=rwV r:=by
  match rx,hRR with
  | [],hRR=>have:=hRR.1; simp at this
  | y::ys,hRR =>
   have z:=hRR.2 0 y _ rfl rfl
   cases z
   have el:ys=(rwN r).map V.int:=by
    have hl:=hRR.1
    simp at hl
    apply List.ext_getElem?
    intro n
    by_cases hn:n < ys.length
    ·have zz:=hRR.2 (n + 1) ys[n] (.int ((rwN r)[n]'(by omega))) (by rw [List.getElem?_cons_succ]; exact gee hn) (by rw [List.getElem?_cons_succ,List.getElem?_map,gee (by omega)]; rfl)
     rw [gee hn,RdV.intInv zz,List.getElem?_map,gee (by omega)]
     rfl
    ·rw [List.getElem?_eq_none (by omega),List.getElem?_eq_none (by simp; omega)]
   rw [el]
   rfl
 subst hrx
 exact ⟨rt,rfl,hRT⟩
structure LS where
 st:List (Option Int)
 bx:List (Option Int)
 sd:List Int
inductive LStep(h:Nat):Rw→LS→LS→Prop
 | push {w:Int} {s:LS}:s.st.length < h→inW w→LStep h (.push w) s {s with st:=s.st++[some w]}
 | load {b:Nat} {s:LS} {x:Option Int}:s.st.length < h→s.bx[b]?=some x→LStep h (.load b) s {s with st:=s.st++[x]}
 | store {b:Nat} {s:LS} {st:List (Option Int)} {x:Option Int}:s.st=st++[x]→b < s.bx.length→LStep h (.store b) s {s with bx:=s.bx.set b x,st:=st}
 | dup {s:LS} {st:List (Option Int)} {x:Option Int}:s.st=st++[x]→s.st.length < h→LStep h (.bare "dup") s {s with st:=s.st++[x]}
 | swap {s:LS} {st:List (Option Int)} {x y:Option Int}:s.st=st++[x,y]→LStep h (.bare "swap") s {s with st:=st++[y,x]}
 | drop {s:LS} {st:List (Option Int)} {x:Option Int}:s.st=st++[x]→LStep h (.bare "drop") s {s with st:=st}
 | say {s:LS} {st:List (Option Int)} {n:Int}:s.st=st++[some n]→LStep h (.bare "say") s {s with st:=st,sd:=s.sd++[n]}
 | rek {s:LS} {sg:Str} {st:List (Option Int)} {a b:Int}:s.st=st++[some a,some b]→isRek sg→(parts sg→b≠0)→LStep h (.bare sg) s {s with st:=st++[some (rk sg a b)]}
inductive FitS(l:List (Option Int))(h:Nat):Str→Prop
 | push:l.length < h→FitS l h "push"
 | load:l.length < h→FitS l h "load"
 | store:0 < l.length→FitS l h "store"
 | drop:0 < l.length→FitS l h "drop"
 | dup:0 < l.length→l.length < h→FitS l h "dup"
 | say {lo:List (Option Int)} {n:Int}:l=lo++[some n]→FitS l h "say"
 | swap {lo:List (Option Int)} {x y:Option Int}:l=lo++[x,y]→FitS l h "swap"
 | rek {s:Str} {lo:List (Option Int)} {a b:Int}:l=lo++[some a,some b]→isRek s→(parts s→b≠0)→FitS l h s
theorem last1{α:Type}{l:List α}(h:0 < l.length):∃lo x,l=lo++[x]:=by
 rcases List.eq_nil_or_concat l with rfl | ⟨lo,x,rfl⟩
 ·simp at h
 ·exact ⟨lo,x,by simp⟩
theorem last2{α:Type}{l:List α}(h:1 < l.length):∃lo x y,l=lo++[x,y]:=by
 obtain ⟨lo,y,rfl⟩:=last1 (Nat.lt_trans Nat.zero_lt_one h)
 obtain ⟨lo,x,rfl⟩:=last1 (l:=lo) (by simp at h; omega)
 exact ⟨lo,x,y,by simp⟩
theorem atI_neg2{l:List V}{x y:V}:atI (l++[x,y]) (-2)=some x:=by
 unfold atI ixN
 rw [if_neg (by omega),if_pos (by simp; omega)]
 have:((-2:Int) + (((l++[x,y]).length:Nat):Int)).toNat=l.length:=by simp; omega
 show ((l++[x,y])[((-2:Int) + (((l++[x,y]).length:Nat):Int)).toNat]?)=some x
 rw [this]
 simp
theorem atI_neg1'{l:List V}{x y:V}:atI (l++[x,y]) (-1)=some y:=by
 have:l++[x,y]=(l++[x])++[y]:=by simp
 rw [this]
 exact atI_neg1
structure Sm(H H':Hp)(l:List (Option Int))(h n:Nat)(r:Addr)(ss:List Str):Prop where
 s:Same H H'
 fr:H r=none
 g:H' r=some (.lst (ss.map V.str))
 few:ss.length≤n
 ok:∀x∈ss,FitS l h x
 ne:l.length < h→ss≠[]
theorem Sm.cat{H H':Hp}{l:List (Option Int)}{h n:Nat}{r r1 r2:Addr}{ss:List Str}(ts:List Str){us:List V}(m:Sm H H' l h n r ss)(h1:H' r1=none)(h2:upd H' r1 (.lst us) r2=none)(ht:∀x∈ts,FitS l h x)(hu:us=ts.map V.str):Sm H (upd (upd H' r1 (.lst us)) r2 (.lst (ss.map V.str++us))) l h (n + ts.length) r2 (ss++ts):=by
 have s1:=sN h1 (.lst us)
 have s2:=sN h2 (.lst (ss.map V.str++us))
 refine ⟨m.s.trans (s1.trans s2),(m.s.trans s1).free h2,by rw [uS,List.map_append,hu],by rw [List.length_append]; have:=m.few; omega,fun x hx=>?_,fun z=>?_⟩
 ·rcases List.mem_append.mp hx with z | z
  ·exact m.ok x z
  ·exact ht x z
 ·intro e
  exact m.ne z (List.append_eq_nil_iff.mp e).1
theorem Sm.app{H H':Hp}{l:List (Option Int)}{h n:Nat}{r:Addr}{ss:List Str}{t:Str}(m:Sm H H' l h n r ss)(ht:FitS l h t):Sm H (upd H' r (.lst (ss.map V.str++[.str t]))) l h (n + 1) r (ss++[t]):=by
 refine ⟨Same_upd m.s m.fr _,m.fr,by rw [uS,List.map_append]; rfl,by rw [List.length_append]; have:=m.few; simp; omega,fun x hx=>?_,fun z e=>?_⟩
 ·rcases List.mem_append.mp hx with z | z
  ·exact m.ok x z
  ·rw [msp z]; exact ht
 ·exact m.ne z (List.append_eq_nil_iff.mp e).1
def ovl:Option Int→Vl
 | none=>.none
 | some n=>.num n
def vlW(wt:Bool)(x:Vl):PyData:=if wt=true then vlD x else .int (bareV x)
theorem VlA.rd{K:Fgg}{H:Hp}{wt:Bool}{v:V}{x:Vl}(h:VlA K H wt v x):RdV K H v (vlW wt x):=by
 cases wt with
 | true=>exact h
 | false =>
  have h:v=.int (bareV x):=h
  subst h
  exact .int _
theorem VIt.rd{K:Fgg}{H:Hp}{wt:Bool}{ys:List V}{xs:List Vl}(h:VIt K H wt ys xs):RdAll K H ys (xs.map (vlW wt)):=by
 refine RdAll.of h.1 fun j x hx=>?_
 obtain ⟨y,hy,hv⟩:=h.at hx
 exact ⟨y,hy,hv.rd⟩
def NoT(v:V):Prop:=v=.non∨∃n:Int,v=.int n
def PIt{α:Type}(P:V→α→Prop)(ys:List V)(xs:List α):Prop:=ys.length=xs.length∧∀(j:Nat) y x,ys[j]?=some y→xs[j]?=some x→P y x
theorem PIt.nil{α:Type}{P:V→α→Prop}:PIt P [] []:=⟨rfl,fun j y x h=>by simp at h⟩
theorem PIt.snoc{α:Type}{P:V→α→Prop}{ys:List V}{xs:List α}{y:V}{x:α}(h:PIt P ys xs)(hy:P y x):PIt P (ys++[y]) (xs++[x]):=by
 refine ⟨by simp [h.1],fun j z u hz hu=>?_⟩
 by_cases hj:j < ys.length
 ·rw [List.getElem?_append_left hj] at hz
  rw [List.getElem?_append_left (by rw [← h.1]; exact hj)] at hu
  exact h.2 j z u hz hu
 ·have hl:j=ys.length:=by
   have:=(List.getElem?_eq_some_iff.mp hz).1
   simp at this
   omega
  subst hl
  rw [List.getElem?_append_right (Nat.le_refl _),Nat.sub_self] at hz
  rw [h.1,List.getElem?_append_right (Nat.le_refl _),Nat.sub_self] at hu
  cases hz
  cases hu
  exact hy
theorem PIt.lastOf{α:Type}{P:V→α→Prop}{ys:List V}{xs:List α}{x:α}(h:PIt P ys (xs++[x])):∃zs y,ys=zs++[y]∧P y x:=by
 have hl:=h.1
 rw [List.length_append,List.length_singleton] at hl
 obtain ⟨zs,y,rfl⟩:=last1 (l:=ys) (by omega)
 refine ⟨zs,y,rfl,h.2 zs.length y x (by simp) ?_⟩
 have:zs.length=xs.length:=by simp at hl; omega
 rw [this]
 simp
structure LInv(h nb i:Nat)(s:LS):Prop where
 st:s.st.length≤h
 bx:s.bx.length=nb
 ws:∀n,some n∈s.st→inW n
 wb:∀n,some n∈s.bx→inW n
 sd:s.sd.length≤i
theorem rk_in'{s:Str}{a b:Int}(hs:isRek s)(ha:inW a)(hb:inW b)(hz:parts s→b≠0):inW (rk s a b):=by
 unfold inW at *
 have w:=fun n=>wrap_in n
 rcases hs with rfl | rfl | rfl | rfl | rfl | rfl | rfl
 ·rw [rk_add]; have:=w (a + b); omega
 ·rw [rk_sub]; have:=w (a - b); omega
 ·rw [rk_mul]; have:=w (a * b); omega
 ·rw [rk_less]; split <;> omega
 ·rw [rk_same]; split <;> omega
 ·rw [rk_div]; have:=w (a.fdiv b); omega
 ·rw [rk_rem]
  have z:=hz (.inr rfl)
  rcases (by omega:0 < b∨b < 0) with p | p
  ·have m0:=Int.fmod_nonneg_of_pos a p
   have m1:=Int.fmod_lt_of_pos a p
   omega
  ·have e:=Int.neg_fmod_neg (a:=a) (b:=b)
   have m0:=Int.fmod_nonneg_of_pos (-a) (show 0 < -b by omega)
   have m1:=Int.fmod_lt_of_pos (-a) (show 0 < -b by omega)
   omega
theorem LInv.step{h nb i:Nat}{r:Rw}{s s':LS}(v:LInv h nb i s)(k:LStep h r s s'):LInv h nb (i + 1) s':=by
 obtain ⟨v1,v2,v3,v4,v5⟩:=v
 have v6:s.sd.length≤i + 1:=by omega
 cases k with
 | push hh hw=>exact ⟨by simp; omega,v2,fun n hn=>by rcases List.mem_append.mp hn with z | z; exact v3 n z; simp at z; subst z; exact hw,v4,v6⟩
 | load hh hx =>
  refine ⟨by simp; omega,v2,fun n hn=>?_,v4,v6⟩
  rcases List.mem_append.mp hn with z | z
  ·exact v3 n z
  ·rw [List.mem_singleton] at z
   subst z
   exact v4 n (List.mem_of_getElem? hx)
 | store hst hb =>
  rename_i b st x
  rw [hst] at v1 v3
  refine ⟨by simp at v1 ⊢; omega,by simpa using v2,fun n hn=>v3 n (by simp [hn]),fun n hn=>?_,v6⟩
  rcases List.mem_or_eq_of_mem_set hn with z | z
  ·exact v4 n z
  ·exact v3 n (by rw [z]; simp)
 | dup hst hh =>
  rename_i st x
  refine ⟨by simp; omega,v2,fun n hn=>?_,v4,v6⟩
  rcases List.mem_append.mp hn with z | z
  ·exact v3 n z
  ·rw [List.mem_singleton] at z
   exact v3 n (by rw [hst,z]; simp)
 | swap hst =>
  rename_i st x y
  rw [hst] at v1 v3
  exact ⟨by simpa using v1,v2,fun n hn=>v3 n (by simp at hn ⊢; rcases hn with z | z | z <;> simp [z]),v4,v6⟩
 | drop hst =>
  rw [hst] at v1 v3
  exact ⟨by simp at v1 ⊢; omega,v2,fun n hn=>v3 n (by simp [hn]),v4,v6⟩
 | say hst =>
  rw [hst] at v1 v3
  exact ⟨by simp at v1 ⊢; omega,v2,fun n hn=>v3 n (by simp [hn]),v4,by simp; omega⟩
 | rek hst hr hz =>
  rename_i sg st a b
  rw [hst] at v1 v3
  refine ⟨by simp at v1 ⊢; omega,v2,fun n hn=>?_,v4,v6⟩
  rcases List.mem_append.mp hn with z | z
  ·exact v3 n (by simp [z])
  ·simp at z
   subst z
   exact rk_in' hr (v3 a (by simp)) (v3 b (by simp)) hz
structure Gr(h nb:Nat)(s0:LS)(rs:List Rw)(sts:List LS):Prop where
 len:sts.length=rs.length + 1
 fst:sts[0]?=some s0
 stp:∀(i:Nat) r s s',rs[i]?=some r→sts[i]?=some s→sts[i + 1]?=some s'→LStep h r s s'
 inv:∀(i:Nat) s,sts[i]?=some s→LInv h nb i s
theorem Gr.last{h nb:Nat}{s0:LS}{rs:List Rw}{sts:List LS}(g:Gr h nb s0 rs sts):∃pre s,sts=pre++[s]∧pre.length=rs.length∧LInv h nb rs.length s:=by
 have hl:=g.len
 obtain ⟨pre,s,rfl⟩:=last1 (l:=sts) (by omega)
 have e:pre.length=rs.length:=by simp at hl; omega
 exact ⟨pre,s,rfl,e,g.inv _ s (by rw [← e]; simp)⟩
theorem Gr.snoc{h nb:Nat}{s0 s s':LS}{rs:List Rw}{pre:List LS}{r:Rw}(g:Gr h nb s0 rs (pre++[s]))(k:LStep h r s s'):Gr h nb s0 (rs++[r]) (pre++[s]++[s']):=by
 have hl:=g.len
 have e:pre.length=rs.length:=by simp at hl; omega
 have hs:(pre++[s])[rs.length]?=some s:=by rw [← e]; simp
 have hi:=g.inv _ s hs
 refine ⟨by simp; omega,?_,fun i r' x y hr hx hy=>?_,fun i x hx=>?_⟩
 ·rw [List.getElem?_append_left (by simp)]
  exact g.fst
 ·by_cases hj:i < rs.length
  ·rw [List.getElem?_append_left hj] at hr
   rw [List.getElem?_append_left (by simp; omega)] at hx hy
   exact g.stp i r' x y hr hx hy
  ·have ei:i=rs.length:=by
    have:=(List.getElem?_eq_some_iff.mp hr).1
    simp at this
    omega
   subst ei
   rw [List.getElem?_append_right (Nat.le_refl _),Nat.sub_self] at hr
   rw [List.getElem?_append_left (by simp; omega),hs] at hx
   rw [List.getElem?_append_right (by simp; omega),show rs.length + 1 - (pre++[s]).length=0 by simp; omega] at hy
   cases hr
   cases hx
   cases hy
   exact k
 ·by_cases hj:i < (pre++[s]).length
  ·rw [List.getElem?_append_left hj] at hx
   exact g.inv i x hx
  ·have ei:i=(pre++[s]).length:=by
    have:=(List.getElem?_eq_some_iff.mp hx).1
    simp at this ⊢
    simp at hj
    omega
   subst ei
   rw [List.getElem?_append_right (Nat.le_refl _),Nat.sub_self] at hx
   cases hx
   have:=hi.step k
   rw [show (pre++[s]).length=rs.length + 1 by simp; omega]
   exact this
def LsX(K:Fgg)(F:List Addr)(H:Hp)(v:V)(s:LS):Prop:=∃t a b d:Addr,v=.ref t∧∀HX,KeepX F H HX→SqT K HX t [.ref a,.ref b,.ref d]∧SqL K HX a (s.st.map optV)∧SqL K HX b (s.bx.map optV)∧SqL K HX d (s.sd.map V.int)
theorem LsX.to{K:Fgg}{F:List Addr}{H H':Hp}{v:V}{s:LS}(h:LsX K F H v s)(k:KeepX F H H'):LsX K F H' v s:=by
 obtain ⟨t,a,b,d,e,hX⟩:=h
 exact ⟨t,a,b,d,e,fun HX kX=>hX HX (k.trans kX)⟩
theorem PIt.imp{α:Type}{P P':V→α→Prop}{ys:List V}{xs:List α}(h:PIt P ys xs)(f:∀y x,P y x→P' y x):PIt P' ys xs:=⟨h.1,fun j y x h1 h2=>f y x (h.2 j y x h1 h2)⟩
def RwX(K:Fgg)(H:Hp)(v:V)(r:Rw):Prop:=∃t:Addr,v=.ref t∧SqT K H t (rwV r)
structure Lg(K:Fgg)(g:Addr)(H H':Hp)(ra sa:Addr)(rs:List Rw)(sts:List LS)(zs ys:List V):Prop where
 s:Same H H'
 nr:H ra=none
 ns:H sa=none
 ne:ra≠sa
 gr:H' ra=some (.lst zs)
 gs:H' sa=some (.lst ys)
 ir:PIt (RwX K H') zs rs
 is:PIt (LsX K [ra,sa,g] H') ys sts
 gg:∃o,H g=some o
theorem Lg.mu{K:Fgg}{g:Addr}{H H':Hp}{ra sa:Addr}{rs:List Rw}{sts:List LS}{zs ys:List V}(m:Lg K g H H' ra sa rs sts zs ys):MutAll H' [ra,sa]:=fun c hc=>by
 simp only [List.mem_cons,List.not_mem_nil,or_false] at hc
 rcases hc with rfl | rfl
 ·exact ⟨_,m.gr,.inl ⟨_,rfl⟩⟩
 ·exact ⟨_,m.gs,.inl ⟨_,rfl⟩⟩
theorem two_in{ra sa g:Addr}:∀c∈[ra,sa],c∈[ra,sa,g]:=fun c hc=>by
 simp only [List.mem_cons,List.not_mem_nil,or_false] at hc ⊢
 rcases hc with rfl | rfl
 ·exact .inl rfl
 ·exact .inr (.inl rfl)
theorem Lg.same{K:Fgg}{g:Addr}{H H' H2:Hp}{ra sa:Addr}{rs:List Rw}{sts:List LS}{zs ys:List V}(m:Lg K g H H' ra sa rs sts zs ys)(e:Same H' H2):Lg K g H H2 ra sa rs sts zs ys :=
 ⟨m.s.trans e,m.nr,m.ns,m.ne,e _ _ m.gr,e _ _ m.gs,m.ir.imp fun y x ⟨t,h1,h2⟩=>⟨t,h1,e.tup h2⟩,m.is.imp fun y x h=>h.to (keep_of e),m.gg⟩
theorem Lg.row{K:Fgg}{g:Addr}{H H':Hp}{ra sa t:Addr}{rs:List Rw}{sts:List LS}{zs ys:List V}{r:Rw}(m:Lg K g H H' ra sa rs sts zs ys)(ht:SqT K H' t (rwV r)):Lg K g H (upd H' ra (.lst (zs++[.ref t]))) ra sa (rs++[r]) sts (zs++[.ref t]) ys:=by
 have k:KeepX [ra,sa] H' (upd H' ra (.lst (zs++[.ref t]))):=fun c o n e=>by rw [uN (fun z=>n (by simp [z]))]; exact e
 exact ⟨Same_upd m.s m.nr _,m.nr,m.ns,m.ne,uS,(uN m.ne.symm).trans m.gs,(m.ir.imp fun y x ⟨t,h1,h2⟩=>⟨t,h1,SqT.keep k m.mu h2⟩).snoc ⟨t,rfl,SqT.keep k m.mu ht⟩,m.is.imp fun y x h=>h.to (k.sub two_in),m.gg⟩
theorem Lg.sta{K:Fgg}{g:Addr}{H H':Hp}{ra sa:Addr}{rs:List Rw}{sts:List LS}{zs ys:List V}{v:V}{s:LS}(m:Lg K g H H' ra sa rs sts zs ys)(hv:LsX K [ra,sa,g] H' v s):Lg K g H (upd H' sa (.lst (ys++[v]))) ra sa rs (sts++[s]) zs (ys++[v]):=by
 have k:KeepX [ra,sa] H' (upd H' sa (.lst (ys++[v]))):=fun c o n e=>by rw [uN (fun z=>n (by simp [z]))]; exact e
 exact ⟨Same_upd m.s m.ns _,m.nr,m.ns,m.ne,(uN m.ne).trans m.gr,uS,m.ir.imp fun y x ⟨t,h1,h2⟩=>⟨t,h1,SqT.keep k m.mu h2⟩,(m.is.imp fun y x h=>h.to (k.sub two_in)).snoc (hv.to (k.sub two_in)),m.gg⟩
theorem Lg.apart{K:Fgg}{g:Addr}{H H':Hp}{ra sa c:Addr}{rs:List Rw}{sts:List LS}{zs ys:List V}(m:Lg K g H H' ra sa rs sts zs ys)(h:H' c=none):c∉[ra,sa,g]:=fun z=>by
 obtain ⟨o,hg⟩:=m.gg
 have h1:=m.gr
 have h2:=m.gs
 have h3:=m.s _ _ hg
 simp only [List.mem_cons,List.not_mem_nil,or_false] at z
 rcases z with rfl | rfl | rfl
 ·rw [h] at h1; cases h1
 ·rw [h] at h2; cases h2
 ·rw [h] at h3; cases h3
theorem cut_few{l:List V}:(cutV l (some 9) (some 49)).length≤40:=by
 unfold cutV
 rw [show (some (9:Int))=some ((9:Nat):Int) from rfl,show (some (49:Int))=some ((49:Nat):Int) from rfl,HT.sIx_nat,HT.sIx_nat,List.length_take]
 omega
theorem cut_one{l:List V}{x:V}:cutV (l++[x]) none (some (-1))=l:=by
 unfold cutV
 rw [HT.sIx_none]
 have e:HT.sIx (l++[x]).length (l++[x]).length (some (-1))=l.length:=by
  show (if (-1:Int) < 0 then ((-1:Int) + ((l++[x]).length:Int)).toNat else min (-1:Int).toNat (l++[x]).length)=_
  rw [if_pos (by decide)]
  simp
  omega
 rw [e]
 simp
theorem Lg.move{K:Fgg}{g:Addr}{H H1 H2:Hp}{ra rb sa t1 t2:Addr}{rs:List Rw}{sts:List LS}{zs ys:List V}{r1 r2:Rw}(m:Lg K g H H1 ra sa rs sts zs ys)(s:Same H1 H2)(n:H2 rb=none)(h1:SqT K H2 t1 (rwV r1))(h2:SqT K H2 t2 (rwV r2)):Lg K g H (upd H2 rb (.lst (zs++[.ref t1,.ref t2]))) rb sa (rs++[r1,r2]) sts (zs++[.ref t1,.ref t2]) ys:=by
 have m2:=m.same s
 have sn:=sN n (.lst (zs++[.ref t1,.ref t2]))
 refine ⟨m2.s.trans sn,m2.s.free n,m.ns,(nN m2.gs n).symm,uS,sn _ _ m2.gs,?_,m2.is.imp fun y x h=>?_,m.gg⟩
 ·have z:=(((m2.ir.imp fun y x ⟨t,e1,e2⟩=>(⟨t,e1,sn.tup e2⟩:RwX K _ y x)).snoc (⟨t1,rfl,sn.tup h1⟩:RwX K _ (.ref t1) r1)).snoc (⟨t2,rfl,sn.tup h2⟩:RwX K _ (.ref t2) r2))
  rw [List.append_assoc,List.append_assoc] at z
  exact z
 ·obtain ⟨t,a,b,d,e,hX⟩:=h
  refine ⟨t,a,b,d,e,fun HX kX=>hX HX fun c o hc e=>kX c o (fun z=>?_) (sn c o e)⟩
  simp only [List.mem_cons,List.not_mem_nil,or_false] at z hc
  rcases z with rfl | rfl | rfl
  ·rw [n] at e; cases e
  ·exact hc (.inr (.inl rfl))
  ·exact hc (.inr (.inr rfl))
theorem cut8(ns:List Int):cutV (ns.map V.int) none (some 8)=(ns.take 8).map V.int:=by
 unfold cutV
 rw [HT.sIx_none,show (some (8:Int))=some ((8:Nat):Int) from rfl,HT.sIx_nat,List.drop_zero,List.length_map,Nat.sub_zero,← List.map_take]
 exact congrArg (List.map V.int) (List.take_eq_take_iff.mpr (by omega))
def sp_law_cell(K:Fgg):Sp:=fun vs H Q _=>∃(a:Addr) (ns:List Int) (k:Int),vs=[.ref a,.int k]∧SqL K H a (ns.map V.int)∧0≤k∧k≤1000∧∀(v:Int) (H':Hp),Same H H'→Q (.int v) H'
def sp_law_wrapped(_K:Fgg):Sp:=fun vs H Q _=>∃n:Int,vs=[.int n]∧Q (.int (wrapI n)) H
def sp_law_reckoned(_K:Fgg):Sp:=fun vs H Q _=>∃(sign:Str) (a b:Int),vs=[.str sign,.int a,.int b]∧isRek sign∧inW a∧inW b∧(parts sign→b≠0)∧Q (.int (rk sign a b)) H
theorem rek_no{sg s:Str}(r:isRek sg)(h:s∈strL):¬ V.str sg=V.str s:=fun z=>by
 have e:=V.str.inj z
 subst e
 rcases r with rfl | rfl | rfl | rfl | rfl | rfl | rfl <;> exact absurd h (by decide +kernel)
theorem cut_two{l:List V}{x y:V}:cutV (l++[x,y]) none (some (-2))=l:=by
 unfold cutV
 rw [HT.sIx_none]
 have e:HT.sIx (l++[x,y]).length (l++[x,y]).length (some (-2))=l.length:=by
  show (if (-2:Int) < 0 then ((-2:Int) + ((l++[x,y]).length:Int)).toNat else min (-2:Int).toNat (l++[x,y]).length)=_
  rw [if_pos (by decide)]
  simp
  omega
 rw [e]
 simp
structure Th(H H':Hp)(a b d:Addr)(s:LS):Prop where
 s':Same H H'
 na:H a=none
 nb:H b=none
 nd:H d=none
 ab:a≠b
 ad:a≠d
 bd:b≠d
 ga:H' a=some (.lst (s.st.map optV))
 gb:H' b=some (.lst (s.bx.map optV))
 gd:H' d=some (.lst (s.sd.map V.int))
theorem Th.st{H H':Hp}{a b d:Addr}{s:LS}(t:Th H H' a b d s){xs:List V}{l:List (Option Int)}(e:xs=l.map optV):Th H (upd H' a (.lst xs)) a b d {s with st:=l} :=
 ⟨Same_upd t.s' t.na _,t.na,t.nb,t.nd,t.ab,t.ad,t.bd,by rw [uS,e],(uN t.ab.symm).trans t.gb,(uN t.ad.symm).trans t.gd⟩
theorem Th.bx{H H':Hp}{a b d:Addr}{s:LS}(t:Th H H' a b d s){xs:List V}{l:List (Option Int)}(e:xs=l.map optV):Th H (upd H' b (.lst xs)) a b d {s with bx:=l} :=
 ⟨Same_upd t.s' t.nb _,t.na,t.nb,t.nd,t.ab,t.ad,t.bd,(uN t.ab).trans t.ga,by rw [uS,e],(uN t.bd.symm).trans t.gd⟩
theorem Th.sd{H H':Hp}{a b d:Addr}{s:LS}(t:Th H H' a b d s){xs:List V}{l:List Int}(e:xs=l.map V.int):Th H (upd H' d (.lst xs)) a b d {s with sd:=l} :=
 ⟨Same_upd t.s' t.nd _,t.na,t.nb,t.nd,t.ab,t.ad,t.bd,(uN t.ad).trans t.ga,(uN t.bd).trans t.gb,by rw [uS,e]⟩
theorem map_set{α β:Type}{f:α→β}{l:List α}{i:Nat}{x:α}:(l.map f).set i (f x)=(l.set i x).map f:=by rw [List.map_set]
def sp_law_done(K:Fgg):Sp:=fun vs H Q _=>∃(sa ba da rt:Addr) (s s':LS) (r:Rw) (h:Nat),vs=[.ref sa,.ref ba,.ref da,.ref rt]∧SqL K H sa (s.st.map optV)∧SqL K H ba (s.bx.map optV)∧SqL K H da (s.sd.map V.int)∧SqT K H rt (rwV r)∧LStep h r s s'∧(∀n,some n∈s.st→inW n)∧s.st.length≤100∧s.sd.length≤100 ∧
 ∀(t sa' ba' da':Addr) (H':Hp),Same H H'→H' t=some (.tup [.ref sa',.ref ba',.ref da'])→H sa'=none→H ba'=none→H da'=none→H t=none→H' sa'=some (.lst (s'.st.map optV))→H' ba'=some (.lst (s'.bx.map optV))→H' da'=some (.lst (s'.sd.map V.int))→Q (.ref t) H'
def sp_law_fit(K:Fgg):Sp:=fun vs H Q _=>∃(a:Addr) (l:List (Option Int)) (h:Nat),vs=[.ref a,.int (h:Int)]∧SqL K H a (l.map optV)∧1≤h ∧
 ∀(r:Addr) (ss:List Str) (H':Hp),Same H H'→H' r=some (.lst (ss.map V.str))→ss≠[]→ss.length≤100→(∀x∈ss,FitS l h x)→Q (.ref r) H'
def sp_law_word(_K:Fgg):Sp:=fun vs H Q _=>∃c:Int,vs=[.int c]∧∀(n:Int) (H':Hp),Same H H'→inW n→Q (.int n) H'
def lsL:List Str:=["load","store"]
theorem fit_bare{s:LS}{h:Nat}{sg:Str}(f:FitS s.st h sg)(n1:¬ sg="push")(n2:¬ sg∈lsL):∃s',LStep h (.bare sg) s s':=by
 cases f with
 | push _=>exact absurd rfl n1
 | load _=>exact absurd (by decide +kernel) n2
 | store _=>exact absurd (by decide +kernel) n2
 | drop h0 =>
  obtain ⟨lo,x,e⟩:=last1 h0
  exact ⟨_,.drop e⟩
 | dup h0 h1 =>
  obtain ⟨lo,x,e⟩:=last1 h0
  exact ⟨_,.dup e h1⟩
 | say e=>exact ⟨_,.say e⟩
 | swap e=>exact ⟨_,.swap e⟩
 | rek e r p=>exact ⟨_,.rek e r p⟩
theorem no_ls{s:Str}(r:isRek s):¬ s∈lsL:=by
 rcases r with rfl | rfl | rfl | rfl | rfl | rfl | rfl <;> decide +kernel
theorem no_pu{s:Str}(r:isRek s):¬ s="push":=by
 rcases r with rfl | rfl | rfl | rfl | rfl | rfl | rfl <;> decide +kernel
theorem fit_pu{l:List (Option Int)}{h:Nat}(f:FitS l h "push"):l.length < h:=by
 generalize e:("push" : Str)=sg at f
 cases f with
 | push z=>exact z
 | load z=>exact z
 | store _=>exact absurd e (by decide +kernel)
 | drop _=>exact absurd e (by decide +kernel)
 | dup _ z=>exact z
 | say _=>exact absurd e (by decide +kernel)
 | swap _=>exact absurd e (by decide +kernel)
 | rek _ r _=>exact absurd e.symm (no_pu r)
theorem fit_ls{l:List (Option Int)}{h:Nat}{sg:Str}(f:FitS l h sg)(n2:sg∈lsL):(sg="load"∧l.length < h)∨(sg="store"∧0 < l.length):=by
 cases f with
 | push _=>exact absurd n2 (by decide +kernel)
 | load z=>exact .inl ⟨rfl,z⟩
 | store z=>exact .inr ⟨rfl,z⟩
 | drop h0=>exact absurd n2 (by decide +kernel)
 | dup h0 h1=>exact absurd n2 (by decide +kernel)
 | say e=>exact absurd n2 (by decide +kernel)
 | swap e=>exact absurd n2 (by decide +kernel)
 | rek e r p=>exact absurd n2 (no_ls r)
def sp_law_row(K:Fgg):Sp:=fun vs H Q _=>∃(sa ba:Addr) (s:LS) (h:Nat) (c o:Int),vs=[.ref sa,.ref ba,.int (h:Int),.int c,.int o]∧SqL K H sa (s.st.map optV)∧SqL K H ba (s.bx.map optV)∧1≤h∧s.st.length≤h ∧
 ∀(t:Addr) (r:Rw) (s':LS) (H':Hp),Same H H'→SqT K H' t (rwV r)→LStep h r s s'→Q (.ref t) H'
def sp_law_grown(K:Fgg):Sp:=fun vs H Q _=>∃(a ba g:Addr) (og:HO) (ns:List Int) (bx:List (Option Int)) (h:Nat),vs=[.ref a,.ref ba,.int (h:Int)]∧SqL K H a (ns.map V.int)∧H ba=some (.lst (bx.map optV))∧(∀n,some n∈bx→inW n)∧H g=some og∧ba≠g∧1≤h∧h≤8 ∧
 ∀(t ra sa:Addr) (rs:List Rw) (sts:List LS) (zs ys:List V) (e:Str) (lo:List LS) (s:LS) (l:List (Option Int)) (H':Hp),Lg K g H H' ra sa (rs++[.bare e]) sts zs ys→SqT K H' t [.ref ra,.ref sa]→(e="give"∨e="toss")→Gr h bx.length ⟨[],bx,[]⟩ rs sts→sts=lo++[s]→s.st=l++[some 77]→rs.length≤100→Q (.ref t) H'
def sp_law_bare(K:Fgg):Sp:=fun vs H Q _=>∃(v:V) (wt:Bool) (x:Option Int),vs=[v]∧VlA K H wt v (ovl x)∧∀u,NoT u→Q u H
theorem inV_falses:∀n:Nat,inV (.bl true) (List.replicate n (.bl false))=false:=by
 intro n
 induction n with
 | zero=>rfl
 | succ n ih=>exact ih
theorem flat_falses:∀n:Nat,(List.replicate n (V.bl false)).all flatV=true:=by
 intro n
 induction n with
 | zero=>rfl
 | succ n ih=>exact ih
def sp_law_no_truths(K:Fgg):Sp:=fun vs H Q _=>∃(a:Addr) (xs:List V),vs=[.ref a]∧SqL K H a xs∧(∀x∈xs,NoT x)∧xs.length≤1000∧∀H',Same H H'→Q (.bl true) H'
def sp_law_tagged(K:Fgg):Sp:=fun vs H Q _=>∃(a:Addr) (l:List (Option Int)) (wt:Bool),vs=[.ref a,.bl wt]∧SqL K H a (l.map optV)∧l.length≤1000∧∀(t:Addr) (ys:List V) H',Same H H'→SqT K H' t ys→VIt K H' wt ys (l.map ovl)→Q (.ref t) H'
def FTold(K:Fgg)(H:Hp)(wt:Bool)(y:V)(f:Fm):Prop:=∃(t tb ts:Addr) (bvs svs:List V),y=.ref t∧SqT K H t [.int (f.part:Int),.int (f.at':Int),.ref tb,.ref ts]∧SqT K H tb bvs∧VIt K H wt bvs f.bx∧SqT K H ts svs∧VIt K H wt svs f.st
theorem FTold.same{K:Fgg}{H H':Hp}{wt:Bool}{y:V}{f:Fm}(e:Same H H')(h:FTold K H wt y f):FTold K H' wt y f:=by
 obtain ⟨t,tb,ts,bvs,svs,h1,h2,h3,h4,h5,h6⟩:=h
 exact ⟨t,tb,ts,bvs,svs,h1,e.tup h2,e.tup h3,h4.same e,e.tup h5,h6.same e⟩
def sp_frame_told(K:Fgg)(C_Frame:Addr):Sp:=fun vs H Q _=>∃(wt:Bool) (f:Fm),vs=[.ref f.fa]∧FmAt K H C_Frame wt f∧∀y H',Same H H'→FTold K H' wt y f→Q y H'
def FTs(K:Fgg)(H:Hp)(wt:Bool)(ys:List V)(fs:List Fm):Prop:=ys.length=fs.length∧∀(j:Nat) y f,ys[j]?=some y→fs[j]?=some f→FTold K H wt y f
theorem FTs.same{K:Fgg}{H H':Hp}{wt:Bool}{ys:List V}{fs:List Fm}(e:Same H H')(h:FTs K H wt ys fs):FTs K H' wt ys fs:=⟨h.1,fun j y f h1 h2=>(h.2 j y f h1 h2).same e⟩
theorem FTold.updL{K:Fgg}{H:Hp}{wt:Bool}{y:V}{f:Fm}{r:Addr}{zs:List V}{o:HO}(h:FTold K H wt y f)(hr:H r=some (.lst zs)):FTold K (upd H r o) wt y f:=by
 have kx:KeepX [r] H (upd H r o):=keep_upd
 have mu:MutAll H [r]:=fun c hc=>by rw [msp hc]; exact ⟨_,hr,.inl ⟨_,rfl⟩⟩
 obtain ⟨t,tb,ts,bvs,svs,h1,h2,h3,h4,h5,h6⟩:=h
 exact ⟨t,tb,ts,bvs,svs,h1,SqT.keep kx mu h2,SqT.keep kx mu h3,h4.keep kx mu,SqT.keep kx mu h5,h6.keep kx mu⟩
def sp_frames(K:Fgg)(C_Frame:Addr)(C:Addr)(wt:Bool):Sp:=fun vs H Q _=>∃(mm:Mc),vs=[.ref mm.ma]∧McAt K H C_Frame C wt mm∧mm.frs.length≤100 ∧
 ∀(l:Addr) (ys:List V) (H':Hp),Same H H'→H l=none→H' l=some (.lst ys)→FTs K H' wt ys mm.frs→Q (.ref l) H'
def sp_heap(K:Fgg)(C_Frame:Addr)(C:Addr)(wt:Bool):Sp:=fun vs H Q _=>∃(mm:Mc),vs=[.ref mm.ma]∧McAt K H C_Frame C wt mm ∧
 ∀(l:Addr) (H':Hp),Same H H'→H l=none→H' l=some (.lst [])→Q (.ref l) H'
def sp_bare(K:Fgg)(wt:Bool):Sp:=fun vs H Q _=>∃(x v:V) (y:Vl),vs=[x,v]∧VlA K H wt v y∧y≠.none∧Q (.int (bareV y)) H
def sp_do_give(K:Fgg)(C_Frame:Addr)(C:Addr)(wt:Bool):Sp:=fun vs H Q _=>∃(mm:Mc) (f:Fm) (st:List Vl) (x:Vl),vs=[.ref mm.ma,.ref f.fa]∧McAt K H C_Frame C wt mm∧mm.frs=[f]∧f.st=st++[x]∧x≠.none ∧
 ∀(H':Hp),McAt K H' C_Frame C wt {mm with frs:=[],fin:=[.inl "gave",.inr (bareV x)]}→KeepX (foot mm) H H'→Q .non H'
def sp_wrapped(_K:Fgg):Sp:=fun vs H Q _=>∃n:Int,vs=[.int n]∧Q (.int (wrapI n)) H
def sp_divided(_K:Fgg):Sp:=fun vs H Q _=>∃(sign:Str) (a b:Int),vs=[.str sign,.int a,.int b]∧parts sign∧inW a∧inW b∧b≠0∧Q (.int (rk sign a b)) H
def sp_reckoned(_K:Fgg):Sp:=fun vs H Q _=>∃(sign:Str) (a b:Int),vs=[.str sign,.int a,.int b]∧(sign="add"∨sign="sub"∨sign="mul"∨sign="less"∨sign="same"∨parts sign)∧inW a∧inW b∧(parts sign→b≠0)∧Q (.int (rk sign a b)) H
theorem tk_last{α:Type}{xs:List α}{i:Nat}(h:i < xs.length):(xs.take (xs.length - i))[(xs.take (xs.length - i)).length - 1]?=some (xs[xs.length - i - 1]'(by omega)):=by
 rw [List.length_take,show min (xs.length - i) xs.length - 1=xs.length - i - 1 by omega,List.getElem?_take_of_lt (by omega)]
 exact gee (by omega)
theorem tk_drop{α:Type}{xs:List α}{i:Nat}(h:i < xs.length):(xs.take (xs.length - i)).dropLast=xs.take (xs.length - (i + 1)):=by
 rw [List.dropLast_eq_take,List.take_take,List.length_take]
 congr 1
 omega
theorem tk_rev{α:Type}{xs:List α}{i:Nat}(h:i < xs.length):(xs.drop (xs.length - i)).reverse++[xs[xs.length - i - 1]'(by omega)]=(xs.drop (xs.length - (i + 1))).reverse:=by
 have e:xs.drop (xs.length - (i + 1))=xs[xs.length - i - 1]'(by omega)::xs.drop (xs.length - i):=by
  rw [show xs.length - (i + 1)=xs.length - i - 1 by omega,List.drop_eq_getElem_cons (by omega)]
  congr 2
  omega
 rw [e,List.reverse_cons]
def sp_taken(K:Fgg):Sp:=fun vs H Q _=>∃(sl:Addr) (xs:List V) (n:Nat),vs=[.ref sl,.int (n:Int)]∧H sl=some (.lst xs)∧n≤xs.length∧n≤100 ∧
 ∀(l:Addr) (H':Hp),H l=none→H' l=some (.lst (xs.drop (xs.length - n)))→H' sl=some (.lst (xs.take (xs.length - n)))→(∀c o,c≠sl→H c=some o→H' c=some o)→Q (.ref l) H'
def sp_tagged(K:Fgg)(wt:Bool):Sp:=fun vs H Q _=>∃(x:V) (n:Int),vs=[x,.str "number",.int n]∧∀v H',Same H H'→VlA K H' wt v (.num n)→Q v H'
def sp_do_reckoning(K:Fgg)(C_Frame:Addr)(C:Addr)(wt:Bool):Sp:=fun vs H Q _=>∃(mm:Mc) (fs:List Fm) (f:Fm) (s:Str) (st:List Vl) (a b:Int),vs=[.ref mm.ma,.ref f.fa,.str s]∧McAt K H C_Frame C wt mm∧mm.frs=fs++[f]∧f.st=st++[.num a,.num b]∧(s="add"∨s="sub"∨s="mul"∨s="less"∨s="same"∨parts s)∧inW a∧inW b∧(parts s→b≠0)∧f.st.length≤100 ∧
 ∀(H':Hp),McAt K H' C_Frame C wt {mm with frs:=fs++[{f with st:=st++[.num (rk s a b)],at':=f.at' + 1}]}→KeepX (foot mm) H H'→Q .non H'
def sp_do_straight(K:Fgg)(C_Frame:Addr)(C:Addr)(wt:Bool):Sp:=fun vs H Q _=>∃(mm:Mc) (fs:List Fm) (f f':Fm) (r:Rw) (rt:Addr) (sd:List Int),vs=[.ref mm.ma,.ref f.fa,.ref rt]∧McAt K H C_Frame C wt mm∧mm.frs=fs++[f]∧SqT K H rt (rwV r)∧StK r f mm.said f' sd∧f.st.length≤100∧mm.said.length≤900 ∧
 ∀(H':Hp),McAt K H' C_Frame C wt {mm with frs:=fs++[f'],said:=sd}→KeepX (foot mm) H H'→Q .non H'
def sp_catcher(K:Fgg):Sp:=fun vs H Q _=>∃(a:Addr) (ys:List V) (ss:Sts) (p:Int),vs=[.ref a,.int p]∧SqL K H a ys∧SIt K H ys ss∧Q (optV (caught ss p)) H
def liveN(H:Hp)(l:Addr):Nat:=match H l with
 | some (.lst xs)=>xs.length
 | _=>0
theorem liveN_of{H:Hp}{l:Addr}{xs:List V}(h:H l=some (.lst xs)):liveN H l=xs.length:=by unfold liveN; rw [h]
def sp_caught_at(K:Fgg)(C_Frame:Addr):Sp:=fun vs H Q _=>∃(pl lv:Addr) (xs:List V) (ps:List Pt) (frs:List Fm),vs=[.ref pl,.ref lv]∧H lv=some (.lst (frs.map fun f=>.ref f.fa))∧(∀HX,KeepX [lv] H HX→SqL K HX pl xs∧RdAll K HX xs (ps.map ptD))∧(∀f∈frs,(∃dx,H f.fa=some (.ins C_Frame dx (fmF f.part f.at' f.bl f.sl)))∧∃p,ps[f.part]?=some p∧caught (stsI p.spans) (f.at':Int)=none) ∧
 ∀(H':Hp),H' lv=some (.lst [])→KeepX [lv] H H'→Q .non H'
def sp_fault(K:Fgg)(C_Frame:Addr)(C:Addr)(wt:Bool):Sp:=fun vs H Q _=>∃(mm:Mc) (n:Int),vs=[.ref mm.ma,.int n]∧McAt K H C_Frame C wt mm∧(∀f∈mm.frs,∃p,mm.ps[f.part]?=some p∧caught (stsI p.spans) (f.at':Int)=none) ∧
 ∀(H':Hp),McAt K H' C_Frame C wt {mm with frs:=[],fin:=[.inl "fault",.inr n]}→KeepX (foot mm) H H'→Q .non H'
def sp_do_row(K:Fgg)(C_Frame:Addr)(C:Addr)(wt:Bool):Sp:=fun vs H Q _=>∃(mm m':Mc) (fs:List Fm) (f:Fm) (r:Rw) (rt:Addr),vs=[.ref mm.ma,.ref f.fa,.ref rt]∧McAt K H C_Frame C wt mm∧mm.frs=fs++[f]∧SqT K H rt (rwV r)∧RowDo mm fs f r m'∧f.st.length≤100∧mm.said.length≤900 ∧
 ∀(H':Hp),McAt K H' C_Frame C wt m'→KeepX (foot mm) H H'→Q .non H'
def AskOk(K:Fgg)(ps:List Pt)(part:Nat)(r:Rw)(ks:List Kd):Prop:=∀(H:Hp) (mk pl:Addr) (xs:List V),SqL K H pl xs→RdAll K H xs (ps.map ptD)→AsksH K H mk pl part (rwS r) ((rwN r).map V.int) ks
def LookK(ms:Mks)(p:Pt)(st:List Vl)(ks:List Kd)(r:Rw):Prop:=∃lo tk,st=lo++tk∧tk.length=ks.length∧(∀(i:Nat) x k,tk[i]?=some x→ks[i]?=some k→hasB ms [] x k=true)∧(lo.length:Int) + leftOf (rwS r)≤p.height
def sp_looked(K:Fgg)(C_Frame:Addr)(C:Addr)(wt:Bool):Sp:=fun vs H Q _=>∃(mm:Mc) (fs:List Fm) (f:Fm) (r:Rw) (rt:Addr) (p:Pt) (ks:List Kd),vs=[.ref mm.ma,.ref f.fa,.ref rt]∧McAt K H C_Frame C wt mm∧mm.frs=fs++[f]∧SqT K H rt (rwV r)∧mm.ps[f.part]?=some p∧Wf mm.ms∧f.st.length≤100∧(∀x∈f.st,∀n,x≠.rcd n)∧AskOk K mm.ps f.part r ks∧LookK mm.ms p f.st ks r ∧
 ∀(H':Hp),Same H H'→Q .non H'
def sp_elders_of(K:Fgg):Sp:=fun vs H Q _=>∃(a:Addr) (ms:Mks) (c:Nat),vs=[.ref a,.int c]∧MksAt K H a ms∧Wf ms∧c < ms.length∧∀(r:Addr) (H':Hp),Same H H'→H r=none→H' r=some (.lst (natsV (elders ms c)))→Q (.ref r) H'
def sp_fields_of(K:Fgg):Sp:=fun vs H Q _=>∃(a:Addr) (ms:Mks) (c:Nat),vs=[.ref a,.int c]∧MksAt K H a ms∧Wf ms∧Few ms∧c < ms.length ∧
 ∀(r:Addr) (ks:List V) (H':Hp),Same H H'→H r=none→H' r=some (.lst ks)→RdAll K H ks (kdsD (fields ms c))→Q (.ref r) H'
def sp_full_mask(K:Fgg):Sp:=fun vs H Q _=>∃(a:Addr) (ms:Mks) (c:Nat),vs=[.ref a,.int c]∧MksAt K H a ms∧Wf ms∧Few ms∧c < ms.length ∧
 ∀(H':Hp),Same H H'→Q (.int (2 ^ (fields ms c).length - 1)) H'
def sp_asked_of_records(K:Fgg):Sp:=fun vs H Q _=>∃(mk rw:Addr) (ms:Mks) (sign:Str) (xs:List V) (ks:List Kd),vs=[.ref mk,.ref rw]∧MksAt K H mk ms∧Wf ms∧Few ms∧SqT K H rw (.str sign::xs)∧AskR ms sign xs ks ∧
 ∀(r:Addr) (ys:List V) (H':Hp),Same H H'→H r=none→H' r=some (.lst ys)→RdAll K H' ys (kdsD ks)→Q (.ref r) H'
theorem no_call:getP kd_ALWAYS "call"=none:=by decide +kernel
theorem no_give:getP kd_ALWAYS "give"=none:=by decide +kernel
theorem no_rec{ms:Mks}{sign:Str}{xs:List V}{ks:List Kd}(h:AskR ms sign xs ks):getP kd_ALWAYS sign=none∧¬ (V.str sign=V.str "call")∧¬ (V.str sign=V.str "give"):=by
 cases h <;> exact ⟨by decide +kernel,by decide +kernel,by decide +kernel⟩
def sp_asked(K:Fgg):Sp:=fun vs H Q _=>∃(b mk pl rw:Addr) (part:Nat) (sign:Str) (xs:List V) (ks:List Kd),vs=[.ref b,.int part,.ref rw]∧SqT K H b [.ref mk,.ref pl]∧SqT K H rw (.str sign::xs)∧AsksH K H mk pl part sign xs ks ∧
 ∀(r:Addr) (ys:List V) (H':Hp),Same H H'→H r=none→H' r=some (.lst ys)→RdAll K H' ys (kdsD ks)→Q (.ref r) H'
def sp_is_under(K:Fgg):Sp:=fun vs H Q _=>∃(a:Addr) (ms:Mks) (c o:Nat),vs=[.ref a,.int c,.int o]∧MksAt K H a ms∧Wf ms∧c < ms.length∧∀(H':Hp),Same H H'→Q (.bl (decide (o∈elders ms c))) H'
def sp_record_has_kind(K:Fgg):Sp:=fun vs H Q _=>∃(a:Addr) (ms:Mks) (v:V) (t:Addr) (r:Rc) (k:Kd),vs=[.ref a,v,.ref t]∧MksAt K H a ms∧Wf ms∧RdV K H v (rcD r)∧r.c < ms.length∧SqT K H t (kdV k)∧k≠.any∧k≠.num∧∀(H':Hp),Same H H'→Q (.bl (hasR ms r k)) H'
def sp_has_kind(K:Fgg):Sp:=fun vs H Q _=>∃(a:Addr) (ms:Mks) (hp:Addr) (rs:List V) (rcs:List Rc) (v:V) (x:Vl) (t:Addr) (k:Kd),vs=[.ref a,.ref hp,v,.ref t]∧MksAt K H a ms∧Wf ms∧SqL K H hp rs∧RdAll K H rs (rcs.map rcD)∧(∀r∈rcs,r.c < ms.length)∧RdV K H v (vlD x)∧(∀n,x=.rcd n→n < rcs.length)∧SqT K H t (kdV k) ∧
 ∀(H':Hp),Same H H'→Q (.bl (hasB ms rcs x k)) H'
def sp_leaves(K:Fgg):Sp:=fun vs H Q _=>∃(rw:Addr) (sign:Str) (xs:List V),vs=[.ref rw]∧SqT K H rw (.str sign::xs)∧Q (.int (leftOf sign)) H
def StepK(K:Fgg)(m m':Mc):Prop:=(m.fin≠[]∧m'=m)∨(m.fin=[]∧∃(fs:List Fm) (f:Fm) (r:Rw) (p:Pt) (ks:List Kd),m.frs=fs++[f]∧m.ps[f.part]?=some p∧p.rows[f.at']?=some r∧Wf m.ms∧f.st.length≤100∧m.said.length≤900∧(∀x∈f.st,∀n,x≠.rcd n)∧AskOk K m.ps f.part r ks∧LookK m.ms p f.st ks r∧RowDo m fs f r m')
def sp_step(K:Fgg)(C_Frame:Addr)(C:Addr)(wt:Bool):Sp:=fun vs H Q _=>∃(mm m':Mc),vs=[.ref mm.ma]∧McAt K H C_Frame C wt mm∧StepK K mm m' ∧
 ∀(H':Hp),McAt K H' C_Frame C wt m'→KeepX (foot mm) H H'→Q .non H'
def sp_told(K:Fgg)(C_Frame:Addr)(C:Addr)(wt:Bool):Sp:=fun vs H Q _=>∃(mm:Mc),vs=[.ref mm.ma]∧McAt K H C_Frame C wt mm∧mm.said.length≤1000 ∧
 ∀(t l:Addr) (ev:V) (H':Hp),Same H H'→H l=none→H' l=some (.lst (mm.said.map V.int))→SqT K H' t [ev,.ref l,.int mm.left]→EndAt K H' ev mm.fin→Q (.ref t) H'
def mcS(m:Mc)(f:Fm)(i:Nat)(s:LS):Mc:={m with frs:=[{f with at':=i,st:=s.st.map ovl,bx:=s.bx.map ovl}],said:=s.sd,fin:=[]}
theorem ovl_rcd{l:List (Option Int)}:∀x∈l.map ovl,∀n,x≠.rcd n:=by
 intro x hx n e
 obtain ⟨o,_,rfl⟩:=List.mem_map.mp hx
 cases o <;> cases e
theorem ask_of{K:Fgg}{ps:List Pt}{part:Nat}{r:Rw}{ks:List Kd}(h:getP kd_ALWAYS (rwS r)=some (.tuple (kdsD ks))):AskOk K ps part r ks:=fun _ _ _ _ _ _=>.always h
theorem look_of{ms:Mks}{p:Pt}{st lo tk:List Vl}{ks:List Kd}{r:Rw}(e:st=lo++tk)(hl:tk.length=ks.length)(hk:∀(i:Nat) x k,tk[i]?=some x→ks[i]?=some k→hasB ms [] x k=true)(hh:(lo.length:Int) + leftOf (rwS r)≤p.height):LookK ms p st ks r:=⟨lo,tk,e,hl,hk,hh⟩
theorem has_num{ms:Mks}{n:Int}:hasB ms [] (.num n) .num=true:=by
 show decide (Kd.num=Kd.num)=true
 exact decide_eq_true rfl
theorem rek_ask{sg:Str}(h:isRek sg):getP kd_ALWAYS sg=some (.tuple (kdsD [.num,.num]))∧leftOf sg=1:=by
 rcases h with rfl | rfl | rfl | rfl | rfl | rfl | rfl <;> exact ⟨rfl,rfl⟩
theorem step_of{K:Fgg}{m:Mc}{f:Fm}{i h nb:Nat}{s s':LS}{r:Rw}{p:Pt}(k:LStep h r s s')(v:LInv h nb i s)(hp:m.ps[f.part]?=some p)(hr:p.rows[i]?=some r)(hh:p.height=h)(hw:Wf m.ms)(h8:h≤8)(hi:i≤100):StepK K (mcS m f i s) (mcS m f (i + 1) s'):=by
 have c1:(s.st.map ovl).length≤100:=by rw [List.length_map]; have:=v.st; omega
 have c2:s.sd.length≤900:=by have:=v.sd; omega
 have fin:∀ks,AskOk K m.ps f.part r ks→LookK m.ms p (s.st.map ovl) ks r→RowDo (mcS m f i s) [] {f with at':=i,st:=s.st.map ovl,bx:=s.bx.map ovl} r (mcS m f (i + 1) s')→StepK K (mcS m f i s) (mcS m f (i + 1) s'):=fun ks a1 a2 a3 =>
  .inr ⟨rfl,[],_,r,p,ks,rfl,hp,hr,hw,c1,c2,ovl_rcd,a1,a2,a3⟩
 have lm:(s.st.map ovl).length=s.st.length:=List.length_map _
 have one:∀{x:Vl} {k:Kd},hasB m.ms [] x k=true→∀(i:Nat) x' k',[x][i]?=some x'→[k][i]?=some k'→hasB m.ms [] x' k'=true:=fun {x k} hb i x' k' h1 h2=>by
  match i,h1,h2 with
  | 0,h1,h2=>cases h1; cases h2; exact hb
 have two:∀{x y:Vl} {k l:Kd},hasB m.ms [] x k=true→hasB m.ms [] y l=true→∀(i:Nat) x' k',[x,y][i]?=some x'→[k,l][i]?=some k'→hasB m.ms [] x' k'=true:=fun {x y k l} hb hc i x' k' h1 h2=>by
  match i,h1,h2 with
  | 0,h1,h2=>cases h1; cases h2; exact hb
  | 1,h1,h2=>cases h1; cases h2; exact hc
 have vst:=v.st
 cases k with
 | push hl hi' =>
  rename_i w
  refine fin [] (ask_of rfl) (look_of (lo:=s.st.map ovl) (tk:=[]) (by simp) rfl (fun i x k h1=>by simp at h1) ?_) ?_
  ·show (((s.st.map ovl).length:Nat):Int) + 1≤p.height
   omega
  ·have z:=RowDo.str (m:=mcS m f i s) (fs:=[]) (f:={f with at':=i,st:=s.st.map ovl,bx:=s.bx.map ovl}) (StK.push (w:=w) (f:={f with at':=i,st:=s.st.map ovl,bx:=s.bx.map ovl}) (sd:=s.sd))
   unfold mcS at z ⊢
   simp only [List.map_append]
   exact z
 | load hl hx =>
  rename_i b x
  refine fin [] (ask_of rfl) (look_of (lo:=s.st.map ovl) (tk:=[]) (by simp) rfl (fun i x k h1=>by simp at h1) ?_) ?_
  ·show (((s.st.map ovl).length:Nat):Int) + 1≤p.height
   omega
  ·have z:=RowDo.str (m:=mcS m f i s) (fs:=[]) (f:={f with at':=i,st:=s.st.map ovl,bx:=s.bx.map ovl}) (StK.load (b:=b) (x:=ovl x) (f:={f with at':=i,st:=s.st.map ovl,bx:=s.bx.map ovl}) (sd:=s.sd) (by show (s.bx.map ovl)[b]?=_; rw [List.getElem?_map,hx]; rfl))
   unfold mcS at z ⊢
   simp only [List.map_append]
   exact z
 | store hst hb =>
  rename_i b lo x
  have e:s.st.map ovl=lo.map ovl++[ovl x]:=by rw [hst,List.map_append]; rfl
  refine fin [.any] (ask_of rfl) (look_of (lo:=lo.map ovl) (tk:=[ovl x]) e rfl (one rfl) ?_) ?_
  ·show (((lo.map ovl).length:Nat):Int) + 0≤p.height
   rw [hst] at vst
   simp at vst ⊢
   omega
  ·have z:=RowDo.str (m:=mcS m f i s) (fs:=[]) (f:={f with at':=i,st:=s.st.map ovl,bx:=s.bx.map ovl}) (StK.store (b:=b) (x:=ovl x) (st:=lo.map ovl) (f:={f with at':=i,st:=s.st.map ovl,bx:=s.bx.map ovl}) (sd:=s.sd) e (by show b < (s.bx.map ovl).length; rw [List.length_map]; exact hb))
   unfold mcS at z ⊢
   simp only [List.map_set]
   exact z
 | dup hst hl =>
  rename_i lo x
  have e:s.st.map ovl=lo.map ovl++[ovl x]:=by rw [hst,List.map_append]; rfl
  refine fin [.any] (ask_of rfl) (look_of (lo:=lo.map ovl) (tk:=[ovl x]) e rfl (one rfl) ?_) ?_
  ·show (((lo.map ovl).length:Nat):Int) + 2≤p.height
   rw [hst] at hl
   simp at hl ⊢
   omega
  ·have z:=RowDo.str (m:=mcS m f i s) (fs:=[]) (f:={f with at':=i,st:=s.st.map ovl,bx:=s.bx.map ovl}) (StK.dup (x:=ovl x) (st:=lo.map ovl) (f:={f with at':=i,st:=s.st.map ovl,bx:=s.bx.map ovl}) (sd:=s.sd) e)
   unfold mcS at z ⊢
   simp only [List.map_append]
   exact z
 | swap hst =>
  rename_i lo x y
  have e:s.st.map ovl=lo.map ovl++[ovl x,ovl y]:=by rw [hst,List.map_append]; rfl
  refine fin [.any,.any] (ask_of rfl) (look_of (lo:=lo.map ovl) (tk:=[ovl x,ovl y]) e rfl (two rfl rfl) ?_) ?_
  ·show (((lo.map ovl).length:Nat):Int) + 2≤p.height
   rw [hst] at vst
   simp at vst ⊢
   omega
  ·have z:=RowDo.str (m:=mcS m f i s) (fs:=[]) (f:={f with at':=i,st:=s.st.map ovl,bx:=s.bx.map ovl}) (StK.swap (x:=ovl x) (y:=ovl y) (st:=lo.map ovl) (f:={f with at':=i,st:=s.st.map ovl,bx:=s.bx.map ovl}) (sd:=s.sd) e)
   unfold mcS at z ⊢
   simp only [List.map_append]
   exact z
 | drop hst =>
  rename_i lo x
  have e:s.st.map ovl=lo.map ovl++[ovl x]:=by rw [hst,List.map_append]; rfl
  refine fin [.any] (ask_of rfl) (look_of (lo:=lo.map ovl) (tk:=[ovl x]) e rfl (one rfl) ?_) ?_
  ·show (((lo.map ovl).length:Nat):Int) + 0≤p.height
   rw [hst] at vst
   simp at vst ⊢
   omega
  ·exact RowDo.str (m:=mcS m f i s) (fs:=[]) (f:={f with at':=i,st:=s.st.map ovl,bx:=s.bx.map ovl}) (StK.drop (x:=ovl x) (st:=lo.map ovl) (f:={f with at':=i,st:=s.st.map ovl,bx:=s.bx.map ovl}) (sd:=s.sd) e)
 | say hst =>
  rename_i lo n
  have e:s.st.map ovl=lo.map ovl++[.num n]:=by rw [hst,List.map_append]; rfl
  refine fin [.num] (ask_of rfl) (look_of (lo:=lo.map ovl) (tk:=[.num n]) e rfl (one has_num) ?_) ?_
  ·show (((lo.map ovl).length:Nat):Int) + 0≤p.height
   rw [hst] at vst
   simp at vst ⊢
   omega
  ·exact RowDo.str (m:=mcS m f i s) (fs:=[]) (f:={f with at':=i,st:=s.st.map ovl,bx:=s.bx.map ovl}) (StK.say (x:=.num n) (st:=lo.map ovl) (f:={f with at':=i,st:=s.st.map ovl,bx:=s.bx.map ovl}) (sd:=s.sd) e (fun z=>nomatch z))
 | rek hst hr' hz =>
  rename_i sg lo a b
  have e:s.st.map ovl=lo.map ovl++[.num a,.num b]:=by rw [hst,List.map_append]; rfl
  refine fin [.num,.num] (ask_of (rek_ask hr').1) (look_of (lo:=lo.map ovl) (tk:=[.num a,.num b]) e rfl (two has_num has_num) ?_) ?_
  ·show (((lo.map ovl).length:Nat):Int) + leftOf sg≤p.height
   rw [(rek_ask hr').2]
   rw [hst] at vst
   simp at vst ⊢
   omega
  ·have z:=RowDo.rek (m:=mcS m f i s) (fs:=[]) (f:={f with at':=i,st:=s.st.map ovl,bx:=s.bx.map ovl}) (s:=sg) (st:=lo.map ovl) (a:=a) (b:=b) e hr' (v.ws a (by rw [hst]; simp)) (v.ws b (by rw [hst]; simp)) hz
   unfold mcS at z ⊢
   simp only [List.map_append]
   exact z
theorem end_of{K:Fgg}{m:Mc}{f:Fm}{i h nb:Nat}{s:LS}{l:List (Option Int)}{e:Str}{p:Pt}(he:e="give"∨e="toss")(hst:s.st=l++[some 77])(v:LInv h nb i s)(hp:m.ps[f.part]?=some p)(hr:p.rows[i]?=some (.bare e))(hh:p.height=h)(hg:p.gives=.num)(hs:p.spans=[])(hw:Wf m.ms)(h8:h≤8)(hi:i≤100):StepK K (mcS m f i s) {m with frs:=[],said:=s.sd,fin:=[.inl (if e="toss" then "fault" else "gave"),.inr 77]}:=by
 have c1:(s.st.map ovl).length≤100:=by rw [List.length_map]; have:=v.st; omega
 have c2:s.sd.length≤900:=by have:=v.sd; omega
 have ev:s.st.map ovl=l.map ovl++[.num 77]:=by rw [hst,List.map_append]; rfl
 have vst:=v.st
 rw [hst] at vst
 simp at vst
 have one:∀{x:Vl} {k:Kd},hasB m.ms [] x k=true→∀(i:Nat) x' k',[x][i]?=some x'→[k][i]?=some k'→hasB m.ms [] x' k'=true:=fun {x k} hb i x' k' h1 h2=>by
  match i,h1,h2 with
  | 0,h1,h2=>cases h1; cases h2; exact hb
 have look:∀r,leftOf (rwS r)=0→LookK m.ms p (s.st.map ovl) [.num] r:=fun r hl=>look_of (lo:=l.map ovl) (tk:=[.num 77]) ev rfl (one has_num) (by rw [hl,List.length_map]; omega)
 rcases he with rfl | rfl
 ·rw [if_neg (by decide +kernel)]
  refine .inr ⟨rfl,[],_,.bare "give",p,[.num],rfl,hp,hr,hw,c1,c2,ovl_rcd,fun H mk pl xs h1 h2=>?_,look _ rfl,?_⟩
  ·obtain ⟨w0,hw0,hwr⟩:=bk_part h2 hp
   obtain ⟨t,l0,l4,l5,ks,vs4,vs5,f1,rfl,hTt,hl0,hk,rg,hl4,hk4,hl5,hk5⟩:=pt_inv hwr
   rw [hg] at rg
   exact .give h1 hw0 hTt rg
  ·exact RowDo.give (m:=mcS m f i s) (fs:=[]) (f:={f with at':=i,st:=s.st.map ovl,bx:=s.bx.map ovl}) (st:=l.map ovl) (x:=.num 77) rfl ev (fun z=>nomatch z)
 ·rw [if_pos rfl]
  refine .inr ⟨rfl,[],_,.bare "toss",p,[.num],rfl,hp,hr,hw,c1,c2,ovl_rcd,ask_of rfl,look _ rfl,?_⟩
  refine RowDo.toss (m:=mcS m f i s) (fs:=[]) (f:={f with at':=i,st:=s.st.map ovl,bx:=s.bx.map ovl}) (st:=l.map ovl) (x:=.num 77) ev (fun z=>nomatch z) (fun g hg'=>?_)
  rw [List.nil_append,List.mem_singleton] at hg'
  subst hg'
  exact ⟨p,hp,by rw [hs]; rfl⟩
def toldD(fin:PyData)(sd:List Int)(left:Int):PyData:=.tuple [fin,.list (sd.map PyData.int),.int left]
theorem told_ok{fin:PyData}{sd:List Int}{left:Int}(h1:PyData.canLay0 fin=true)(h2:PyData.depth fin≤1):PySem.SeqAt.shaped (toldD fin sd left)=true:=by
 have a:=ints_lay sd
 show ((PyData.canLay0 fin&&(PyData.canLayAll0 (sd.map PyData.int)&&(PyData.canLay0 (.int left)&&true)))&&decide (max (PyData.depth fin) (max (PyData.depthAll (sd.map PyData.int) + 1) (max (PyData.depth (.int left)) 0)) + 1≤64))=true
 rw [h1,a.1,a.2]
 have e:PyData.depth (.int left)=0:=rfl
 rw [e]
 simp only [Bool.true_and]
 exact decide_eq_true (by omega)
theorem told_self{fin:PyData}{sd:List Int}{left:Int}(h1:PyData.canLay0 fin=true)(h2:PyData.depth fin≤1):PyData.eqv (toldD fin sd left) (toldD fin sd left)=true:=PySem.SeqAt.eqv_refl _ (PySem.SeqAt.canLay_of_shaped (told_ok h1 h2))
def frD(wt:Bool)(part i:Nat)(bs ss:List Vl):PyData:=.list [.tuple [.int (part:Int),.int (i:Int),.tuple (bs.map (vlW wt)),.tuple (ss.map (vlW wt))]]
theorem vlW_lay(wt:Bool)(x:Vl):PyData.canLay0 (vlW wt x)=true∧PyData.depth (vlW wt x)≤1:=by
 cases wt with
 | true =>
  cases x with
  | none=>exact ⟨rfl,Nat.zero_le _⟩
  | num w=>exact ⟨by show (PyData.canLay0 (.str "number")&&(PyData.canLay0 (.int w)&&true))=true; rw [show PyData.canLay0 (.str "number")=true by decide +kernel]; rfl,by show max (PyData.depth (.str "number")) (max (PyData.depth (.int w)) 0) + 1≤1; exact Nat.le_refl _⟩
  | rcd n=>exact ⟨by show (PyData.canLay0 (.str "record")&&(PyData.canLay0 (.int n)&&true))=true; rw [show PyData.canLay0 (.str "record")=true by decide +kernel]; rfl,by show max (PyData.depth (.str "record")) (max (PyData.depth (.int n)) 0) + 1≤1; exact Nat.le_refl _⟩
 | false=>exact ⟨rfl,Nat.zero_le _⟩
theorem fr_ok{wt:Bool}{part i:Nat}{bs ss:List Vl}:PySem.SeqAt.shaped (frD wt part i bs ss)=true:=by
 have a:=lay_map (vlW_lay wt) bs
 have b:=lay_map (vlW_lay wt) ss
 show (((PyData.canLay0 (.int part)&&(PyData.canLay0 (.int i)&&(PyData.canLayAll0 (bs.map (vlW wt))&&(PyData.canLayAll0 (ss.map (vlW wt))&&true))))&&true)&&decide (max (max (PyData.depth (.int part)) (max (PyData.depth (.int i)) (max (PyData.depthAll (bs.map (vlW wt)) + 1) (max (PyData.depthAll (ss.map (vlW wt)) + 1) 0))) + 1) 0 + 1≤64))=true
 rw [a.1,b.1]
 have e1:PyData.depth (.int part)=0:=rfl
 have e2:PyData.depth (.int i)=0:=rfl
 have a2:=a.2
 have b2:=b.2
 rw [e1,e2]
 show (true&&decide _)=true
 rw [Bool.true_and]
 exact decide_eq_true (by omega)
theorem fr_self{wt:Bool}{part i:Nat}{bs ss:List Vl}:PyData.eqv (frD wt part i bs ss) (frD wt part i bs ss)=true:=PySem.SeqAt.eqv_refl _ (PySem.SeqAt.canLay_of_shaped fr_ok)
theorem FTold.rd{K:Fgg}{H:Hp}{wt:Bool}{y:V}{f:Fm}(h:FTold K H wt y f):RdV K H y (.tuple [.int (f.part:Int),.int (f.at':Int),.tuple (f.bx.map (vlW wt)),.tuple (f.st.map (vlW wt))]):=by
 obtain ⟨t,tb,ts,bvs,svs,rfl,h2,h3,h4,h5,h6⟩:=h
 exact .tup' h2 (.cons (.int _) (.cons (.int _) (.cons (.tup' h3 h4.rd) (.cons (.tup' h5 h6.rd) .nil))))
structure Kp(K:Fgg)(H:Hp)(m:Mc)(f:Fm)(sa due dt:Addr)(sts:List LS)(rs:List Rw)(ys:List V)(h nb:Nat)(s0:LS)(e:Str)(p:Pt):Prop where
 sl:∀HX,KeepX (foot (mcS m f 0 s0)) H HX→SqL K HX sa ys
 it:PIt (LsX K (foot (mcS m f 0 s0)) H) ys sts
 du:SqT K H due [.ref dt,.int m.left]
 dt:SqT K H dt [.str (if e="toss" then "fault" else "gave"),.int 77]
 gr:Gr h nb s0 rs sts
 pt:m.ps[f.part]?=some p
 rw:p.rows=rs++[.bare e]
 he:e="give"∨e="toss"
 hh:p.height=h
 h8:h≤8
 nb8:nb≤8
 sp:p.spans=[]
 gv:p.gives=.num
 wf:Wf m.ms
 few:rs.length≤100
 la:∃lo s l,sts=lo++[s]∧s.st=l++[some 77]
def sp_law_keeps(K:Fgg)(C_Frame:Addr)(C:Addr)(wt:Bool):Sp:=fun vs H Q _=>∃(m:Mc) (f:Fm) (sa due dt:Addr) (sts:List LS) (rs:List Rw) (ys:List V) (h nb:Nat) (s0:LS) (e:Str) (p:Pt),vs=[.ref m.ma,.int (f.part:Int),.ref sa,.bl wt,.ref due]∧McAt K H C_Frame C wt (mcS m f 0 s0)∧Kp K H m f sa due dt sts rs ys h nb s0 e p ∧
 ∀H',KeepX (foot (mcS m f 0 s0)) H H'→Q (.bl true) H'
def isNumK:Kd→Bool
 | .num=>true
 | _=>false
theorem kd_isNum(k:Kd):PyData.eqv (.tuple (kdL k)) (.tuple [.str "number"])=isNumK k:=by
 cases k with
 | any=>decide +kernel
 | num=>decide +kernel
 | whole c=>rfl
 | raw c m=>rfl
def sp_is_door(K:Fgg):Sp:=fun vs H Q _=>∃(tl:Addr) (g:V) (ys:List V) (ks:List Kd) (gk:Kd),vs=[.ref tl,g]∧SqL K H tl ys∧RdAll K H ys (kdsD ks)∧RdV K H g (.tuple (kdL gk))∧ks.length≤100 ∧
 ∀(H':Hp),Same H H'→Q (.bl ((ks++[gk]).all isNumK)) H'
def sp_check_door(K:Fgg):Sp:=fun vs H Q _=>∃(pl il:Addr) (xs zs:List V) (ps:List Pt) (j:Nat) (p:Pt),vs=[.ref pl,.int (j:Int),.ref il]∧SqL K H pl xs∧RdAll K H xs (ps.map ptD)∧ps[j]?=some p∧(p.takes++[p.gives]).all isNumK=true∧p.takes.length≤100∧SqL K H il zs∧zs.length=p.takes.length ∧
 ∀(H':Hp),Same H H'→Q .non H'
def NewK(D:List Addr)(H H' HX:Hp):Prop:=∀c o,c∉D→H' c=some o→(∀z,H c=some z→¬ MutC z)→HX c=some o
theorem NewK.old{D:List Addr}{H H' HX:Hp}(k:NewK D H H' HX)(s:Same H H')(n:∀c∈D,H c=none):∀c o,H c=some o→¬ MutC o→HX c=some o:=fun c o e m =>
 k c o (fun z=>by rw [n c z] at e; cases e) (s c o e) (fun z h=>by rw [e] at h; cases h; exact m)
theorem SqT.keepM{K:Fgg}{H HX:Hp}{t:Addr}{xs:List V}(e:∀c o,H c=some o→¬ MutC o→HX c=some o)(h:SqT K H t xs):SqT K HX t xs:=by
 rcases h with (h | ⟨u,h⟩) | h
 ·exact .inl (.inl (e _ _ h (by rintro (⟨xs,z⟩ | ⟨C,dx,fs,z⟩) <;> cases z)))
 ·exact .inl (.inr ⟨u,e _ _ h (by rintro (⟨xs,z⟩ | ⟨C,dx,fs,z⟩) <;> cases z)⟩)
 ·exact .inr h
theorem RdAll.keepM{K:Fgg}{H HX:Hp}{α:Type}{f:α→PyData}{g:α→List V}{xs:List V}{ks:List α}(inv:∀v k,RdV K H v (f k)→∃t:Addr,v=.ref t∧SqT K H t (g k))(mk:∀(t:Addr) k,SqT K HX t (g k)→RdV K HX (.ref t) (f k))(e:∀c o,H c=some o→¬ MutC o→HX c=some o)(h:RdAll K H xs (ks.map f)):RdAll K HX xs (ks.map f):=by
 refine RdAll.of (by rw [h.1,List.length_map]) fun j k hk=>?_
 obtain ⟨v,hv,hr⟩:=RdAll.at h (i:=j) (d:=f k) (by rw [List.getElem?_map,hk]; rfl)
 obtain ⟨t,rfl,ht⟩:=inv v k hr
 exact ⟨_,hv,mk t k (SqT.keepM e ht)⟩
theorem st_inv{K:Fgg}{H:Hp}(v:V)(s:Nat×Nat×Nat)(h:RdV K H v (stD s)):∃t:Addr,v=.ref t∧SqT K H t (stV s):=by
 obtain ⟨t,xs,rfl,hT,hR⟩:=RdV.tupInv h
 have hl:=hR.1
 obtain ⟨x0,x1,x2,rfl⟩:=ex3 hl
 have z0:=RdV.intInv (hR.2 0 x0 _ rfl rfl)
 have z1:=RdV.intInv (hR.2 1 x1 _ rfl rfl)
 have z2:=RdV.intInv (hR.2 2 x2 _ rfl rfl)
 subst z0; subst z1; subst z2
 exact ⟨t,rfl,hT⟩
theorem kds_keepM{K:Fgg}{H HX:Hp}{xs:List V}{ks:List Kd}(e:∀c o,H c=some o→¬ MutC o→HX c=some o)(h:RdAll K H xs (kdsD ks)):RdAll K HX xs (kdsD ks) :=
 RdAll.keepM (g:=kdV) (fun _ _ z=>kd_inv z) (fun _ _ z=>rd_kd z) e h
theorem rws_keepM{K:Fgg}{H HX:Hp}{xs:List V}{ks:List Rw}(e:∀c o,H c=some o→¬ MutC o→HX c=some o)(h:RdAll K H xs (ks.map rwD)):RdAll K HX xs (ks.map rwD) :=
 RdAll.keepM (g:=rwV) (fun _ _ z=>rw_inv z) (fun _ _ z=>rd_rw z) e h
theorem sts_keepM{K:Fgg}{H HX:Hp}{xs:List V}{ks:List (Nat×Nat×Nat)}(e:∀c o,H c=some o→¬ MutC o→HX c=some o)(h:RdAll K H xs (ks.map stD)):RdAll K HX xs (ks.map stD) :=
 RdAll.keepM (g:=stV) st_inv (fun _ _ z=>rd_st z) e h
theorem NewK.sub{D G:List Addr}{H H1 H2 HX:Hp}(k:NewK D H H2 HX)(s:∀c o,c∉G→H1 c=some o→H2 c=some o)(g:∀c∈D,c∈G∨H1 c=none):NewK G H H1 HX:=fun c o n e m =>
 k c o (fun z=>(g c z).elim n (fun y=>by rw [y] at e; cases e)) (s c o n e) m
def sp_copied(K:Fgg):Sp:=fun vs H Q _=>∃(b:Addr) (ms:Mks) (ps:List Pt),vs=[.ref b]∧RdV K H (.ref b) (bkD ms ps)∧ms.length≤8∧ps.length≤8 ∧
 ∀(r:Addr) (H':Hp),Same H H'→(∃(mk pl:Addr) (xs:List V),∀HX,NewK [] H H' HX→SqT K HX r [.ref mk,.ref pl]∧MksAt K HX mk ms∧SqL K HX pl xs∧RdAll K HX xs (ps.map ptD))→Q (.ref r) H'
def sp_Frame_init(_K:Fgg)(C:Addr):Sp:=fun vs H Q _=>∃(x dx bl:Addr) (p:Int),vs=[.ref x,.int p,.ref bl]∧H x=some (.ins C dx []) ∧
 ∀(sl:Addr) (H':Hp),H sl=none→H' x=some (.ins C dx (fmF p 0 bl sl))→H' sl=some (.lst [])→(∀c o,c≠x→H c=some o→H' c=some o)→Q .non H'
theorem rep_one{α:Type}(a:α)(n:Nat):(List.replicate n [a]).flatten=List.replicate n a:=by
 induction n with
 | zero=>rfl
 | succ n ih=>rw [List.replicate_succ,List.flatten_cons,ih,List.replicate_succ]; rfl
def sp_started(K:Fgg)(C_Frame:Addr):Sp:=fun vs H Q _=>∃(pl vl:Addr) (ps:List Pt) (xs ys:List V) (j:Nat) (p:Pt) (n:V),vs=[.ref pl,.int (j:Int),.ref vl,n]∧SqL K H pl xs∧RdAll K H xs (ps.map ptD)∧ps[j]?=some p∧SqL K H vl ys∧ys.length≤p.boxes∧p.boxes≤8 ∧
 ∀(fa bl sl:Addr) (H':Hp),H fa=none→H bl=none→H sl=none→bl≠sl→(∃dx,H' fa=some (.ins C_Frame dx (fmF (j:Int) 0 bl sl)))→H' bl=some (.lst (ys++List.replicate (p.boxes - ys.length) n))→H' sl=some (.lst [])→Same H H'→Q (.ref fa) H'
def sp_nothing(K:Fgg)(wt:Bool):Sp:=fun vs H Q _=>∃(x:V),vs=[x]∧∀v,VlA K H wt v .none→Q v H
theorem McAt.push{K:Fgg}{H H1:Hp}{CF C:Addr}{wt:Bool}{m:Mc}{f:Fm}(h:McAt K H CF C wt m)(s:Same H H1)(hF:FmAt K H1 CF wt f)(fr:∀c∈fmL f,H c=none)(nf:(fmL f).Nodup):McAt K (upd H1 m.lv (.lst ((m.frs++[f]).map fun f=>.ref f.fa))) CF C wt {m with frs:=m.frs++[f]}∧KeepX (foot m) H (upd H1 m.lv (.lst ((m.frs++[f]).map fun f=>.ref f.fa))):=by
 have M1:=h.same s
 have mu0:=h.mut
 have nd:=M1.nd
 have kx:KeepX [m.lv] H1 (upd H1 m.lv (.lst ((m.frs++[f]).map fun f=>.ref f.fa))):=keep_upd
 have sub:∀c∈[m.lv],c∈foot m:=fun c hc=>by rw [msp hc]; simp [foot]
 have mu:=M1.mut.sub sub
 have kA:KeepX (foot m) H (upd H1 m.lv (.lst ((m.frs++[f]).map fun f=>.ref f.fa))):=(keep_of s).trans (kx.sub sub)
 have ef:foot {m with frs:=m.frs++[f]}=foot m++fmL f:=by simp [foot]
 have dis:∀c∈fmL f,c∉foot m:=fun c hc hz=>by
  obtain ⟨o,e,_⟩:=mu0 c hz
  rw [fr c hc] at e
  cases e
 have nd2:=nd
 simp only [foot,List.nodup_cons,List.mem_cons,not_or] at nd2
 obtain ⟨dx,ev,h1,h2⟩:=M1.ob
 refine ⟨⟨⟨dx,ev,kx _ _ (fun z=>nd2.1.1 (msp z)) h1,h2.keep kx mu⟩,?_,uS,kx _ _ (fun z=>nd2.2.1.1 (msp z).symm) M1.rc,kx _ _ (fun z=>nd2.2.1.2.1 (msp z).symm) M1.sd,fun g hg=>?_,?_⟩,kA⟩
 ·obtain ⟨mk,pl,xs,hb⟩:=h.bk
  refine ⟨mk,pl,xs,fun HX kX=>hb HX fun c o n e=>kX c o ?_ (kA c o n e)⟩
  rw [ef,List.mem_append,not_or]
  exact ⟨n,fun hz=>by rw [fr c hz] at e; cases e⟩
 ·rcases List.mem_append.mp hg with z | z
  ·refine (M1.fr g z).keep kx mu (fun c hc hz=>?_)
   rw [msp hz] at hc
   exact nd2.2.1.2.2 (List.mem_flatMap.mpr ⟨g,z,hc⟩)
  ·rw [msp z]
   refine hF.keep kx mu (fun c hc hz=>dis c hc (sub c hz))
 ·rw [ef,List.nodup_append]
  exact ⟨nd,nf,fun c hc d hd e=>dis d hd (by rw [← e]; exact hc)⟩
def sp_add_frame(K:Fgg)(C_Frame:Addr)(C:Addr)(wt:Bool):Sp:=fun vs H Q _=>∃(mm:Mc) (vl:Addr) (ys:List V) (us:List Vl) (j:Nat) (p:Pt),vs=[.ref mm.ma,.int (j:Int),.ref vl]∧McAt K H C_Frame C wt mm∧mm.ps[j]?=some p∧SqL K H vl ys∧VIt K H wt ys us∧us.length≤p.boxes∧p.boxes≤8∧mm.frs.length≤100 ∧
 ∀(f:Fm) (H':Hp),McAt K H' C_Frame C wt {mm with frs:=mm.frs++[f]}→f.part=j→f.at'=0→f.bx=us++List.replicate (p.boxes - us.length) .none→f.st=[]→(∀c∈fmL f,H c=none)→KeepX (foot mm) H H'→Q .non H'
theorem mc_new{b lv rc sd:Addr}{l:Int}{e:V}:putF "end" e (putF "left" (.int l) (putF "said" (.ref sd) (putF "records" (.ref rc) (putF "live" (.ref lv) (putF "book" (.ref b) [])))))=mcF b lv rc sd l e:=by
 have e1:putF "book" (.ref b) []=([("book",.ref b)]:List (Str×V)):=rfl
 have e2:putF "live" (.ref lv) ([("book",.ref b)]:List (Str×V))=([("book",.ref b),("live",.ref lv)]:List (Str×V)):=by rw [pf2 (by decide +kernel)]; rfl
 have e3:putF "records" (.ref rc) ([("book",.ref b),("live",.ref lv)]:List (Str×V))=([("book",.ref b),("live",.ref lv),("records",.ref rc)]:List (Str×V)):=by rw [pf2 (by decide +kernel),pf2 (by decide +kernel)]; rfl
 have e4:putF "said" (.ref sd) ([("book",.ref b),("live",.ref lv),("records",.ref rc)]:List (Str×V))=([("book",.ref b),("live",.ref lv),("records",.ref rc),("said",.ref sd)]:List (Str×V)):=by rw [pf2 (by decide +kernel),pf2 (by decide +kernel),pf2 (by decide +kernel)]; rfl
 have e5:putF "left" (.int l) ([("book",.ref b),("live",.ref lv),("records",.ref rc),("said",.ref sd)]:List (Str×V))=([("book",.ref b),("live",.ref lv),("records",.ref rc),("said",.ref sd),("left",.int l)]:List (Str×V)):=by rw [pf2 (by decide +kernel),pf2 (by decide +kernel),pf2 (by decide +kernel),pf2 (by decide +kernel)]; rfl
 rw [e1,e2,e3,e4,e5,pf2 (by decide +kernel),pf2 (by decide +kernel),pf2 (by decide +kernel),pf2 (by decide +kernel),pf2 (by decide +kernel)]
 rfl
theorem putF_few{f:Str}{v:V}{l:List (Str×V)}{n:Nat}(h:l.length≤n):(putF f v l).length≤n + 1:=Nat.le_trans (length_putF _ _ _) (by omega)
theorem newl{H2 H3:Hp}{x l:Addr}{o o':HO}(k:KeepX [x] H2 H3)(hx:H3 x=some o)(hl:H3 l=none):KeepX [x] H2 (upd (upd H3 l (.lst [])) x o')∧upd (upd H3 l (.lst [])) x o' x=some o'∧upd (upd H3 l (.lst [])) x o' l=some (.lst [])∧H2 l=none∧l≠x∧(∀c p,c≠x→H3 c=some p→upd (upd H3 l (.lst [])) x o' c=some p):=by
 have ne:=nN hx hl
 have k':∀c p,c≠x→H3 c=some p→upd (upd H3 l (.lst [])) x o' c=some p:=fun c p n e=>by
  rw [uN n,uN (nN e hl)]
  exact e
 refine ⟨fun c p n e=>k' c p (fun z=>n (by rw [z]; exact List.mem_singleton.mpr rfl)) (k c p n e),uS,(uN ne.symm).trans uS,?_,ne.symm,k'⟩
 cases e:H2 l with
 | none=>rfl
 | some p=>rw [k l p (fun z=>ne (msp z).symm) e] at hl; cases hl
def sp_Plain_init(K:Fgg)(C_Frame:Addr)(C:Addr)(wt:Bool):Sp:=fun vs H Q _=>∃(x dx b il:Addr) (j:Nat) (bud:Int) (ms:Mks) (ps:List Pt) (p:Pt) (ws:List Int),vs=[.ref x,.ref b,.int (j:Int),.ref il,.int bud]∧H x=some (.ins C dx [])∧RdV K H (.ref b) (bkD ms ps)∧ms.length≤8∧ps.length≤8∧ps[j]?=some p∧(p.takes++[p.gives]).all isNumK=true∧SqL K H il (ws.map V.int)∧ws.length=p.takes.length∧ws.length≤p.boxes∧p.boxes≤8 ∧
 ∀(bb lv rc sd:Addr) (f:Fm) (H':Hp),f.part=j→f.at'=0→f.bx=ws.map Vl.num++List.replicate (p.boxes - ws.length) .none→f.st=[]→McAt K H' C_Frame C wt ⟨x,bb,lv,rc,sd,ms,ps,[f],[],bud,[]⟩→(∀c∈foot ⟨x,bb,lv,rc,sd,ms,ps,[f],[],bud,[]⟩,c≠x→H c=none)→KeepX [x] H H'→(∀G,MutAll H G→BkX K (foot ⟨x,bb,lv,rc,sd,ms,ps,[f],[],bud,[]⟩++G) H' bb ms ps)→Q .non H'
theorem McAt.keepG{K:Fgg}{H H':Hp}{CF C:Addr}{wt:Bool}{m:Mc}{G:List Addr}(h:McAt K H CF C wt m)(k:KeepX G H H')(mu:MutAll H G)(dj:∀c∈foot m,c∉G)(b:BkX K (foot m++G) H m.b m.ms m.ps):McAt K H' CF C wt m:=by
 obtain ⟨⟨dx,ev,h1,h2⟩,bk,lv,rc,sd,fr,nd⟩:=h
 have i0:m.ma∈foot m:=by simp [foot]
 have i1:m.lv∈foot m:=by simp [foot]
 have i2:m.rc∈foot m:=by simp [foot]
 have i3:m.sd∈foot m:=by simp [foot]
 refine ⟨⟨dx,ev,k _ _ (dj _ i0) h1,h2.keep k mu⟩,b.to (k.sub fun c hc=>List.mem_append_right _ hc) (fun c hc=>List.mem_append_left _ hc),k _ _ (dj _ i1) lv,k _ _ (dj _ i2) rc,k _ _ (dj _ i3) sd,fun f hf=>(fr f hf).keep k mu (fun c hc=>dj c ?_),nd⟩
 simp only [foot,List.mem_cons,List.mem_flatMap]
 exact .inr (.inr (.inr (.inr ⟨f,hf,hc⟩)))
theorem mcS_new{x bb lv rc sd:Addr}{ms:Mks}{ps:List Pt}{f:Fm}{bud:Int}{ws:List Int}{n:Nat}(h1:f.at'=0)(h2:f.bx=ws.map Vl.num++List.replicate n .none)(h3:f.st=[]):mcS ⟨x,bb,lv,rc,sd,ms,ps,[f],[],bud,[]⟩ f 0 ⟨[],ws.map some++List.replicate n none,[]⟩=⟨x,bb,lv,rc,sd,ms,ps,[f],[],bud,[]⟩:=by
 obtain ⟨fa,bl,sl,pt,at',bx,st⟩:=f
 dsimp only at h1 h2 h3
 subst h1; subst h2; subst h3
 unfold mcS
 simp only [List.map_append,List.map_map,List.map_replicate,List.map_nil]
 rfl
theorem LStep.sg{h:Nat}{r:Rw}{s s':LS}(k:LStep h r s s'):r.Sg:=by
 have all:∀s∈bareL,PyData.canLay0 (.str s)=true:=by decide +kernel
 cases k with
 | push _ _=>exact (by decide +kernel:PyData.canLay0 (.str "push")=true)
 | load _ _=>exact (by decide +kernel:PyData.canLay0 (.str "load")=true)
 | store _ _=>exact (by decide +kernel:PyData.canLay0 (.str "store")=true)
 | dup _ _=>exact all "dup" (by decide +kernel)
 | swap _=>exact all "swap" (by decide +kernel)
 | drop _=>exact all "drop" (by decide +kernel)
 | say _=>exact all "say" (by decide +kernel)
 | rek _ hr _ =>
  rcases hr with rfl | rfl | rfl | rfl | rfl | rfl | rfl
  ·exact all "add" (by decide +kernel)
  ·exact all "sub" (by decide +kernel)
  ·exact all "mul" (by decide +kernel)
  ·exact all "less" (by decide +kernel)
  ·exact all "same" (by decide +kernel)
  ·exact all "div" (by decide +kernel)
  ·exact all "rem" (by decide +kernel)
theorem Gr.sg{h nb:Nat}{s0:LS}{rs:List Rw}{sts:List LS}(g:Gr h nb s0 rs sts):∀r∈rs,r.Sg:=fun r hr=>by
 obtain ⟨i,hi,rfl⟩:=List.mem_iff_getElem.mp hr
 have l:=g.len
 exact (g.stp i rs[i] sts[i] sts[i + 1] (gee hi) (gee (by omega)) (gee (by omega))).sg
theorem rows_ok{rs:List Rw}(h:∀r∈rs,r.Sg):PySem.SeqAt.shaped (.list (rs.map rwD))=true:=by
 have r:=lay_mapS rs (fun r hr=>rw_lay r (h r hr))
 show (PyData.canLayAll0 (rs.map rwD)&&decide (PyData.depthAll (rs.map rwD) + 1≤64))=true
 rw [r.1,decide_eq_true (by have:=r.2; omega)]
 rfl
theorem row_ok{r:Rw}(h:r.Sg):PySem.SeqAt.shaped (rwD r)=true:=by
 have r':=rw_lay r h
 show (PyData.canLay0 (rwD r)&&decide (PyData.depth (rwD r)≤64))=true
 rw [r'.1,decide_eq_true (by have:=r'.2; omega)]
 rfl
theorem notin{H:Hp}{G:List Addr}{c:Addr}(m:MutAll H G)(n:H c=none):c∉G:=fun z=>by
 obtain ⟨o,e,_⟩:=m c z
 rw [n] at e
 cases e
theorem wf1:Wf [(none,[])]:=⟨by decide,by decide,fun m h=>by cases h; rfl,fun i m h z=>by
 cases i with
 | zero=>omega
 | succ i=>cases h⟩
theorem rows_self{rs:List Rw}(h:∀r∈rs,r.Sg):PyData.eqv (.list (rs.map rwD)) (.list (rs.map rwD))=true:=PySem.SeqAt.eqv_refl _ (PySem.SeqAt.canLay_of_shaped (rows_ok h))
theorem ps_facts{part k2:Nat}{O M:Pt}(h:part < 3)(h2:k2 < 2):(List.replicate part O++[M]++List.replicate k2 O).length≤8∧(List.replicate part O++[M]++List.replicate k2 O)[part]?=some M:=by
 refine ⟨by simp; omega,?_⟩
 rw [List.append_assoc,List.getElem?_append_right (by simp)]
 simp
theorem nums_all(n:Nat):((List.replicate n Kd.num)++[Kd.num]).all isNumK=true:=by
 rw [List.all_append,List.all_replicate]
 split <;> rfl
theorem MutAll.same{H H':Hp}{F:List Addr}(m:MutAll H F)(s:Same H H'):MutAll H' F:=fun c hc=>by
 obtain ⟨o,e,z⟩:=m c hc
 exact ⟨o,s _ _ e,z⟩
theorem made_same{H H':Hp}{x dx C:Addr}(nx:H x=none)(ndx:H dx=none)(ne:dx≠x)(k:KeepX [x] (upd (upd H dx (.own x)) x (.ins C dx [])) H'):Same H (upd (upd H dx (.own x)) x (.ins C dx []))∧Same H H':=by
 have y:Same H (upd (upd H dx (.own x)) x (.ins C dx [])):=(sN ndx _).trans (sN ((uN ne.symm).trans nx) _)
 exact ⟨y,fun c o e=>k c o (fun z=>nN e nx (msp z)) (y c o e)⟩
theorem rd_rows{K:Fgg}{H:Hp}{l:Addr}{zs:List V}{rs:List Rw}(g:SqL K H l zs)(h:PIt (RwX K H) zs rs):RdV K H (.ref l) (.list (rs.map rwD)):=by
 refine .lst' g (RdAll.of h.1 fun j r hr=>?_)
 have hj:j < zs.length:=by rw [h.1]; exact (List.getElem?_eq_some_iff.mp hr).1
 obtain ⟨t,e1,e2⟩:=h.2 j zs[j] r (gee hj) hr
 exact ⟨_,gee hj,by rw [e1]; exact rd_rw e2⟩
def sp_law(K:Fgg):Sp:=fun vs H Q _=>∃(a:Addr) (ns:List Int),vs=[.ref a]∧SqL K H a (ns.map V.int)∧ns.length≤63∧∀H',Q (.bl true) H'
section
variable {P:Program} {w:World} {K:Fgg} {mg:Str→Option Value} {base:Heap}
theorem sc__law_cell:FnScope ["_law_script","_law_k","_law_far","_law_cell_here"] ["_law_script","_law_k"] (dS s_law_cell):=by walk_at "sc"
theorem ok__law_cell{f:Addr}{fd:FuncData}(F:Fun K "_law_cell" "_law_cell" s_law_cell f fd)(z_len:mg "len"=none){C_Frame:Addr}(ac_Frame:AC_Frame K C_Frame):FnOk P w K mg base CX0 1 f fd ["_law_script","_law_k"] (sp_law_cell K):=by
 refine F.ok sc__law_cell (fun vs H Q E h=>?_) (fun cdv A outer s H vs Q E hr h=>?_)
 ·obtain ⟨a,ns,k,rfl,hS,h0,h1,q⟩:=h
  rfl
 obtain ⟨a,ns,k,rfl,hS,h0,h1,q⟩:=h
 refine ⟨_,(qK (ps_if (tR op_lt (pv 1) (pe_callB call_len_seq rfl z_len bt_len (pK (pv 0) pN)) (nomark _)) (qO (ps_ret (pe_ix ix_list (pv 0) (pv 1) (fun _ _=>rfl)))) pss_nil)
   (qK (ps_set (i:=2) sc__law_cell.nd rfl (Or.inl rfl) (pe_op op_mul pI (pe_op op_add (pv 1) pI)))
   (qK (ps_for PassesOwn.never rfl (pi_list (pe_slice sl_list (pv 0) po_none (po_some pI))) (pg_name (i:=3) sc__law_cell.nd rfl (Or.inl rfl)) (qO (ps_set (i:=2) sc__law_cell.nd rfl (Or.inl rfl) (pe_op op_add (pe_op op_mul (pv 2) pI) (pe_op op_mod (pv 3) pI)))))
   (qO (ps_ret (pe_op op_mod (pe_op op_mulB (pv 2) (pv 2)) pI)))))),?_⟩
 refine ⟨_,rfl,_,rfl,a,_,rfl,.inl hS,_,_,rfl,rfl,_,rfl,?_⟩
 refine ite2 (fun c=>?_) (fun c=>?_)
 ·have c':k < (((ns.map V.int).length:Nat):Int):=of_decide_eq_true c
  rw [List.length_map] at c'
  have hk:k.toNat < ns.length:=by omega
  have ek:((k.toNat:Nat):Int)=k:=by omega
  refine ⟨_,rfl,_,rfl,a,_,_,_,rfl,rfl,hS,(?_:atI (ns.map V.int) k=some (.int ns[k.toNat])),q _ _ (Same.refl _)⟩
  have z:atI (ns.map V.int) ((k.toNat:Nat):Int)=some (.int ns[k.toNat]):=aN (by rw [List.getElem?_map,gee hk]; rfl)
  rw [ek] at z
  exact z
 ·walk_at "rd"
  refine ⟨a,_,rfl,hS,fun p hp=>?_⟩
  refine ⟨p,rfl,⟨_,SqL.of uS⟩,?_⟩
  have sm:Same H (upd H p (.lst (cutV (ns.map V.int) none (some 8)))):=fun b o e=>by rw [uN (nN e hp)]; exact e
  rw [cut8] at sm ⊢
  refine for_list (xs:=(ns.take 8).map V.int) (fun i σ H2=>∃(far:Int) (v:Option V),σ=[some (.ref a),some (.int k),some (.int far),v]∧H2=upd H p (.lst ((ns.take 8).map V.int))∧0≤far∧far < 2000000000 * (32:Int) ^ i) ?_ ?_ ?_ ?_
  ·exact ⟨_,none,rfl,rfl,by omega,by simp; omega⟩
  ·rintro i σ H2 hi ⟨far,v,rfl,rfl,_⟩
   exact SqL.of uS
  ·rintro i y σ H2 hi ⟨far,v,rfl,rfl,f0,f1⟩
   obtain ⟨z,rfl⟩:∃z,y=V.int z:=by
    rw [List.getElem?_map] at hi
    cases e:(ns.take 8)[i]? with
    | none=>rw [e] at hi; cases hi
    | some z=>rw [e] at hi; exact ⟨z,(Option.some.inj hi).symm⟩
   have hp1:(1:Int)≤32 ^ i:=by
    have:=Int.pow_pos (n:=32) (m:=i) (by decide)
    omega
   have hm0:=Int.emod_nonneg z (show (1000033:Int)≠0 by decide)
   have hm1:=Int.emod_lt_of_pos z (show (0:Int) < 1000033 by decide)
   walk_at "rd"
   rw [Int.pow_succ]
   omega
  ·rintro σ H2 ⟨far,v,rfl,rfl,f0,f1⟩
   have hl:((ns.take 8).map V.int).length≤8:=by simp; omega
   have hp8:(32:Int) ^ ((ns.take 8).map V.int).length≤32 ^ 8:=by
    have:=Nat.pow_le_pow_right (n:=32) (by decide) hl
    exact_mod_cast this
   have e8:(32:Int) ^ 8=1099511627776:=by decide
   rw [e8] at hp8
   refine ⟨_,rfl,_,rfl,_,_,rfl,rfl,⟨⟨by omega,by omega⟩,by omega,by omega⟩,_,_,rfl,rfl,(by show (0:Int) < 998244353; decide),q _ _ sm⟩
theorem sc__law_wrapped:FnScope ["_law_number"] ["_law_number"] (dS s_law_wrapped):=by walk_at "sc"
theorem ok__law_wrapped{f:Addr}{fd:FuncData}(F:Fun K "_law_wrapped" "_law_wrapped" s_law_wrapped f fd){C_Frame:Addr}(ac_Frame:AC_Frame K C_Frame):FnOk P w K mg base CX0 1 f fd ["_law_number"] (sp_law_wrapped K):=by
 refine F.ok sc__law_wrapped (fun vs H Q E h=>?_) (fun cdv A outer s H vs Q E hr h=>?_)
 ·obtain ⟨n,rfl,q⟩:=h
  rfl
 obtain ⟨n,rfl,q⟩:=h
 refine ⟨_,(qO (ps_ret (pe_op op_sub (pe_op op_mod (pe_op op_add (pv 0) pI) pI) pI))),?_⟩
 walk_at "rd"
 exact q
theorem sc__law_reckoned:FnScope ["_law_sign","_law_one","_law_other"] ["_law_sign","_law_one","_law_other"] (dS s_law_reckoned):=by walk_at "sc"
theorem ok__law_reckoned{f:Addr}{fd:FuncData}(F:Fun K "_law_reckoned" "_law_reckoned" s_law_reckoned f fd)(z_int:mg "int"=none){C_Frame:Addr}(ac_Frame:AC_Frame K C_Frame)(h__law_wrapped:Has P w K mg base CX0 "_law_wrapped" 1 ["_law_number"] (sp_law_wrapped K)):FnOk P w K mg base CX0 2 f fd ["_law_sign","_law_one","_law_other"] (sp_law_reckoned K):=by
 refine F.ok sc__law_reckoned (fun vs H Q E h=>?_) (fun cdv A outer s H vs Q E hr h=>?_)
 ·obtain ⟨sign,a,b,rfl,hp,ha,hb,hz,q⟩:=h
  rfl
 obtain ⟨sign,a,b,rfl,hp,ha,hb,hz,q⟩:=h
 refine ⟨_,(qK (ps_if (tR op_eq (pv 0) pe_str (nomark _)) (qO (ps_ret (pe_ch h__law_wrapped (hr.mono (by decide)) rfl (pK (pe_op op_add (pv 1) (pv 2)) pN)))) pss_nil)
   (qK (ps_if (tR op_eq (pv 0) pe_str (nomark _)) (qO (ps_ret (pe_ch h__law_wrapped (hr.mono (by decide)) rfl (pK (pe_op op_sub (pv 1) (pv 2)) pN)))) pss_nil)
   (qK (ps_if (tR op_eq (pv 0) pe_str (nomark _)) (qO (ps_ret (pe_ch h__law_wrapped (hr.mono (by decide)) rfl (pK (pe_op op_mul (pv 1) (pv 2)) pN)))) pss_nil)
   (qK (ps_if (tR op_eq (pv 0) pe_str (nomark _)) (qO (ps_ret (pe_ch h__law_wrapped (hr.mono (by decide)) rfl (pK (pe_op op_fdivL (pv 1) (pv 2)) pN)))) pss_nil)
   (qK (ps_if (tR op_eq (pv 0) pe_str (nomark _)) (qO (ps_ret (pe_op op_modN (pv 1) (pv 2)))) pss_nil)
   (qK (ps_if (tR op_eq (pv 0) pe_str (nomark _)) (qO (ps_ret (pe_callTy call_int1 rfl z_int bt_int (pK (pe_cmpR op_lt (pv 1) (pv 2) (nomark _)) pN)))) pss_nil)
   (qO (ps_ret (pe_callTy call_int1 rfl z_int bt_int (pK (pe_cmpR op_eq (pv 1) (pv 2) (nomark _)) pN)))))))))),?_⟩
 rcases hp with rfl | rfl | rfl | rfl | rfl | rfl | rfl
 ·refine ⟨_,rfl,rfl,_,rfl,ifY rfl ?_⟩
  rw [rk_add] at q
  exact ⟨_,rfl,_,rfl,_,_,rfl,rfl,_,rfl,q⟩
 ·refine ⟨_,rfl,rfl,_,rfl,ifN (by decide +kernel) ?_⟩
  refine ⟨_,rfl,rfl,_,rfl,ifY rfl ?_⟩
  rw [rk_sub] at q
  exact ⟨_,rfl,_,rfl,_,_,rfl,rfl,_,rfl,q⟩
 ·refine ⟨_,rfl,rfl,_,rfl,ifN (by decide +kernel) ?_⟩
  refine ⟨_,rfl,rfl,_,rfl,ifN (by decide +kernel) ?_⟩
  refine ⟨_,rfl,rfl,_,rfl,ifY rfl ?_⟩
  have hm:CMul a b:=.inl ⟨by unfold inW at ha; omega,by unfold inW at ha; omega⟩
  rw [rk_mul] at q
  exact ⟨_,rfl,_,rfl,_,_,rfl,rfl,hm,_,rfl,q⟩
 ·refine ⟨_,rfl,rfl,_,rfl,ifN (by decide +kernel) ?_⟩
  refine ⟨_,rfl,rfl,_,rfl,ifN (by decide +kernel) ?_⟩
  refine ⟨_,rfl,rfl,_,rfl,ifN (by decide +kernel) ?_⟩
  refine ⟨_,rfl,rfl,_,rfl,ifN (by decide +kernel) ?_⟩
  refine ⟨_,rfl,rfl,_,rfl,ifN (by decide +kernel) ?_⟩
  refine ⟨_,rfl,rfl,_,rfl,ifY rfl ?_⟩
  refine ⟨_,rfl,_,rfl,_,_,rfl,rfl,.inr ⟨_,rfl,?_⟩⟩
  rw [rk_less] at q
  simp only [decide_eq_true_eq]
  exact q
 ·refine ⟨_,rfl,rfl,_,rfl,ifN (by decide +kernel) ?_⟩
  refine ⟨_,rfl,rfl,_,rfl,ifN (by decide +kernel) ?_⟩
  refine ⟨_,rfl,rfl,_,rfl,ifN (by decide +kernel) ?_⟩
  refine ⟨_,rfl,rfl,_,rfl,ifN (by decide +kernel) ?_⟩
  refine ⟨_,rfl,rfl,_,rfl,ifN (by decide +kernel) ?_⟩
  refine ⟨_,rfl,rfl,_,rfl,ifN (by decide +kernel) ?_⟩
  rw [rk_same] at q
  refine ⟨_,rfl,_,rfl,rfl,.inr ⟨_,rfl,?_⟩⟩
  simp only [decide_eq_true_eq,V.int.injEq]
  exact q
 ·refine ⟨_,rfl,rfl,_,rfl,ifN (by decide +kernel) ?_⟩
  refine ⟨_,rfl,rfl,_,rfl,ifN (by decide +kernel) ?_⟩
  refine ⟨_,rfl,rfl,_,rfl,ifN (by decide +kernel) ?_⟩
  refine ⟨_,rfl,rfl,_,rfl,ifY rfl ?_⟩
  have hb':CDivL a b:=⟨hz (.inl rfl),by unfold inW at hb; omega⟩
  rw [rk_div] at q
  exact ⟨_,rfl,_,rfl,_,_,rfl,rfl,hb',_,rfl,q⟩
 ·refine ⟨_,rfl,rfl,_,rfl,ifN (by decide +kernel) ?_⟩
  refine ⟨_,rfl,rfl,_,rfl,ifN (by decide +kernel) ?_⟩
  refine ⟨_,rfl,rfl,_,rfl,ifN (by decide +kernel) ?_⟩
  refine ⟨_,rfl,rfl,_,rfl,ifN (by decide +kernel) ?_⟩
  refine ⟨_,rfl,rfl,_,rfl,ifY rfl ?_⟩
  rw [rk_rem] at q
  exact ⟨_,rfl,_,rfl,_,_,rfl,rfl,hz (.inr rfl),q⟩
theorem sc__law_done:FnScope ["_law_stack","_law_boxes","_law_said","_law_row_here","_law_other"] ["_law_stack","_law_boxes","_law_said","_law_row_here"] (dS s_law_done):=by walk_at "sc"
theorem ok__law_done{f:Addr}{fd:FuncData}(F:Fun K "_law_done" "_law_done" s_law_done f fd)(z_list:mg "list"=none){C_Frame:Addr}(ac_Frame:AC_Frame K C_Frame)(h__law_reckoned:Has P w K mg base CX0 "_law_reckoned" 2 ["_law_sign","_law_one","_law_other"] (sp_law_reckoned K)):FnOk P w K mg base CX0 3 f fd ["_law_stack","_law_boxes","_law_said","_law_row_here"] (sp_law_done K):=by
 refine F.ok sc__law_done (fun vs H Q E h=>?_) (fun cdv A outer s H vs Q E hr h=>?_)
 ·obtain ⟨sa,ba,da,rt,st,st',r,h,rfl,hS,hB,hD,hR,hK,hw,h100,hd100,q⟩:=h
  rfl
 obtain ⟨sa,ba,da,rt,st,st',r,h,rfl,hS,hB,hD,hR,hK,hw,h100,hd100,q⟩:=h
 refine ⟨_,(qK (ps_set (i:=0) sc__law_done.nd rfl (Or.inl rfl) (pe_callTy call_list_of rfl z_list bt_list (pK (pv 0) pN)))
   (qK (ps_set (i:=1) sc__law_done.nd rfl (Or.inl rfl) (pe_callTy call_list_of rfl z_list bt_list (pK (pv 1) pN)))
   (qK (ps_set (i:=2) sc__law_done.nd rfl (Or.inl rfl) (pe_callTy call_list_of rfl z_list bt_list (pK (pv 2) pN)))
   (qK (ps_if (tR op_eq (pe_ix ix_tup (pv 3) pI (fun _ _=>rfl)) pe_str (nomark _)) (qO (ps_expr (pe_bm PySem.F.plainAttrs_list PySem.F.slot_list_append PySem.F.type_list_append mt_append (pv 0) (pK (pe_ix ix_tup (pv 3) pI (fun _ _=>rfl)) pN)))) (qO (ps_if (tR op_eq (pe_ix ix_tup (pv 3) pI (fun _ _=>rfl)) pe_str (nomark _)) (qO (ps_expr (pe_bm PySem.F.plainAttrs_list PySem.F.slot_list_append PySem.F.type_list_append mt_append (pv 0) (pK (pe_ix ix_list (pv 1) (pe_ix ix_tup (pv 3) pI (fun _ _=>rfl)) (fun _ _=>rfl)) pN)))) (qO (ps_if (tR op_eq (pe_ix ix_tup (pv 3) pI (fun _ _=>rfl)) pe_str (nomark _)) (qO (ps_asg (pe_bm0 PySem.F.plainAttrs_list PySem.F.slot_list_pop PySem.F.type_list_pop mt_pop (pv 0)) (pg_sub (pv 1) (pe_ix ix_tup (pv 3) pI (fun _ _=>rfl)) set_list))) (qO (ps_if (tR op_eq (pe_ix ix_tup (pv 3) pI (fun _ _=>rfl)) pe_str (nomark _)) (qO (ps_expr (pe_bm PySem.F.plainAttrs_list PySem.F.slot_list_append PySem.F.type_list_append mt_append (pv 0) (pK (pe_ix ix_list (pv 0) (pe_un un_neg pI) (fun _ _=>rfl)) pN)))) (qO (ps_if (tR op_eq (pe_ix ix_tup (pv 3) pI (fun _ _=>rfl)) pe_str (nomark _)) (qO (ps_set (i:=0) sc__law_done.nd rfl (Or.inl rfl) (pe_op op_catS (pe_slice sl_list (pv 0) po_none (po_some (pe_un un_neg pI))) (pe_lst (pK (pe_ix ix_list (pv 0) (pe_un un_neg pI) (fun _ _=>rfl)) (pK (pe_ix ix_list (pv 0) (pe_un un_neg pI) (fun _ _=>rfl)) pN)))))) (qO (ps_if (tR op_eq (pe_ix ix_tup (pv 3) pI (fun _ _=>rfl)) pe_str (nomark _)) (qO (ps_expr (pe_bm0 PySem.F.plainAttrs_list PySem.F.slot_list_pop PySem.F.type_list_pop mt_pop (pv 0)))) (qO (ps_if (tR op_eq (pe_ix ix_tup (pv 3) pI (fun _ _=>rfl)) pe_str (nomark _)) (qO (ps_expr (pe_bm PySem.F.plainAttrs_list PySem.F.slot_list_append PySem.F.type_list_append mt_append (pv 2) (pK (pe_bm0 PySem.F.plainAttrs_list PySem.F.slot_list_pop PySem.F.type_list_pop mt_pop (pv 0)) pN)))) (qK (ps_set (i:=4) sc__law_done.nd rfl (Or.inl rfl) (pe_bm0 PySem.F.plainAttrs_list PySem.F.slot_list_pop PySem.F.type_list_pop mt_pop (pv 0)))
   (qO (ps_expr (pe_bm PySem.F.plainAttrs_list PySem.F.slot_list_append PySem.F.type_list_append mt_append (pv 0) (pK (pe_ch h__law_reckoned (hr.mono (by decide)) rfl (pK (pe_ix ix_tup (pv 3) pI (fun _ _=>rfl)) (pK (pe_bm0 PySem.F.plainAttrs_list PySem.F.slot_list_pop PySem.F.type_list_pop mt_pop (pv 0)) (pK (pv 4) pN)))) pN))))))))))))))))))
   (qO (ps_ret (pe_tup (pK (pv 0) (pK (pv 1) (pK (pv 2) pN)))))))))),?_⟩
 refine ⟨_,rfl,sa,_,rfl,.inl hS,fun a1 n1=>?_⟩
 have s1:=sN n1 (.lst (st.st.map optV))
 refine ⟨_,rfl,ba,_,rfl,.inl (s1.seq hB),fun a2 n2=>?_⟩
 have s2:=sN n2 (.lst (st.bx.map optV))
 refine ⟨_,rfl,da,_,rfl,.inl ((s1.trans s2).seq hD),fun a3 n3=>?_⟩
 have s3:=sN n3 (.lst (st.sd.map V.int))
 have g1:=uS (H:=H) (a:=a1) (o:=.lst (st.st.map optV))
 have g2:=uS (H:=upd H a1 (.lst (st.st.map optV))) (a:=a2) (o:=.lst (st.bx.map optV))
 have T:Th H (upd (upd (upd H a1 (.lst (st.st.map optV))) a2 (.lst (st.bx.map optV))) a3 (.lst (st.sd.map V.int))) a1 a2 a3 st:=⟨s1.trans (s2.trans s3),n1,s1.free n2,(s1.trans s2).free n3,nN g1 n2,nN (s2 _ _ g1) n3,nN g2 n3,s3 _ _ (s2 _ _ g1),s3 _ _ g2,uS⟩
 generalize upd (upd (upd H a1 (.lst (st.st.map optV))) a2 (.lst (st.bx.map optV))) a3 (.lst (st.sd.map V.int))=H3 at T ⊢
 clear s1 s2 s3 g1 g2 n1 n2 n3
 have R3:=T.s'.tup hR
 dsimp only [gName]
 refine tSeq_hide (fun R kk=>?_)
 have fin:∀o4 H4 b1,Th H H4 b1 a2 a3 st'→R [some (.ref b1),some (.ref a2),some (.ref a3),some (.ref rt),o4] H4:=fun o4 H4 b1 T4=>kk _ _ (by
  refine ⟨_,rfl,_,rfl,_,rfl,sz3,fun t ht=>?_⟩
  have s4:=sN ht (.tup [.ref b1,.ref a2,.ref a3])
  exact q t b1 a2 a3 _ (T4.s'.trans s4) uS T4.na T4.nb T4.nd (T4.s'.free ht) (s4 _ _ T4.ga) (s4 _ _ T4.gb) (s4 _ _ T4.gd))
 clear kk
 cases hK with
 | push hh hi =>
  rename_i w
  refine ⟨_,rfl,rt,_,_,_,rfl,rfl,R3,aN (j:=0) rfl,rfl,_,rfl,ifY rfl ?_⟩
  refine ⟨_,rfl,.inl ⟨rfl,_,SqL.of T.ga⟩,_,rfl,rt,_,_,_,rfl,rfl,R3,aN (j:=1) rfl,a1,_,_,rfl,rfl,T.ga,sK (by rw [List.length_map]; omega),?_⟩
  exact fin none _ a1 (T.st (by rw [List.map_append]; rfl))
 | load hh hx =>
  rename_i b x
  refine ⟨_,rfl,rt,_,_,_,rfl,rfl,R3,aN (j:=0) rfl,rfl,_,rfl,ifN (show ¬ V.str "load"=V.str "push" by decide +kernel) ?_⟩
  refine ⟨_,rfl,rt,_,_,_,rfl,rfl,R3,aN (j:=0) rfl,rfl,_,rfl,ifY rfl ?_⟩
  refine ⟨_,rfl,.inl ⟨rfl,_,SqL.of T.ga⟩,_,rfl,_,rfl,rt,_,_,_,rfl,rfl,R3,aN (j:=1) rfl,a2,_,_,_,rfl,rfl,SqL.of T.gb,aN (by rw [List.getElem?_map,hx]; rfl),a1,_,_,rfl,rfl,T.ga,sK (by rw [List.length_map]; omega),?_⟩
  exact fin none _ a1 (T.st (by rw [List.map_append]; rfl))
 | store hst hb =>
  rename_i b lo x
  refine ⟨_,rfl,rt,_,_,_,rfl,rfl,R3,aN (j:=0) rfl,rfl,_,rfl,ifN (show ¬ V.str "store"=V.str "push" by decide +kernel) ?_⟩
  refine ⟨_,rfl,rt,_,_,_,rfl,rfl,R3,aN (j:=0) rfl,rfl,_,rfl,ifN (show ¬ V.str "store"=V.str "load" by decide +kernel) ?_⟩
  refine ⟨_,rfl,rt,_,_,_,rfl,rfl,R3,aN (j:=0) rfl,rfl,_,rfl,ifY rfl ?_⟩
  have ga:=T.ga
  rw [hst,List.map_append] at ga
  refine ⟨_,rfl,.inl ⟨rfl,_,SqL.of ga⟩,a1,_,optV x,rfl,rfl,ga,last_at,?_⟩
  have T:=T.st (xs:=(lo.map optV++[optV x]).dropLast) (l:=lo) (by rw [List.dropLast_concat])
  have R4:=T.s'.tup hR
  refine ⟨_,rfl,_,rfl,rt,_,_,_,rfl,rfl,R4,aN (j:=1) rfl,a2,_,_,b,rfl,rfl,T.gb,ixN_nat (by show b < (st.bx.map optV).length; rw [List.length_map]; exact hb),?_⟩
  exact fin none _ a1 (T.bx map_set)
 | dup hst hh =>
  rename_i lo x
  refine ⟨_,rfl,rt,_,_,_,rfl,rfl,R3,aN (j:=0) rfl,rfl,_,rfl,ifN (by decide +kernel) ?_⟩
  refine ⟨_,rfl,rt,_,_,_,rfl,rfl,R3,aN (j:=0) rfl,rfl,_,rfl,ifN (by decide +kernel) ?_⟩
  refine ⟨_,rfl,rt,_,_,_,rfl,rfl,R3,aN (j:=0) rfl,rfl,_,rfl,ifN (by decide +kernel) ?_⟩
  refine ⟨_,rfl,rt,_,_,_,rfl,rfl,R3,aN (j:=0) rfl,rfl,_,rfl,ifY rfl ?_⟩
  have ga:=T.ga
  rw [hst,List.map_append] at ga
  refine ⟨_,rfl,.inl ⟨rfl,_,SqL.of ga⟩,_,rfl,_,rfl,a1,_,_,_,rfl,rfl,SqL.of ga,atI_neg1,a1,_,_,rfl,rfl,T.ga,sK (by rw [List.length_map]; omega),?_⟩
  exact fin none _ a1 (T.st (by rw [List.map_append]; rfl))
 | swap hst =>
  rename_i lo x y
  refine ⟨_,rfl,rt,_,_,_,rfl,rfl,R3,aN (j:=0) rfl,rfl,_,rfl,ifN (by decide +kernel) ?_⟩
  refine ⟨_,rfl,rt,_,_,_,rfl,rfl,R3,aN (j:=0) rfl,rfl,_,rfl,ifN (by decide +kernel) ?_⟩
  refine ⟨_,rfl,rt,_,_,_,rfl,rfl,R3,aN (j:=0) rfl,rfl,_,rfl,ifN (by decide +kernel) ?_⟩
  refine ⟨_,rfl,rt,_,_,_,rfl,rfl,R3,aN (j:=0) rfl,rfl,_,rfl,ifN (by decide +kernel) ?_⟩
  refine ⟨_,rfl,rt,_,_,_,rfl,rfl,R3,aN (j:=0) rfl,rfl,_,rfl,ifY rfl ?_⟩
  have ga:H3 a1=some (.lst (lo.map optV++[optV x,optV y])):=by have z:=T.ga; rw [hst,List.map_append] at z; exact z
  refine ⟨_,rfl,_,rfl,_,rfl,a1,_,rfl,SqL.of ga,fun p hp=>?_⟩
  have s5:=sN hp (.lst (cutV (lo.map optV++[optV x,optV y]) none (some (-2))))
  have g5:=uS (H:=H3) (a:=p) (o:=.lst (cutV (lo.map optV++[optV x,optV y]) none (some (-2))))
  generalize upd H3 p _=H5 at s5 g5 ⊢
  rw [cut_two] at g5
  have ga5:=s5 _ _ ga
  refine ⟨_,rfl,_,rfl,a1,_,_,_,rfl,rfl,SqL.of ga5,atI_neg1',_,rfl,_,rfl,a1,_,_,_,rfl,rfl,SqL.of ga5,atI_neg2,sz2,fun p2 hp2=>?_⟩
  have s6:=sN hp2 (.lst [optV y,optV x])
  have g6:=uS (H:=H5) (a:=p2) (o:=.lst [optV y,optV x])
  generalize upd H5 p2 _=H6 at s6 g6 ⊢
  have ll:lo.length≤100:=by rw [hst] at h100; simp at h100; omega
  refine ⟨p,p2,_,_,rfl,rfl,SqL.of (s6 _ _ g5),SqL.of g6,Nat.le_of_lt (sK (by rw [List.length_map]; show lo.length + 2≤1000; omega)),fun p3 hp3=>?_⟩
  have s7:=sN hp3 (.lst (lo.map optV++[optV y,optV x]))
  have S7:=s5.trans (s6.trans s7)
  refine fin none _ p3 ⟨T.s'.trans S7,(T.s'.trans (s5.trans s6)).free hp3,T.nb,T.nd,(nN (s6 _ _ (s5 _ _ T.gb)) hp3).symm,(nN (s6 _ _ (s5 _ _ T.gd)) hp3).symm,T.bd,?_,S7 _ _ T.gb,S7 _ _ T.gd⟩
  rw [uS,List.map_append]
  rfl
 | drop hst =>
  rename_i lo x
  refine ⟨_,rfl,rt,_,_,_,rfl,rfl,R3,aN (j:=0) rfl,rfl,_,rfl,ifN (by decide +kernel) ?_⟩
  refine ⟨_,rfl,rt,_,_,_,rfl,rfl,R3,aN (j:=0) rfl,rfl,_,rfl,ifN (by decide +kernel) ?_⟩
  refine ⟨_,rfl,rt,_,_,_,rfl,rfl,R3,aN (j:=0) rfl,rfl,_,rfl,ifN (by decide +kernel) ?_⟩
  refine ⟨_,rfl,rt,_,_,_,rfl,rfl,R3,aN (j:=0) rfl,rfl,_,rfl,ifN (by decide +kernel) ?_⟩
  refine ⟨_,rfl,rt,_,_,_,rfl,rfl,R3,aN (j:=0) rfl,rfl,_,rfl,ifN (by decide +kernel) ?_⟩
  refine ⟨_,rfl,rt,_,_,_,rfl,rfl,R3,aN (j:=0) rfl,rfl,_,rfl,ifY rfl ?_⟩
  have ga:=T.ga
  rw [hst,List.map_append] at ga
  refine ⟨_,rfl,.inl ⟨rfl,_,SqL.of ga⟩,a1,_,optV x,rfl,rfl,ga,last_at,?_⟩
  exact fin none _ a1 (T.st (l:=lo) (by show (lo.map optV++[optV x]).dropLast=_; rw [List.dropLast_concat]))
 | say hst =>
  rename_i lo n
  refine ⟨_,rfl,rt,_,_,_,rfl,rfl,R3,aN (j:=0) rfl,rfl,_,rfl,ifN (by decide +kernel) ?_⟩
  refine ⟨_,rfl,rt,_,_,_,rfl,rfl,R3,aN (j:=0) rfl,rfl,_,rfl,ifN (by decide +kernel) ?_⟩
  refine ⟨_,rfl,rt,_,_,_,rfl,rfl,R3,aN (j:=0) rfl,rfl,_,rfl,ifN (by decide +kernel) ?_⟩
  refine ⟨_,rfl,rt,_,_,_,rfl,rfl,R3,aN (j:=0) rfl,rfl,_,rfl,ifN (by decide +kernel) ?_⟩
  refine ⟨_,rfl,rt,_,_,_,rfl,rfl,R3,aN (j:=0) rfl,rfl,_,rfl,ifN (by decide +kernel) ?_⟩
  refine ⟨_,rfl,rt,_,_,_,rfl,rfl,R3,aN (j:=0) rfl,rfl,_,rfl,ifN (by decide +kernel) ?_⟩
  refine ⟨_,rfl,rt,_,_,_,rfl,rfl,R3,aN (j:=0) rfl,rfl,_,rfl,ifY rfl ?_⟩
  have ga:=T.ga
  rw [hst,List.map_append] at ga
  refine ⟨_,rfl,.inl ⟨rfl,_,SqL.of T.gd⟩,_,rfl,.inl ⟨rfl,_,SqL.of ga⟩,a1,_,optV (some n),rfl,rfl,ga,last_at,?_⟩
  have T:=T.st (xs:=(lo.map optV++[optV (some n)]).dropLast) (l:=lo) (by rw [List.dropLast_concat])
  refine ⟨a3,_,_,rfl,rfl,T.gd,sK (by rw [List.length_map]; show st.sd.length≤1000; omega),?_⟩
  exact fin none _ a1 (T.sd (by rw [List.map_append]; rfl))
 | rek hst hr' hz =>
  rename_i sg lo a b
  refine ⟨_,rfl,rt,_,_,_,rfl,rfl,R3,aN (j:=0) rfl,rfl,_,rfl,ifN (rek_no hr' (by decide +kernel)) ?_⟩
  refine ⟨_,rfl,rt,_,_,_,rfl,rfl,R3,aN (j:=0) rfl,rfl,_,rfl,ifN (rek_no hr' (by decide +kernel)) ?_⟩
  refine ⟨_,rfl,rt,_,_,_,rfl,rfl,R3,aN (j:=0) rfl,rfl,_,rfl,ifN (rek_no hr' (by decide +kernel)) ?_⟩
  refine ⟨_,rfl,rt,_,_,_,rfl,rfl,R3,aN (j:=0) rfl,rfl,_,rfl,ifN (rek_no hr' (by decide +kernel)) ?_⟩
  refine ⟨_,rfl,rt,_,_,_,rfl,rfl,R3,aN (j:=0) rfl,rfl,_,rfl,ifN (rek_no hr' (by decide +kernel)) ?_⟩
  refine ⟨_,rfl,rt,_,_,_,rfl,rfl,R3,aN (j:=0) rfl,rfl,_,rfl,ifN (rek_no hr' (by decide +kernel)) ?_⟩
  refine ⟨_,rfl,rt,_,_,_,rfl,rfl,R3,aN (j:=0) rfl,rfl,_,rfl,ifN (rek_no hr' (by decide +kernel)) ?_⟩
  have ga:=T.ga
  have e2:st.st.map optV=(lo.map optV++[V.int a])++[V.int b]:=by rw [hst,List.map_append]; simp [optV]
  rw [e2] at ga
  refine ⟨_,rfl,.inl ⟨rfl,_,SqL.of ga⟩,a1,_,V.int b,rfl,rfl,ga,last_at,?_⟩
  have T:=T.st (xs:=((lo.map optV++[V.int a])++[V.int b]).dropLast) (l:=lo++[some a]) (by rw [List.dropLast_concat,List.map_append]; rfl)
  have R4:=T.s'.tup hR
  generalize upd H3 a1 _=H4 at T R4 ⊢
  have ga4:=T.ga
  rw [show (lo++[some a]).map optV=lo.map optV++[V.int a] by rw [List.map_append]; rfl] at ga4
  have wa:=hw a (by rw [hst]; simp)
  have wb:=hw b (by rw [hst]; simp)
  refine ⟨_,rfl,.inl ⟨rfl,_,SqL.of ga4⟩,_,rfl,rt,_,_,_,rfl,rfl,R4,aN (j:=0) rfl,_,rfl,.inl ⟨rfl,_,SqL.of ga4⟩,a1,_,V.int a,rfl,rfl,ga4,last_at,_,rfl,sg,a,b,rfl,hr',wa,wb,hz,?_⟩
  have T:=T.st (xs:=(lo.map optV++[V.int a]).dropLast) (l:=lo) (by rw [List.dropLast_concat])
  have ll:lo.length≤100:=by rw [hst] at h100; simp at h100; omega
  refine ⟨a1,_,_,rfl,rfl,T.ga,sK (by rw [List.length_map]; show lo.length≤1000; omega),?_⟩
  exact fin _ _ a1 (T.st (by rw [List.map_append]; rfl))
theorem sc__law_fit:FnScope ["_law_stack","_law_height","_law_some"] ["_law_stack","_law_height"] (dS s_law_fit):=by walk_at "sc"
theorem ok__law_fit{f:Addr}{fd:FuncData}(F:Fun K "_law_fit" "_law_fit" s_law_fit f fd)(z_len:mg "len"=none){C_Frame:Addr}(ac_Frame:AC_Frame K C_Frame):FnOk P w K mg base CX0 1 f fd ["_law_stack","_law_height"] (sp_law_fit K):=by
 refine F.ok sc__law_fit (fun vs H Q E h=>?_) (fun cdv A outer s H vs Q E hr h=>?_)
 ·obtain ⟨a,l,h,rfl,hS,h1,q⟩:=h
  rfl
 obtain ⟨a,l,h,rfl,hS,h1,q⟩:=h
 refine ⟨_,(qK (ps_set (i:=2) sc__law_fit.nd rfl (Or.inl rfl) (pe_lst pN))
   (qK (ps_if (tR op_lt (pe_callB call_len_seq rfl z_len bt_len (pK (pv 0) pN)) (pv 1) (nomark _)) (qO (ps_set (i:=2) sc__law_fit.nd rfl (Or.inl rfl) (pe_lst (pK pe_str (pK pe_str (pK pe_str (pK pe_str pN))))))) pss_nil)
   (qK (ps_if (tR op_gt (pe_callB call_len_seq rfl z_len bt_len (pK (pv 0) pN)) pI (nomark _)) (qK (ps_set (i:=2) sc__law_fit.nd rfl (Or.inl rfl) (pe_op op_catS (pv 2) (pe_lst (pK pe_str (pK pe_str (pK pe_str pN))))))
   (qK (ps_if (tR op_lt (pe_callB call_len_seq rfl z_len bt_len (pK (pv 0) pN)) (pv 1) (nomark _)) (qO (ps_set (i:=2) sc__law_fit.nd rfl (Or.inl rfl) (pe_op op_catS (pv 2) (pe_lst (pK pe_str (pK pe_str pN)))))) pss_nil)
   (qO (ps_if (tR op_notN (pe_ix ix_list (pv 0) (pe_un un_neg pI) (fun _ _=>rfl)) pe_non (nomark _)) (qO (ps_expr (pe_bm PySem.F.plainAttrs_list PySem.F.slot_list_append PySem.F.type_list_append mt_append (pv 2) (pK pe_str pN)))) pss_nil)))) pss_nil)
   (qK (ps_if (tR op_gt (pe_callB call_len_seq rfl z_len bt_len (pK (pv 0) pN)) pI (nomark _)) (qK (ps_expr (pe_bm PySem.F.plainAttrs_list PySem.F.slot_list_append PySem.F.type_list_append mt_append (pv 2) (pK pe_str pN)))
   (qO (ps_if (PW.pt (pw_and (tR op_notN (pe_ix ix_list (pv 0) (pe_un un_neg pI) (fun _ _=>rfl)) pe_non (nomark _)) (pw_and1 (tR op_notN (pe_ix ix_list (pv 0) (pe_un un_neg pI) (fun _ _=>rfl)) pe_non (nomark _))))) (qK (ps_set (i:=2) sc__law_fit.nd rfl (Or.inl rfl) (pe_op op_catS (pv 2) (pe_lst (pK pe_str (pK pe_str (pK pe_str (pK pe_str (pK pe_str (pK pe_str (pK pe_str pN))))))))))
   (qO (ps_if (tR op_ne (pe_ix ix_list (pv 0) (pe_un un_neg pI) (fun _ _=>rfl)) pI (nomark _)) (qO (ps_set (i:=2) sc__law_fit.nd rfl (Or.inl rfl) (pe_op op_catS (pv 2) (pe_lst (pK pe_str (pK pe_str (pK pe_str (pK pe_str pN)))))))) pss_nil))) pss_nil))) pss_nil)
   (qO (ps_ret (pv 2))))))),?_⟩
 have ll:(l.map optV).length=l.length:=List.length_map _
 refine ⟨sz0,fun r0 h0=>?_⟩
 have s0:=sN h0 (.lst [])
 dsimp only [gName]
 refine tSeq_hide (fun R kk=>?_)
 have fin:∀r ss H1,Sm H H1 l h 4 r ss→R [some (.ref a),some (.int (h:Int)),some (.ref r)] H1:=fun r ss H1 m=>kk _ _ (by
  clear kk
  refine tSeq_hide (fun R kk=>?_)
  have fin:∀r ss H1,Sm H H1 l h 20 r ss→ss≠[]→R [some (.ref a),some (.int (h:Int)),some (.ref r)] H1:=fun r ss H1 m hne=>kk _ _ (by
   clear kk
   refine tSeq_hide (fun R kk=>?_)
   have fin:∀r ss H1,Sm H H1 l h 60 r ss→ss≠[]→R [some (.ref a),some (.int (h:Int)),some (.ref r)] H1:=fun r ss H1 m hne=>kk _ _ (by
    exact ⟨_,rfl,q r ss H1 m.s m.g hne (Nat.le_trans m.few (by decide)) m.ok⟩)
   clear kk
   refine ⟨_,rfl,a,_,rfl,.inl (m.s.seq hS),_,_,rfl,rfl,_,rfl,ite2 (fun c=>?_) (fun c=>?_)⟩
   ·have c':1 < l.length:=by have:=of_decide_eq_true c; omega
    obtain ⟨lo,x,y,hl⟩:=last2 c'
    have hS':=hS
    rw [hl,List.map_append] at hS'
    refine ⟨_,rfl,.inl ⟨rfl,_,SqL.of m.g⟩,r,_,_,rfl,rfl,m.g,sK (by rw [List.length_map]; have:=m.few; omega),?_⟩
    have m:=m.app (FitS.swap hl)
    generalize upd H1 r _=H1 at m ⊢
    refine ⟨_,rfl,_,rfl,a,_,_,_,rfl,rfl,m.s.seq hS',atI_neg1',rfl,_,rfl,ite2 (fun z=>?_) (fun z=>?_)⟩
    ·refine ⟨_,rfl,_,rfl,a,_,_,_,rfl,rfl,m.s.seq hS',atI_neg2,rfl,_,rfl,ite2 (fun z'=>?_) (fun z'=>?_)⟩
     ·obtain ⟨n,hn⟩:∃n,y=some n:=by
       cases y with
       | none=>simp [optV] at z
       | some n=>exact ⟨n,rfl⟩
      obtain ⟨k,hk⟩:∃n,x=some n:=by
       cases x with
       | none=>simp [optV] at z'
       | some n=>exact ⟨n,rfl⟩
      subst hn hk
      refine ⟨_,rfl,sz7,fun r1 h1=>?_⟩
      refine ⟨r,r1,_,_,rfl,rfl,(sN h1 _).seq (SqL.of m.g),SqL.of uS,Nat.le_of_lt (sK (by rw [List.length_map]; have:=m.few; show _ + 7≤1000; omega)),fun r2 h2=>?_⟩
      have m:=m.cat ["add","sub","mul","less","same","add","mul"] h1 h2 (fun x hx=>by
       have hd:=dv
       simp only [List.mem_cons,List.not_mem_nil,or_false] at hx
       rcases hx with rfl | rfl | rfl | rfl | rfl | rfl | rfl
       ·exact .rek hl (.inl rfl) (fun z=>absurd z hd.1)
       ·exact .rek hl (.inr (.inl rfl)) (fun z=>absurd z hd.2.1)
       ·exact .rek hl (.inr (.inr (.inl rfl))) (fun z=>absurd z hd.2.2.1)
       ·exact .rek hl (.inr (.inr (.inr (.inl rfl)))) (fun z=>absurd z hd.2.2.2.1)
       ·exact .rek hl (.inr (.inr (.inr (.inr (.inl rfl))))) (fun z=>absurd z hd.2.2.2.2)
       ·exact .rek hl (.inl rfl) (fun z=>absurd z hd.1)
       ·exact .rek hl (.inr (.inr (.inl rfl))) (fun z=>absurd z hd.2.2.1)) rfl
      generalize upd (upd H1 r1 _) r2 _=H1 at m ⊢
      refine ⟨_,rfl,_,rfl,a,_,_,_,rfl,rfl,m.s.seq hS',atI_neg1',rfl,_,rfl,ite2 (fun w=>?_) (fun w=>?_)⟩
      ·have hn:n≠0:=fun e=>by subst e; simp [optV] at w
       refine ⟨_,rfl,sz4,fun r3 h3=>?_⟩
       refine ⟨r2,r3,_,_,rfl,rfl,(sN h3 _).seq (SqL.of m.g),SqL.of uS,Nat.le_of_lt (sK (by rw [List.length_map]; have:=m.few; simp only [List.length_cons,List.length_nil] at this ⊢; omega)),fun r4 h4=>?_⟩
       have m:=m.cat ["div","rem","div","rem"] h3 h4 (fun x hx=>by
        simp only [List.mem_cons,List.not_mem_nil,or_false] at hx
        rcases hx with rfl | rfl | rfl | rfl
        ·exact .rek hl (.inr (.inr (.inr (.inr (.inr (.inl rfl)))))) (fun _=>hn)
        ·exact .rek hl (.inr (.inr (.inr (.inr (.inr (.inr rfl)))))) (fun _=>hn)
        ·exact .rek hl (.inr (.inr (.inr (.inr (.inr (.inl rfl)))))) (fun _=>hn)
        ·exact .rek hl (.inr (.inr (.inr (.inr (.inr (.inr rfl)))))) (fun _=>hn)) rfl
       exact fin _ _ _ ⟨m.s,m.fr,m.g,Nat.le_trans m.few (by decide),m.ok,m.ne⟩ (by simp)
      ·exact fin _ _ _ ⟨m.s,m.fr,m.g,Nat.le_trans m.few (by decide),m.ok,m.ne⟩ (by simp)
     ·exact fin _ _ _ ⟨m.s,m.fr,m.g,Nat.le_trans m.few (by decide),m.ok,m.ne⟩ (by simp)
    ·exact fin _ _ _ ⟨m.s,m.fr,m.g,Nat.le_trans m.few (by decide),m.ok,m.ne⟩ (by simp)
   ·exact fin r ss H1 ⟨m.s,m.fr,m.g,Nat.le_trans m.few (by decide),m.ok,m.ne⟩ hne)
  clear kk
  refine ⟨_,rfl,a,_,rfl,.inl (m.s.seq hS),_,_,rfl,rfl,_,rfl,ite2 (fun c=>?_) (fun c=>?_)⟩
  ·have c':0 < l.length:=by have:=of_decide_eq_true c; omega
   obtain ⟨lo,x,hl⟩:=last1 c'
   have hS':=hS
   rw [hl,List.map_append] at hS'
   refine ⟨_,rfl,sz3,fun r1 h1=>?_⟩
   refine ⟨r,r1,_,_,rfl,rfl,(sN h1 _).seq (SqL.of m.g),SqL.of uS,Nat.le_of_lt (sK (by rw [List.length_map]; have:=m.few; show _ + 3≤1000; omega)),fun r2 h2=>?_⟩
   have m:=m.cat ["store","drop","store"] h1 h2 (fun x hx=>by
    simp only [List.mem_cons,List.not_mem_nil,or_false] at hx
    rcases hx with rfl | rfl | rfl
    ·exact .store c'
    ·exact .drop c'
    ·exact .store c') rfl
   have hne:ss++(["store","drop","store"]:List Str)≠[]:=by simp
   generalize upd (upd H1 r1 _) r2 _=H1 at m ⊢
   generalize ss++(["store","drop","store"]:List Str)=ss at m hne ⊢
   dsimp only [gName]
   refine tSeq_hide (fun R2 k2=>?_)
   have fin2:∀r ss H1,Sm H H1 l h 12 r ss→ss≠[]→R2 [some (.ref a),some (.int (h:Int)),some (.ref r)] H1:=fun r ss H1 m hne=>k2 _ _ (by
    clear k2
    refine ⟨_,rfl,_,rfl,a,_,_,_,rfl,rfl,m.s.seq hS',atI_neg1,rfl,_,rfl,ite2 (fun z=>?_) (fun z=>?_)⟩
    ·obtain ⟨n,hn⟩:∃n,x=some n:=by
      cases x with
      | none=>simp [optV] at z
      | some n=>exact ⟨n,rfl⟩
     subst hn
     refine ⟨_,rfl,.inl ⟨rfl,_,SqL.of m.g⟩,r,_,_,rfl,rfl,m.g,sK (by rw [List.length_map]; have:=m.few; omega),?_⟩
     have m:=m.app (FitS.say hl)
     exact fin _ _ _ ⟨m.s,m.fr,m.g,Nat.le_trans m.few (by decide),m.ok,m.ne⟩ (by simp)
    ·exact fin _ _ _ ⟨m.s,m.fr,m.g,Nat.le_trans m.few (by decide),m.ok,m.ne⟩ hne)
   clear k2
   refine ⟨_,rfl,a,_,rfl,.inl (m.s.seq hS),_,rfl,_,_,rfl,rfl,_,rfl,ite2 (fun z=>?_) (fun z=>?_)⟩
   ·have z':l.length < h:=by have:=of_decide_eq_true z; omega
    refine ⟨_,rfl,sz2,fun r3 h3=>?_⟩
    refine ⟨r2,r3,_,_,rfl,rfl,(sN h3 _).seq (SqL.of m.g),SqL.of uS,Nat.le_of_lt (sK (by rw [List.length_map]; have:=m.few; simp only [List.length_cons,List.length_nil] at this ⊢; omega)),fun r4 h4=>?_⟩
    have m:=m.cat ["dup","dup"] h3 h4 (fun x hx=>by
     simp only [List.mem_cons,List.not_mem_nil,or_false] at hx
     rcases hx with rfl | rfl <;> exact .dup c' z') rfl
    exact fin2 _ _ _ ⟨m.s,m.fr,m.g,Nat.le_trans m.few (by decide),m.ok,m.ne⟩ (by simp)
   ·exact fin2 _ _ _ ⟨m.s,m.fr,m.g,Nat.le_trans m.few (by decide),m.ok,m.ne⟩ hne
  ·have c':¬ 0 < l.length:=fun z=>c (decide_eq_true (by omega))
   exact fin r ss H1 ⟨m.s,m.fr,m.g,Nat.le_trans m.few (by decide),m.ok,m.ne⟩ (m.ne (by omega)))
 clear kk
 refine ⟨_,rfl,a,_,rfl,.inl (s0.seq hS),_,rfl,_,_,rfl,rfl,_,rfl,ite2 (fun c=>?_) (fun c=>?_)⟩
 ·have c':l.length < h:=by have:=of_decide_eq_true c; omega
  refine ⟨sz4,fun r1 h1'=>fin r1 ["push","push","load","load"] _ ⟨s0.trans (sN h1' _),s0.free h1',uS,Nat.le_refl 4,fun x hx=>?_,fun _ e=>nomatch e⟩⟩
  simp only [List.mem_cons,List.not_mem_nil,or_false] at hx
  rcases hx with rfl | rfl | rfl | rfl
  ·exact .push c'
  ·exact .push c'
  ·exact .load c'
  ·exact .load c'
 ·have c':¬ l.length < h:=fun z=>c (decide_eq_true (by omega))
  exact fin r0 [] _ ⟨s0,h0,uS,Nat.zero_le _,fun x hx=>(nomatch hx),fun z=>absurd z c'⟩
theorem sc__law_word:FnScope ["_law_cell_here","_law_edge"] ["_law_cell_here"] (dS s_law_word):=by walk_at "sc"
theorem ok__law_word{f:Addr}{fd:FuncData}(F:Fun K "_law_word" "_law_word" s_law_word f fd)(z_max:mg "max"=none)(z_min:mg "min"=none){C_Frame:Addr}(ac_Frame:AC_Frame K C_Frame):FnOk P w K mg base CX0 1 f fd ["_law_cell_here"] (sp_law_word K):=by
 refine F.ok sc__law_word (fun vs H Q E h=>?_) (fun cdv A outer s H vs Q E hr h=>?_)
 ·obtain ⟨c,rfl,q⟩:=h
  rfl
 obtain ⟨c,rfl,q⟩:=h
 refine ⟨_,(qK (ps_if (tR op_eq (pe_op op_mod (pv 0) pI) pI (nomark _)) (qO (ps_ret (pe_op op_sub (pe_op op_mod (pe_op op_fdiv (pv 0) pI) pI) pI))) pss_nil)
   (qK (ps_if (tR op_eq (pe_op op_mod (pv 0) pI) pI (nomark _)) (qO (ps_ret (pe_op op_sub (pe_op op_mod (pe_op op_mul (pe_op op_fdiv (pv 0) pI) pI) pI) pI))) pss_nil)
   (qK (ps_if (tR op_eq (pe_op op_mod (pv 0) pI) pI (nomark _)) (qK (ps_set (i:=1) sc__law_word.nd rfl (Or.inl rfl) (pe_op op_sub (pe_op op_add (pe_op op_shl pI (pe_op op_mod (pe_op op_fdiv (pv 0) pI) pI)) (pe_op op_mod (pe_op op_fdiv (pv 0) pI) pI)) pI))
   (qO (ps_ret (pe_callB (call_max2 rfl) rfl z_max bt_max (pK (pe_callB (call_min2 rfl) rfl z_min bt_min (pK (pe_ix ix_list (pe_lst (pK (pv 1) (pK (pe_op op_sub pI (pv 1)) pN))) (pe_op op_mod (pe_op op_fdiv (pv 0) pI) pI) (fun _ _=>rfl)) (pK pI pN))) (pK (pe_op op_sub pI pI) pN)))))) pss_nil)
   (qO (ps_ret (pe_op op_sub (pe_op op_mod (pe_op op_fdiv (pv 0) pI) pI) pI)))))),?_⟩
 have d4:(0:Int) < 4∧(4:Int) < 1073741824:=by decide
 refine ⟨_,rfl,_,_,rfl,rfl,(by show (0:Int) < 4; decide),rfl,_,rfl,?_⟩
 refine ite2 (fun _=>?_) (fun _=>?_)
 ·refine ⟨_,rfl,_,_,rfl,rfl,d4,_,_,rfl,rfl,(by show (0:Int) < 9; decide),_,_,rfl,rfl,q _ _ (Same.refl _) ?_⟩
  show -2147483648≤c / 4 % 9 - 4∧c / 4 % 9 - 4≤2147483647
  omega
 refine ⟨_,rfl,_,_,rfl,rfl,(by show (0:Int) < 4; decide),rfl,_,rfl,?_⟩
 refine ite2 (fun _=>?_) (fun _=>?_)
 ·refine ⟨_,rfl,_,_,rfl,rfl,d4,_,_,rfl,rfl,.inr ⟨by decide,by decide⟩,_,_,rfl,rfl,(by show (0:Int) < 4294967296; decide),_,_,rfl,rfl,q _ _ (Same.refl _) ?_⟩
  show -2147483648≤c / 4 * 2654435761 % 4294967296 - 2147483648∧c / 4 * 2654435761 % 4294967296 - 2147483648≤2147483647
  omega
 refine ⟨_,rfl,_,_,rfl,rfl,(by show (0:Int) < 4; decide),rfl,_,rfl,?_⟩
 refine ite2 (fun _=>?_) (fun _=>?_)
 ·refine ⟨_,rfl,_,_,rfl,rfl,d4,_,_,rfl,rfl,(by show (0:Int) < 32; decide),_,_,rfl,rfl,⟨by show 0≤c / 4 % 32; omega,by show c / 4 % 32≤1000000; omega,by decide⟩,?_⟩
  refine ⟨_,rfl,_,_,rfl,rfl,(by show (0:Int) < 128∧(128:Int) < 1073741824; decide),_,_,rfl,rfl,(by show (0:Int) < 3; decide),_,_,rfl,rfl,_,_,rfl,rfl,?_⟩
  obtain ⟨e,he⟩:∃e:Int,e=1 * 2 ^ (c / 4 % 32).toNat + c / 128 % 3 - 1:=⟨_,rfl⟩
  refine ⟨_,rfl,_,rfl,_,_,rfl,rfl,sz2,fun l hl=>?_⟩
  have s1:=sN hl (.lst [.int (1 * 2 ^ (c / 4 % 32).toNat + c / 128 % 3 - 1),.int (0 - (1 * 2 ^ (c / 4 % 32).toNat + c / 128 % 3 - 1))])
  refine ⟨_,rfl,_,_,rfl,rfl,(by show (0:Int) < 384∧(384:Int) < 1073741824; decide),_,_,rfl,rfl,(by show (0:Int) < 2; decide),?_⟩
  obtain ⟨x,hx⟩:∃x:Int,atI [V.int e,V.int (0 - e)] (c / 384 % 2)=some (V.int x):=by
   rcases (by omega:c / 384 % 2=0∨c / 384 % 2=1) with z | z <;> rw [z]
   ·exact ⟨_,aN (j:=0) rfl⟩
   ·exact ⟨_,aN (j:=1) rfl⟩
  rw [he] at hx
  refine ⟨l,_,_,_,rfl,rfl,SqL.of uS,hx,?_⟩
  refine ⟨_,_,rfl,_,_,rfl,rfl,_,_,rfl,q _ _ s1 ?_⟩
  show -2147483648≤(if (0 - 2147483648:Int) > (if (2147483647:Int) < x then 2147483647 else x) then (0 - 2147483648:Int) else if (2147483647:Int) < x then 2147483647 else x)∧(if (0 - 2147483648:Int) > (if (2147483647:Int) < x then 2147483647 else x) then (0 - 2147483648:Int) else if (2147483647:Int) < x then 2147483647 else x)≤2147483647
  split <;> split <;> omega
 ·refine ⟨_,rfl,_,_,rfl,rfl,d4,_,_,rfl,rfl,(by show (0:Int) < 4294967296; decide),_,_,rfl,rfl,q _ _ (Same.refl _) ?_⟩
  show -2147483648≤c / 4 % 4294967296 - 2147483648∧c / 4 % 4294967296 - 2147483648≤2147483647
  omega
theorem sc__law_row:FnScope ["_law_stack","_law_boxes","_law_height","_law_cell_here","_law_other","_law_some","_law_sign"] ["_law_stack","_law_boxes","_law_height","_law_cell_here","_law_other"] (dS s_law_row):=by walk_at "sc"
theorem ok__law_row{f:Addr}{fd:FuncData}(F:Fun K "_law_row" "_law_row" s_law_row f fd)(z_int:mg "int"=none)(z_len:mg "len"=none){C_Frame:Addr}(ac_Frame:AC_Frame K C_Frame)(h__law_fit:Has P w K mg base CX0 "_law_fit" 1 ["_law_stack","_law_height"] (sp_law_fit K))(h__law_word:Has P w K mg base CX0 "_law_word" 1 ["_law_cell_here"] (sp_law_word K)):FnOk P w K mg base CX0 2 f fd ["_law_stack","_law_boxes","_law_height","_law_cell_here","_law_other"] (sp_law_row K):=by
 refine F.ok sc__law_row (fun vs H Q E h=>?_) (fun cdv A outer s H vs Q E hr h=>?_)
 ·obtain ⟨sa,ba,st,h,c,o,rfl,hS,hB,h1,hh,q⟩:=h
  rfl
 obtain ⟨sa,ba,st,h,c,o,rfl,hS,hB,h1,hh,q⟩:=h
 refine ⟨_,(qK (ps_set (i:=5) sc__law_row.nd rfl (Or.inl rfl) (pe_ch h__law_fit (hr.mono (by decide)) rfl (pK (pv 0) (pK (pv 2) pN))))
   (qK (ps_set (i:=6) sc__law_row.nd rfl (Or.inl rfl) (pe_ix ix_list (pv 5) (pe_op op_mod (pv 3) (pe_callB call_len_seq rfl z_len bt_len (pK (pv 5) pN))) (fun _ _=>rfl)))
   (qK (ps_if (PW.pt (pw_and (tR op_in_seq (pv 6) (pe_tup (pK pe_str (pK pe_str pN))) rfl) (pw_and1 (tR op_eq (pe_callB call_len_seq rfl z_len bt_len (pK (pv 1) pN)) pI (nomark _))))) (qO (ps_set (i:=6) sc__law_row.nd rfl (Or.inl rfl) (pe_ix ix_list (pe_lst (pK pe_str (pK pe_str pN))) (pe_callTy call_int1 rfl z_int bt_int (pK (pe_cmpR op_eq (pe_callB call_len_seq rfl z_len bt_len (pK (pv 0) pN)) (pv 2) (nomark _)) pN)) (fun _ _=>rfl)))) pss_nil)
   (qK (ps_if (tR op_eq (pv 6) pe_str (nomark _)) (qO (ps_ret (pe_tup (pK (pv 6) (pK (pe_ch h__law_word (hr.mono (by decide)) rfl (pK (pv 4) pN)) pN))))) pss_nil)
   (qK (ps_if (tR op_in_seq (pv 6) (pe_tup (pK pe_str (pK pe_str pN))) rfl) (qO (ps_ret (pe_tup (pK (pv 6) (pK (pe_op op_mod (pe_op op_fdiv (pv 3) pI) (pe_callB call_len_seq rfl z_len bt_len (pK (pv 1) pN))) pN))))) pss_nil)
   (qO (ps_ret (pe_tup (pK (pv 6) pN))))))))),?_⟩
 have ls:(st.st.map optV).length=st.st.length:=List.length_map _
 have lb:(st.bx.map optV).length=st.bx.length:=List.length_map _
 refine ⟨_,rfl,_,rfl,sa,st.st,h,rfl,hS,h1,fun r ss H1 s1 g1 hne h100 hok=>?_⟩
 obtain ⟨k,ek,hk⟩:=modN (e:=c) (n:=ss.length) (List.length_pos_iff.mpr hne)
 refine ⟨_,rfl,_,rfl,_,rfl,r,_,rfl,.inl (SqL.of g1),_,_,rfl,rfl,(by show (0:Int) < (((ss.map V.str).length:Nat):Int); rw [List.length_map]; omega),r,_,_,_,rfl,rfl,SqL.of g1,(show atI (ss.map V.str) (c % (((ss.map V.str).length:Nat):Int))=some (.str ss[k]) by rw [List.length_map,ek]; exact aN (by rw [List.getElem?_map,gee hk]; rfl)),?_⟩
 have hf:=hok ss[k] (List.getElem_mem hk)
 generalize ss[k]=sg at hf ⊢
 dsimp only [gName]
 refine tSeq_hide (fun R kk=>?_)
 have fin:∀(sg:Str) H2,Same H H2→FitS st.st h sg→(sg∈lsL→0 < st.bx.length)→R [some (.ref sa),some (.ref ba),some (.int (h:Int)),some (.int c),some (.int o),some (.ref r),some (.str sg)] H2:=fun sg H2 s2 f2 b2=>kk _ _ (by
  clear kk
  refine ⟨_,rfl,rfl,_,rfl,stepS (fun z=>?_) (fun z=>?_)⟩
  ·subst z
   refine ⟨_,rfl,_,rfl,o,rfl,fun n H3 s3 hn=>⟨sz2,fun t ht=>?_⟩⟩
   exact q t (.push n) _ _ (s2.trans (s3.trans (sN ht _))) (SqT.of uS) (.push (fit_pu f2) hn)
  ·refine ⟨_,rfl,sz2,fun t ht=>⟨t,_,rfl,.inr (SqT.of uS),rfl,rfl,_,rfl,?_⟩⟩
   have s3:=s2.trans (sN ht (.tup [.str "load",.str "store"]))
   generalize upd H2 t _=H3 at s3 ⊢
   show if (inV (.str sg) (lsL.map V.str))=true then _ else _
   refine stepL (fun y=>?_) (fun y=>?_)
   ·obtain ⟨j,ej,hj⟩:=modN (e:=c / 31) (n:=st.bx.length) (b2 y)
    refine ⟨_,rfl,_,rfl,_,_,rfl,rfl,(by show (0:Int) < 31∧(31:Int) < 1073741824; decide),_,rfl,ba,_,rfl,.inl (s3.seq hB),_,_,rfl,rfl,(by show (0:Int) < (((st.bx.map optV).length:Nat):Int); omega),sz2,fun t2 ht2=>?_⟩
    show Q (.ref t2) (upd H3 t2 (.tup [.str sg,.int (c / 31 % (((st.bx.map optV).length:Nat):Int))]))
    rw [show c / 31 % (((st.bx.map optV).length:Nat):Int)=(j:Int) by rw [lb]; exact ej]
    rcases fit_ls f2 y with ⟨rfl,z9⟩ | ⟨rfl,z9⟩
    ·exact q t2 (.load j) _ _ (s3.trans (sN ht2 _)) (SqT.of uS) (.load z9 (gee hj))
    ·obtain ⟨lo,x,e⟩:=last1 z9
     exact q t2 (.store j) _ _ (s3.trans (sN ht2 _)) (SqT.of uS) (.store e hj)
   ·obtain ⟨s',hs'⟩:=fit_bare f2 z y
    refine ⟨_,rfl,sz1,fun t2 ht2=>?_⟩
    exact q t2 (.bare sg) s' _ (s3.trans (sN ht2 _)) (SqT.of uS) hs')
 clear kk
 refine ⟨_,rfl,sz2,fun t ht=>⟨t,_,rfl,.inr (SqT.of uS),rfl,rfl,_,rfl,?_⟩⟩
 have s2:=s1.trans (sN ht (.tup [.str "load",.str "store"]))
 generalize upd H1 t _=H2 at s2 ⊢
 show if (inV (.str sg) (lsL.map V.str))=true then _ else _
 refine stepL (fun y=>?_) (fun y=>?_)
 ·refine ⟨_,rfl,ba,_,rfl,.inl (s2.seq hB),rfl,_,rfl,ite2 (fun z=>?_) (fun z=>?_)⟩
  ·refine ⟨sz2,fun l hl=>?_⟩
   have s3:=s2.trans (sN hl (.lst [.str "push",.str "drop"]))
   have g3:=uS (H:=H2) (a:=l) (o:=.lst [.str "push",.str "drop"])
   generalize upd H2 l _=H3 at s3 g3 ⊢
   refine ⟨_,rfl,sa,_,rfl,.inl (s3.seq hS),_,rfl,rfl,.inr ⟨_,rfl,?_⟩⟩
   by_cases e:st.st.length=h
   ·rw [decide_eq_true (show V.int (((st.st.map optV).length:Nat):Int)=V.int (h:Int) by rw [ls,e]),if_pos rfl]
    exact ⟨l,_,_,_,rfl,rfl,SqL.of g3,aN (j:=1) rfl,fin "drop" H3 s3 (.drop (by omega)) (fun w=>absurd w (by decide +kernel))⟩
   ·rw [decide_eq_false (show ¬ V.int (((st.st.map optV).length:Nat):Int)=V.int (h:Int) from fun w=>e (by have:=V.int.inj w; omega)),if_neg (by decide)]
    exact ⟨l,_,_,_,rfl,rfl,SqL.of g3,aN (j:=0) rfl,fin "push" H3 s3 (.push (by omega)) (fun w=>absurd w (by decide +kernel))⟩
  ·exact fin sg H2 s2 hf (fun _=>by
    have:¬ st.bx.length=0:=fun w=>z (decide_eq_true (by rw [lb,w]; rfl))
    omega)
 ·exact fin sg H2 s2 hf (fun w=>absurd w y)
theorem sc__law_grown:FnScope ["_law_script","_law_boxes","_law_height","_law_rows","_law_states","_law_k","_law_stack","_law_now","_law_said","_law_row_here"] ["_law_script","_law_boxes","_law_height"] (dS s_law_grown):=by walk_at "sc"
theorem ok__law_grown{f:Addr}{fd:FuncData}(F:Fun K "_law_grown" "_law_grown" s_law_grown f fd)(z_len:mg "len"=none)(z_range:mg "range"=none){C_Frame:Addr}(ac_Frame:AC_Frame K C_Frame)(h__law_cell:Has P w K mg base CX0 "_law_cell" 1 ["_law_script","_law_k"] (sp_law_cell K))(h__law_done:Has P w K mg base CX0 "_law_done" 3 ["_law_stack","_law_boxes","_law_said","_law_row_here"] (sp_law_done K))(h__law_row:Has P w K mg base CX0 "_law_row" 2 ["_law_stack","_law_boxes","_law_height","_law_cell_here","_law_other"] (sp_law_row K)):FnOk P w K mg base CX0 4 f fd ["_law_script","_law_boxes","_law_height"] (sp_law_grown K):=by
 refine F.ok sc__law_grown (fun vs H Q E h=>?_) (fun cdv A outer s H vs Q E hr h=>?_)
 ·obtain ⟨a,ba,g,og,ns,bx,h,rfl,hS,hB,hw,hg,hgx,h1,h8,q⟩:=h
  rfl
 obtain ⟨a,ba,g,og,ns,bx,h,rfl,hS,hB,hw,hg,hgx,h1,h8,q⟩:=h
 refine ⟨_,(qK (ps_set (i:=3) sc__law_grown.nd rfl (Or.inl rfl) (pe_lst pN))
   (qK (ps_set (i:=4) sc__law_grown.nd rfl (Or.inl rfl) (pe_lst (pK (pe_tup (pK (pe_lst pN) (pK (pv 1) (pK (pe_lst pN) pN)))) pN)))
   (qK (ps_for PassesOwn.never rfl (pi_range1 rfl z_range (pK (pe_callB call_len_seq rfl z_len bt_len (pK (pe_slice sl_list (pv 0) (po_some pI) (po_some pI)) pN)) pN)) (pg_name (i:=5) sc__law_grown.nd rfl (Or.inl rfl)) (qK (ps_asg (pe_ix ix_list (pv 4) (pe_un un_neg pI) (fun _ _=>rfl)) (pg_tup rfl (pgs_cons (pg_name (i:=6) sc__law_grown.nd rfl (Or.inl rfl)) (pgs_cons (pg_name (i:=7) sc__law_grown.nd rfl (Or.inl rfl)) (pgs_cons (pg_name (i:=8) sc__law_grown.nd rfl (Or.inl rfl)) pgs_nil)))))
   (qK (ps_set (i:=9) sc__law_grown.nd rfl (Or.inl rfl) (pe_ch h__law_row (hr.mono (by decide)) rfl (pK (pv 6) (pK (pv 7) (pK (pv 2) (pK (pe_ch h__law_cell (hr.mono (by decide)) rfl (pK (pv 0) (pK (pe_op op_add pI (pv 5)) pN))) (pK (pe_op op_add (pe_op op_fdiv (pe_ch h__law_cell (hr.mono (by decide)) rfl (pK (pv 0) (pK (pe_op op_add pI (pv 5)) pN))) pI) (pv 5)) pN)))))))
   (qK (ps_expr (pe_bm PySem.F.plainAttrs_list PySem.F.slot_list_append PySem.F.type_list_append mt_append (pv 3) (pK (pv 9) pN)))
   (qO (ps_expr (pe_bm PySem.F.plainAttrs_list PySem.F.slot_list_append PySem.F.type_list_append mt_append (pv 4) (pK (pe_ch h__law_done (hr.mono (by decide)) rfl (pK (pv 6) (pK (pv 7) (pK (pv 8) (pK (pv 9) pN))))) pN))))))))
   (qK (ps_while PassesOwn.never (tR op_ge (pe_callB call_len_seq rfl z_len bt_len (pK (pe_ix ix_tup (pe_ix ix_list (pv 4) (pe_un un_neg pI) (fun _ _=>rfl)) pI (fun _ _=>rfl)) pN)) (pv 2) (nomark _)) (qK (ps_expr (pe_bm PySem.F.plainAttrs_list PySem.F.slot_list_append PySem.F.type_list_append mt_append (pv 3) (pK (pe_tup (pK pe_str pN)) pN)))
   (qO (ps_expr (pe_bm PySem.F.plainAttrs_list PySem.F.slot_list_append PySem.F.type_list_append mt_append (pv 4) (pK (pe_tup (pK (pe_slice sl_list (pe_ix ix_tup (pe_ix ix_list (pv 4) (pe_un un_neg pI) (fun _ _=>rfl)) pI (fun _ _=>rfl)) po_none (po_some (pe_un un_neg pI))) (pK (pe_ix ix_tup (pe_ix ix_list (pv 4) (pe_un un_neg pI) (fun _ _=>rfl)) pI (fun _ _=>rfl)) (pK (pe_ix ix_tup (pe_ix ix_list (pv 4) (pe_un un_neg pI) (fun _ _=>rfl)) pI (fun _ _=>rfl)) pN)))) pN))))))
   (qK (ps_set (i:=3) sc__law_grown.nd rfl (Or.inl rfl) (pe_op op_catS (pv 3) (pe_lst (pK (pe_tup (pK pe_str (pK pI pN))) (pK (pe_ix ix_list (pe_lst (pK (pe_tup (pK pe_str pN)) (pK (pe_tup (pK pe_str pN)) pN))) (pe_op op_mod (pe_op op_fdiv (pe_ch h__law_cell (hr.mono (by decide)) rfl (pK (pv 0) (pK pI pN))) pI) pI) (fun _ _=>rfl)) pN)))))
   (qK (ps_expr (pe_bm PySem.F.plainAttrs_list PySem.F.slot_list_append PySem.F.type_list_append mt_append (pv 4) (pK (pe_tup (pK (pe_op op_catS (pe_ix ix_tup (pe_ix ix_list (pv 4) (pe_un un_neg pI) (fun _ _=>rfl)) pI (fun _ _=>rfl)) (pe_lst (pK pI pN))) (pK (pe_ix ix_tup (pe_ix ix_list (pv 4) (pe_un un_neg pI) (fun _ _=>rfl)) pI (fun _ _=>rfl)) (pK (pe_ix ix_tup (pe_ix ix_list (pv 4) (pe_un un_neg pI) (fun _ _=>rfl)) pI (fun _ _=>rfl)) pN)))) pN)))
   (qO (ps_ret (pe_tup (pK (pv 3) (pK (pv 4) pN))))))))))),?_⟩
 refine ⟨sz0,fun ra nra=>?_⟩
 have s1:=sN nra (.lst [])
 have g1:=uS (H:=H) (a:=ra) (o:=.lst [])
 generalize upd H ra (.lst [])=H1 at s1 g1 ⊢
 refine ⟨sz0,fun l1 n1=>?_⟩
 have s2:=sN n1 (.lst [])
 have g2:=uS (H:=H1) (a:=l1) (o:=.lst [])
 generalize upd H1 l1 (.lst [])=H2 at s2 g2 ⊢
 refine ⟨_,rfl,sz0,fun l2 n2=>?_⟩
 have s3:=sN n2 (.lst [])
 have g3:=uS (H:=H2) (a:=l2) (o:=.lst [])
 generalize upd H2 l2 (.lst [])=H3 at s3 g3 ⊢
 refine ⟨sz3,fun t0 nt=>?_⟩
 have s4:=sN nt (.tup [.ref l1,.ref ba,.ref l2])
 have g4:=uS (H:=H3) (a:=t0) (o:=.tup [.ref l1,.ref ba,.ref l2])
 generalize upd H3 t0 _=H4 at s4 g4 ⊢
 refine ⟨sz1,fun sa nsa=>?_⟩
 have s5:=sN nsa (.lst [.ref t0])
 have g5:=uS (H:=H4) (a:=sa) (o:=.lst [.ref t0])
 generalize upd H4 sa _=H5 at s5 g5 ⊢
 have S4:=s1.trans (s2.trans (s3.trans s4))
 have S5:=S4.trans s5
 have G0:Gr h bx.length ⟨[],bx,[]⟩ [] [⟨[],bx,[]⟩]:=⟨rfl,rfl,fun i r s s' hr=>by simp at hr,fun i s hs=>by
  match i,hs with
  | 0,hs=>cases hs; exact ⟨Nat.zero_le _,rfl,fun n hn=>(nomatch hn),hw,Nat.zero_le _⟩⟩
 have M0:Lg K g H H5 ra sa [] [⟨[],bx,[]⟩] [] [.ref t0]:=by
  have gr5:=s5 _ _ (s4 _ _ (s3 _ _ (s2 _ _ g1)))
  have ar:∀c,H1 c=none→H4 c≠none→c∉[ra,sa,g]:=fun c h1 h2 z=>by
   simp only [List.mem_cons,List.not_mem_nil,or_false] at z
   rcases z with rfl | rfl | rfl
   ·rw [h1] at g1; cases g1
   ·exact h2 nsa
   ·rw [s1 _ _ hg] at h1; cases h1
  have gl1:=s4 _ _ (s3 _ _ g2)
  have gl2:=s4 _ _ g3
  refine ⟨S5,nra,S4.free nsa,nN (s4 _ _ (s3 _ _ (s2 _ _ g1))) nsa,gr5,g5,PIt.nil,PIt.snoc (ys:=[]) (xs:=[]) PIt.nil ⟨t0,l1,ba,l2,rfl,fun HX kX=>?_⟩,⟨_,hg⟩⟩
  refine ⟨SqT.of (kX _ _ (ar _ ((s2.trans s3).free nt) (by rw [g4]; exact fun z=>nomatch z)) (s5 _ _ g4)),SqL.of (kX _ _ (ar _ n1 (by rw [gl1]; exact fun z=>nomatch z)) (s5 _ _ gl1)),?_,SqL.of (kX _ _ (ar _ (s2.free n2) (by rw [gl2]; exact fun z=>nomatch z)) (s5 _ _ gl2))⟩
  refine SqL.of (kX _ _ (fun z=>?_) (S5 _ _ hB))
  simp only [List.mem_cons,List.not_mem_nil,or_false] at z
  rcases z with rfl | rfl | rfl
  ·rw [nra] at hB; cases hB
  ·rw [S4.free nsa] at hB; cases hB
  ·exact hgx rfl
 clear S4 s1 s2 s3 s4 s5 g1 g2 g3 g4 g5 n1 n2 nt nra nsa S5
 refine ⟨_,rfl,_,rfl,_,rfl,a,_,rfl,M0.s.seq hS,fun pc npc=>?_⟩
 have c40:=cut_few (l:=ns.map V.int)
 have M1:=M0.same (sN npc (.lst (cutV (ns.map V.int) (some 9) (some 49))))
 have gc:=uS (H:=H5) (a:=pc) (o:=.lst (cutV (ns.map V.int) (some 9) (some 49)))
 generalize upd H5 pc _=H6 at M1 gc ⊢
 generalize cutV (ns.map V.int) (some 9) (some 49)=cs at gc c40
 refine ⟨pc,cs,rfl,.inl (SqL.of gc),_,rfl,by omega,by omega,?_⟩
 clear M0
 refine for_range (lo:=0) (n:=((cs.length:Nat):Int).toNat) (fun i σ H2=>∃(rs:List Rw) (sts:List LS) (zs ys:List V) (o5 o6 o7 o8 o9:Option V),σ=[some (.ref a),some (.ref ba),some (.int (h:Int)),some (.ref ra),some (.ref sa),o5,o6,o7,o8,o9]∧Lg K g H H2 ra sa rs sts zs ys∧Gr h bx.length ⟨[],bx,[]⟩ rs sts∧rs.length=i) ?_ ?_ ?_
 ·exact ⟨_,_,_,_,_,_,_,_,_,rfl,M1,G0,rfl⟩
 ·rintro i σ H2 hi ⟨rs,sts,zs,ys,o5,o6,o7,o8,o9,rfl,M,G,hl⟩
  have hi40:i < 40:=by omega
  obtain ⟨pre,s,rfl,hpre,hinv⟩:=G.last
  obtain ⟨yp,y,rfl,hy⟩:=M.is.lastOf
  obtain ⟨t,sa',ba',da',rfl,hX⟩:=hy
  obtain ⟨xT,xS,xB,xD⟩:=hX H2 KeepX.refl
  have ly:=M.is.1
  have lz:=M.ir.1
  simp at ly
  refine ⟨_,rfl,_,rfl,sa,_,_,_,rfl,rfl,SqL.of M.gs,atI_neg1,t,_,rfl,xT,rfl,_,_,rfl,_,_,rfl,_,_,rfl,rfl,?_⟩
  refine ⟨_,rfl,_,rfl,_,rfl,_,rfl,_,rfl,_,_,rfl,rfl,a,ns,_,rfl,M.s.seq hS,by omega,by omega,fun c H7 s7=>?_⟩
  refine ⟨_,rfl,_,rfl,_,_,rfl,rfl,a,ns,_,rfl,(M.s.trans s7).seq hS,by omega,by omega,fun c2 H8 s8=>?_⟩
  have S8:=s7.trans s8
  refine ⟨_,_,rfl,rfl,(by show (0:Int) < 3∧(3:Int) < 1073741824; decide),_,rfl,_,_,rfl,rfl,sa',ba',s,h,c,_,rfl,S8.seq xS,S8.seq xB,h1,hinv.st,fun tr r s' H9 s9 hT hK=>?_⟩
  have S9:=S8.trans s9
  have M9:=M.same S9
  refine ⟨_,rfl,.inl ⟨rfl,_,SqL.of M9.gr⟩,_,rfl,ra,_,_,rfl,rfl,M9.gr,sK (by omega),?_⟩
  have MA:=M9.row hT
  obtain ⟨xT,xS,xB,xD⟩:=hX _ ((keep_of S9).trans (show KeepX [ra,sa,g] H9 (upd H9 ra (.lst (zs++[.ref tr]))) from fun c o n e=>by rw [uN (fun z=>n (by simp [z]))]; exact e))
  have hT':SqT K (upd H9 ra (.lst (zs++[.ref tr]))) tr (rwV r):=by
   obtain ⟨t',e,h'⟩:=MA.ir.2 zs.length (.ref tr) r (by simp) (by rw [lz]; simp)
   cases e
   exact h'
  generalize upd H9 ra _=HA at MA xT xS xB xD hT' ⊢
  refine ⟨_,rfl,.inl ⟨rfl,_,SqL.of MA.gs⟩,_,rfl,_,rfl,_,rfl,_,rfl,sa',ba',da',tr,s,s',r,h,rfl,xS,xB,xD,hT',hK,hinv.ws,by have:=hinv.st; omega,by have:=hinv.sd; omega,fun tn an bn dn HB sB g1 n1 n2 n3 n4 g2 g3 g4=>?_⟩
  have MB:=MA.same sB
  refine ⟨sa,_,_,rfl,rfl,MB.gs,sK (by simp; omega),?_⟩
  have MC:=MB.sta (v:=.ref tn) (s:=s') ⟨tn,an,bn,dn,rfl,fun HX kX=>⟨SqT.of (kX _ _ (MA.apart n4) g1),SqL.of (kX _ _ (MA.apart n1) g2),SqL.of (kX _ _ (MA.apart n2) g3),SqL.of (kX _ _ (MA.apart n3) g4)⟩⟩
  exact ⟨_,_,_,_,_,_,_,_,_,rfl,MC,G.snoc hK,by simp [hl]⟩
 ·rintro σ H2 ⟨rs,sts,zs,ys,o5,o6,o7,o8,o9,rfl,M,G,hl⟩
  have hl40:rs.length≤40:=by omega
  clear M1 gc hl
  refine while_by (fun σ H3=>∃(rs:List Rw) (pre:List LS) (s:LS) (zs ys:List V),σ=[some (.ref a),some (.ref ba),some (.int (h:Int)),some (.ref ra),some (.ref sa),o5,o6,o7,o8,o9]∧Lg K g H H3 ra sa rs (pre++[s]) zs ys∧Gr h bx.length ⟨[],bx,[]⟩ rs (pre++[s])∧rs.length + s.st.length≤60) (fun (_:St) (H3:Hp)=>1000 - liveN H3 ra) ?_ ?_ ?_
  ·obtain ⟨pre,s,rfl,hpre,hinv⟩:=G.last
   exact ⟨rs,pre,s,zs,ys,rfl,M,G,by have:=hinv.st; omega⟩
  ·clear G M hl40
   rintro σ H3 ⟨rs,pre,s,zs,ys,rfl,M,G,h60⟩
   obtain ⟨yp,y,rfl,hy⟩:=M.is.lastOf
   obtain ⟨t,sa',ba',da',rfl,hX⟩:=hy
   obtain ⟨xT,xS,xB,xD⟩:=hX H3 KeepX.refl
   have ly:=M.is.1
   have lz:=M.ir.1
   have hlen:=G.len
   simp at ly hlen
   have ls:(s.st.map optV).length=s.st.length:=List.length_map _
   refine ⟨_,rfl,_,rfl,sa,_,_,_,rfl,rfl,SqL.of M.gs,atI_neg1,t,_,_,_,rfl,rfl,xT,aN (j:=0) rfl,sa',_,rfl,.inl xS,_,rfl,_,_,rfl,rfl,_,rfl,ite2 (fun z=>?_) (fun z=>?_)⟩
   ·have z':h≤s.st.length:=by have:=of_decide_eq_true z; omega
    obtain ⟨lo,x,hst⟩:=last1 (l:=s.st) (by omega)
    refine ⟨_,rfl,.inl ⟨rfl,_,SqL.of M.gr⟩,sz1,fun td ntd=>?_⟩
    have sd:=sN ntd (.tup [.str "drop"])
    have Md:=M.same sd
    have gd:SqT K (upd H3 td (.tup [.str "drop"])) td (rwV (.bare "drop")):=SqT.of uS
    generalize upd H3 td _=H4 at sd Md gd ⊢
    refine ⟨ra,_,_,rfl,rfl,Md.gr,sK (by omega),?_⟩
    have MA:=Md.row gd
    have kA:KeepX [ra,sa,g] H3 (upd H4 ra (.lst (zs++[.ref td]))):=(keep_of sd).trans (show KeepX [ra,sa,g] H4 (upd H4 ra (.lst (zs++[.ref td]))) from fun c o n e=>by rw [uN (fun z=>n (by simp [z]))]; exact e)
    generalize upd H4 ra _=HA at MA kA ⊢
    obtain ⟨aT,aS,aB,aD⟩:=hX HA kA
    have aS':=aS
    rw [hst,List.map_append] at aS'
    refine ⟨_,rfl,.inl ⟨rfl,_,SqL.of MA.gs⟩,_,rfl,_,rfl,sa,_,_,_,rfl,rfl,SqL.of MA.gs,atI_neg1,t,_,_,_,rfl,rfl,aT,aN (j:=0) rfl,_,rfl,_,rfl,sa',_,rfl,aS',fun p np=>?_⟩
    have sp:=sN np (.lst (cutV (lo.map optV++[optV x]) none (some (-1))))
    have gp:upd HA p (.lst (cutV (lo.map optV++[optV x]) none (some (-1)))) p=some (.lst (lo.map optV)):=by rw [uS,cut_one]
    change Same HA (upd HA p (.lst (cutV (lo.map optV++List.map optV [x]) none (some (-1))))) at sp
    change upd HA p (.lst (cutV (lo.map optV++List.map optV [x]) none (some (-1)))) p=_ at gp
    generalize upd HA p _=HB at sp gp ⊢
    have MB:=MA.same sp
    refine ⟨_,rfl,_,rfl,sa,_,_,_,rfl,rfl,SqL.of MB.gs,atI_neg1,t,_,_,_,rfl,rfl,sp.tup aT,aN (j:=1) rfl,_,rfl,_,rfl,sa,_,_,_,rfl,rfl,SqL.of MB.gs,atI_neg1,t,_,_,_,rfl,rfl,sp.tup aT,aN (j:=2) rfl,sz3,fun tn ntn=>?_⟩
    have sn:=sN ntn (.tup [.ref p,.ref ba',.ref da'])
    have gn:=uS (H:=HB) (a:=tn) (o:=.tup [.ref p,.ref ba',.ref da'])
    generalize upd HB tn _=HC at sn gn ⊢
    have MC:=MB.same sn
    refine ⟨sa,_,_,rfl,rfl,MC.gs,sK (by simp; omega),?_⟩
    have MD:=MC.sta (v:=.ref tn) (s:={s with st:=lo}) ⟨tn,p,ba',da',rfl,fun HX kX=>by
     obtain ⟨_,_,b1,b2⟩:=hX HX (kA.trans ((keep_of (sp.trans sn)).trans kX))
     exact ⟨SqT.of (kX _ _ (MB.apart ntn) gn),SqL.of (kX _ _ (MA.apart np) (sn _ _ gp)),b1,b2⟩⟩
    refine ⟨⟨_,_,_,_,_,rfl,MD,G.snoc (.drop hst),?_⟩,?_⟩
    ·rw [hst] at h60
     simp at h60 ⊢
     omega
    ·rw [liveN_of MD.gr,liveN_of M.gr]
     simp
     omega
   ·have z':s.st.length < h:=by
     rcases Nat.lt_or_ge s.st.length h with y | y
     ·exact y
     ·exact absurd (decide_eq_true (by omega)) z
    refine ⟨_,rfl,sz2,fun t1 n1=>?_⟩
    have s1:=sN n1 (.tup [.str "push",.int 77])
    have g1:SqT K (upd H3 t1 (.tup [.str "push",.int 77])) t1 (rwV (.push 77)):=SqT.of uS
    generalize upd H3 t1 _=H4 at s1 g1 ⊢
    refine ⟨sz1,fun tg ng=>?_⟩
    have s2:=sN ng (.tup [.str "give"])
    have g2:SqT K (upd H4 tg (.tup [.str "give"])) tg (rwV (.bare "give")):=SqT.of uS
    generalize upd H4 tg _=H5 at s2 g2 ⊢
    refine ⟨sz1,fun tt nt=>?_⟩
    have s3:=sN nt (.tup [.str "toss"])
    have g3:SqT K (upd H5 tt (.tup [.str "toss"])) tt (rwV (.bare "toss")):=SqT.of uS
    generalize upd H5 tt _=H6 at s3 g3 ⊢
    refine ⟨sz2,fun lg nlg=>?_⟩
    have s4:=sN nlg (.lst [.ref tg,.ref tt])
    have g4:=uS (H:=H6) (a:=lg) (o:=.lst [.ref tg,.ref tt])
    generalize upd H6 lg _=H7 at s4 g4 ⊢
    have S7:=s1.trans (s2.trans (s3.trans s4))
    refine ⟨_,rfl,a,ns,_,rfl,(M.s.trans S7).seq hS,by decide,by decide,fun v H8 s8=>?_⟩
    have S8:=S7.trans s8
    have t1':=(s2.trans (s3.trans (s4.trans s8))).tup g1
    obtain ⟨te,e,he,hte,hat⟩:∃(te:Addr) (e:Str),(e="give"∨e="toss")∧SqT K H8 te (rwV (.bare e))∧atI [V.ref tg,V.ref tt] (v / 6 % 2)=some (.ref te):=by
     rcases (by omega:v / 6 % 2=0∨v / 6 % 2=1) with y | y
     ·exact ⟨tg,"give",.inl rfl,(s3.trans (s4.trans s8)).tup g2,by rw [y]; exact aN (j:=0) rfl⟩
     ·exact ⟨tt,"toss",.inr rfl,(s4.trans s8).tup g3,by rw [y]; exact aN (j:=1) rfl⟩
    refine ⟨_,_,rfl,rfl,(by show (0:Int) < 6∧(6:Int) < 1073741824; decide),_,_,rfl,rfl,(by show (0:Int) < 2; decide),lg,_,_,_,rfl,rfl,SqL.of (s8 _ _ g4),hat,sz2,fun l2 nl2=>?_⟩
    have s9:=sN nl2 (.lst [.ref t1,.ref te])
    have g9:=uS (H:=H8) (a:=l2) (o:=.lst [.ref t1,.ref te])
    generalize upd H8 l2 _=H9 at s9 g9 ⊢
    have S9:=S8.trans s9
    refine ⟨ra,l2,_,_,rfl,rfl,SqL.of (S9 _ _ M.gr),SqL.of g9,Nat.le_of_lt (sK (by show zs.length + 2≤1000; omega)),fun rb nrb=>?_⟩
    have N:=M.move S9 nrb (s9.tup t1') (s9.tup hte)
    have kN:KeepX [ra,sa,g] H3 (upd H9 rb (.lst (zs++[.ref t1,.ref te]))):=keep_of (S9.trans (sN nrb _))
    generalize upd H9 rb _=HA at N kN ⊢
    obtain ⟨yp',y',ey,hy'⟩:=N.is.lastOf
    have ey':=List.append_inj_right' ey rfl
    cases ey'
    obtain ⟨t',sa',ba',da',e',hX⟩:=hy'
    cases e'
    obtain ⟨aT,aS,aB,aD⟩:=hX HA KeepX.refl
    clear ey kN S9 s9 g9 S8 s8 S7 s1 s2 s3 s4 g1 g2 g3 g4 n1 ng nt nlg hat t1' hte nl2 nrb
    refine ⟨_,rfl,.inl ⟨rfl,_,SqL.of N.gs⟩,_,rfl,_,rfl,sa,_,_,_,rfl,rfl,SqL.of N.gs,atI_neg1,t,_,_,_,rfl,rfl,aT,aN (j:=0) rfl,sz1,fun l7 n7=>?_⟩
    have s7:=sN n7 (.lst [.int 77])
    have g7:=uS (H:=HA) (a:=l7) (o:=.lst [.int 77])
    generalize upd HA l7 _=HB at s7 g7 ⊢
    refine ⟨sa',l7,_,_,rfl,rfl,s7.seq aS,SqL.of g7,Nat.le_of_lt (sK (by rw [ls]; show s.st.length + 1≤1000; omega)),fun l8 n8=>?_⟩
    have s8:=sN n8 (.lst (s.st.map optV++[.int 77]))
    have g8:upd HB l8 (.lst (s.st.map optV++[.int 77])) l8=some (.lst ((s.st++[some 77]).map optV)):=by rw [uS,List.map_append]; rfl
    generalize upd HB l8 _=HC at s8 g8 ⊢
    have S8:=s7.trans s8
    have NC:=N.same S8
    refine ⟨_,rfl,_,rfl,sa,_,_,_,rfl,rfl,SqL.of NC.gs,atI_neg1,t,_,_,_,rfl,rfl,S8.tup aT,aN (j:=1) rfl,_,rfl,_,rfl,sa,_,_,_,rfl,rfl,SqL.of NC.gs,atI_neg1,t,_,_,_,rfl,rfl,S8.tup aT,aN (j:=2) rfl,sz3,fun tn ntn=>?_⟩
    have sn:=sN ntn (.tup [.ref l8,.ref ba',.ref da'])
    have gn:=uS (H:=HC) (a:=tn) (o:=.tup [.ref l8,.ref ba',.ref da'])
    generalize upd HC tn _=HD at sn gn ⊢
    have ND:=NC.same sn
    refine ⟨sa,_,_,rfl,rfl,ND.gs,sK (by simp; omega),?_⟩
    have NE:=ND.sta (v:=.ref tn) (s:={s with st:=s.st++[some 77]}) ⟨tn,l8,ba',da',rfl,fun HX kX=>by
     obtain ⟨_,_,b1,b2⟩:=hX HX ((keep_of (S8.trans sn)).trans kX)
     exact ⟨SqT.of (kX _ _ (NC.apart ntn) gn),SqL.of (kX _ _ ((N.same s7).apart n8) (sn _ _ g8)),b1,b2⟩⟩
    generalize upd HD sa _=HE at NE ⊢
    refine ⟨_,rfl,_,rfl,sz2,fun tq nq=>?_⟩
    have sq:=sN nq (.tup [.ref rb,.ref sa])
    have NF:=NE.same sq
    rw [show rs++[Rw.push 77,Rw.bare e]=(rs++[Rw.push 77])++[Rw.bare e] by simp] at NF
    exact q tq rb sa (rs++[.push 77]) _ _ _ e (pre++[s]) _ s.st _ NF (SqT.of uS) he (G.snoc (.push z' (by unfold inW; decide))) rfl rfl (by simp; omega)
  ·rintro σ H3 Q1 Q2 f ⟨v1,e1,v2,e2,x1,x2,x3,x4,e3,e4,e5,e6,y1,y2,y3,y4,f1,f2,f3,f4,p,xs,g1,g2,v5,g3,i,j,g4,g5,b,g6,q1⟩
   exact ⟨v1,e1,v2,e2,x1,x2,x3,x4,e3,e4,e5,e6,y1,y2,y3,y4,f1,f2,f3,f4,p,xs,g1,g2,v5,g3,i,j,g4,g5,b,g6,f _ _ q1⟩
theorem sc__law_bare:FnScope ["_law_value"] ["_law_value"] (dS s_law_bare):=by walk_at "sc"
theorem ok__law_bare{f:Addr}{fd:FuncData}(F:Fun K "_law_bare" "_law_bare" s_law_bare f fd)(z_isinstance:mg "isinstance"=none)(z_tuple:mg "tuple"=none){C_Frame:Addr}(ac_Frame:AC_Frame K C_Frame):FnOk P w K mg base CX0 1 f fd ["_law_value"] (sp_law_bare K):=by
 refine F.ok sc__law_bare (fun vs H Q E h=>?_) (fun cdv A outer s H vs Q E hr h=>?_)
 ·obtain ⟨v,wt,x,rfl,hv,q⟩:=h
  rfl
 obtain ⟨v,wt,x,rfl,hv,q⟩:=h
 refine ⟨_,(qK (ps_if (pt_val (pe_callB call_isi rfl z_isinstance bt_isinstance (pK (pv 0) (pK (pe_bltn (v:=.ty "tuple") rfl z_tuple bt_tuple rfl) pN)))) (qO (ps_ret (pe_ix ix_tup (pv 0) pI (fun _ _=>rfl)))) pss_nil)
   (qO (ps_ret (pv 0)))),?_⟩
 cases wt with
 | true =>
  cases x with
  | none =>
   have e:=vl_none (show RdV K H v (vlD .none) from hv)
   subst e
   refine ⟨_,rfl,_,_,_,_,rfl,.non,rfl,_,rfl,iteF ?_⟩
   exact ⟨_,rfl,q _ (.inl rfl)⟩
  | some n =>
   obtain ⟨t,rfl,ht⟩:=vl_num (show RdV K H v (vlD (.num n)) from hv)
   refine ⟨_,rfl,_,_,_,_,rfl,.tup ht,rfl,_,rfl,iteT ?_⟩
   exact ⟨_,rfl,t,_,_,_,rfl,rfl,ht,aN (j:=1) rfl,q _ (.inr ⟨_,rfl⟩)⟩
 | false =>
  have e:v=.int (bareV (ovl x)):=hv
  subst e
  refine ⟨_,rfl,_,_,_,_,rfl,.int _,rfl,_,rfl,iteF ?_⟩
  exact ⟨_,rfl,q _ (.inr ⟨_,rfl⟩)⟩
theorem sc__law_no_truths:FnScope ["_law_some"] ["_law_some"] (dS s_law_no_truths):=by walk_at "sc"
theorem ok__law_no_truths{f:Addr}{fd:FuncData}(F:Fun K "_law_no_truths" "_law_no_truths" s_law_no_truths f fd)(z_bool:mg "bool"=none)(z_isinstance:mg "isinstance"=none){C_Frame:Addr}(ac_Frame:AC_Frame K C_Frame):FnOk P w K mg base CX0 1 f fd ["_law_some"] (sp_law_no_truths K):=by
 refine F.ok sc__law_no_truths (fun vs H Q E h=>?_) (fun cdv A outer s H vs Q E hr h=>?_)
 ·obtain ⟨a,xs,rfl,hS,hN,h1000,q⟩:=h
  rfl
 obtain ⟨a,xs,rfl,hS,hN,h1000,q⟩:=h
 refine ⟨_,(qO (ps_ret (pe_cmpR op_notIn_seq pe_bl (pe_lc 1 ["_law_one"] [] ⟨rfl,rfl,rfl,rfl,rfl,rfl,rfl,rfl⟩ (pi_list (pv 0)) (fun _ _ _ _=>⟨(pg_name (i:=0) (show List.Nodup (["_law_one"]:List Str) by decide +kernel) rfl (Or.inl rfl)),pif_nil,(pe_callB (r:=rIsi K) call_isi rfl z_isinstance bt_isinstance (pK (pv 0) (pK (pe_bltn (v:=.ty "bool") rfl z_bool bt_bool rfl) pN)))⟩)) rfl))),?_⟩
 refine ⟨_,rfl,a,rfl,⟨_,hS⟩,fun D hD=>?_⟩
 refine lc_list (xs:=xs) (fun i ys H2=>Same H H2∧H2 D=some (.lst ys)∧ys=List.replicate i (.bl false)) (Nat.le_of_lt (sK h1000)) ⟨sN hD _,uS,rfl⟩ ?_ ?_ ?_
 ·rintro i ys H2 hi ⟨s2,d2,rfl⟩
  exact ⟨d2,by rw [List.length_replicate]; exact Nat.le_refl _,s2.seq hS⟩
 ·rintro i x ys H2 hx ⟨s2,d2,rfl⟩
  rcases hN x (List.mem_of_getElem? hx) with rfl | ⟨n,rfl⟩
  ·exact ⟨rfl,_,rfl,_,_,_,_,rfl,.non,rfl,d2,Same_upd s2 hD _,uS,by rw [List.replicate_succ']; rfl⟩
  ·exact ⟨rfl,_,rfl,_,_,_,_,rfl,.int n,rfl,d2,Same_upd s2 hD _,uS,by rw [List.replicate_succ']; rfl⟩
 ·rintro ys H2 ⟨s2,d2,rfl⟩
  refine ⟨D,_,rfl,.inl (SqL.of d2),rfl,flat_falses _,?_⟩
  have z:=q H2 s2
  rw [inV_falses]
  exact z
theorem sc__law_tagged:FnScope ["_law_some","_law_watched"] ["_law_some","_law_watched"] (dS s_law_tagged):=by walk_at "sc"
theorem ok__law_tagged{f:Addr}{fd:FuncData}(F:Fun K "_law_tagged" "_law_tagged" s_law_tagged f fd)(z_tuple:mg "tuple"=none){C_Frame:Addr}(ac_Frame:AC_Frame K C_Frame):FnOk P w K mg base CX0 1 f fd ["_law_some","_law_watched"] (sp_law_tagged K):=by
 refine F.ok sc__law_tagged (fun vs H Q E h=>?_) (fun cdv A outer s H vs Q E hr h=>?_)
 ·obtain ⟨a,l,wt,rfl,hS,h1000,q⟩:=h
  rfl
 obtain ⟨a,l,wt,rfl,hS,h1000,q⟩:=h
 refine ⟨_,(qK (ps_if (pt_val (pv 1)) (qO (ps_ret (pe_callTy call_tuple_of rfl z_tuple bt_tuple (pK (pe_lc 1 ["_law_one"] [] ⟨rfl,rfl,rfl,rfl,rfl,rfl,rfl,rfl⟩ (pi_list (pv 0)) (fun _ _ _ _=>⟨(pg_name (i:=0) (show List.Nodup (["_law_one"]:List Str) by decide +kernel) rfl (Or.inl rfl)),pif_nil,(pe_ifExp (tR op_isN (pv 0) pe_non (nomark _)) pe_non (pe_tup (pK pe_str (pK (pv 0) pN))))⟩)) pN)))) pss_nil)
   (qO (ps_ret (pe_callTy call_tuple_of rfl z_tuple bt_tuple (pK (pe_lc 1 ["_law_one"] [] ⟨rfl,rfl,rfl,rfl,rfl,rfl,rfl,rfl⟩ (pi_list (pv 0)) (fun _ _ _ _=>⟨(pg_name (i:=0) (show List.Nodup (["_law_one"]:List Str) by decide +kernel) rfl (Or.inl rfl)),pif_nil,(pe_ifExp (tR op_isN (pv 0) pe_non (nomark _)) pI (pv 0))⟩)) pN))))),?_⟩
 have ll:(l.map optV).length=l.length:=List.length_map _
 refine ⟨_,rfl,_,rfl,?_⟩
 cases wt with
 | true =>
  refine iteT ?_
  refine ⟨_,rfl,a,rfl,⟨_,hS⟩,fun D hD=>?_⟩
  refine lc_list (xs:=l.map optV) (fun i ys H2=>Same H H2∧H2 D=some (.lst ys)∧VIt K H2 true ys ((l.take i).map ovl)) (Nat.le_of_lt (sK (by omega))) ⟨sN hD _,uS,VIt.nil⟩ ?_ ?_ ?_
  ·rintro i ys H2 hi ⟨s2,d2,hV⟩
   exact ⟨d2,by rw [hV.1,List.length_map,List.length_take]; omega,s2.seq hS⟩
  ·rintro i v ys H2 hv ⟨s2,d2,hV⟩
   rw [List.getElem?_map] at hv
   cases hx:l[i]? with
   | none=>rw [hx] at hv; cases hv
   | some x =>
    rw [hx] at hv
    cases hv
    obtain ⟨hi,ex⟩:=List.getElem?_eq_some_iff.mp hx
    have fin:∀u H3,Same H2 H3→VlA K H3 true u (ovl x)→VIt K (upd H3 D (.lst (ys++[u]))) true (ys++[u]) ((l.take (i + 1)).map ovl):=fun u H3 s3 hu=>by
     rw [List.take_succ_eq_append_getElem hi,List.map_append,ex]
     exact VIt.keep keep_upd (fun c hc=>by rw [msp hc]; exact ⟨_,s3 _ _ d2,.inl ⟨_,rfl⟩⟩) ((hV.same s3).snoc hu)
    cases x with
    | none =>
     refine ⟨rfl,_,rfl,rfl,_,rfl,iteT ?_⟩
     exact ⟨d2,Same_upd s2 hD _,uS,fin _ H2 (Same.refl _) RdV.non⟩
    | some n =>
     refine ⟨rfl,_,rfl,rfl,_,rfl,iteF ?_⟩
     refine ⟨_,rfl,sz2,fun t ht=>?_⟩
     have s3:=sN ht (.tup [.str "number",.int n])
     exact ⟨s3 _ _ d2,Same_upd (s2.trans s3) hD _,uS,fin _ _ s3 (.tup' (SqT.of uS) (.cons (.str _) (.cons (.int _) .nil)))⟩
  ·rintro ys H2 ⟨s2,d2,hV⟩
   rw [List.take_of_length_le (by omega)] at hV
   refine ⟨D,ys,rfl,.inl ⟨SqL.of d2,fun t ht=>?_⟩⟩
   have s3:=sN ht (.tup ys)
   exact q t ys _ (s2.trans s3) (SqT.of uS) (hV.same s3)
 | false =>
  refine iteF ?_
  refine ⟨_,rfl,a,rfl,⟨_,hS⟩,fun D hD=>?_⟩
  refine lc_list (xs:=l.map optV) (fun i ys H2=>Same H H2∧H2 D=some (.lst ys)∧VIt K H2 false ys ((l.take i).map ovl)) (Nat.le_of_lt (sK (by omega))) ⟨sN hD _,uS,VIt.nil⟩ ?_ ?_ ?_
  ·rintro i ys H2 hi ⟨s2,d2,hV⟩
   exact ⟨d2,by rw [hV.1,List.length_map,List.length_take]; omega,s2.seq hS⟩
  ·rintro i v ys H2 hv ⟨s2,d2,hV⟩
   rw [List.getElem?_map] at hv
   cases hx:l[i]? with
   | none=>rw [hx] at hv; cases hv
   | some x =>
    rw [hx] at hv
    cases hv
    obtain ⟨hi,ex⟩:=List.getElem?_eq_some_iff.mp hx
    have fin:∀u,u=V.int (bareV (ovl x))→VIt K (upd H2 D (.lst (ys++[u]))) false (ys++[u]) ((l.take (i + 1)).map ovl):=fun u hu=>by
     rw [List.take_succ_eq_append_getElem hi,List.map_append,ex]
     exact VIt.keep keep_upd (fun c hc=>by rw [msp hc]; exact ⟨_,d2,.inl ⟨_,rfl⟩⟩) (hV.snoc hu)
    cases x with
    | none =>
     refine ⟨rfl,_,rfl,rfl,_,rfl,iteT ?_⟩
     exact ⟨d2,Same_upd s2 hD _,uS,fin _ rfl⟩
    | some n =>
     refine ⟨rfl,_,rfl,rfl,_,rfl,iteF ?_⟩
     exact ⟨_,rfl,d2,Same_upd s2 hD _,uS,fin _ rfl⟩
  ·rintro ys H2 ⟨s2,d2,hV⟩
   rw [List.take_of_length_le (by omega)] at hV
   refine ⟨D,ys,rfl,.inl ⟨SqL.of d2,fun t ht=>?_⟩⟩
   have s3:=sN ht (.tup ys)
   exact q t ys _ (s2.trans s3) (SqT.of uS) (hV.same s3)
theorem sc_frame_told:FnScope ["frame"] ["frame"] (dS s_frame_told):=by walk_at "sc"
theorem ok_frame_told{f:Addr}{fd:FuncData}(F:Fun K "frame_told" "frame_told" s_frame_told f fd)(z_tuple:mg "tuple"=none){C_Frame:Addr}(ac_Frame:AC_Frame K C_Frame):FnOk P w K mg base CX0 1 f fd ["frame"] (sp_frame_told K C_Frame):=by
 refine F.ok sc_frame_told (fun vs H Q E h=>?_) (fun cdv A outer s H vs Q E hr h=>?_)
 ·obtain ⟨wt,f',rfl,hF,q⟩:=h
  rfl
 obtain ⟨wt,f',rfl,hF,q⟩:=h
 refine ⟨_,(qO (ps_ret (pe_tup (pK (pe_fld (pv 0) rfl) (pK (pe_fld (pv 0) rfl) (pK (pe_callTy call_tuple_of rfl z_tuple bt_tuple (pK (pe_fld (pv 0) rfl) pN)) (pK (pe_callTy call_tuple_of rfl z_tuple bt_tuple (pK (pe_fld (pv 0) rfl) pN)) pN))))))),?_⟩
 obtain ⟨⟨dx,h1⟩,⟨ys,h2,h3⟩,⟨zs,h4,h5⟩,ne⟩:=hF
 refine ⟨_,rfl,f'.fa,C_Frame,dx,_,_,rfl,h1,ac_Frame.cl,ac_Frame.a_part,fm_part,_,rfl,f'.fa,C_Frame,dx,_,_,rfl,h1,ac_Frame.cl,ac_Frame.a_at,fm_at,_,rfl,f'.fa,C_Frame,dx,_,_,rfl,h1,ac_Frame.cl,ac_Frame.a_boxes,fm_boxes,f'.bl,ys,rfl,.inl ⟨SqL.of h2,fun tb htb=>?_⟩⟩
 have u1:=sN htb (.tup ys)
 have g1:SqT K (upd H tb (.tup ys)) tb ys:=SqT.of uS
 generalize upd H tb (.tup ys)=H1 at u1 g1 ⊢
 refine ⟨_,rfl,f'.fa,C_Frame,dx,_,_,rfl,u1 _ _ h1,ac_Frame.cl,ac_Frame.a_stack,fm_stack,f'.sl,zs,rfl,.inl ⟨SqL.of (u1 _ _ h4),fun ts hts=>?_⟩⟩
 have u2:=sN hts (.tup zs)
 have g2:SqT K (upd H1 ts (.tup zs)) ts zs:=SqT.of uS
 generalize upd H1 ts (.tup zs)=H2 at u2 g2 ⊢
 refine ⟨sz4,fun t ht=>?_⟩
 have u3:=sN ht (.tup [.int (f'.part:Int),.int (f'.at':Int),.ref tb,.ref ts])
 have U:=u1.trans (u2.trans u3)
 exact q _ _ U ⟨t,tb,ts,ys,zs,rfl,SqT.of uS,(u2.trans u3).tup g1,h3.same U,u3.tup g2,h5.same U⟩
theorem sc_Plain_frames:FnScope ["self"] ["self"] (dS s_Plain_frames):=by walk_at "sc"
theorem ok_Plain_frames{f:Addr}{fd:FuncData}(F:Fun K "frames" "Plain.frames" s_Plain_frames f fd){C_Frame:Addr}(ac_Frame:AC_Frame K C_Frame){C:Addr}{wt:Bool}(ac:AC_Plain K C)(h_frame_told:Has P w K mg base CX0 "frame_told" 1 ["frame"] (sp_frame_told K C_Frame)):FnOk P w K mg base CX0 2 f fd ["self"] (sp_frames K C_Frame C wt):=by
 refine F.ok sc_Plain_frames (fun vs H Q E h=>?_) (fun cdv A outer s H vs Q E hr h=>?_)
 ·obtain ⟨mm,rfl,hM,h100,q⟩:=h
  rfl
 obtain ⟨mm,rfl,hM,h100,q⟩:=h
 refine ⟨_,(qO (ps_ret (pe_lc 1 ["frame"] [] ⟨rfl,rfl,rfl,rfl,rfl,rfl,rfl,rfl⟩ (pi_list (pe_fld (pv 0) rfl)) (fun _ _ _ _=>⟨(pg_name (i:=0) (show List.Nodup (["frame"]:List Str) by decide +kernel) rfl (Or.inl rfl)),pif_nil,(pe_ch h_frame_told (hr.mono (by decide)) rfl (pK (pv 0) pN))⟩)))),?_⟩
 obtain ⟨dx,ev,h1,h2⟩:=hM.ob
 refine ⟨_,rfl,mm.ma,C,dx,_,_,rfl,h1,ac.cl,ac.a_live,mc_live,mm.lv,rfl,⟨_,SqL.of hM.lv⟩,fun D hD=>?_⟩
 refine lc_list (xs:=mm.frs.map fun f=>.ref f.fa) (fun i ys H3=>Same H H3∧H3 D=some (.lst ys)∧FTs K H3 wt ys (mm.frs.take i)) (Nat.le_of_lt (sK (by rw [List.length_map]; omega))) ⟨sN hD _,uS,rfl,fun j y f e=>by simp at e⟩ ?_ ?_ ?_
 ·rintro i ys H3 hi ⟨s3,g3,hF⟩
  refine ⟨g3,?_,s3.seq (SqL.of hM.lv)⟩
  rw [hF.1,List.length_take]
  omega
 ·rintro i x ys H3 hx ⟨s3,g3,hF⟩
  rw [List.getElem?_map] at hx
  cases hfi:mm.frs[i]? with
  | none=>rw [hfi] at hx; cases hx
  | some f' =>
   rw [hfi] at hx
   cases hx
   refine ⟨rfl,_,rfl,wt,f',rfl,((hM.same s3).fr f' (List.mem_of_getElem? hfi)),fun y H4 s4 hy=>⟨s4 _ _ g3,Same_upd (s3.trans s4) hD _,uS,?_⟩⟩
   rw [List.take_add_one,hfi]
   have lF:=hF.1
   refine ⟨by simp [lF],fun j z f hz hf=>?_⟩
   by_cases hj:j < ys.length
   ·rw [List.getElem?_append_left hj] at hz
    rw [List.getElem?_append_left (by rw [← lF]; exact hj)] at hf
    exact ((hF.2 j z f hz hf).same s4).updL (s4 _ _ g3)
   ·have hl:j=ys.length:=by
     have:=(List.getElem?_eq_some_iff.mp hz).1
     simp at this
     omega
    subst hl
    rw [List.getElem?_append_right (Nat.le_refl _),Nat.sub_self] at hz
    rw [lF,List.getElem?_append_right (Nat.le_refl _),Nat.sub_self] at hf
    cases hz
    cases hf
    exact hy.updL (s4 _ _ g3)
 rintro ys H1 ⟨s1,g1,hF⟩
 rw [List.take_of_length_le (by rw [List.length_map]; omega)] at hF
 exact q D ys H1 s1 hD g1 hF
theorem sc_Plain_heap:FnScope ["self"] ["self"] (dS s_Plain_heap):=by walk_at "sc"
theorem ok_Plain_heap{f:Addr}{fd:FuncData}(F:Fun K "heap" "Plain.heap" s_Plain_heap f fd)(z_list:mg "list"=none){C_Frame:Addr}(ac_Frame:AC_Frame K C_Frame){C:Addr}{wt:Bool}(ac:AC_Plain K C):FnOk P w K mg base CX0 1 f fd ["self"] (sp_heap K C_Frame C wt):=by
 refine F.ok sc_Plain_heap (fun vs H Q E h=>?_) (fun cdv A outer s H vs Q E hr h=>?_)
 ·obtain ⟨mm,rfl,hM,q⟩:=h
  rfl
 obtain ⟨mm,rfl,hM,q⟩:=h
 refine ⟨_,(qO (ps_ret (pe_callTy call_list_of rfl z_list bt_list (pK (pe_fld (pv 0) rfl) pN)))),?_⟩
 obtain ⟨dx,ev,h1,h2⟩:=hM.ob
 refine ⟨_,rfl,mm.ma,C,dx,_,_,rfl,h1,ac.cl,ac.a_records,mc_recs,mm.rc,_,rfl,.inl (SqL.of hM.rc),fun l hl=>?_⟩
 exact q l _ (sN hl _) hl uS
theorem sc_Plain_bare:FnScope ["self","value"] ["self","value"] (dS s_Plain_bare):=by walk_at "sc"
theorem ok_Plain_bare{f:Addr}{fd:FuncData}(F:Fun K "bare" "Plain.bare" s_Plain_bare f fd){C_Frame:Addr}(ac_Frame:AC_Frame K C_Frame){C:Addr}(ac:AC_Plain K C):FnOk P w K mg base CX0 1 f fd ["self","value"] (sp_bare K false):=by
 refine F.ok sc_Plain_bare (fun vs H Q E h=>?_) (fun cdv A outer s H vs Q E hr h=>?_)
 ·obtain ⟨x,v,y,rfl,hv,hy,q⟩:=h
  rfl
 obtain ⟨x,v,y,rfl,hv,hy,q⟩:=h
 refine ⟨_,(qO (ps_ret (pv 1))),?_⟩
 have e:v=.int (bareV y):=hv
 subst e
 exact ⟨_,rfl,q⟩
theorem sc_Watched_bare:FnScope ["self","value"] ["self","value"] (dS s_Watched_bare):=by walk_at "sc"
theorem ok_Watched_bare{f:Addr}{fd:FuncData}(F:Fun K "bare" "Watched.bare" s_Watched_bare f fd){C_Frame:Addr}(ac_Frame:AC_Frame K C_Frame){C:Addr}(ac:AC_Plain K C):FnOk P w K mg base CX0 1 f fd ["self","value"] (sp_bare K true):=by
 refine F.ok sc_Watched_bare (fun vs H Q E h=>?_) (fun cdv A outer s H vs Q E hr h=>?_)
 ·obtain ⟨x,v,y,rfl,hv,hy,q⟩:=h
  rfl
 obtain ⟨x,v,y,rfl,hv,hy,q⟩:=h
 refine ⟨_,(qO (ps_ret (pe_ix ix_tup (pv 1) pI (fun _ _=>rfl)))),?_⟩
 cases y with
 | none=>exact absurd rfl hy
 | num w =>
  obtain ⟨t,rfl,ht⟩:=vl_num hv
  exact ⟨_,rfl,t,_,_,_,rfl,rfl,ht,aN (j:=1) rfl,q⟩
 | rcd n =>
  obtain ⟨t,rfl,ht⟩:=vl_rec hv
  exact ⟨_,rfl,t,_,_,_,rfl,rfl,ht,aN (j:=1) rfl,q⟩
theorem sc_Plain_do_give:FnScope ["self","frame","value","beneath"] ["self","frame"] (dS s_Plain_do_give):=by walk_at "sc"
theorem ok_Plain_do_give{f:Addr}{fd:FuncData}(F:Fun K "do_give" "Plain.do_give" s_Plain_do_give f fd)(z_len:mg "len"=none){C_Frame:Addr}(ac_Frame:AC_Frame K C_Frame){C:Addr}{wt:Bool}(ac:AC_Plain K C)(hm_bare:HasM P w K mg base CX0 C "bare" 1 ["self","value"] (sp_bare K wt)):FnOk P w K mg base CX0 2 f fd ["self","frame"] (sp_do_give K C_Frame C wt):=by
 refine F.ok sc_Plain_do_give (fun vs H Q E h=>?_) (fun cdv A outer s H vs Q E hr h=>?_)
 ·obtain ⟨mm,fr,st,x,rfl,hM,hf,hst,hn,q⟩:=h
  rfl
 obtain ⟨mm,fr,st,x,rfl,hM,hf,hst,hn,q⟩:=h
 refine ⟨_,(qK (ps_set (i:=2) sc_Plain_do_give.nd rfl (Or.inl rfl) (pe_bm0 PySem.F.plainAttrs_list PySem.F.slot_list_pop PySem.F.type_list_pop mt_pop (pe_fld (pv 1) rfl)))
   (qK (ps_expr (pe_bm0 PySem.F.plainAttrs_list PySem.F.slot_list_pop PySem.F.type_list_pop mt_pop (pe_fld (pv 0) rfl)))
   (qK (ps_if (tR op_eq (pe_callB call_len_seq rfl z_len bt_len (pK (pe_fld (pv 0) rfl) pN)) pI (nomark _)) (qK (ps_fld (pv 0) (pe_tup (pK pe_str (pK (pe_cm (pv 0) hm_bare pass0 (hr.mono (by decide)) (pK (pv 2) pN)) pN))) rfl)
   (qO ps_retN)) pss_nil)
   (qK ps_never
   (qK ps_never
   (qO ps_never)))))),?_⟩
 have hf':mm.frs=[]++[fr]:=hf
 have hF:=hM.last hf'
 obtain ⟨⟨fdx,f1⟩,⟨bys,f2,f3⟩,⟨sys,f4,f5⟩,fne⟩:=id hF
 have ff:=foot_fm hf'
 rw [hst] at f5
 obtain ⟨zs,y,rfl,hz,hv⟩:=f5.lastOf
 refine ⟨_,rfl,fr.fa,C_Frame,fdx,_,_,rfl,f1,ac_Frame.cl,ac_Frame.a_stack,fm_stack,.inl ⟨rfl,_,SqL.of f4⟩,fr.sl,_,y,rfl,rfl,f4,last_at,?_⟩
 rw [List.dropLast_concat]
 obtain ⟨a1,a2⟩:=hF.setSt (Same.refl H) hz
 have M1:=hM.top hf' (f':={fr with st:=st}) rfl rfl rfl a2 a1
 have kx:KeepX [fr.sl] H (upd H fr.sl (.lst zs)):=keep_upd
 have mu:MutAll H [fr.sl]:=hF.mut.sub (fun c hc=>by rw [msp hc]; simp [fmL])
 have hv1:=hv.keep kx mu
 have K1:=a2.sub ff
 generalize upd H fr.sl (.lst zs)=H1 at M1 hv1 K1 ⊢
 obtain ⟨mdx,ev,m1,m2⟩:=M1.ob
 have L1:H1 mm.lv=some (.lst ([]++[.ref fr.fa])):=M1.lv
 refine ⟨_,rfl,mm.ma,C,mdx,_,_,rfl,m1,ac.cl,ac.a_live,mc_live,.inl ⟨rfl,_,SqL.of L1⟩,mm.lv,_,_,rfl,rfl,L1,last_at,?_⟩
 rw [List.dropLast_concat]
 have M2:=M1.pop (fs:=[]) (f:={fr with st:=st}) rfl (H':=upd H1 mm.lv (.lst [])) keep_upd uS
 have kx2:KeepX [mm.lv] H1 (upd H1 mm.lv (.lst [])):=keep_upd
 have mu2:MutAll H1 [mm.lv]:=M1.mut.sub (fun c hc=>by rw [msp hc]; simp [foot])
 have hv2:=hv1.keep kx2 mu2
 have K2:KeepX (foot mm) H (upd H1 mm.lv (.lst [])):=K1.trans (KeepX.sub keep_upd (fun c hc=>by rw [msp hc]; simp [foot]))
 generalize upd H1 mm.lv (.lst [])=H2 at M2 hv2 K2 ⊢
 obtain ⟨ndx,nev,n1,n2⟩:=M2.ob
 refine ⟨_,rfl,mm.ma,C,ndx,_,_,rfl,n1,ac.cl,ac.a_live,mc_live,mm.lv,_,rfl,.inl (SqL.of M2.lv),rfl,_,rfl,ifY rfl ?_⟩
 refine ⟨_,rfl,mm.ma,ndx,_,rfl,n1,mc_no (by decide +kernel),_,rfl,_,y,x,rfl,hv2,hn,sz2,fun t ht=>?_⟩
 have u3:=sN ht (.tup [.str "gave",.int (bareV x)])
 have T3:SqT K (upd H2 t (.tup [.str "gave",.int (bareV x)])) t [.str "gave",.int (bareV x)]:=SqT.of uS
 have M3:=M2.same u3
 have K3:=K2.trans (keep_of u3)
 have n1':=u3 _ _ n1
 generalize upd H2 t (.tup [.str "gave",.int (bareV x)])=H3 at u3 T3 M3 K3 n1' ⊢
 refine ⟨_,rfl,mm.ma,C,ndx,_,rfl,n1',ac.cl,ac.a_end,mc_few,?_⟩
 rw [mc_putEnd]
 have mu3:MutAll H3 [mm.ma]:=M3.mut.sub (fun c hc=>by rw [msp hc]; simp [foot])
 have kx3:KeepX [mm.ma] H3 (upd H3 mm.ma (.ins C ndx (mcF mm.b mm.lv mm.rc mm.sd mm.left (.ref t)))):=keep_upd
 exact q _ (M3.own kx3 uS (.inr ⟨(by simp),t,rfl,SqT.keep kx3 mu3 T3⟩)) (K3.trans (KeepX.sub kx3 (fun c hc=>by rw [msp hc]; simp [foot])))
theorem sc_wrapped:FnScope ["number"] ["number"] (dS s_wrapped):=by walk_at "sc"
theorem ok_wrapped{f:Addr}{fd:FuncData}(F:Fun K "wrapped" "wrapped" s_wrapped f fd){t_HALF:Tok}(g_HALF:mg "HALF"=some (.int 2147483648 t_HALF))(r_HALF:RelV (.int 2147483648) (.int 2147483648 t_HALF)){t_TURN:Tok}(g_TURN:mg "TURN"=some (.int 4294967296 t_TURN))(r_TURN:RelV (.int 4294967296) (.int 4294967296 t_TURN)){C_Frame:Addr}(ac_Frame:AC_Frame K C_Frame):FnOk P w K mg base CX0 1 f fd ["number"] (sp_wrapped K):=by
 refine F.ok sc_wrapped (fun vs H Q E h=>?_) (fun cdv A outer s H vs Q E hr h=>?_)
 ·obtain ⟨n,rfl,q⟩:=h
  rfl
 obtain ⟨n,rfl,q⟩:=h
 refine ⟨_,(qO (ps_ret (pe_op op_sub (pe_op op_mod (pe_op op_add (pv 0) (pe_glob rfl g_HALF r_HALF)) (pe_glob rfl g_TURN r_TURN)) (pe_glob rfl g_HALF r_HALF)))),?_⟩
 walk_at "rd"
 exact q
theorem sc_divided:FnScope ["sign","one","other"] ["sign","one","other"] (dS s_divided):=by walk_at "sc"
theorem ok_divided{f:Addr}{fd:FuncData}(F:Fun K "divided" "divided" s_divided f fd){C_Frame:Addr}(ac_Frame:AC_Frame K C_Frame)(h_wrapped:Has P w K mg base CX0 "wrapped" 1 ["number"] (sp_wrapped K)):FnOk P w K mg base CX0 2 f fd ["sign","one","other"] (sp_divided K):=by
 refine F.ok sc_divided (fun vs H Q E h=>?_) (fun cdv A outer s H vs Q E hr h=>?_)
 ·obtain ⟨sign,a,b,rfl,hp,ha,hb,z,q⟩:=h
  rfl
 obtain ⟨sign,a,b,rfl,hp,ha,hb,z,q⟩:=h
 refine ⟨_,(qK (ps_if (tR op_eq (pv 2) pI (nomark _)) (qO ps_never) pss_nil)
   (qK (ps_if (tR op_eq (pv 0) pe_str (nomark _)) (qO (ps_ret (pe_ch h_wrapped (hr.mono (by decide)) rfl (pK (pe_op op_fdivL (pv 1) (pv 2)) pN)))) pss_nil)
   (qO (ps_ret (pe_op op_modN (pv 1) (pv 2)))))),?_⟩
 refine ⟨_,rfl,rfl,_,rfl,?_⟩
 refine ifN (fun y=>z (V.int.inj y)) ?_
 have hb':CDivL a b:=⟨z,by unfold inW at hb; omega⟩
 refine ⟨_,rfl,rfl,_,rfl,?_⟩
 rcases hp with rfl | rfl
 ·refine ifY rfl ?_
  rw [rk_div] at q
  exact ⟨_,rfl,_,rfl,_,_,rfl,rfl,hb',_,rfl,q⟩
 ·refine ifN (by decide +kernel) ?_
  rw [rk_rem] at q
  exact ⟨_,rfl,_,rfl,_,_,rfl,rfl,z,q⟩
theorem sc_reckoned:FnScope ["sign","one","other"] ["sign","one","other"] (dS s_reckoned):=by walk_at "sc"
theorem ok_reckoned{f:Addr}{fd:FuncData}(F:Fun K "reckoned" "reckoned" s_reckoned f fd){C_Frame:Addr}(ac_Frame:AC_Frame K C_Frame)(h_divided:Has P w K mg base CX0 "divided" 2 ["sign","one","other"] (sp_divided K))(h_wrapped:Has P w K mg base CX0 "wrapped" 1 ["number"] (sp_wrapped K)):FnOk P w K mg base CX0 3 f fd ["sign","one","other"] (sp_reckoned K):=by
 refine F.ok sc_reckoned (fun vs H Q E h=>?_) (fun cdv A outer s H vs Q E hr h=>?_)
 ·obtain ⟨sign,a,b,rfl,hp,ha,hb,hz,q0⟩:=h
  rfl
 obtain ⟨sign,a,b,rfl,hp,ha,hb,hz,q0⟩:=h
 refine ⟨_,(qK (ps_if (tR op_eq (pv 0) pe_str (nomark _)) (qO (ps_ret (pe_ch h_wrapped (hr.mono (by decide)) rfl (pK (pe_op op_add (pv 1) (pv 2)) pN)))) pss_nil)
   (qK (ps_if (tR op_eq (pv 0) pe_str (nomark _)) (qO (ps_ret (pe_ch h_wrapped (hr.mono (by decide)) rfl (pK (pe_op op_sub (pv 1) (pv 2)) pN)))) pss_nil)
   (qK (ps_if (tR op_eq (pv 0) pe_str (nomark _)) (qO (ps_ret (pe_ch h_wrapped (hr.mono (by decide)) rfl (pK (pe_op op_mul (pv 1) (pv 2)) pN)))) pss_nil)
   (qK (ps_if (tR op_eq (pv 0) pe_str (nomark _)) (qO (ps_ret (pe_ifExp (tR op_lt (pv 1) (pv 2) (nomark _)) pI pI))) pss_nil)
   (qK (ps_if (tR op_eq (pv 0) pe_str (nomark _)) (qO (ps_ret (pe_ifExp (tR op_eq (pv 1) (pv 2) (nomark _)) pI pI))) pss_nil)
   (qO (ps_ret (pe_ch h_divided (hr.mono (by decide)) rfl (pK (pv 0) (pK (pv 1) (pK (pv 2) pN))))))))))),?_⟩
 have q:(parts sign→b≠0)→Q (.int (rk sign a b)) H:=fun _=>q0
 have no:∀s1 s2:Str,s1≠s2→¬ (V.str s1=V.str s2):=fun s1 s2 h z=>h (V.str.inj z)
 rcases hp with rfl | rfl | rfl | rfl | rfl | hp
 ·refine ⟨_,rfl,rfl,_,rfl,ifY rfl ?_⟩
  have y:=q fun z=>absurd z dv.1
  rw [rk_add] at y
  exact ⟨_,rfl,_,rfl,_,_,rfl,rfl,_,rfl,y⟩
 ·refine ⟨_,rfl,rfl,_,rfl,ifN (by decide +kernel) ?_⟩
  refine ⟨_,rfl,rfl,_,rfl,ifY rfl ?_⟩
  have y:=q fun z=>absurd z dv.2.1
  rw [rk_sub] at y
  exact ⟨_,rfl,_,rfl,_,_,rfl,rfl,_,rfl,y⟩
 ·refine ⟨_,rfl,rfl,_,rfl,ifN (by decide +kernel) ?_⟩
  refine ⟨_,rfl,rfl,_,rfl,ifN (by decide +kernel) ?_⟩
  refine ⟨_,rfl,rfl,_,rfl,ifY rfl ?_⟩
  have hm:CMul a b:=.inl ⟨by unfold inW at ha; omega,by unfold inW at ha; omega⟩
  have y:=q fun z=>absurd z dv.2.2.1
  rw [rk_mul] at y
  exact ⟨_,rfl,_,rfl,_,_,rfl,rfl,hm,_,rfl,y⟩
 ·refine ⟨_,rfl,rfl,_,rfl,ifN (by decide +kernel) ?_⟩
  refine ⟨_,rfl,rfl,_,rfl,ifN (by decide +kernel) ?_⟩
  refine ⟨_,rfl,rfl,_,rfl,ifN (by decide +kernel) ?_⟩
  refine ⟨_,rfl,rfl,_,rfl,ifY rfl ?_⟩
  refine ⟨_,rfl,_,rfl,_,_,rfl,rfl,_,rfl,?_⟩
  have z:=q fun z=>absurd z dv.2.2.2.1
  have e:=rk_less a b
  rw [e] at z
  by_cases y:a < b
  ·rw [if_pos y] at z; exact ifY y z
  ·rw [if_neg y] at z; exact ifN y z
 ·refine ⟨_,rfl,rfl,_,rfl,ifN (by decide +kernel) ?_⟩
  refine ⟨_,rfl,rfl,_,rfl,ifN (by decide +kernel) ?_⟩
  refine ⟨_,rfl,rfl,_,rfl,ifN (by decide +kernel) ?_⟩
  refine ⟨_,rfl,rfl,_,rfl,ifN (by decide +kernel) ?_⟩
  refine ⟨_,rfl,rfl,_,rfl,ifY rfl ?_⟩
  refine ⟨_,rfl,_,rfl,rfl,_,rfl,?_⟩
  have z:=q fun z=>absurd z dv.2.2.2.2
  have e:=rk_same a b
  rw [e] at z
  by_cases y:a=b
  ·rw [if_pos y] at z; exact ifY (congrArg V.int y) z
  ·rw [if_neg y] at z; exact ifN (fun w=>y (V.int.inj w)) z
 ·have h1:sign≠"add"∧sign≠"sub"∧sign≠"mul"∧sign≠"less"∧sign≠"same":=by rcases hp with rfl | rfl <;> decide +kernel
  refine ⟨_,rfl,rfl,_,rfl,ifN (no _ _ h1.1) ?_⟩
  refine ⟨_,rfl,rfl,_,rfl,ifN (no _ _ h1.2.1) ?_⟩
  refine ⟨_,rfl,rfl,_,rfl,ifN (no _ _ h1.2.2.1) ?_⟩
  refine ⟨_,rfl,rfl,_,rfl,ifN (no _ _ h1.2.2.2.1) ?_⟩
  refine ⟨_,rfl,rfl,_,rfl,ifN (no _ _ h1.2.2.2.2) ?_⟩
  exact ⟨_,rfl,_,rfl,_,rfl,sign,a,b,rfl,hp,ha,hb,hz hp,q0⟩
theorem sc_taken:FnScope ["stack","many","values"] ["stack","many"] (dS s_taken):=by walk_at "sc"
theorem ok_taken{f:Addr}{fd:FuncData}(F:Fun K "taken" "taken" s_taken f fd)(z_range:mg "range"=none){C_Frame:Addr}(ac_Frame:AC_Frame K C_Frame):FnOk P w K mg base CX0 1 f fd ["stack","many"] (sp_taken K):=by
 refine F.ok sc_taken (fun vs H Q E h=>?_) (fun cdv A outer s H vs Q E hr h=>?_)
 ·obtain ⟨sl,xs,n,rfl,hS,hn,h100,q⟩:=h
  rfl
 obtain ⟨sl,xs,n,rfl,hS,hn,h100,q⟩:=h
 refine ⟨_,(qK (ps_setLC (i:=2) sc_taken.nd rfl (Or.inl rfl) 1 ["k","stack"] [0] ⟨rfl,rfl,rfl,rfl,rfl,rfl,rfl,rfl⟩ (pi_range1 rfl z_range (pK (pv 1) pN)) (fun _ _ _ _=>⟨(pg_name (i:=0) (show List.Nodup (["k","stack"]:List Str) by decide +kernel) rfl (Or.inl rfl)),pif_nil,(show PE _ _ (tBM0 K _ _ _) from (pe_bm0 PySem.F.plainAttrs_list PySem.F.slot_list_pop PySem.F.type_list_pop mt_pop (pv 1)))⟩))
   (qK (ps_expr (pe_bm0 PySem.F.plainAttrs_list PySem.F.slot_list_reverse PySem.F.type_list_reverse mt_reverse (pv 2)))
   (qO (ps_ret (pv 2))))),?_⟩
 refine ⟨_,rfl,_,rfl,by omega,by omega,fun D hD=>?_⟩
 have nD:sl≠D:=nN hS hD
 refine lc_range (lo:=0) (n:=((n:Nat):Int).toNat) (fun i ws H2=>H2 D=some (.lst ws)∧ws=(xs.drop (xs.length - i)).reverse∧H2 sl=some (.lst (xs.take (xs.length - i)))∧∀c o,c≠sl→H c=some o→H2 c=some o) (Nat.le_of_lt (sK (by omega))) ⟨uS,by simp,(uN nD).trans (by rw [hS]; simp),fun c o h1 e=>by rw [uN (nN e hD)]; exact e⟩ ?_ ?_ ?_
 ·rintro i ws H2 ⟨e1,rfl,_⟩
  refine ⟨e1,?_⟩
  rw [List.length_reverse,List.length_drop]
  omega
 ·rintro i ws H2 hi ⟨e1,rfl,e3,e4⟩
  have hix:i < xs.length:=by omega
  refine ⟨rfl,_,rfl,.inl ⟨rfl,_,SqL.of e3⟩,sl,_,_,rfl,rfl,e3,tk_last hix,(uN nD.symm).trans e1,uS,tk_rev hix,?_,fun c o h1 e=>?_⟩
  ·rw [uN nD,uS,tk_drop hix]
  ·rw [uN (nN e hD),uN h1]
   exact e4 c o h1 e
 rintro ws H2 ⟨e1,rfl,e3,e4⟩
 rw [Int.toNat_natCast] at e1 e3
 refine ⟨_,rfl,.inl ⟨rfl,_,SqL.of e1⟩,D,_,rfl,rfl,e1,?_⟩
 refine ⟨_,rfl,q D _ hD ?_ ((uN nD).trans e3) (fun c o h1 e=>?_)⟩
 ·rw [uS,List.reverse_reverse]
 ·rw [uN (nN e hD)]
  exact e4 c o h1 e
theorem sc_Plain_tagged:FnScope ["self","tag","number"] ["self","tag","number"] (dS s_Plain_tagged):=by walk_at "sc"
theorem ok_Plain_tagged{f:Addr}{fd:FuncData}(F:Fun K "tagged" "Plain.tagged" s_Plain_tagged f fd){C_Frame:Addr}(ac_Frame:AC_Frame K C_Frame){C:Addr}(ac:AC_Plain K C):FnOk P w K mg base CX0 1 f fd ["self","tag","number"] (sp_tagged K false):=by
 refine F.ok sc_Plain_tagged (fun vs H Q E h=>?_) (fun cdv A outer s H vs Q E hr h=>?_)
 ·obtain ⟨x,n,rfl,q⟩:=h
  rfl
 obtain ⟨x,n,rfl,q⟩:=h
 refine ⟨_,(qO (ps_ret (pv 2))),?_⟩
 exact ⟨_,rfl,q _ H (Same.refl _) rfl⟩
theorem sc_Watched_tagged:FnScope ["self","tag","number"] ["self","tag","number"] (dS s_Watched_tagged):=by walk_at "sc"
theorem ok_Watched_tagged{f:Addr}{fd:FuncData}(F:Fun K "tagged" "Watched.tagged" s_Watched_tagged f fd){C_Frame:Addr}(ac_Frame:AC_Frame K C_Frame){C:Addr}(ac:AC_Plain K C):FnOk P w K mg base CX0 1 f fd ["self","tag","number"] (sp_tagged K true):=by
 refine F.ok sc_Watched_tagged (fun vs H Q E h=>?_) (fun cdv A outer s H vs Q E hr h=>?_)
 ·obtain ⟨x,n,rfl,q⟩:=h
  rfl
 obtain ⟨x,n,rfl,q⟩:=h
 refine ⟨_,(qO (ps_ret (pe_tup (pK (pv 1) (pK (pv 2) pN))))),?_⟩
 refine ⟨_,rfl,_,rfl,sz2,fun t ht=>?_⟩
 exact q _ _ (sN ht _) (.tup' (SqT.of uS) (.cons (.str _) (.cons (.int _) .nil)))
theorem sc_Plain_do_reckoning:FnScope ["self","frame","sign","pair","word"] ["self","frame","sign"] (dS s_Plain_do_reckoning):=by walk_at "sc"
theorem ok_Plain_do_reckoning{f:Addr}{fd:FuncData}(F:Fun K "do_reckoning" "Plain.do_reckoning" s_Plain_do_reckoning f fd){C_Frame:Addr}(ac_Frame:AC_Frame K C_Frame){C:Addr}{wt:Bool}(ac:AC_Plain K C)(h_reckoned:Has P w K mg base CX0 "reckoned" 3 ["sign","one","other"] (sp_reckoned K))(h_taken:Has P w K mg base CX0 "taken" 1 ["stack","many"] (sp_taken K))(hm_bare:HasM P w K mg base CX0 C "bare" 1 ["self","value"] (sp_bare K wt))(hm_tagged:HasM P w K mg base CX0 C "tagged" 1 ["self","tag","number"] (sp_tagged K wt)):FnOk P w K mg base CX0 4 f fd ["self","frame","sign"] (sp_do_reckoning K C_Frame C wt):=by
 refine F.ok sc_Plain_do_reckoning (fun vs H Q E h=>?_) (fun cdv A outer s H vs Q E hr h=>?_)
 ·obtain ⟨mm,fs,fr,s',st,x,y,rfl,hM,hf,hst,hs,hx,hy,hz,h100,q⟩:=h
  rfl
 obtain ⟨mm,fs,fr,s',st,x,y,rfl,hM,hf,hst,hs,hx,hy,hz,h100,q⟩:=h
 refine ⟨_,(qK (ps_setLC (i:=3) sc_Plain_do_reckoning.nd rfl (Or.inl rfl) 1 ["value","self"] [0] ⟨rfl,rfl,rfl,rfl,rfl,rfl,rfl,rfl⟩ (pi_list (pe_ch h_taken (hr.mono (by decide)) rfl (pK (pe_fld (pv 1) rfl) (pK pI pN)))) (fun _ _ _ _=>⟨(pg_name (i:=0) (show List.Nodup (["value","self"]:List Str) by decide +kernel) rfl (Or.inl rfl)),pif_nil,(show PE _ _ (tMeth C _ _ [] _ _ _) from (pe_cm (pv 1) hm_bare pass0 (hr.mono (by decide)) (pK (pv 0) pN)))⟩))
   (qK (ps_try0 (fun _=>(qO (ps_set (i:=4) sc_Plain_do_reckoning.nd rfl (Or.inl rfl) (pe_ch h_reckoned (hr.mono (by decide)) rfl (pK (pv 2) (pK (pe_ix (r:=rIxL K) ix_list (pv 3) pI (fun _ _=>rfl)) (pK (pe_ix (r:=rIxL K) ix_list (pv 3) pI (fun _ _=>rfl)) pN))))))))
   (qK (ps_expr (pe_bm PySem.F.plainAttrs_list PySem.F.slot_list_append PySem.F.type_list_append mt_append (pe_fld (pv 1) rfl) (pK (pe_cm (pv 0) hm_tagged pass0 (hr.mono (by decide)) (pK pe_str (pK (pv 4) pN))) pN)))
   (qO (ps_fld (pv 1) (pe_op op_add (pe_fld (pv 1) rfl) pI) rfl))))),?_⟩
 have hF:=hM.last hf
 obtain ⟨⟨fdx,f1⟩,⟨bys,f2,f3⟩,⟨sys,f4,f5⟩,fne⟩:=id hF
 have ff:=foot_fm hf
 obtain ⟨mdx,ev,m1,m2⟩:=hM.ob
 rw [hst] at f5 h100
 obtain ⟨zs,u,v,rfl,hzs,hu,hv⟩:=f5.last2
 refine ⟨_,rfl,fr.fa,C_Frame,fdx,_,_,rfl,f1,ac_Frame.cl,ac_Frame.a_stack,fm_stack,?_⟩
 refine ⟨fr.sl,_,2,rfl,f4,by simp,by decide,fun l H1 nl g1 g2 k1=>?_⟩
 rw [tk2.1] at g1
 rw [tk2.2] at g2
 have kx:KeepX [fr.sl] H H1:=fun c o hc e=>k1 c o (fun z=>hc (by rw [z]; exact List.mem_singleton.mpr rfl)) e
 have mu:MutAll H [fr.sl]:=hF.mut.sub (fun c hc=>by rw [msp hc]; simp [fmL])
 obtain ⟨a1,a2⟩:=hF.putSt kx g2 (hzs.keep kx mu)
 have M1:=hM.top hf (f':={fr with st:=st}) rfl rfl rfl a2 a1
 have hu1:=hu.keep kx mu
 have hv1:=hv.keep kx mu
 obtain ⟨ndx,nev,n1,n2⟩:=M1.ob
 refine ⟨l,rfl,⟨_,SqL.of g1⟩,fun D hD=>?_⟩
 refine lc_list (xs:=[u,v]) (fun i ys H3=>Same H1 H3∧H3 D=some (.lst ys)∧ys=(([x,y]:List Int).take i).map V.int) sz2 ⟨sN hD _,uS,rfl⟩ ?_ ?_ ?_
 ·rintro i ys H3 hi ⟨s3,g3,rfl⟩
  refine ⟨g3,?_,s3.seq (SqL.of g1)⟩
  rw [List.length_map,List.length_take]
  omega
 ·rintro i w ys H3 hx' ⟨s3,g3,rfl⟩
  obtain ⟨n,hw,e⟩:∃n:Int,VlA K H1 wt w (.num n)∧(([x,y]:List Int).take i).map V.int++[.int n]=(([x,y]:List Int).take (i + 1)).map V.int:=by
   match i,hx' with
   | 0,hx'=>cases hx'; exact ⟨x,hu1,rfl⟩
   | 1,hx'=>cases hx'; exact ⟨y,hv1,rfl⟩
   | (k + 2),hx'=>simp at hx'
  exact ⟨rfl,_,rfl,mm.ma,ndx,_,rfl,s3 _ _ n1,mc_no (by decide +kernel),_,rfl,_,w,.num n,rfl,hw.same s3,(by intro z; cases z),g3,Same_upd s3 hD _,uS,e⟩
 rintro ys H3 ⟨s3,g3,rfl⟩
 refine ⟨_,rfl,_,rfl,D,_,_,_,rfl,rfl,SqL.of g3,aN (j:=0) rfl,_,rfl,D,_,_,_,rfl,rfl,SqL.of g3,aN (j:=1) rfl,s',x,y,rfl,hs,hx,hy,hz,?_⟩
 have M3:=M1.same s3
 have F3:=M3.last rfl
 obtain ⟨⟨gdx,e1⟩,⟨gys,e2,e3⟩,⟨gzs,e4,e5⟩,gne⟩:=id F3
 obtain ⟨pdx,pev,p1,p2⟩:=M3.ob
 have lz:=e5.1
 refine ⟨_,rfl,fr.fa,C_Frame,gdx,_,_,rfl,e1,ac_Frame.cl,ac_Frame.a_stack,fm_stack,.inl ⟨rfl,_,SqL.of e4⟩,_,rfl,mm.ma,pdx,_,rfl,p1,mc_no (by decide +kernel),_,rfl,_,_,rfl,fun w H4 s4 hw=>?_⟩
 refine ⟨fr.sl,gzs,w,rfl,rfl,s4 _ _ e4,sK (by show gzs.length≤1000; rw [lz]; simp at h100; show st.length≤1000; omega),?_⟩
 obtain ⟨b1,b2⟩:=F3.setSt s4 ((e5.same s4).snoc hw)
 have M4:=M3.top (fs:=fs) (f:={fr with st:=st}) (f':={fr with st:=st++[.num (rk s' x y)]}) rfl rfl rfl rfl b2 b1
 have K4:KeepX (foot mm) H (upd H4 fr.sl (.lst (gzs++[w]))):=((a2.sub ff).trans (keep_of s3)).trans (b2.sub ff)
 generalize upd H4 fr.sl (.lst (gzs++[w]))=H5 at M4 K4 ⊢
 have F4:=M4.last rfl
 obtain ⟨⟨hdx,i1⟩,_⟩:=id F4
 refine ⟨_,rfl,fr.fa,C_Frame,hdx,_,_,rfl,i1,ac_Frame.cl,ac_Frame.a_at,fm_at,_,_,rfl,rfl,_,rfl,fr.fa,C_Frame,hdx,_,rfl,i1,ac_Frame.cl,ac_Frame.a_at,fm_few,?_⟩
 rw [fm_putAt]
 obtain ⟨c1,c2⟩:=F4.setAt (dx:=hdx) (a:=fr.at' + 1)
 have M5:=M4.top (fs:=fs) (f:={fr with st:=st++[.num (rk s' x y)]}) (f':={fr with st:=st++[.num (rk s' x y)],at':=fr.at' + 1}) rfl rfl rfl rfl c2 c1
 exact q _ M5 (K4.trans (c2.sub ff))
theorem sc_Plain_do_straight:FnScope ["self","frame","row","sign","stack","pair"] ["self","frame","row"] (dS s_Plain_do_straight):=by walk_at "sc"
theorem ok_Plain_do_straight{f:Addr}{fd:FuncData}(F:Fun K "do_straight" "Plain.do_straight" s_Plain_do_straight f fd){C_Frame:Addr}(ac_Frame:AC_Frame K C_Frame){C:Addr}{wt:Bool}(ac:AC_Plain K C)(h_taken:Has P w K mg base CX0 "taken" 1 ["stack","many"] (sp_taken K))(hm_bare:HasM P w K mg base CX0 C "bare" 1 ["self","value"] (sp_bare K wt))(hm_tagged:HasM P w K mg base CX0 C "tagged" 1 ["self","tag","number"] (sp_tagged K wt)):FnOk P w K mg base CX0 2 f fd ["self","frame","row"] (sp_do_straight K C_Frame C wt):=by
 refine F.ok sc_Plain_do_straight (fun vs H Q E h=>?_) (fun cdv A outer s H vs Q E hr h=>?_)
 ·obtain ⟨mm,fs,fr,fr',r,rt,sd,rfl,hM,hf,hR,hK,h100,h900,q⟩:=h
  rfl
 obtain ⟨mm,fs,fr,fr',r,rt,sd,rfl,hM,hf,hR,hK,h100,h900,q⟩:=h
 refine ⟨_,(qK (ps_set (i:=3) sc_Plain_do_straight.nd rfl (Or.inl rfl) (pe_ix ix_tup (pv 2) pI (fun _ _=>rfl)))
   (qK (ps_set (i:=4) sc_Plain_do_straight.nd rfl (Or.inl rfl) (pe_fld (pv 1) rfl))
   (qO (ps_if (tR op_eq (pv 3) pe_str (nomark _)) (qO (ps_expr (pe_bm PySem.F.plainAttrs_list PySem.F.slot_list_append PySem.F.type_list_append mt_append (pv 4) (pK (pe_cm (pv 0) hm_tagged pass0 (hr.mono (by decide)) (pK pe_str (pK (pe_ix ix_tup (pv 2) pI (fun _ _=>rfl)) pN))) pN)))) (qO (ps_if (tR op_eq (pv 3) pe_str (nomark _)) (qO (ps_expr (pe_bm PySem.F.plainAttrs_list PySem.F.slot_list_append PySem.F.type_list_append mt_append (pv 4) (pK (pe_ix ix_list (pe_fld (pv 1) rfl) (pe_ix ix_tup (pv 2) pI (fun _ _=>rfl)) (fun _ _=>rfl)) pN)))) (qO (ps_if (tR op_eq (pv 3) pe_str (nomark _)) (qO (ps_asg (pe_bm0 PySem.F.plainAttrs_list PySem.F.slot_list_pop PySem.F.type_list_pop mt_pop (pv 4)) (pg_sub (pe_fld (pv 1) rfl) (pe_ix ix_tup (pv 2) pI (fun _ _=>rfl)) set_list))) (qO (ps_if (tR op_eq (pv 3) pe_str (nomark _)) (qO (ps_expr (pe_bm PySem.F.plainAttrs_list PySem.F.slot_list_append PySem.F.type_list_append mt_append (pv 4) (pK (pe_ix ix_list (pv 4) (pe_un un_neg pI) (fun _ _=>rfl)) pN)))) (qO (ps_if (tR op_eq (pv 3) pe_str (nomark _)) (qK (ps_set (i:=5) sc_Plain_do_straight.nd rfl (Or.inl rfl) (pe_ch h_taken (hr.mono (by decide)) rfl (pK (pv 4) (pK pI pN))))
   (qO (ps_expr (pe_bm PySem.F.plainAttrs_list PySem.F.slot_list_extend PySem.F.type_list_extend mt_extend (pv 4) (pK (pe_lst (pK (pe_ix ix_list (pv 5) pI (fun _ _=>rfl)) (pK (pe_ix ix_list (pv 5) pI (fun _ _=>rfl)) pN))) pN))))) (qO (ps_if (tR op_eq (pv 3) pe_str (nomark _)) (qO (ps_expr (pe_bm0 PySem.F.plainAttrs_list PySem.F.slot_list_pop PySem.F.type_list_pop mt_pop (pv 4)))) (qO (ps_expr (pe_bm PySem.F.plainAttrs_list PySem.F.slot_list_append PySem.F.type_list_append mt_append (pe_fld (pv 0) rfl) (pK (pe_cm (pv 0) hm_bare pass0 (hr.mono (by decide)) (pK (pe_bm0 PySem.F.plainAttrs_list PySem.F.slot_list_pop PySem.F.type_list_pop mt_pop (pv 4)) pN)) pN)))))))))))))))))),?_⟩
 have hF:=hM.last hf
 obtain ⟨⟨fdx,f1⟩,⟨bys,f2,f3⟩,⟨sys,f4,f5⟩,fne⟩:=id hF
 have lst:=f5.1
 have ff:=foot_fm hf
 obtain ⟨mdx,ev,m1,m2⟩:=hM.ob
 refine ⟨_,rfl,rt,_,_,_,rfl,rfl,hR,aN (j:=0) rfl,?_⟩
 refine ⟨_,rfl,fr.fa,C_Frame,fdx,_,_,rfl,f1,ac_Frame.cl,ac_Frame.a_stack,fm_stack,?_⟩
 cases hK with
 | push =>
  rename_i w
  refine ⟨_,rfl,rfl,_,rfl,ifY rfl ?_⟩
  refine ⟨_,rfl,.inl ⟨rfl,_,SqL.of f4⟩,_,rfl,mm.ma,mdx,_,rfl,m1,mc_no (by decide +kernel),_,rfl,rt,_,_,_,rfl,rfl,hR,aN (j:=1) rfl,_,w,rfl,fun v H1 s1 hv=>?_⟩
  obtain ⟨a1,a2⟩:=hF.setSt s1 ((f5.same s1).snoc hv)
  exact ⟨fr.sl,sys,v,rfl,rfl,s1 _ _ f4,sK (by omega),q _ (hM.top hf rfl rfl rfl a2 a1) (a2.sub ff)⟩
 | load hx =>
  rename_i b x
  refine ⟨_,rfl,rfl,_,rfl,ifN (show ¬ V.str "load"=V.str "push" by decide +kernel) ?_⟩
  refine ⟨_,rfl,rfl,_,rfl,ifY rfl ?_⟩
  obtain ⟨y,hy,hv⟩:=f3.at hx
  refine ⟨_,rfl,.inl ⟨rfl,_,SqL.of f4⟩,_,rfl,fr.fa,C_Frame,fdx,_,_,rfl,f1,ac_Frame.cl,ac_Frame.a_boxes,fm_boxes,_,rfl,rt,_,_,_,rfl,rfl,hR,aN (j:=1) rfl,fr.bl,_,_,_,rfl,rfl,SqL.of f2,aN hy,?_⟩
  obtain ⟨a1,a2⟩:=hF.setSt (Same.refl H) (f5.snoc hv)
  exact ⟨fr.sl,sys,y,rfl,rfl,f4,sK (by omega),q _ (hM.top hf rfl rfl rfl a2 a1) (a2.sub ff)⟩
 | store hst hb =>
  rename_i b st x
  refine ⟨_,rfl,rfl,_,rfl,ifN (show ¬ V.str "store"=V.str "push" by decide +kernel) ?_⟩
  refine ⟨_,rfl,rfl,_,rfl,ifN (show ¬ V.str "store"=V.str "load" by decide +kernel) ?_⟩
  refine ⟨_,rfl,rfl,_,rfl,ifY rfl ?_⟩
  rw [hst] at f5
  obtain ⟨zs,y,rfl,hz,hv⟩:=f5.lastOf
  refine ⟨_,rfl,.inl ⟨rfl,_,SqL.of f4⟩,fr.sl,_,y,rfl,rfl,f4,last_at,?_⟩
  rw [List.dropLast_concat]
  obtain ⟨a1,a2⟩:=hF.setSt (Same.refl H) hz
  have M1:=hM.top hf (f':={fr with st:=st}) rfl rfl rfl a2 a1
  have F1:=M1.last rfl
  obtain ⟨⟨gdx,g1⟩,⟨gys,g2,g3⟩,⟨gzs,g4,g5⟩,gne⟩:=id F1
  have kx:KeepX [fr.sl] H (upd H fr.sl (.lst zs)):=keep_upd
  have mu:MutAll H [fr.sl]:=hF.mut.sub (fun c hc=>by rw [msp hc]; simp [fmL])
  have hv1:=hv.keep kx mu
  have gR:=SqT.keep kx mu hR
  have a2':=a2.sub ff
  generalize upd H fr.sl (.lst zs)=H1 at M1 F1 g1 g2 g3 g4 g5 hv1 gR a2' ⊢
  have lb:=g3.1
  refine ⟨_,rfl,fr.fa,C_Frame,gdx,_,_,rfl,g1,ac_Frame.cl,ac_Frame.a_boxes,fm_boxes,_,rfl,rt,_,_,_,rfl,rfl,gR,aN (j:=1) rfl,fr.bl,gys,_,b,rfl,rfl,g2,ixN_nat (by show b < gys.length; rw [lb]; exact hb),?_⟩
  obtain ⟨b1,b2⟩:=F1.setBx (Same.refl H1) (g3.set hv1 b)
  have M2:=M1.top (fs:=fs) (f:={fr with st:=st}) (f':={fr with bx:=fr.bx.set b x,st:=st}) rfl rfl rfl rfl b2 b1
  exact q _ M2 (a2'.trans (b2.sub ff))
 | dup hst =>
  rename_i st x
  refine ⟨_,rfl,rfl,_,rfl,ifN (by decide +kernel) ?_⟩
  refine ⟨_,rfl,rfl,_,rfl,ifN (by decide +kernel) ?_⟩
  refine ⟨_,rfl,rfl,_,rfl,ifN (by decide +kernel) ?_⟩
  refine ⟨_,rfl,rfl,_,rfl,ifY rfl ?_⟩
  have f5':=f5
  rw [hst] at f5'
  obtain ⟨zs,y,rfl,hz,hv⟩:=f5'.lastOf
  refine ⟨_,rfl,.inl ⟨rfl,_,SqL.of f4⟩,_,rfl,_,rfl,fr.sl,_,_,_,rfl,rfl,SqL.of f4,atI_neg1,?_⟩
  obtain ⟨a1,a2⟩:=hF.setSt (Same.refl H) (f5.snoc hv)
  exact ⟨fr.sl,_,y,rfl,rfl,f4,sK (by omega),q _ (hM.top hf rfl rfl rfl a2 a1) (a2.sub ff)⟩
 | swap hst =>
  rename_i st x y
  refine ⟨_,rfl,rfl,_,rfl,ifN (by decide +kernel) ?_⟩
  refine ⟨_,rfl,rfl,_,rfl,ifN (by decide +kernel) ?_⟩
  refine ⟨_,rfl,rfl,_,rfl,ifN (by decide +kernel) ?_⟩
  refine ⟨_,rfl,rfl,_,rfl,ifN (by decide +kernel) ?_⟩
  refine ⟨_,rfl,rfl,_,rfl,ifY rfl ?_⟩
  rw [hst] at f5
  obtain ⟨zs,u,v,rfl,hz,hu,hv⟩:=f5.last2
  refine ⟨_,rfl,fr.sl,_,2,rfl,f4,by simp,by decide,fun l H1 nl g1 g2 k1=>?_⟩
  rw [tk2.1] at g1
  rw [tk2.2] at g2
  have kx:KeepX [fr.sl] H H1:=fun c o hc e=>k1 c o (fun z=>hc (by rw [z]; exact List.mem_singleton.mpr rfl)) e
  have mu:MutAll H [fr.sl]:=hF.mut.sub (fun c hc=>by rw [msp hc]; simp [fmL])
  obtain ⟨a1,a2⟩:=hF.putSt kx g2 (hz.keep kx mu)
  have M1:=hM.top hf (f':={fr with st:=st}) rfl rfl rfl a2 a1
  have hu1:=hu.keep kx mu
  have hv1:=hv.keep kx mu
  refine ⟨_,rfl,.inl ⟨rfl,_,SqL.of g2⟩,_,rfl,l,_,_,_,rfl,rfl,SqL.of g1,aN (j:=1) rfl,_,rfl,l,_,_,_,rfl,rfl,SqL.of g1,aN (j:=0) rfl,sz2,fun l2 h2=>?_⟩
  have s2:=sN h2 (.lst [v,u])
  have lz:zs.length≤100:=by rw [hst] at h100; have:=hz.1; simp at h100; omega
  refine ⟨fr.sl,l2,zs,_,rfl,rfl,s2 _ _ g2,uS,Nat.le_of_lt (sK (by simp; omega)),?_⟩
  obtain ⟨b1,b2⟩:=(M1.last rfl).setSt s2 (((hz.keep kx mu).same s2).append (VIt.snoc (VIt.snoc VIt.nil (hv1.same s2)) (hu1.same s2)))
  have M2:=M1.top (fs:=fs) (f:={fr with st:=st}) (f':={fr with st:=st++[y,x]}) rfl rfl rfl rfl b2 b1
  exact q _ M2 ((a2.sub ff).trans (b2.sub ff))
 | drop hst =>
  rename_i st x
  refine ⟨_,rfl,rfl,_,rfl,ifN (by decide +kernel) ?_⟩
  refine ⟨_,rfl,rfl,_,rfl,ifN (by decide +kernel) ?_⟩
  refine ⟨_,rfl,rfl,_,rfl,ifN (by decide +kernel) ?_⟩
  refine ⟨_,rfl,rfl,_,rfl,ifN (by decide +kernel) ?_⟩
  refine ⟨_,rfl,rfl,_,rfl,ifN (by decide +kernel) ?_⟩
  refine ⟨_,rfl,rfl,_,rfl,ifY rfl ?_⟩
  rw [hst] at f5
  obtain ⟨zs,y,rfl,hz,hv⟩:=f5.lastOf
  refine ⟨_,rfl,.inl ⟨rfl,_,SqL.of f4⟩,fr.sl,_,y,rfl,rfl,f4,last_at,?_⟩
  rw [List.dropLast_concat]
  obtain ⟨a1,a2⟩:=hF.setSt (Same.refl H) hz
  exact q _ (hM.top hf rfl rfl rfl a2 a1) (a2.sub ff)
 | say hst hn =>
  rename_i st x
  refine ⟨_,rfl,rfl,_,rfl,ifN (by decide +kernel) ?_⟩
  refine ⟨_,rfl,rfl,_,rfl,ifN (by decide +kernel) ?_⟩
  refine ⟨_,rfl,rfl,_,rfl,ifN (by decide +kernel) ?_⟩
  refine ⟨_,rfl,rfl,_,rfl,ifN (by decide +kernel) ?_⟩
  refine ⟨_,rfl,rfl,_,rfl,ifN (by decide +kernel) ?_⟩
  refine ⟨_,rfl,rfl,_,rfl,ifN (by decide +kernel) ?_⟩
  rw [hst] at f5
  obtain ⟨zs,y,rfl,hz,hv⟩:=f5.lastOf
  have kx:KeepX [fr.sl] H (upd H fr.sl (.lst zs)):=keep_upd
  have mu:MutAll H [fr.sl]:=hF.mut.sub (fun c hc=>by rw [msp hc]; simp [fmL])
  obtain ⟨a1,a2⟩:=hF.setSt (Same.refl H) hz
  have M1:=hM.top hf (f':={fr with st:=st}) rfl rfl rfl a2 a1
  have hv1:=hv.keep kx mu
  refine ⟨_,rfl,mm.ma,C,mdx,_,_,rfl,m1,ac.cl,ac.a_said,mc_said,.inl ⟨rfl,_,SqL.of hM.sd⟩,_,rfl,mm.ma,mdx,_,rfl,m1,mc_no (by decide +kernel),_,rfl,.inl ⟨rfl,_,SqL.of f4⟩,fr.sl,_,y,rfl,rfl,f4,last_at,?_⟩
  rw [List.dropLast_concat]
  refine ⟨_,y,x,rfl,hv1,hn,mm.sd,_,_,rfl,rfl,M1.sd,sK (by rw [List.length_map]; show mm.said.length≤1000; omega),?_⟩
  have M2:=M1.says (sd:=mm.said++[bareV x]) (H':=upd (upd H fr.sl (.lst zs)) mm.sd (.lst (mm.said.map V.int++[.int (bareV x)]))) keep_upd (by rw [uS,List.map_append]; rfl)
  refine q _ M2 ((a2.sub ff).trans (KeepX.sub keep_upd (fun c hc=>by rw [msp hc]; simp [foot])))
theorem sc_catcher:FnScope ["stretches","at","stretch"] ["stretches","at"] (dS s_catcher):=by walk_at "sc"
theorem ok_catcher{f:Addr}{fd:FuncData}(F:Fun K "catcher" "catcher" s_catcher f fd){C_Frame:Addr}(ac_Frame:AC_Frame K C_Frame):FnOk P w K mg base CX0 1 f fd ["stretches","at"] (sp_catcher K):=by
 refine F.ok sc_catcher (fun vs H Q E h=>?_) (fun cdv A outer s H vs Q E hr h=>?_)
 ·obtain ⟨a,ys,ss,p,rfl,hS,hI,q⟩:=h
  rfl
 obtain ⟨a,ys,ss,p,rfl,hS,hI,q⟩:=h
 refine ⟨_,(qK (ps_for PassesOwn.never rfl (pi_list (pv 0)) (pg_name (i:=2) sc_catcher.nd rfl (Or.inl rfl)) (qO (ps_if (pt_chain op_le op_lt (pe_ix ix_tup (pv 2) pI (fun _ _=>rfl)) (pv 1) (pe_ix ix_tup (pv 2) pI (fun _ _=>rfl))) (qO (ps_ret (pe_ix ix_tup (pv 2) pI (fun _ _=>rfl)))) pss_nil)))
   (qO (ps_ret pe_non))),?_⟩
 refine ⟨_,rfl,a,rfl,⟨_,hS⟩,?_⟩
 refine for_list (xs:=ys) (fun i σ H2=>∃(o2:Option V),σ=[some (.ref a),some (.int p),o2]∧H2=H∧∀j,j < i→∀y,ss[j]?=some y→¬ (y.1≤p∧p < y.2.1)) ⟨_,rfl,rfl,fun j h=>absurd h (Nat.not_lt_zero _)⟩ ?_ ?_ ?_
 ·rintro i σ H2 hi ⟨o2,rfl,rfl,_⟩
  exact hS
 ·rintro i y σ H2 hy ⟨o2,rfl,rfl,ha⟩
  obtain ⟨x,hx,t,rfl,hT⟩:=hI.at hy
  refine ⟨_,rfl,t,_,_,_,rfl,rfl,hT,aN (j:=0) rfl,_,rfl,_,_,rfl,rfl,_,rfl,?_⟩
  have nxt:¬ (x.1≤p∧p < x.2.1)→∀j,j < i + 1→∀y,ss[j]?=some y→¬ (y.1≤p∧p < y.2.1):=fun z j hj y hy'=>by
   by_cases e:j=i
   ·subst e
    rw [hx] at hy'
    cases hy'
    exact z
   ·exact ha j (by omega) y hy'
  refine ite2 (fun z1=>?_) (fun z1=>?_)
  ·have z1':x.1≤p:=of_decide_eq_true z1
   refine ⟨_,rfl,t,_,_,_,rfl,rfl,hT,aN (j:=1) rfl,_,_,rfl,rfl,_,rfl,?_⟩
   refine ite2 (fun z2=>?_) (fun z2=>?_)
   ·have z2':p < x.2.1:=of_decide_eq_true z2
    rw [caught_here hx ha ⟨z1',z2'⟩] at q
    exact ⟨_,rfl,t,_,_,_,rfl,rfl,hT,aN (j:=2) rfl,q⟩
   ·exact ⟨_,rfl,rfl,nxt fun h=>z2 (decide_eq_true h.2)⟩
  ·exact ⟨_,rfl,iteF ⟨_,rfl,rfl,nxt fun h=>z1 (decide_eq_true h.1)⟩⟩
 ·rintro σ H2 ⟨o2,rfl,rfl,ha⟩
  rw [caught_none fun j hj=>ha j (by rw [hI.1]; exact hj)] at q
  exact q
theorem sc_caught_at:FnScope ["parts","live","at"] ["parts","live"] (dS s_caught_at):=by walk_at "sc"
theorem ok_caught_at{f:Addr}{fd:FuncData}(F:Fun K "caught_at" "caught_at" s_caught_at f fd)(z_len:mg "len"=none){C_Frame:Addr}(ac_Frame:AC_Frame K C_Frame)(h_catcher:Has P w K mg base CX0 "catcher" 1 ["stretches","at"] (sp_catcher K)):FnOk P w K mg base CX0 2 f fd ["parts","live"] (sp_caught_at K C_Frame):=by
 refine F.ok sc_caught_at (fun vs H Q E h=>?_) (fun cdv A outer s H vs Q E hr h=>?_)
 ·obtain ⟨pl,lv,xs,ps,frs,rfl,hL,hB,hF,q⟩:=h
  rfl
 obtain ⟨pl,lv,xs,ps,frs,rfl,hL,hB,hF,q⟩:=h
 refine ⟨_,(qK (ps_while PassesOwn.never (tR op_gt (pe_callB call_len_seq rfl z_len bt_len (pK (pv 1) pN)) pI (nomark _)) (qK (ps_set (i:=2) sc_caught_at.nd rfl (Or.inl rfl) (pe_ch h_catcher (hr.mono (by decide)) rfl (pK (pe_ix ix_tup (pe_ix ix_list (pv 0) (pe_fld (pe_ix ix_list (pv 1) (pe_un un_neg pI) (fun _ _=>rfl)) rfl) (fun _ _=>rfl)) pI (fun _ _=>rfl)) (pK (pe_fld (pe_ix ix_list (pv 1) (pe_un un_neg pI) (fun _ _=>rfl)) rfl) pN))))
   (qK (ps_if (tR op_notN (pv 2) pe_non (nomark _)) (qO (ps_ret (pv 2))) pss_nil)
   (qO (ps_expr (pe_bm0 PySem.F.plainAttrs_list PySem.F.slot_list_pop PySem.F.type_list_pop mt_pop (pv 1)))))))
   (qO (ps_ret pe_non))),?_⟩
 refine while_by (fun σ H2=>∃(k:Nat) (o:Option V),k≤frs.length∧σ=[some (.ref pl),some (.ref lv),o]∧H2 lv=some (.lst ((frs.take k).map fun f=>.ref f.fa))∧KeepX [lv] H H2) (fun (_:St) (H2:Hp)=>liveN H2 lv) ⟨frs.length,none,Nat.le_refl _,rfl,by rw [List.take_length]; exact hL,KeepX.refl⟩ ?_ ?_
 ·rintro σ H2 ⟨k,o,hk,rfl,g2,k2⟩
  refine ⟨_,rfl,lv,_,rfl,.inl (SqL.of g2),_,_,rfl,rfl,_,rfl,ite2 (fun z=>?_) (fun z=>?_)⟩
  ·have z':(0:Int) < ((((frs.take k).map fun f=>V.ref f.fa).length:Nat):Int):=of_decide_eq_true z
   rw [List.length_map,List.length_take] at z'
   obtain ⟨k,rfl⟩:∃j,k=j + 1:=⟨k - 1,by omega⟩
   have hkl:k < frs.length:=by omega
   have et:frs.take (k + 1)=frs.take k++[frs[k]]:=by rw [List.take_succ_eq_append_getElem hkl]
   obtain ⟨⟨dx,e1⟩,p,hp,hc⟩:=hF _ (List.getElem_mem hkl)
   generalize frs[k]=f' at et e1 hp hc
   have nf:f'.fa≠lv:=ne_of e1 hL (by intro z; cases z)
   have e2:=k2 _ _ (fun z=>nf (msp z)) e1
   obtain ⟨hS,hR⟩:=hB H2 k2
   obtain ⟨w0,hw0,hwr⟩:=bk_part hR hp
   obtain ⟨t,l0,l4,l5,ks,vs4,vs5,f1,rfl,hTt,hl0,hkk,rg,hl4,hk4,hl5,hk5⟩:=pt_inv hwr
   rw [et,List.map_append,show ([f'].map fun f=>V.ref f.fa)=[V.ref f'.fa] from rfl] at g2
   refine ⟨_,rfl,_,rfl,_,rfl,lv,_,_,_,rfl,rfl,SqL.of g2,atI_neg1,f'.fa,C_Frame,dx,_,_,rfl,e2,ac_Frame.cl,ac_Frame.a_part,fm_part,pl,_,_,_,rfl,rfl,hS,aN hw0,t,_,_,_,rfl,rfl,hTt,aN (j:=5) rfl,_,rfl,_,rfl,lv,_,_,_,rfl,rfl,SqL.of g2,atI_neg1,f'.fa,C_Frame,dx,_,_,rfl,e2,ac_Frame.cl,ac_Frame.a_at,fm_at,l5,vs5,stsI p.spans,(f'.at':Int),rfl,hl5,SIt.ofRd hk5,?_⟩
   rw [hc]
   refine ⟨_,rfl,rfl,_,rfl,?_⟩
   show if (!decide (V.non=V.non))=true then _ else _
   rw [if_neg (by simp)]
   dsimp only [tNext]
   refine ⟨_,rfl,.inl ⟨rfl,_,SqL.of g2⟩,lv,_,_,rfl,rfl,g2,last_at,?_⟩
   rw [List.dropLast_concat]
   refine ⟨⟨k,_,by omega,rfl,uS,k2.trans keep_upd⟩,?_⟩
   rw [liveN_of uS,liveN_of g2]
   simp
  ·have z':¬ (0:Int) < ((((frs.take k).map fun f=>V.ref f.fa).length:Nat):Int):=fun e=>z (decide_eq_true e)
   rw [List.length_map,List.length_take] at z'
   have e0:frs.take k=[]:=List.eq_nil_of_length_eq_zero (by rw [List.length_take]; omega)
   rw [e0] at g2
   exact q H2 g2 k2
 ·rintro σ H2 Q1 Q2 f ⟨v,e1,l,ys,e2,e3,i,j,e4,e5,b,e6,q1⟩
  exact ⟨v,e1,l,ys,e2,e3,i,j,e4,e5,b,e6,f _ _ q1⟩
theorem sc_Plain_fault:FnScope ["self","number","at","frame"] ["self","number"] (dS s_Plain_fault):=by walk_at "sc"
theorem ok_Plain_fault{f:Addr}{fd:FuncData}(F:Fun K "fault" "Plain.fault" s_Plain_fault f fd){C_Frame:Addr}(ac_Frame:AC_Frame K C_Frame){C:Addr}{wt:Bool}(ac:AC_Plain K C)(h_caught_at:Has P w K mg base CX0 "caught_at" 2 ["parts","live"] (sp_caught_at K C_Frame)):FnOk P w K mg base CX0 3 f fd ["self","number"] (sp_fault K C_Frame C wt):=by
 refine F.ok sc_Plain_fault (fun vs H Q E h=>?_) (fun cdv A outer s H vs Q E hr h=>?_)
 ·obtain ⟨mm,n,rfl,hM,hC,q⟩:=h
  rfl
 obtain ⟨mm,n,rfl,hM,hC,q⟩:=h
 refine ⟨_,(qK (ps_set (i:=2) sc_Plain_fault.nd rfl (Or.inl rfl) (pe_ch h_caught_at (hr.mono (by decide)) rfl (pK (pe_ix ix_tup (pe_fld (pv 0) rfl) pI (fun _ _=>rfl)) (pK (pe_fld (pv 0) rfl) pN))))
   (qK (ps_if (tR op_isN (pv 2) pe_non (nomark _)) (qK (ps_fld (pv 0) (pe_tup (pK pe_str (pK (pv 1) pN))) rfl)
   (qO ps_retN)) pss_nil)
   (qK ps_never
   (qK ps_never
   (qO ps_never))))),?_⟩
 obtain ⟨mdx,ev,m1,m2⟩:=hM.ob
 obtain ⟨mk,pl,xs,hb⟩:=hM.bk
 have sub:∀c∈[mm.lv],c∈foot mm:=fun c hc=>by rw [msp hc]; simp [foot]
 refine ⟨_,rfl,mm.ma,C,mdx,_,_,rfl,m1,ac.cl,ac.a_book,mc_book,mm.b,_,_,_,rfl,rfl,(hb H KeepX.refl).1,aN (j:=1) rfl,_,rfl,mm.ma,C,mdx,_,_,rfl,m1,ac.cl,ac.a_live,mc_live,pl,mm.lv,xs,mm.ps,mm.frs,rfl,hM.lv,fun HX kx=>⟨(hb HX (kx.sub sub)).2.2.1,(hb HX (kx.sub sub)).2.2.2⟩,fun f hf=>⟨(hM.fr f hf).ob,hC f hf⟩,fun H1 g1 k1=>?_⟩
 refine ⟨_,rfl,rfl,_,rfl,iteT ?_⟩
 have mu1:MutAll H [mm.lv]:=hM.mut.sub sub
 have M1:McAt K H1 C_Frame C wt {mm with frs:=[]}:=by
  have nd:=hM.nd
  simp only [foot,List.nodup_cons,List.mem_cons,not_or] at nd
  refine ⟨⟨mdx,ev,k1 _ _ (fun z=>nd.1.1 (msp z)) m1,m2.keep k1 mu1⟩,hM.bk.to (k1.sub sub) (fun c hc=>?_),g1,k1 _ _ (fun z=>nd.2.1.1 (msp z).symm) hM.rc,k1 _ _ (fun z=>nd.2.1.2.1 (msp z).symm) hM.sd,(fun f hf=>nomatch hf),?_⟩
  ·simp only [foot,List.flatMap_nil,List.mem_cons,List.not_mem_nil,or_false] at hc
   simp only [foot,List.mem_cons]
   rcases hc with hc | hc | hc | hc
   ·exact .inl hc
   ·exact .inr (.inl hc)
   ·exact .inr (.inr (.inl hc))
   ·exact .inr (.inr (.inr (.inl hc)))
  ·simp only [foot,List.flatMap_nil,List.nodup_cons,List.mem_cons,List.not_mem_nil,or_false,not_or,not_false_eq_true,List.nodup_nil,and_true]
   exact ⟨⟨nd.1.1,nd.1.2.1,nd.1.2.2.1⟩,⟨nd.2.1.1,nd.2.1.2.1⟩,nd.2.2.1.1⟩
 have K1:KeepX (foot mm) H H1:=k1.sub sub
 obtain ⟨ndx,nev,n1,n2⟩:=M1.ob
 refine ⟨_,rfl,sz2,fun t ht=>?_⟩
 have u3:=sN ht (.tup [.str "fault",.int n])
 have T3:SqT K (upd H1 t (.tup [.str "fault",.int n])) t [.str "fault",.int n]:=SqT.of uS
 have M3:=M1.same u3
 have K3:=K1.trans (keep_of u3)
 have n1':=u3 _ _ n1
 generalize upd H1 t (.tup [.str "fault",.int n])=H3 at u3 T3 M3 K3 n1' ⊢
 refine ⟨_,rfl,mm.ma,C,ndx,_,rfl,n1',ac.cl,ac.a_end,mc_few,?_⟩
 rw [mc_putEnd]
 have mu3:MutAll H3 [mm.ma]:=M3.mut.sub (fun c hc=>by rw [msp hc]; simp [foot])
 have kx3:KeepX [mm.ma] H3 (upd H3 mm.ma (.ins C ndx (mcF mm.b mm.lv mm.rc mm.sd mm.left (.ref t)))):=keep_upd
 exact q _ (M3.own kx3 uS (.inr ⟨(by simp),t,rfl,SqT.keep kx3 mu3 T3⟩)) (K3.trans (KeepX.sub kx3 (fun c hc=>by rw [msp hc]; simp [foot])))
theorem sc_Plain_do_row:FnScope ["self","frame","row","sign"] ["self","frame","row"] (dS s_Plain_do_row):=by walk_at "sc"
theorem ok_Plain_do_row{f:Addr}{fd:FuncData}(F:Fun K "do_row" "Plain.do_row" s_Plain_do_row f fd){d_GOING:Addr}(g_GOING:mg "GOING"=some (.ref d_GOING))(c_GOING:∀H:Hp,RdV K H (.ref d_GOING) kd_GOING)(o_GOING:∃o,K.lookup d_GOING=some o∧o.cls=.type "tuple"∧o.dict=none){d_OF_RECORDS:Addr}(g_OF_RECORDS:mg "OF_RECORDS"=some (.ref d_OF_RECORDS))(c_OF_RECORDS:∀H:Hp,RdV K H (.ref d_OF_RECORDS) kd_OF_RECORDS)(o_OF_RECORDS:∃o,K.lookup d_OF_RECORDS=some o∧o.cls=.type "tuple"∧o.dict=none){d_RECKONING:Addr}(g_RECKONING:mg "RECKONING"=some (.ref d_RECKONING))(c_RECKONING:∀H:Hp,RdV K H (.ref d_RECKONING) kd_RECKONING)(o_RECKONING:∃o,K.lookup d_RECKONING=some o∧o.cls=.type "tuple"∧o.dict=none){C_Frame:Addr}(ac_Frame:AC_Frame K C_Frame){C:Addr}{wt:Bool}(ac:AC_Plain K C)(hm_bare:HasM P w K mg base CX0 C "bare" 1 ["self","value"] (sp_bare K wt))(hm_do_give:HasM P w K mg base CX0 C "do_give" 2 ["self","frame"] (sp_do_give K C_Frame C wt))(hm_do_reckoning:HasM P w K mg base CX0 C "do_reckoning" 4 ["self","frame","sign"] (sp_do_reckoning K C_Frame C wt))(hm_do_straight:HasM P w K mg base CX0 C "do_straight" 2 ["self","frame","row"] (sp_do_straight K C_Frame C wt))(hm_fault:HasM P w K mg base CX0 C "fault" 3 ["self","number"] (sp_fault K C_Frame C wt)):FnOk P w K mg base CX0 5 f fd ["self","frame","row"] (sp_do_row K C_Frame C wt):=by
 refine F.ok sc_Plain_do_row (fun vs H Q E h=>?_) (fun cdv A outer s H vs Q E hr h=>?_)
 ·obtain ⟨mm,m',fs,fr,r,rt,rfl,hM,hf,hR,hD,h100,h900,q⟩:=h
  rfl
 obtain ⟨mm,m',fs,fr,r,rt,rfl,hM,hf,hR,hD,h100,h900,q⟩:=h
 refine ⟨_,(qK (ps_set (i:=3) sc_Plain_do_row.nd rfl (Or.inl rfl) (pe_ix ix_tup (pv 2) pI (fun _ _=>rfl)))
   (qO (ps_if (tR op_in_seq (pv 3) (pe_glob (v:=.ref d_GOING) rfl g_GOING rfl) rfl) (qO ps_never) (qO (ps_if (tR op_in_seq (pv 3) (pe_glob (v:=.ref d_RECKONING) rfl g_RECKONING rfl) rfl) (qO (ps_expr (pe_cm (pv 0) hm_do_reckoning pass0 (hr.mono (by decide)) (pK (pv 1) (pK (pv 3) pN))))) (qO (ps_if (tR op_eq (pv 3) pe_str (nomark _)) (qO ps_never) (qO (ps_if (tR op_eq (pv 3) pe_str (nomark _)) (qO (ps_expr (pe_cm (pv 0) hm_do_give pass0 (hr.mono (by decide)) (pK (pv 1) pN)))) (qO (ps_if (tR op_eq (pv 3) pe_str (nomark _)) (qO (ps_expr (pe_cm (pv 0) hm_fault pass0 (hr.mono (by decide)) (pK (pe_cm (pv 0) hm_bare pass0 (hr.mono (by decide)) (pK (pe_bm0 PySem.F.plainAttrs_list PySem.F.slot_list_pop PySem.F.type_list_pop mt_pop (pe_fld (pv 1) rfl)) pN)) pN)))) (qO (ps_if (tR op_in_seq (pv 3) (pe_glob (v:=.ref d_OF_RECORDS) rfl g_OF_RECORDS rfl) rfl) (qK ps_never
   (qO (ps_fld (pv 1) (pe_op op_add (pe_fld (pv 1) rfl) pI) rfl))) (qK (ps_expr (pe_cm (pv 0) hm_do_straight pass0 (hr.mono (by decide)) (pK (pv 1) (pK (pv 2) pN))))
   (qO (ps_fld (pv 1) (pe_op op_add (pe_fld (pv 1) rfl) pI) rfl)))))))))))))))),?_⟩
 have hF:=hM.last hf
 obtain ⟨⟨fdx,f1⟩,⟨bys,f2,f3⟩,⟨sys,f4,f5⟩,fne⟩:=id hF
 have ff:=foot_fm hf
 obtain ⟨mdx,ev,m1,m2⟩:=hM.ob
 refine ⟨_,rfl,rt,_,_,_,rfl,rfl,hR,aN (j:=0) rfl,?_⟩
 have goT:SqT K H d_GOING (goL.map V.str):=const_tup c_GOING H
 have reT:SqT K H d_RECKONING (rekL.map V.str):=const_tup c_RECKONING H
 have rcT:SqT K H d_OF_RECORDS (recL.map V.str):=const_tup c_OF_RECORDS H
 refine ⟨_,rfl,d_GOING,goL.map V.str,rfl,.inr goT,rfl,flat_strs _,_,rfl,?_⟩
 rw [inV_strs]
 cases hD with
 | str hS =>
  obtain ⟨e1,e2,e3,e4,e5⟩:=hS.addr
  have hs:=hS.sign
  rw [decide_eq_false ((by decide +kernel:∀s∈strL,¬ s∈goL) _ hs)]
  refine iteF ?_
  refine ⟨_,rfl,d_RECKONING,rekL.map V.str,rfl,.inr reT,rfl,flat_strs _,_,rfl,?_⟩
  rw [inV_strs,decide_eq_false ((by decide +kernel:∀s∈strL,¬ s∈rekL) _ hs)]
  refine iteF ?_
  refine ⟨_,rfl,rfl,_,rfl,ifN (fun z=>(by decide +kernel:∀s∈strL,¬ s="call") _ hs (V.str.inj z)) ?_⟩
  refine ⟨_,rfl,rfl,_,rfl,ifN (fun z=>(by decide +kernel:∀s∈strL,¬ s="give") _ hs (V.str.inj z)) ?_⟩
  refine ⟨_,rfl,rfl,_,rfl,ifN (fun z=>(by decide +kernel:∀s∈strL,¬ s="toss") _ hs (V.str.inj z)) ?_⟩
  refine ⟨_,rfl,d_OF_RECORDS,recL.map V.str,rfl,.inr rcT,rfl,flat_strs _,_,rfl,?_⟩
  rw [inV_strs,decide_eq_false ((by decide +kernel:∀s∈strL,¬ s∈recL) _ hs)]
  refine iteF ?_
  rename_i fr' sd
  refine ⟨_,rfl,mm.ma,mdx,_,rfl,m1,mc_no (by decide +kernel),_,rfl,_,rfl,mm,fs,fr,fr',r,rt,sd,rfl,hM,hf,hR,hS,h100,h900,fun H1 M1 K1=>?_⟩
  have F1:=M1.last rfl
  obtain ⟨⟨gdx,i1⟩,_⟩:=id F1
  have ea:fr.fa=fr'.fa:=e1.symm
  refine ⟨_,rfl,fr'.fa,C_Frame,gdx,_,_,by rw [ea],i1,ac_Frame.cl,ac_Frame.a_at,fm_at,_,_,rfl,rfl,_,rfl,fr'.fa,C_Frame,gdx,_,by rw [ea],i1,ac_Frame.cl,ac_Frame.a_at,fm_few,?_⟩
  rw [fm_putAt]
  obtain ⟨c1,c2⟩:=F1.setAt (dx:=gdx) (a:=fr'.at' + 1)
  have M2:=M1.top (fs:=fs) (f:=fr') (f':={fr' with at':=fr'.at' + 1}) rfl rfl rfl rfl c2 c1
  have ft:∀c∈fmL fr',c∈foot mm:=fun c hc=>ff c (by unfold fmL at hc ⊢; rw [e1,e2,e3] at hc; exact hc)
  rw [e4] at M2 c2 ⊢
  exact q _ M2 (K1.trans (c2.sub ft))
 | rek hst hs ha hb hz =>
  rename_i s' st a b
  have hm:=hs.mem
  show if decide (s'∈goL)=true then _ else _
  rw [decide_eq_false ((by decide +kernel:∀s∈rekL,¬ s∈goL) _ hm)]
  refine iteF ?_
  refine ⟨_,rfl,d_RECKONING,rekL.map V.str,rfl,.inr reT,rfl,flat_strs _,_,rfl,?_⟩
  rw [inV_strs]
  show if decide (s'∈rekL)=true then _ else _
  rw [decide_eq_true hm]
  refine iteT ?_
  exact ⟨_,rfl,mm.ma,mdx,_,rfl,m1,mc_no (by decide +kernel),_,rfl,_,rfl,mm,fs,fr,s',st,a,b,rfl,hM,hf,hst,hs,ha,hb,hz,h100,q⟩
 | give h0 hst hn =>
  subst h0
  rename_i st x
  rw [decide_eq_false (by decide +kernel)]
  refine iteF ?_
  refine ⟨_,rfl,d_RECKONING,rekL.map V.str,rfl,.inr reT,rfl,flat_strs _,_,rfl,?_⟩
  rw [inV_strs,decide_eq_false (by decide +kernel)]
  refine iteF ?_
  refine ⟨_,rfl,rfl,_,rfl,ifN (by decide +kernel) ?_⟩
  refine ⟨_,rfl,rfl,_,rfl,ifY rfl ?_⟩
  exact ⟨_,rfl,mm.ma,mdx,_,rfl,m1,mc_no (by decide +kernel),_,rfl,mm,fr,st,x,rfl,hM,hf,hst,hn,q⟩
 | toss hst hn hC =>
  rename_i st x
  rw [decide_eq_false (by decide +kernel)]
  refine iteF ?_
  refine ⟨_,rfl,d_RECKONING,rekL.map V.str,rfl,.inr reT,rfl,flat_strs _,_,rfl,?_⟩
  rw [inV_strs,decide_eq_false (by decide +kernel)]
  refine iteF ?_
  refine ⟨_,rfl,rfl,_,rfl,ifN (by decide +kernel) ?_⟩
  refine ⟨_,rfl,rfl,_,rfl,ifN (by decide +kernel) ?_⟩
  refine ⟨_,rfl,rfl,_,rfl,ifY rfl ?_⟩
  rw [hst] at f5
  obtain ⟨zs,y,rfl,hz,hv⟩:=f5.lastOf
  refine ⟨_,rfl,mm.ma,mdx,_,rfl,m1,mc_no (by decide +kernel),_,rfl,mm.ma,mdx,_,rfl,m1,mc_no (by decide +kernel),_,rfl,fr.fa,C_Frame,fdx,_,_,rfl,f1,ac_Frame.cl,ac_Frame.a_stack,fm_stack,.inl ⟨rfl,_,SqL.of f4⟩,fr.sl,_,y,rfl,rfl,f4,last_at,?_⟩
  rw [List.dropLast_concat]
  obtain ⟨a1,a2⟩:=hF.setSt (Same.refl H) hz
  have M1:=hM.top hf (f':={fr with st:=st}) rfl rfl rfl a2 a1
  have kx:KeepX [fr.sl] H (upd H fr.sl (.lst zs)):=keep_upd
  have mu:MutAll H [fr.sl]:=hF.mut.sub (fun c hc=>by rw [msp hc]; simp [fmL])
  have hv1:=hv.keep kx mu
  refine ⟨_,y,x,rfl,hv1,hn,{mm with frs:=fs++[{fr with st:=st}]},bareV x,rfl,M1,fun g hg=>?_,fun H2 M2 K2=>?_⟩
  ·have hg:g∈fs++[{fr with st:=st}]:=hg
   rcases List.mem_append.mp hg with z | z
   ·exact hC g (List.mem_append_left _ z)
   ·rw [msp z]
    exact hC fr (by simp)
  ·have ef:=foot_set (f':={fr with st:=st}) hf rfl rfl rfl
   rw [ef] at K2
   exact q _ M2 ((a2.sub ff).trans K2)
theorem sc_Plain_looked:FnScope ["self","frame","row"] ["self","frame","row"] (dS s_Plain_looked):=by walk_at "sc"
theorem ok_Plain_looked{f:Addr}{fd:FuncData}(F:Fun K "looked" "Plain.looked" s_Plain_looked f fd){C_Frame:Addr}(ac_Frame:AC_Frame K C_Frame){C:Addr}(ac:AC_Plain K C):FnOk P w K mg base CX0 6 f fd ["self","frame","row"] (sp_looked K C_Frame C false):=by
 refine F.ok sc_Plain_looked (fun vs H Q E h=>?_) (fun cdv A outer s H vs Q E hr h=>?_)
 ·obtain ⟨mm,fs,fr,r,rt,p,ks,rfl,hM,hf,hR,hp,hw,h100,hnr,hA,hK,q⟩:=h
  rfl
 obtain ⟨mm,fs,fr,r,rt,p,ks,rfl,hM,hf,hR,hp,hw,h100,hnr,hA,hK,q⟩:=h
 refine ⟨_,(qO (ps_ret pe_non)),?_⟩
 exact q H (Same.refl _)
theorem sc_elders_of:FnScope ["makes","c","elders"] ["makes","c"] (dS s_elders_of):=by walk_at "sc"
theorem ok_elders_of{f:Addr}{fd:FuncData}(F:Fun K "elders_of" "elders_of" s_elders_of f fd){C_Frame:Addr}(ac_Frame:AC_Frame K C_Frame):FnOk P w K mg base CX0 1 f fd ["makes","c"] (sp_elders_of K):=by
 refine F.ok sc_elders_of (fun vs H Q E h=>?_) (fun cdv A outer s H vs Q E hr h=>?_)
 ·obtain ⟨a,ms,c,rfl,hM,hw,hc,q⟩:=h
  rfl
 obtain ⟨a,ms,c,rfl,hM,hw,hc,q⟩:=h
 refine ⟨_,(qK (ps_set (i:=2) sc_elders_of.nd rfl (Or.inl rfl) (pe_lst pN))
   (qK (ps_while PassesOwn.never (tR op_notN (pv 1) pe_non (nomark _)) (qK (ps_expr (pe_bm PySem.F.plainAttrs_list PySem.F.slot_list_append PySem.F.type_list_append mt_append (pv 2) (pK (pv 1) pN)))
   (qO (ps_set (i:=1) sc_elders_of.nd rfl (Or.inl rfl) (pe_ix ix_tup (pe_ix ix_list (pv 0) (pv 1) (fun _ _=>rfl)) pI (fun _ _=>rfl))))))
   (qO (ps_ret (pv 2))))),?_⟩
 refine ⟨sz0,fun r hr'=>?_⟩
 refine while_by (fun σ H2=>∃(cur:Option Nat) (pre:List Nat),σ=[some (.ref a),some (elV cur),some (.ref r)]∧Same H H2∧H2 r=some (.lst (natsV pre))∧(∀j,cur=some j→j < ms.length)∧pre++rest ms cur=elders ms c)
  (fun (σ:St) (_:Hp)=>match σ[1]? with | some (some (V.int j))=>j.toNat + 1 | _=>0) ⟨some c,[],rfl,fun b o e=>by rw [uN (nN e hr')]; exact e,uS,fun j hj=>by cases hj; exact hc,rfl⟩ ?_ ?_
 ·rintro σ H2 ⟨cur,pre,rfl,sm,hr2,hj,he⟩
  cases cur with
  | none =>
   refine ⟨_,rfl,rfl,_,rfl,iteF ?_⟩
   have e':pre=elders ms c:=by rw [← he]; simp [rest]
   rw [e'] at hr2
   exact ⟨_,rfl,q r H2 sm hr' hr2⟩
  | some j =>
   refine ⟨_,rfl,rfl,_,rfl,iteT ?_⟩
   have hjl:=hj j rfl
   have hlen:(natsV pre).length < sizeLine:=by
    have h1:=(elders_le hw c hc).1
    have h2:(pre++rest ms (some j)).length=(elders ms c).length:=by rw [he]
    have h3:=hw.few
    rw [List.length_append] at h2
    rw [List.length_map]
    exact sK (by omega)
   refine ⟨_,rfl,.inl ⟨rfl,_,SqL.of hr2⟩,_,rfl,r,_,_,rfl,rfl,hr2,hlen,?_⟩
   have sm2:Same H (upd H2 r (.lst (natsV pre++[.int (j:Int)]))):=fun b o e=>by rw [uN (nN e hr')]; exact sm b o e
   obtain ⟨xs,hS,hI⟩:=hM.same sm2
   obtain ⟨m,hm,hel,hlt⟩:=hw.el hjl
   have hxl:j < xs.length:=by rw [hI.1]; exact hjl
   obtain ⟨t,l,ks,hx,ht,_⟩:=hI.2 j _ m (gee hxl) hm
   refine ⟨_,rfl,_,rfl,a,xs,_,_,rfl,rfl,hS,aN (gee hxl),t,_,_,_,hx,rfl,ht,aN (j:=0) rfl,?_⟩
   refine ⟨⟨m.1,pre++[j],rfl,sm2,?_,fun i hi=>?_,?_⟩,?_⟩
   ·rw [uS]; show _=some (HO.lst (List.map _ (pre++[j]))); rw [List.map_append]; rfl
   ·have:=hlt i hi
    omega
   ·rw [← he]
    show (pre++[j])++rest ms m.1=pre++elders ms j
    rw [elders_step hw hjl,hel]
    simp
   ·show (match (some (some (elV m.1)):Option (Option V)) with | some (some (V.int j))=>j.toNat + 1 | _=>0) < ((j:Int).toNat + 1)
    cases e:m.1 with
    | none=>show 0 < _; omega
    | some i =>
     have:=hlt i e
     show (i:Int).toNat + 1 < _
     omega
 ·rintro σ H2 Q1 Q2 f ⟨v,e1,e2,k,e3,q1⟩
  exact ⟨v,e1,e2,k,e3,f _ _ q1⟩
theorem sc_fields_of:FnScope ["makes","c","fields","elder"] ["makes","c"] (dS s_fields_of):=by walk_at "sc"
theorem ok_fields_of{f:Addr}{fd:FuncData}(F:Fun K "fields_of" "fields_of" s_fields_of f fd)(z_list:mg "list"=none){C_Frame:Addr}(ac_Frame:AC_Frame K C_Frame)(h_elders_of:Has P w K mg base CX0 "elders_of" 1 ["makes","c"] (sp_elders_of K)):FnOk P w K mg base CX0 2 f fd ["makes","c"] (sp_fields_of K):=by
 refine F.ok sc_fields_of (fun vs H Q E h=>?_) (fun cdv A outer s H vs Q E hr h=>?_)
 ·obtain ⟨a,ms,c,rfl,hM,hw,hf,hc,q⟩:=h
  rfl
 obtain ⟨a,ms,c,rfl,hM,hw,hf,hc,q⟩:=h
 refine ⟨_,(qK (ps_set (i:=2) sc_fields_of.nd rfl (Or.inl rfl) (pe_lst pN))
   (qK (ps_for PassesOwn.never rfl (pi_list (pe_ch h_elders_of (hr.mono (by decide)) rfl (pK (pv 0) (pK (pv 1) pN)))) (pg_name (i:=3) sc_fields_of.nd rfl (Or.inl rfl)) (qO (ps_set (i:=2) sc_fields_of.nd rfl (Or.inl rfl) (pe_op op_cat (pe_callTy call_list_of rfl z_list bt_list (pK (pe_ix ix_tup (pe_ix ix_list (pv 0) (pv 3) (fun _ _=>rfl)) pI (fun _ _=>rfl)) pN)) (pv 2)))))
   (qO (ps_ret (pv 2))))),?_⟩
 obtain ⟨xs,hS,hI⟩:=id hM
 have lx:=hI.1
 refine ⟨sz0,fun r0 hr0=>?_⟩
 have s0:=sN hr0 (.lst [])
 refine ⟨_,rfl,_,rfl,a,ms,c,rfl,hM.same s0,hw,hc,fun re H1 s1 _ he=>?_⟩
 have sm1:=s0.trans s1
 refine ⟨re,rfl,⟨_,SqL.of he⟩,?_⟩
 refine for_list (xs:=natsV (elders ms c)) (fun i σ H2=>∃(r:Addr) (ks:List V) (o3:Option V),σ=[some (.ref a),some (.int (c:Int)),some (.ref r),o3]∧Same H1 H2∧H r=none∧H2 r=some (.lst ks)∧RdAll K H ks (kdsD (fieldsUp ms ((elders ms c).take i)))∧ks.length≤50 * i) ?_ ?_ ?_ ?_
 ·exact ⟨r0,[],none,rfl,Same.refl _,hr0,s1 _ _ uS,.nil,by simp⟩
 ·rintro i σ H2 hi ⟨r,ks,o3,rfl,s2,_⟩
  exact SqL.of (s2 _ _ he)
 ·rintro i y σ H2 hy ⟨r,ks,o3,rfl,s2,nr,g2,hR,h50⟩
  have hil:i < (elders ms c).length:=by
   have:=(List.getElem?_eq_some_iff.mp hy).1
   simpa using this
  have hy':y=.int (((elders ms c)[i]:Nat):Int):=by
   rw [List.getElem?_map,gee hil] at hy
   exact (Option.some.inj hy).symm
  subst hy'
  have hel:(elders ms c)[i] < ms.length:=by
   have:=(elders_le hw c hc).2 _ (List.getElem_mem hil)
   omega
  have hi8:i < 8:=by
   have:=(elders_le hw c hc).1
   have:=hw.few
   omega
  generalize hj:(elders ms c)[i]=j at hel
  have hjx:j < xs.length:=by omega
  obtain ⟨t,l,kk,hx,e2,e3,e4⟩:=hI.2 j _ _ (gee hjx) (gee hel)
  have sm2:=sm1.trans s2
  have own:ownOf ms j=(ms[j]).2:=by unfold ownOf; rw [gee hel]
  have l2:=e4.1
  have lk:kk.length≤50:=by
   rw [List.length_map] at l2
   have:=hf j _ (gee hel)
   omega
  refine ⟨_,rfl,_,rfl,a,xs,_,_,rfl,rfl,sm2.seq hS,(?_:atI xs ((j:Nat):Int)=some (.ref t)),t,_,_,_,rfl,rfl,sm2.tup e2,aN (j:=1) rfl,l,kk,rfl,.inl (sm2.seq e3),fun p0 hp0=>?_⟩
  ·rw [← hx]; exact aN (gee hjx)
  have s3:=sN hp0 (.lst kk)
  refine ⟨_,rfl,p0,r,kk,ks,rfl,rfl,uS,s3 _ _ g2,Nat.le_of_lt (sK (by omega)),fun p hp=>?_⟩
  refine ⟨p,kk++ks,_,rfl,s2.trans (s3.trans (sN hp _)),(sm2.trans s3).free hp,uS,?_,by rw [List.length_append]; omega⟩
  have stp:fieldsUp ms ((elders ms c).take (i + 1))=ownOf ms j++fieldsUp ms ((elders ms c).take i):=by
   rw [fieldsUp_rev,fieldsUp_rev,List.take_succ_eq_append_getElem hil,hj]
   simp
  rw [stp,own,kdsD,List.map_append]
  exact RdAll.append e4 hR
 ·rintro σ H2 ⟨r,ks,o3,rfl,s2,nr,g2,hR,_⟩
  have e:(elders ms c).take (natsV (elders ms c)).length=elders ms c:=List.take_of_length_le (by simp)
  rw [e] at hR
  exact ⟨_,rfl,q r ks H2 (sm1.trans s2) nr g2 hR⟩
theorem sc_full_mask:FnScope ["makes","c"] ["makes","c"] (dS s_full_mask):=by walk_at "sc"
theorem ok_full_mask{f:Addr}{fd:FuncData}(F:Fun K "full_mask" "full_mask" s_full_mask f fd)(z_len:mg "len"=none){C_Frame:Addr}(ac_Frame:AC_Frame K C_Frame)(h_fields_of:Has P w K mg base CX0 "fields_of" 2 ["makes","c"] (sp_fields_of K)):FnOk P w K mg base CX0 3 f fd ["makes","c"] (sp_full_mask K):=by
 refine F.ok sc_full_mask (fun vs H Q E h=>?_) (fun cdv A outer s H vs Q E hr h=>?_)
 ·obtain ⟨a,ms,c,rfl,hM,hw,hf,hc,q⟩:=h
  rfl
 obtain ⟨a,ms,c,rfl,hM,hw,hf,hc,q⟩:=h
 refine ⟨_,(qO (ps_ret (pe_op op_sub (pe_op op_shl pI (pe_callB call_len_seq rfl z_len bt_len (pK (pe_ch h_fields_of (hr.mono (by decide)) rfl (pK (pv 0) (pK (pv 1) pN))) pN))) pI))),?_⟩
 refine ⟨_,rfl,_,rfl,a,ms,c,rfl,hM,hw,hf,hc,fun r ks H2 s2 _ g2 hR=>?_⟩
 have l1:=hR.1
 rw [List.length_map] at l1
 have l400:=hf.fields hw hc
 refine ⟨r,ks,rfl,.inl (SqL.of g2),_,_,rfl,rfl,⟨by omega,by omega,by decide⟩,_,_,rfl,rfl,?_⟩
 dsimp only
 rw [show ((ks.length:Nat):Int).toNat=(fields ms c).length by omega,Int.one_mul]
 exact q H2 s2
theorem sc_asked_of_records:FnScope ["makes","row","sign","c","field"] ["makes","row"] (dS s_asked_of_records):=by walk_at "sc"
theorem ok_asked_of_records{f:Addr}{fd:FuncData}(F:Fun K "asked_of_records" "asked_of_records" s_asked_of_records f fd){C_Frame:Addr}(ac_Frame:AC_Frame K C_Frame)(h_fields_of:Has P w K mg base CX0 "fields_of" 2 ["makes","c"] (sp_fields_of K))(h_full_mask:Has P w K mg base CX0 "full_mask" 3 ["makes","c"] (sp_full_mask K)):FnOk P w K mg base CX0 4 f fd ["makes","row"] (sp_asked_of_records K):=by
 refine F.ok sc_asked_of_records (fun vs H Q E h=>?_) (fun cdv A outer s H vs Q E hr h=>?_)
 ·obtain ⟨mk,rw',ms,sign,xs,ks,rfl,hM,hw,hf,hR,hA,q⟩:=h
  rfl
 obtain ⟨mk,rw',ms,sign,xs,ks,rfl,hM,hw,hf,hR,hA,q⟩:=h
 refine ⟨_,(qK (ps_set (i:=2) sc_asked_of_records.nd rfl (Or.inl rfl) (pe_ix ix_tup (pv 1) pI (fun _ _=>rfl)))
   (qK (ps_set (i:=3) sc_asked_of_records.nd rfl (Or.inl rfl) (pe_ix ix_tup (pv 1) pI (fun _ _=>rfl)))
   (qK (ps_if (tR op_eq (pv 2) pe_str (nomark _)) (qO (ps_ret (pe_lst (pK (pe_tup (pK pe_str (pK (pv 3) (pK (pe_ch h_full_mask (hr.mono (by decide)) rfl (pK (pv 0) (pK (pv 3) pN))) pN)))) pN)))) pss_nil)
   (qK (ps_if (tR op_eq (pv 2) pe_str (nomark _)) (qO (ps_ret (pe_lst (pK (pe_tup (pK pe_str (pK (pv 3) pN))) pN)))) pss_nil)
   (qK (ps_set (i:=4) sc_asked_of_records.nd rfl (Or.inl rfl) (pe_ix ix_list (pe_ch h_fields_of (hr.mono (by decide)) rfl (pK (pv 0) (pK (pv 3) pN))) (pe_ix ix_tup (pv 1) pI (fun _ _=>rfl)) (fun _ _=>rfl)))
   (qK (ps_if (tR op_eq (pv 2) pe_str (nomark _)) (qO (ps_ret (pe_lst (pK (pe_tup (pK pe_str (pK (pv 3) (pK pI pN)))) (pK (pv 4) pN))))) pss_nil)
   (qO (ps_ret (pe_lst (pK (pe_tup (pK pe_str (pK (pv 3) pN))) (pK (pv 4) pN))))))))))),?_⟩
 have few:=hw.few
 cases hA with
 | @begin c hc =>
  refine ⟨_,rfl,rw',_,_,_,rfl,rfl,hR,aN (j:=0) rfl,_,rfl,rw',_,_,_,rfl,rfl,hR,aN (j:=1) rfl,?_⟩
  refine ⟨_,rfl,rfl,_,rfl,ifY rfl ?_⟩
  refine ⟨_,rfl,_,rfl,_,rfl,mk,ms,c,rfl,hM,hw,hf,hc,fun H1 s1=>?_⟩
  refine ⟨sz3,fun t ht=>⟨sz1,fun r hr=>?_⟩⟩
  have s2:=sN ht (.tup [.str "raw",.int (c:Int),.int (2 ^ (fields ms c).length - 1)])
  have s3:=sN hr (.lst [.ref t])
  refine q r _ _ (s1.trans (s2.trans s3)) ((s1.trans s2).free hr) uS ?_
  refine .cons (rd_kd (k:=.raw c (2 ^ (fields ms c).length - 1)) ?_) .nil
  have e:((2 ^ (fields ms c).length - 1:Nat):Int)=2 ^ (fields ms c).length - 1:=by
   have:=Nat.one_le_two_pow (n:=(fields ms c).length)
   rw [Int.ofNat_sub this]
   simp
  show SqT K _ t [.str "raw",.int (c:Int),.int ((2 ^ (fields ms c).length - 1:Nat):Int)]
  rw [e]
  exact s3.tup (SqT.of uS)
 | @get c f =>
  refine ⟨_,rfl,rw',_,_,_,rfl,rfl,hR,aN (j:=0) rfl,_,rfl,rw',_,_,_,rfl,rfl,hR,aN (j:=1) rfl,?_⟩
  refine ⟨_,rfl,rfl,_,rfl,ifN (by decide +kernel) ?_⟩
  refine ⟨_,rfl,rfl,_,rfl,ifY rfl ?_⟩
  refine ⟨_,rfl,sz2,fun t ht=>⟨sz1,fun r hr=>?_⟩⟩
  have s2:=sN ht (.tup [.str "whole",.int (c:Int)])
  have s3:=sN hr (.lst [.ref t])
  exact q r _ _ (s2.trans s3) (s2.free hr) uS (.cons (rd_kd (k:=.whole c) (s3.tup (SqT.of uS))) .nil)
 | @fill c f k hc hk =>
  refine ⟨_,rfl,rw',_,_,_,rfl,rfl,hR,aN (j:=0) rfl,_,rfl,rw',_,_,_,rfl,rfl,hR,aN (j:=1) rfl,?_⟩
  refine ⟨_,rfl,rfl,_,rfl,ifN (by decide +kernel) ?_⟩
  refine ⟨_,rfl,rfl,_,rfl,ifN (by decide +kernel) ?_⟩
  refine ⟨_,rfl,_,rfl,mk,ms,c,rfl,hM,hw,hf,hc,fun r1 vs H1 s1 _ g1 hV=>?_⟩
  obtain ⟨v,hv,hvr⟩:=RdAll.at hV (i:=f) (d:=.tuple (kdL k)) (by rw [List.getElem?_map,hk]; rfl)
  refine ⟨_,rfl,rw',_,_,_,rfl,rfl,s1.tup hR,aN (j:=2) rfl,r1,_,_,_,rfl,rfl,SqL.of g1,aN hv,?_⟩
  refine ⟨_,rfl,rfl,_,rfl,ifY rfl ?_⟩
  refine ⟨_,rfl,sz3,fun t ht=>⟨_,rfl,sz2,fun r hr=>?_⟩⟩
  have s2:=sN ht (.tup [.str "raw",.int (c:Int),.int 0])
  have s3:=sN hr (.lst [.ref t,v])
  exact q r _ _ (s1.trans (s2.trans s3)) ((s1.trans s2).free hr) uS (.cons (rd_kd (k:=.raw c 0) (s3.tup (SqT.of uS))) (.cons (hvr.same (s1.trans (s2.trans s3))) .nil))
 | @put c f k hc hk =>
  refine ⟨_,rfl,rw',_,_,_,rfl,rfl,hR,aN (j:=0) rfl,_,rfl,rw',_,_,_,rfl,rfl,hR,aN (j:=1) rfl,?_⟩
  refine ⟨_,rfl,rfl,_,rfl,ifN (by decide +kernel) ?_⟩
  refine ⟨_,rfl,rfl,_,rfl,ifN (by decide +kernel) ?_⟩
  refine ⟨_,rfl,_,rfl,mk,ms,c,rfl,hM,hw,hf,hc,fun r1 vs H1 s1 _ g1 hV=>?_⟩
  obtain ⟨v,hv,hvr⟩:=RdAll.at hV (i:=f) (d:=.tuple (kdL k)) (by rw [List.getElem?_map,hk]; rfl)
  refine ⟨_,rfl,rw',_,_,_,rfl,rfl,s1.tup hR,aN (j:=2) rfl,r1,_,_,_,rfl,rfl,SqL.of g1,aN hv,?_⟩
  refine ⟨_,rfl,rfl,_,rfl,ifN (by decide +kernel) ?_⟩
  refine ⟨_,rfl,sz2,fun t ht=>⟨_,rfl,sz2,fun r hr=>?_⟩⟩
  have s2:=sN ht (.tup [.str "whole",.int (c:Int)])
  have s3:=sN hr (.lst [.ref t,v])
  exact q r _ _ (s1.trans (s2.trans s3)) ((s1.trans s2).free hr) uS (.cons (rd_kd (k:=.whole c) (s3.tup (SqT.of uS))) (.cons (hvr.same (s1.trans (s2.trans s3))) .nil))
theorem sc_asked:FnScope ["book","part","row","sign","parts"] ["book","part","row"] (dS s_asked):=by walk_at "sc"
theorem ok_asked{f:Addr}{fd:FuncData}(F:Fun K "asked" "asked" s_asked f fd)(z_list:mg "list"=none){d_ALWAYS:Addr}(g_ALWAYS:mg "ALWAYS"=some (.ref d_ALWAYS))(c_ALWAYS:DiD K w d_ALWAYS kd_ALWAYS){C_Frame:Addr}(ac_Frame:AC_Frame K C_Frame)(h_asked_of_records:Has P w K mg base CX0 "asked_of_records" 4 ["makes","row"] (sp_asked_of_records K)):FnOk P w K mg base CX0 5 f fd ["book","part","row"] (sp_asked K):=by
 refine F.ok sc_asked (fun vs H Q E h=>?_) (fun cdv A outer s H vs Q E hr h=>?_)
 ·obtain ⟨b,mk,pl,rw',part,sign,xs,ks,rfl,hB,hR,hA,q⟩:=h
  rfl
 obtain ⟨b,mk,pl,rw',part,sign,xs,ks,rfl,hB,hR,hA,q⟩:=h
 refine ⟨_,(qK (ps_set (i:=3) sc_asked.nd rfl (Or.inl rfl) (pe_ix ix_tup (pv 2) pI (fun _ _=>rfl)))
   (qK (ps_if (tR op_inK (pv 3) (pe_glob (v:=.ref d_ALWAYS) rfl g_ALWAYS rfl) rfl) (qO (ps_ret (pe_callTy call_list_of rfl z_list bt_list (pK (pe_ix ix_dictK (pe_glob (v:=.ref d_ALWAYS) rfl g_ALWAYS rfl) (pv 3) (fun _ _=>rfl)) pN)))) pss_nil)
   (qK (ps_set (i:=4) sc_asked.nd rfl (Or.inl rfl) (pe_ix ix_tup (pv 0) pI (fun _ _=>rfl)))
   (qK (ps_if (tR op_eq (pv 3) pe_str (nomark _)) (qO (ps_ret (pe_callTy call_list_of rfl z_list bt_list (pK (pe_ix ix_tup (pe_ix ix_list (pv 4) (pe_ix ix_tup (pv 2) pI (fun _ _=>rfl)) (fun _ _=>rfl)) pI (fun _ _=>rfl)) pN)))) pss_nil)
   (qK (ps_if (tR op_eq (pv 3) pe_str (nomark _)) (qO (ps_ret (pe_lst (pK (pe_ix ix_tup (pe_ix ix_list (pv 4) (pv 1) (fun _ _=>rfl)) pI (fun _ _=>rfl)) pN)))) pss_nil)
   (qO (ps_ret (pe_ch h_asked_of_records (hr.mono (by decide)) rfl (pK (pe_ix ix_tup (pv 0) pI (fun _ _=>rfl)) (pK (pv 2) pN)))))))))),?_⟩
 refine ⟨_,rfl,rw',_,_,_,rfl,rfl,hR,aN (j:=0) rfl,?_⟩
 cases hA with
 | always h =>
  refine ⟨_,rfl,d_ALWAYS,kd_ALWAYS,sign,rfl,rfl,c_ALWAYS,_,rfl,ifB (by rw [h]; rfl) ?_⟩
  refine ⟨_,rfl,d_ALWAYS,kd_ALWAYS,sign,_,rfl,rfl,c_ALWAYS,h,fun v hv=>?_⟩
  obtain ⟨a,ys,rfl,hS,hY⟩:=RdV.tupInv (hv H)
  refine ⟨a,ys,rfl,.inr hS,fun r hr=>?_⟩
  have s1:=sN hr (.lst ys)
  exact q r ys _ s1 hr uS (hY.same s1)
 | @call k ys rest vs t l _ h1 h2 h3 h4 h5 =>
  refine ⟨_,rfl,d_ALWAYS,kd_ALWAYS,_,rfl,rfl,c_ALWAYS,_,rfl,ifC (by rw [no_call]; rfl) ?_⟩
  refine ⟨_,rfl,b,_,_,_,rfl,rfl,hB,aN (j:=1) rfl,?_⟩
  refine ⟨_,rfl,rfl,_,rfl,ifY rfl ?_⟩
  refine ⟨_,rfl,_,rfl,rw',_,_,_,rfl,rfl,hR,aN (j:=1) rfl,pl,_,_,_,rfl,rfl,h1,aN h2,t,_,_,_,rfl,rfl,h3,aN (j:=0) rfl,l,vs,rfl,.inl h4,fun r hr=>?_⟩
  have s1:=sN hr (.lst vs)
  exact q r vs _ s1 hr uS (h5.same s1)
 | @give ys rest t v0 v k h1 h2 h3 h4 =>
  refine ⟨_,rfl,d_ALWAYS,kd_ALWAYS,_,rfl,rfl,c_ALWAYS,_,rfl,ifC (by rw [no_give]; rfl) ?_⟩
  refine ⟨_,rfl,b,_,_,_,rfl,rfl,hB,aN (j:=1) rfl,?_⟩
  refine ⟨_,rfl,rfl,_,rfl,ifN (by decide +kernel) ?_⟩
  refine ⟨_,rfl,rfl,_,rfl,ifY rfl ?_⟩
  refine ⟨_,rfl,_,rfl,pl,_,_,_,rfl,rfl,h1,aN h2,t,_,_,_,rfl,rfl,h3,aN (j:=1) rfl,sz1,fun r hr=>?_⟩
  have s1:=sN hr (.lst [v])
  exact q r _ _ s1 hr uS (.cons (h4.same s1) .nil)
 | @ofR ms _ _ _ hM hw hf h =>
  obtain ⟨n1,n2,n3⟩:=no_rec h
  refine ⟨_,rfl,d_ALWAYS,kd_ALWAYS,_,rfl,rfl,c_ALWAYS,_,rfl,ifC (by rw [n1]; rfl) ?_⟩
  refine ⟨_,rfl,b,_,_,_,rfl,rfl,hB,aN (j:=1) rfl,?_⟩
  refine ⟨_,rfl,rfl,_,rfl,ifN n2 ?_⟩
  refine ⟨_,rfl,rfl,_,rfl,ifN n3 ?_⟩
  exact ⟨_,rfl,b,_,_,_,rfl,rfl,hB,aN (j:=0) rfl,_,rfl,mk,rw',ms,sign,xs,ks,rfl,hM,hw,hf,hR,h,q⟩
theorem sc_is_under:FnScope ["makes","c","other"] ["makes","c","other"] (dS s_is_under):=by walk_at "sc"
theorem ok_is_under{f:Addr}{fd:FuncData}(F:Fun K "is_under" "is_under" s_is_under f fd){C_Frame:Addr}(ac_Frame:AC_Frame K C_Frame)(h_elders_of:Has P w K mg base CX0 "elders_of" 1 ["makes","c"] (sp_elders_of K)):FnOk P w K mg base CX0 2 f fd ["makes","c","other"] (sp_is_under K):=by
 refine F.ok sc_is_under (fun vs H Q E h=>?_) (fun cdv A outer s H vs Q E hr h=>?_)
 ·obtain ⟨a,ms,c,o,rfl,hM,hw,hc,q⟩:=h
  rfl
 obtain ⟨a,ms,c,o,rfl,hM,hw,hc,q⟩:=h
 refine ⟨_,(qO (ps_ret (pe_cmpR op_in_seq (pv 2) (pe_ch h_elders_of (hr.mono (by decide)) rfl (pK (pv 0) (pK (pv 1) pN))) rfl))),?_⟩
 refine ⟨_,rfl,_,rfl,_,rfl,a,ms,c,rfl,hM,hw,hc,fun r H2 sm _ hr2=>?_⟩
 refine ⟨r,_,rfl,.inl (SqL.of hr2),rfl,flat_nats _,?_⟩
 show Q (.bl (inV (.int (o:Int)) (natsV (elders ms c)))) H2
 rw [inV_nats]
 exact q H2 sm
theorem sc_record_has_kind:FnScope ["makes","record","kind"] ["makes","record","kind"] (dS s_record_has_kind):=by walk_at "sc"
theorem ok_record_has_kind{f:Addr}{fd:FuncData}(F:Fun K "record_has_kind" "record_has_kind" s_record_has_kind f fd){C_Frame:Addr}(ac_Frame:AC_Frame K C_Frame)(h_is_under:Has P w K mg base CX0 "is_under" 2 ["makes","c","other"] (sp_is_under K)):FnOk P w K mg base CX0 3 f fd ["makes","record","kind"] (sp_record_has_kind K):=by
 refine F.ok sc_record_has_kind (fun vs H Q E h=>?_) (fun cdv A outer s H vs Q E hr h=>?_)
 ·obtain ⟨a,ms,v,t,r,k,rfl,hM,hw,hv,hc,ht,n1,n2,q⟩:=h
  rfl
 obtain ⟨a,ms,v,t,r,k,rfl,hM,hw,hv,hc,ht,n1,n2,q⟩:=h
 refine ⟨_,(qK (ps_if (tR op_eq (pe_ix ix_tup (pv 2) pI (fun _ _=>rfl)) pe_str (nomark _)) (qO (ps_ret (pe_and (pe_ix ix_tup (pv 1) pI (fun _ _=>rfl)) (pe_one (pe_ch h_is_under (hr.mono (by decide)) rfl (pK (pv 0) (pK (pe_ix ix_tup (pv 1) pI (fun _ _=>rfl)) (pK (pe_ix ix_tup (pv 2) pI (fun _ _=>rfl)) pN)))))))) pss_nil)
   (qO (ps_ret (pe_and (pe_cmpR op_eq (pe_ix ix_tup (pv 1) pI (fun _ _=>rfl)) (pe_ix ix_tup (pv 2) pI (fun _ _=>rfl)) (nomark _)) (pe_one (pe_cmpR op_eq (pe_op op_and (pe_ix ix_tup (pv 1) pI (fun _ _=>rfl)) (pe_ix ix_tup (pv 2) pI (fun _ _=>rfl))) (pe_ix ix_tup (pv 2) pI (fun _ _=>rfl)) (nomark _))))))),?_⟩
 obtain ⟨u,f,rfl,hu,_⟩:=rc_inv hv
 cases k with
 | any=>exact absurd rfl n1
 | num=>exact absurd rfl n2
 | whole c =>
  refine ⟨_,rfl,t,_,_,_,rfl,rfl,ht,aN (j:=0) rfl,rfl,_,rfl,ifY rfl ?_⟩
  refine ⟨_,rfl,u,_,_,_,rfl,rfl,hu,aN (j:=1) rfl,_,rfl,?_⟩
  have q':∀(H':Hp),Same H H'→Q (.bl (r.begun&&decide (c∈elders ms r.c))) H':=q
  cases hb:r.begun with
  | true =>
   rw [hb] at q'
   exact iteT ⟨_,rfl,_,rfl,u,_,_,_,rfl,rfl,hu,aN (j:=0) rfl,_,rfl,t,_,_,_,rfl,rfl,ht,aN (j:=1) rfl,a,ms,r.c,c,rfl,hM,hw,hc,q'⟩
  | false =>
   rw [hb] at q'
   exact iteF (q' H (Same.refl _))
 | raw c m =>
  refine ⟨_,rfl,t,_,_,_,rfl,rfl,ht,aN (j:=0) rfl,rfl,_,rfl,ifN nRW ?_⟩
  dsimp only [tNext]
  have qq:Q (.bl (decide (r.c=c)&&decide (r.mask&&&m=m))) H:=q H (Same.refl _)
  refine ⟨_,rfl,u,_,_,_,rfl,rfl,hu,aN (j:=0) rfl,_,rfl,t,_,_,_,rfl,rfl,ht,aN (j:=1) rfl,rfl,_,rfl,?_⟩
  rw [dec_nat]
  by_cases e:r.c=c
  ·rw [decide_eq_true e] at qq ⊢
   refine iteT ⟨_,rfl,u,_,_,_,rfl,rfl,hu,aN (j:=2) rfl,_,rfl,t,_,_,_,rfl,rfl,ht,aN (j:=2) rfl,_,_,rfl,rfl,_,rfl,t,_,_,_,rfl,rfl,ht,aN (j:=2) rfl,rfl,?_⟩
   show Q (.bl (decide (V.int (Builtin.bitAnd (r.mask:Int) (m:Int))=V.int (m:Int)))) H
   rw [bitAnd_nat,dec_nat]
   simpa using qq
  ·rw [decide_eq_false e] at qq ⊢
   exact iteF qq
theorem sc_has_kind:FnScope ["makes","heap","value","kind"] ["makes","heap","value","kind"] (dS s_has_kind):=by walk_at "sc"
theorem ok_has_kind{f:Addr}{fd:FuncData}(F:Fun K "has_kind" "has_kind" s_has_kind f fd){C_Frame:Addr}(ac_Frame:AC_Frame K C_Frame)(h_record_has_kind:Has P w K mg base CX0 "record_has_kind" 3 ["makes","record","kind"] (sp_record_has_kind K)):FnOk P w K mg base CX0 4 f fd ["makes","heap","value","kind"] (sp_has_kind K):=by
 refine F.ok sc_has_kind (fun vs H Q E h=>?_) (fun cdv A outer s H vs Q E hr h=>?_)
 ·obtain ⟨a,ms,hp,rs,rcs,v,x,t,k,rfl,hM,hw,hS,hR,hC,hv,hn,ht,q⟩:=h
  rfl
 obtain ⟨a,ms,hp,rs,rcs,v,x,t,k,rfl,hM,hw,hS,hR,hC,hv,hn,ht,q⟩:=h
 refine ⟨_,(qK (ps_if (tR op_eq (pe_ix ix_tup (pv 3) pI (fun _ _=>rfl)) pe_str (nomark _)) (qO (ps_ret pe_bl)) pss_nil)
   (qK (ps_if (tR op_isN (pv 2) pe_non (nomark _)) (qO (ps_ret pe_bl)) pss_nil)
   (qK (ps_if (PW.pt (pw_or (tR op_eq (pe_ix ix_tup (pv 3) pI (fun _ _=>rfl)) pe_str (nomark _)) (pw_or1 (tR op_eq (pe_ix ix_tup (pv 2) pI (fun _ _=>rfl)) pe_str (nomark _))))) (qO (ps_ret (pe_cmpR op_eq (pe_ix ix_tup (pv 3) pI (fun _ _=>rfl)) (pe_ix ix_tup (pv 2) pI (fun _ _=>rfl)) (nomark _)))) pss_nil)
   (qO (ps_ret (pe_ch h_record_has_kind (hr.mono (by decide)) rfl (pK (pv 0) (pK (pe_ix ix_list (pv 1) (pe_ix ix_tup (pv 2) pI (fun _ _=>rfl)) (fun _ _=>rfl)) (pK (pv 3) pN))))))))),?_⟩
 refine ⟨_,rfl,t,_,_,_,rfl,rfl,ht,kd_at0 k,rfl,_,rfl,?_⟩
 by_cases ka:k=.any
 ·subst ka
  exact ifY rfl (q H (Same.refl _))
 refine ifN (kdS_any ka) ?_
 dsimp only [tNext]
 rw [hasB_of ka] at q
 cases x with
 | none =>
  have e:=vl_none hv
  subst e
  exact ⟨_,rfl,rfl,_,rfl,iteT (q H (Same.refl _))⟩
 | num w =>
  obtain ⟨u,rfl,hu⟩:=vl_num hv
  refine ⟨_,rfl,rfl,_,rfl,iteF ?_⟩
  dsimp only [tNext]
  refine ⟨_,rfl,t,_,_,_,rfl,rfl,ht,kd_at0 k,rfl,_,rfl,?_⟩
  have fin:Q (.bl (decide (V.str (kdS k)=V.str "number"))) H:=by
   have z:=q H (Same.refl _)
   rw [show decide (V.str (kdS k)=V.str "number")=decide (k=.num) from decide_eq_decide.mpr kdS_num]
   exact z
  by_cases kn:V.str (kdS k)=V.str "number"
  ·refine ifY kn ?_
   exact ⟨_,rfl,t,_,_,_,rfl,rfl,ht,kd_at0 k,_,rfl,u,_,_,_,rfl,rfl,hu,aN (j:=0) rfl,rfl,fin⟩
  ·refine ifN kn ?_
   refine ⟨_,rfl,u,_,_,_,rfl,rfl,hu,aN (j:=0) rfl,rfl,_,rfl,ifY rfl ?_⟩
   exact ⟨_,rfl,t,_,_,_,rfl,rfl,ht,kd_at0 k,_,rfl,u,_,_,_,rfl,rfl,hu,aN (j:=0) rfl,rfl,fin⟩
 | rcd n =>
  obtain ⟨u,rfl,hu⟩:=vl_rec hv
  have hnl:=hn n rfl
  refine ⟨_,rfl,rfl,_,rfl,iteF ?_⟩
  dsimp only [tNext]
  refine ⟨_,rfl,t,_,_,_,rfl,rfl,ht,kd_at0 k,rfl,_,rfl,?_⟩
  have hrn:=gee hnl
  by_cases kn:k=.num
  ·refine ifY (kdS_num.mpr kn) ?_
   refine ⟨_,rfl,t,_,_,_,rfl,rfl,ht,kd_at0 k,_,rfl,u,_,_,_,rfl,rfl,hu,aN (j:=0) rfl,rfl,?_⟩
   subst kn
   have z:=q H (Same.refl _)
   rw [hasN_rcd hrn] at z
   have z2:decide (V.str (kdS Kd.num)=V.str "record")=false:=decide_eq_false nNRc
   rw [z2]
   exact z
  ·refine ifN (fun h=>kn (kdS_num.mp h)) ?_
   refine ⟨_,rfl,u,_,_,_,rfl,rfl,hu,aN (j:=0) rfl,rfl,_,rfl,ifN nRcN ?_⟩
   dsimp only [tNext]
   rw [hasN_rcd hrn] at q
   obtain ⟨y,hy1,hy2⟩:=RdAll.at hR (i:=n) (d:=rcD rcs[n]) (by rw [List.getElem?_map,hrn]; rfl)
   exact ⟨_,rfl,_,rfl,_,rfl,u,_,_,_,rfl,rfl,hu,aN (j:=1) rfl,hp,rs,_,_,rfl,rfl,hS,aN hy1,_,rfl,a,ms,y,t,rcs[n],k,rfl,hM,hw,hy2,hC _ (List.getElem_mem hnl),ht,ka,kn,q⟩
theorem sc_leaves:FnScope ["row"] ["row"] (dS s_leaves):=by walk_at "sc"
theorem ok_leaves{f:Addr}{fd:FuncData}(F:Fun K "leaves" "leaves" s_leaves f fd){d_LEFT:Addr}(g_LEFT:mg "LEFT"=some (.ref d_LEFT))(c_LEFT:DiD K w d_LEFT kd_LEFT){C_Frame:Addr}(ac_Frame:AC_Frame K C_Frame):FnOk P w K mg base CX0 1 f fd ["row"] (sp_leaves K):=by
 refine F.ok sc_leaves (fun vs H Q E h=>?_) (fun cdv A outer s H vs Q E hr h=>?_)
 ·obtain ⟨rw',sign,xs,rfl,hR,q⟩:=h
  rfl
 obtain ⟨rw',sign,xs,rfl,hR,q⟩:=h
 refine ⟨_,(qO (ps_ret (pe_getK (pe_glob (v:=.ref d_LEFT) rfl g_LEFT rfl) (pK (pe_ix ix_tup (pv 0) pI (fun _ _=>rfl)) (pK pI pN))))),?_⟩
 refine ⟨d_LEFT,kd_LEFT,rfl,c_LEFT,_,rfl,rw',_,_,_,rfl,rfl,hR,aN (j:=0) rfl,sign,_,rfl,fun hn=>?_,fun dt hd v hv=>?_⟩
 ·unfold leftOf at q
  rw [hn] at q
  exact q
 ·obtain ⟨i,rfl⟩:=left_int hd
  unfold leftOf at q
  rw [hd] at q
  rw [RdV.intInv (hv H)]
  exact q
theorem sc_Watched_looked:FnScope ["self","frame","row","wanted","under","value","kind"] ["self","frame","row"] (dS s_Watched_looked):=by walk_at "sc"
theorem ok_Watched_looked{f:Addr}{fd:FuncData}(F:Fun K "looked" "Watched.looked" s_Watched_looked f fd)(z_len:mg "len"=none)(z_zip:mg "zip"=none){C_Frame:Addr}(ac_Frame:AC_Frame K C_Frame){C:Addr}(ac:AC_Plain K C)(h_asked:Has P w K mg base CX0 "asked" 5 ["book","part","row"] (sp_asked K))(h_has_kind:Has P w K mg base CX0 "has_kind" 4 ["makes","heap","value","kind"] (sp_has_kind K))(h_leaves:Has P w K mg base CX0 "leaves" 1 ["row"] (sp_leaves K)):FnOk P w K mg base CX0 6 f fd ["self","frame","row"] (sp_looked K C_Frame C true):=by
 refine F.ok sc_Watched_looked (fun vs H Q E h=>?_) (fun cdv A outer s H vs Q E hr h=>?_)
 ·obtain ⟨mm,fs,fr,r,rt,p,ks,rfl,hM,hf,hR,hp,hw,h100,hnr,hA,hK,q⟩:=h
  rfl
 obtain ⟨mm,fs,fr,r,rt,p,ks,rfl,hM,hf,hR,hp,hw,h100,hnr,hA,hK,q⟩:=h
 refine ⟨_,(qK (ps_set (i:=3) sc_Watched_looked.nd rfl (Or.inl rfl) (pe_ch h_asked (hr.mono (by decide)) rfl (pK (pe_fld (pv 0) rfl) (pK (pe_fld (pv 1) rfl) (pK (pv 2) pN)))))
   (qK (ps_set (i:=4) sc_Watched_looked.nd rfl (Or.inl rfl) (pe_op op_sub (pe_callB call_len_seq rfl z_len bt_len (pK (pe_fld (pv 1) rfl) pN)) (pe_callB call_len_seq rfl z_len bt_len (pK (pv 3) pN))))
   (qK (ps_if (tR op_lt (pv 4) pI (nomark _)) (qO (ps_ret pe_str)) pss_nil)
   (qK (ps_for PassesOwn.never rfl (pi_zip true true rfl z_zip (pK (pe_slice sl_list (pe_fld (pv 1) rfl) (po_some (pv 4)) po_none) (pK (pv 3) pN))) (pg_tup rfl (pgs_cons (pg_name (i:=5) sc_Watched_looked.nd rfl (Or.inl rfl)) (pgs_cons (pg_name (i:=6) sc_Watched_looked.nd rfl (Or.inl rfl)) pgs_nil))) (qO (ps_if (pt_not (pt_val (pe_ch h_has_kind (hr.mono (by decide)) rfl (pK (pe_ix ix_tup (pe_fld (pv 0) rfl) pI (fun _ _=>rfl)) (pK (pe_fld (pv 0) rfl) (pK (pv 5) (pK (pv 6) pN))))))) (qO (ps_ret pe_str)) pss_nil)))
   (qK (ps_if (tR op_gt (pe_op op_add (pv 4) (pe_ch h_leaves (hr.mono (by decide)) rfl (pK (pv 2) pN))) (pe_ix ix_tup (pe_ix ix_list (pe_ix ix_tup (pe_fld (pv 0) rfl) pI (fun _ _=>rfl)) (pe_fld (pv 1) rfl) (fun _ _=>rfl)) pI (fun _ _=>rfl)) (nomark _)) (qO (ps_ret pe_str)) pss_nil)
   (qO (ps_ret pe_non))))))),?_⟩
 have hF:=hM.last hf
 obtain ⟨⟨fdx,f1⟩,⟨bys,f2,f3⟩,⟨sys,f4,f5⟩,fne⟩:=id hF
 obtain ⟨mdx,ev,m1,m2⟩:=hM.ob
 obtain ⟨mk,pl,xs,hb⟩:=hM.bk
 obtain ⟨hT,hMk,hL,hP⟩:=hb H KeepX.refl
 obtain ⟨lo,tk,est,ltk,hhas,hhigh⟩:=hK
 have lst:=f5.1
 rw [est,List.length_append] at lst
 refine ⟨_,rfl,mm.ma,C,mdx,_,_,rfl,m1,ac.cl,ac.a_book,mc_book,_,rfl,fr.fa,C_Frame,fdx,_,_,rfl,f1,ac_Frame.cl,ac_Frame.a_part,fm_part,_,rfl,mm.b,mk,pl,rt,fr.part,rwS r,(rwN r).map V.int,ks,rfl,hT,hR,hA H mk pl xs hL hP,fun wa ws H1 s1 n1 g1 hW=>?_⟩
 have lws:=hW.1
 rw [List.length_map] at lws
 dsimp only [gName]
 refine tSeq_hide (fun R kk=>?_)
 refine ⟨_,rfl,fr.fa,C_Frame,fdx,_,_,rfl,s1 _ _ f1,ac_Frame.cl,ac_Frame.a_stack,fm_stack,fr.sl,sys,rfl,.inl (SqL.of (s1 _ _ f4)),_,rfl,wa,ws,rfl,.inl (SqL.of g1),_,_,rfl,rfl,kk _ _ ?_⟩
 clear kk R
 have eu:((sys.length:Nat):Int) - ((ws.length:Nat):Int)=((lo.length:Nat):Int):=by omega
 dsimp only
 rw [eu]
 refine ⟨_,rfl,_,_,rfl,rfl,_,rfl,ifN (by omega) ?_⟩
 dsimp only [tNext]
 refine ⟨_,rfl,fr.fa,C_Frame,fdx,_,_,rfl,s1 _ _ f1,ac_Frame.cl,ac_Frame.a_stack,fm_stack,_,rfl,_,rfl,fr.sl,sys,rfl,SqL.of (s1 _ _ f4),fun p1 h1=>?_⟩
 rw [cut_from (by omega)]
 have s2:=sN h1 (.lst (sys.drop lo.length))
 have g2:=uS (H:=H1) (a:=p1) (o:=.lst (sys.drop lo.length))
 generalize upd H1 p1 _=H2 at s2 g2 ⊢
 have S2:=s1.trans s2
 have vt:=(f5.same S2).drop lo.length
 rw [est,List.drop_left' rfl] at vt
 have lvt:=vt.1
 have hWK:=(KIt.ofRd hW).same s2
 obtain ⟨w0,hw0,hwr⟩:=bk_part hP hp
 obtain ⟨t,l0,l4,l5,ks0,vs4,vs5,f1',rfl,hTt,hl0,hk0,rg,hl4,hk4,hl5,hk5⟩:=pt_inv hwr
 refine ⟨_,rfl,p1,wa,_,ws,rfl,SqL.of g2,SqL.of (s2 _ _ g1),?_⟩
 refine for_zip ks.length (fun i σ H3=>∃(o5 o6:Option V),σ=[some (.ref mm.ma),some (.ref fr.fa),some (.ref rt),some (.ref wa),some (.int (lo.length:Int)),o5,o6]∧Same H2 H3) (by omega) (by omega) (by omega) ⟨_,_,rfl,Same.refl _⟩ ?_ ?_ ?_
 ·rintro i σ H3 hi ⟨o5,o6,rfl,s3⟩
  exact ⟨s3.seq (SqL.of g2),s3.seq (SqL.of (s2 _ _ g1))⟩
 ·rintro i u v σ H3 T hu hv hi ⟨o5,o6,rfl,s3⟩ hT'
  have hit:i < tk.length:=by omega
  have hx:=gee hit
  generalize hxe:tk[i]=x at hx
  have hxm:x∈fr.st:=by rw [est]; exact List.mem_append_right _ (List.mem_of_getElem? hx)
  have hvu:=vt.2 i u x hu hx
  obtain ⟨k,hk1,tk1,rfl,hk2⟩:=KIt.at hWK hv
  have sT:=sN hT' (.tup [u,.ref tk1])
  have S3:=S2.trans (s3.trans sT)
  refine ⟨T,_,rfl,SqT.of uS,rfl,_,_,rfl,_,_,rfl,rfl,?_⟩
  generalize upd H3 T (.tup [u,.ref tk1])=H4 at sT S3 ⊢
  obtain ⟨hT4,hMk4,hL4,hP4⟩:=hb H4 (keep_of S3)
  refine ⟨_,rfl,mm.ma,C,mdx,_,_,rfl,S3 _ _ m1,ac.cl,ac.a_book,mc_book,mm.b,_,_,_,rfl,rfl,hT4,aN (j:=0) rfl,_,rfl,mm.ma,C,mdx,_,_,rfl,S3 _ _ m1,ac.cl,ac.a_records,mc_recs,_,rfl,_,rfl,mk,mm.ms,mm.rc,[],[],u,x,tk1,k,rfl,hMk4,hw,SqL.of (S3 _ _ hM.rc),.nil,(fun r hr=>nomatch hr),RdV.same (s3.trans sT) hvu,(fun n e=>absurd e (hnr x hxm n)),(s3.trans sT).tup hk2,fun H5 s5=>⟨_,rfl,?_⟩⟩
  rw [hhas i x k hx hk1]
  refine iteF ?_
  dsimp only [tNext]
  exact ⟨_,_,rfl,s3.trans (sT.trans s5)⟩
 ·rintro σ H3 ⟨o5,o6,rfl,s3⟩
  have S3:=S2.trans s3
  obtain ⟨hT4,hMk4,hL4,hP4⟩:=hb H3 (keep_of S3)
  refine ⟨_,rfl,_,rfl,rt,rwS r,_,rfl,S3.tup hR,_,_,rfl,rfl,_,rfl,mm.ma,C,mdx,_,_,rfl,S3 _ _ m1,ac.cl,ac.a_book,mc_book,mm.b,_,_,_,rfl,rfl,hT4,aN (j:=1) rfl,_,rfl,fr.fa,C_Frame,fdx,_,_,rfl,S3 _ _ f1,ac_Frame.cl,ac_Frame.a_part,fm_part,pl,_,_,_,rfl,rfl,hL4,aN hw0,t,_,_,_,rfl,rfl,S3.tup hTt,aN (j:=3) rfl,_,_,rfl,rfl,_,rfl,ifN (by omega) ?_⟩
  dsimp only [tNext]
  exact q H3 S3
theorem sc_Plain_step:FnScope ["self","frame","row","word"] ["self"] (dS s_Plain_step):=by walk_at "sc"
theorem ok_Plain_step{f:Addr}{fd:FuncData}(F:Fun K "step" "Plain.step" s_Plain_step f fd){C_Frame:Addr}(ac_Frame:AC_Frame K C_Frame){C:Addr}{wt:Bool}(ac:AC_Plain K C)(hm_do_row:HasM P w K mg base CX0 C "do_row" 5 ["self","frame","row"] (sp_do_row K C_Frame C wt))(hm_looked:HasM P w K mg base CX0 C "looked" 6 ["self","frame","row"] (sp_looked K C_Frame C wt)):FnOk P w K mg base CX0 7 f fd ["self"] (sp_step K C_Frame C wt):=by
 refine F.ok sc_Plain_step (fun vs H Q E h=>?_) (fun cdv A outer s H vs Q E hr h=>?_)
 ·obtain ⟨mm,m',rfl,hM,hS,q⟩:=h
  rfl
 obtain ⟨mm,m',rfl,hM,hS,q⟩:=h
 refine ⟨_,(qK (ps_if (tR op_notN (pe_fld (pv 0) rfl) pe_non (nomark _)) (qO ps_retN) pss_nil)
   (qK (ps_set (i:=1) sc_Plain_step.nd rfl (Or.inl rfl) (pe_ix ix_list (pe_fld (pv 0) rfl) (pe_un un_neg pI) (fun _ _=>rfl)))
   (qK (ps_set (i:=2) sc_Plain_step.nd rfl (Or.inl rfl) (pe_ix ix_list (pe_ix ix_tup (pe_ix ix_list (pe_ix ix_tup (pe_fld (pv 0) rfl) pI (fun _ _=>rfl)) (pe_fld (pv 1) rfl) (fun _ _=>rfl)) pI (fun _ _=>rfl)) (pe_fld (pv 1) rfl) (fun _ _=>rfl)))
   (qK (ps_set (i:=3) sc_Plain_step.nd rfl (Or.inl rfl) (pe_cm (pv 0) hm_looked pass0 (hr.mono (by decide)) (pK (pv 1) (pK (pv 2) pN))))
   (qO (ps_if (tR op_isN (pv 3) pe_non (nomark _)) (qO (ps_expr (pe_cm (pv 0) hm_do_row pass0 (hr.mono (by decide)) (pK (pv 1) (pK (pv 2) pN))))) (qO (ps_fld (pv 0) (pe_tup (pK pe_str (pK (pe_fld (pv 1) rfl) (pK (pe_fld (pv 1) rfl) (pK (pv 3) pN))))) rfl)))))))),?_⟩
 obtain ⟨mdx,ev,m1,m2⟩:=hM.ob
 refine ⟨_,rfl,mm.ma,C,mdx,_,_,rfl,m1,ac.cl,ac.a_end,mc_end,rfl,_,rfl,?_⟩
 rcases hS with ⟨h1,rfl⟩ | ⟨h1,fs,fr,r,p,ks,hf,hp,hr',hw,h100,h900,hnr,hA,hK,hD⟩
 ·rcases m2 with ⟨z,_⟩ | ⟨_,t,rfl,ht⟩
  ·exact absurd z h1
  ·show if (!decide (V.ref t=V.non))=true then _ else _
   rw [if_pos (by simp)]
   exact q H hM KeepX.refl
 ·rcases m2 with ⟨_,rfl⟩ | ⟨z,_⟩
  rotate_left
  ·exact absurd h1 z
  show if (!decide (V.non=V.non))=true then _ else _
  rw [if_neg (by simp)]
  dsimp only [tNext]
  have hF:=hM.last hf
  obtain ⟨⟨fdx,f1⟩,⟨bys,f2,f3⟩,⟨sys,f4,f5⟩,fne⟩:=id hF
  obtain ⟨mk,pl,xs,hb⟩:=hM.bk
  obtain ⟨hT,hMk,hL,hP⟩:=hb H KeepX.refl
  obtain ⟨w0,hw0,hwr⟩:=bk_part hP hp
  obtain ⟨t,l0,l4,l5,ks0,vs4,vs5,f1',rfl,hTt,hl0,hk0,rg,hl4,hk4,hl5,hk5⟩:=pt_inv hwr
  obtain ⟨rv,hrv,hrr⟩:=RdAll.at hk4 (i:=fr.at') (d:=rwD r) (by rw [List.getElem?_map,hr']; rfl)
  obtain ⟨rt,rfl,hR⟩:=rw_inv hrr
  have L1:=hM.lv
  rw [hf,List.map_append,show ([fr].map fun f=>V.ref f.fa)=[V.ref fr.fa] from rfl] at L1
  refine ⟨_,rfl,mm.ma,C,mdx,_,_,rfl,m1,ac.cl,ac.a_live,mc_live,_,rfl,mm.lv,_,_,_,rfl,rfl,SqL.of L1,atI_neg1,?_⟩
  refine ⟨_,rfl,mm.ma,C,mdx,_,_,rfl,m1,ac.cl,ac.a_book,mc_book,mm.b,_,_,_,rfl,rfl,hT,aN (j:=1) rfl,_,rfl,fr.fa,C_Frame,fdx,_,_,rfl,f1,ac_Frame.cl,ac_Frame.a_part,fm_part,pl,_,_,_,rfl,rfl,hL,aN hw0,t,_,_,_,rfl,rfl,hTt,aN (j:=4) rfl,_,rfl,fr.fa,C_Frame,fdx,_,_,rfl,f1,ac_Frame.cl,ac_Frame.a_at,fm_at,l4,_,_,_,rfl,rfl,hl4,aN hrv,?_⟩
  refine ⟨_,rfl,mm.ma,mdx,_,rfl,m1,mc_no (by decide +kernel),_,rfl,_,rfl,mm,fs,fr,r,rt,p,ks,rfl,hM,hf,hR,hp,hw,h100,hnr,hA,hK,fun H1 s1=>?_⟩
  refine ⟨_,rfl,rfl,_,rfl,iteT ?_⟩
  exact ⟨_,rfl,mm.ma,mdx,_,rfl,s1 _ _ m1,mc_no (by decide +kernel),_,rfl,_,rfl,mm,m',fs,fr,r,rt,rfl,hM.same s1,hf,s1.tup hR,hD,h100,h900,fun H2 M2 K2=>q H2 M2 ((keep_of s1).trans K2)⟩
theorem sc_Plain_told:FnScope ["self"] ["self"] (dS s_Plain_told):=by walk_at "sc"
theorem ok_Plain_told{f:Addr}{fd:FuncData}(F:Fun K "told" "Plain.told" s_Plain_told f fd)(z_list:mg "list"=none){C_Frame:Addr}(ac_Frame:AC_Frame K C_Frame){C:Addr}{wt:Bool}(ac:AC_Plain K C):FnOk P w K mg base CX0 1 f fd ["self"] (sp_told K C_Frame C wt):=by
 refine F.ok sc_Plain_told (fun vs H Q E h=>?_) (fun cdv A outer s H vs Q E hr h=>?_)
 ·obtain ⟨mm,rfl,hM,h1000,q⟩:=h
  rfl
 obtain ⟨mm,rfl,hM,h1000,q⟩:=h
 refine ⟨_,(qO (ps_ret (pe_tup (pK (pe_fld (pv 0) rfl) (pK (pe_callTy call_list_of rfl z_list bt_list (pK (pe_fld (pv 0) rfl) pN)) (pK (pe_fld (pv 0) rfl) pN)))))),?_⟩
 obtain ⟨dx,ev,h1,h2⟩:=hM.ob
 refine ⟨_,rfl,mm.ma,C,dx,_,_,rfl,h1,ac.cl,ac.a_end,mc_end,_,rfl,mm.ma,C,dx,_,_,rfl,h1,ac.cl,ac.a_said,mc_said,mm.sd,_,rfl,.inl (SqL.of hM.sd),fun l hl=>?_⟩
 have u1:=sN hl (.lst (mm.said.map V.int))
 have g1:=uS (H:=H) (a:=l) (o:=.lst (mm.said.map V.int))
 generalize upd H l _=H1 at u1 g1 ⊢
 refine ⟨_,rfl,mm.ma,C,dx,_,_,rfl,u1 _ _ h1,ac.cl,ac.a_left,mc_left,sz3,fun t ht=>?_⟩
 have u2:=sN ht (.tup [ev,.ref l,.int mm.left])
 exact q t l ev _ (u1.trans u2) hl (u2 _ _ g1) (SqT.of uS) (h2.same (u1.trans u2))
theorem sc__law_keeps:FnScope ["_law_machine","_law_part","_law_states","_law_watched","_law_due","_law_budget","_law_at","_law_stack","_law_boxes","_law_said","_law_told","_law_heap","_law_frame","_law_frames"] ["_law_machine","_law_part","_law_states","_law_watched","_law_due"] (dS s_law_keeps):=by walk_at "sc"
theorem ok__law_keeps{f:Addr}{fd:FuncData}(F:Fun K "_law_keeps" "_law_keeps" s_law_keeps f fd)(z_enumerate:mg "enumerate"=none){C_Frame:Addr}(ac_Frame:AC_Frame K C_Frame){C:Addr}{wt:Bool}(ac:AC_Plain K C)(h__law_bare:Has P w K mg base CX0 "_law_bare" 1 ["_law_value"] (sp_law_bare K))(h__law_no_truths:Has P w K mg base CX0 "_law_no_truths" 1 ["_law_some"] (sp_law_no_truths K))(h__law_tagged:Has P w K mg base CX0 "_law_tagged" 1 ["_law_some","_law_watched"] (sp_law_tagged K))(hm_frames:HasM P w K mg base CX0 C "frames" 2 ["self"] (sp_frames K C_Frame C wt))(hm_heap:HasM P w K mg base CX0 C "heap" 1 ["self"] (sp_heap K C_Frame C wt))(hm_step:HasM P w K mg base CX0 C "step" 7 ["self"] (sp_step K C_Frame C wt))(hm_told:HasM P w K mg base CX0 C "told" 1 ["self"] (sp_told K C_Frame C wt)):FnOk P w K mg base CX0 8 f fd ["_law_machine","_law_part","_law_states","_law_watched","_law_due"] (sp_law_keeps K C_Frame C wt):=by
 refine F.ok sc__law_keeps (fun vs H Q E h=>?_) (fun cdv A outer s H vs Q E hr h=>?_)
 ·obtain ⟨m,f',sa,due,dt,sts,rs,ys,h,nb,s0,e,p,rfl,hM,kp,q⟩:=h
  rfl
 obtain ⟨m,f',sa,due,dt,sts,rs,ys,h,nb,s0,e,p,rfl,hM,kp,q⟩:=h
 refine ⟨_,(qK (ps_set (i:=5) sc__law_keeps.nd rfl (Or.inl rfl) (pe_ix ix_tup (pv 4) pI (fun _ _=>rfl)))
   (qK (ps_for PassesOwn.never rfl (pi_enum rfl z_enumerate (pK (pv 2) pN)) (pg_tup rfl (pgs_cons (pg_name (i:=6) sc__law_keeps.nd rfl (Or.inl rfl)) (pgs_cons (pg_tup rfl (pgs_cons (pg_name (i:=7) sc__law_keeps.nd rfl (Or.inl rfl)) (pgs_cons (pg_name (i:=8) sc__law_keeps.nd rfl (Or.inl rfl)) (pgs_cons (pg_name (i:=9) sc__law_keeps.nd rfl (Or.inl rfl)) pgs_nil)))) pgs_nil))) (qK (ps_set (i:=10) sc__law_keeps.nd rfl (Or.inl rfl) (pe_cm0 (pv 0) hm_told pass0 (hr.mono (by decide))))
   (qK (ps_set (i:=11) sc__law_keeps.nd rfl (Or.inl rfl) (pe_cm0 (pv 0) hm_heap pass0 (hr.mono (by decide))))
   (qK (ps_if (PW.pt (pw_or (tR (op_neD (hr.units)) (pv 10) (pe_tup (pK pe_non (pK (pv 9) (pK (pv 5) pN)))) (nomark _)) (pw_or (tR (op_neD (hr.units)) (pv 11) (pe_lst pN) (nomark _)) (pw_or1 (pt_not (pt_val (pe_ch h__law_no_truths (hr.mono (by decide)) rfl (pK (pe_ix ix_tup (pv 10) pI (fun _ _=>rfl)) pN)))))))) (qO (ps_ret pe_bl)) pss_nil)
   (qK (ps_set (i:=12) sc__law_keeps.nd rfl (Or.inl rfl) (pe_tup (pK (pv 1) (pK (pv 6) (pK (pe_ch h__law_tagged (hr.mono (by decide)) rfl (pK (pv 8) (pK (pv 3) pN))) (pK (pe_ch h__law_tagged (hr.mono (by decide)) rfl (pK (pv 7) (pK (pv 3) pN))) pN))))))
   (qK (ps_set (i:=13) sc__law_keeps.nd rfl (Or.inl rfl) (pe_cm0 (pv 0) hm_frames pass0 (hr.mono (by decide))))
   (qK (ps_if (PW.pt (pw_or (tR (op_neD (hr.units)) (pv 13) (pe_lst (pK (pv 12) pN)) (nomark _)) (pw_or1 (pt_not (pt_val (pe_ch h__law_no_truths (hr.mono (by decide)) rfl (pK (pe_lc 1 ["_law_one"] [] ⟨rfl,rfl,rfl,rfl,rfl,rfl,rfl,rfl⟩ (pi_tup (pe_ix ix_tup (pe_ix ix_list (pv 13) pI (fun _ _=>rfl)) pI (fun _ _=>rfl))) (fun _ _ _ _=>⟨(pg_name (i:=0) (show List.Nodup (["_law_one"]:List Str) by decide +kernel) rfl (Or.inl rfl)),pif_nil,(pe_ch h__law_bare (hr.mono (by decide)) rfl (pK (pv 0) pN))⟩)) pN))))))) (qO (ps_ret pe_bl)) pss_nil)
   (qK (ps_expr (pe_bm PySem.F.plainAttrs_list PySem.F.slot_list_append PySem.F.type_list_append mt_append (pe_ix ix_tup (pv 10) pI (fun _ _=>rfl)) (pK pI pN)))
   (qK (ps_expr (pe_bm PySem.F.plainAttrs_list PySem.F.slot_list_append PySem.F.type_list_append mt_append (pv 11) (pK pI pN)))
   (qK (ps_expr (pe_bm0 PySem.F.plainAttrs_list PySem.F.slot_list_clear PySem.F.type_list_clear mt_clear (pv 13)))
   (qO (ps_expr (pe_cm0 (pv 0) hm_step pass0 (hr.mono (by decide)))))))))))))))
   (qK (ps_set (i:=10) sc__law_keeps.nd rfl (Or.inl rfl) (pe_tup (pK (pe_ix ix_tup (pv 4) pI (fun _ _=>rfl)) (pK (pe_ix ix_tup (pe_ix ix_list (pv 2) (pe_un un_neg pI) (fun _ _=>rfl)) pI (fun _ _=>rfl)) (pK (pv 5) pN)))))
   (qK (ps_if (tR (op_neD (hr.units)) (pe_cm0 (pv 0) hm_told pass0 (hr.mono (by decide))) (pv 10) (nomark _)) (qO (ps_ret pe_bl)) pss_nil)
   (qK (ps_expr (pe_cm0 (pv 0) hm_step pass0 (hr.mono (by decide))))
   (qO (ps_ret (pe_cmpR (op_eqD (hr.units)) (pe_cm0 (pv 0) hm_told pass0 (hr.mono (by decide))) (pv 10) (nomark _))))))))),?_⟩
 have mu:=hM.mut
 refine ⟨_,rfl,due,_,_,_,rfl,rfl,kp.du,aN (j:=1) rfl,?_⟩
 refine ⟨_,rfl,sa,ys,rfl,kp.sl H KeepX.refl,?_⟩
 have lys:=kp.it.1
 have lst:=kp.gr.len
 have few:=kp.few
 refine for_enum (xs:=ys) (fun i σ H2=>∃(o6 o7 o8 o9 o10 o11 o12 o13:Option V),σ=[some (.ref m.ma),some (.int (f'.part:Int)),some (.ref sa),some (.bl wt),some (.ref due),some (.int m.left),o6,o7,o8,o9,o10,o11,o12,o13]∧KeepX (foot (mcS m f' 0 s0)) H H2∧((∃s,sts[i]?=some s∧McAt K H2 C_Frame C wt (mcS m f' i s))∨(i=sts.length∧∃lo s,sts=lo++[s]∧McAt K H2 C_Frame C wt {m with frs:=[],said:=s.sd,fin:=[.inl (if e="toss" then "fault" else "gave"),.inr 77]}))) ?_ ?_ ?_ ?_
 ·exact ⟨_,_,_,_,_,_,_,_,rfl,KeepX.refl,.inl ⟨s0,kp.gr.fst,hM⟩⟩
 ·rintro i σ H2 hi ⟨o6,o7,o8,o9,o10,o11,o12,o13,rfl,k2,_⟩
  exact kp.sl H2 k2
 ·rintro i v σ H2 T hv ⟨o6,o7,o8,o9,o10,o11,o12,o13,rfl,k2,hi⟩ nT
  have hiL:i < sts.length:=by rw [← lys]; exact (List.getElem?_eq_some_iff.mp hv).1
  obtain ⟨s,hs,M2⟩:∃s,sts[i]?=some s∧McAt K H2 C_Frame C wt (mcS m f' i s):=by
   rcases hi with h | ⟨h,_⟩
   ·exact h
   ·omega
  have hinv:=kp.gr.inv i s hs
  obtain ⟨t,a,b,d,rfl,hX⟩:=kp.it.2 i v s hv hs
  have sT:=sN nT (.tup [.int (i:Int),.ref t])
  have gT:SqT K (upd H2 T (.tup [.int (i:Int),.ref t])) T [.int (i:Int),.ref t]:=SqT.of uS
  generalize upd H2 T _=HT at sT gT ⊢
  have kT:=k2.trans (keep_of sT)
  obtain ⟨xT,xS,xB,xD⟩:=hX HT kT
  have M:=M2.same sT
  obtain ⟨dx,ev0,ob,_⟩:=id M.ob
  have lst8:s.st.length≤8:=by have:=hinv.st; have:=kp.h8; omega
  have lbx8:s.bx.length≤8:=by rw [hinv.bx]; exact kp.nb8
  have lsd:s.sd.length≤101:=by have:=hinv.sd; omega
  refine ⟨T,_,rfl,gT,rfl,_,_,rfl,_,_,rfl,t,_,rfl,xT,rfl,_,_,rfl,_,_,rfl,_,_,rfl,rfl,rfl,?_⟩
  refine ⟨_,rfl,m.ma,dx,_,rfl,ob,mc_no (by decide +kernel),mcS m f' i s,rfl,M,(by show s.sd.length≤1000; omega),fun tt tl ev H3 s3 ntl g3 gt hE=>?_⟩
  refine ⟨_,rfl,m.ma,dx,_,rfl,s3 _ _ ob,mc_no (by decide +kernel),mcS m f' i s,rfl,M.same s3,fun l4 H4 s4 n4 g4=>?_⟩
  have S4:=s3.trans s4
  refine ⟨_,rfl,_,rfl,_,rfl,sz3,fun t5 n5=>?_⟩
  have s5:=sN n5 (.tup [.non,.ref d,.int m.left])
  have g5:SqT K (upd H4 t5 (.tup [.non,.ref d,.int m.left])) t5 [.non,.ref d,.int m.left]:=SqT.of uS
  generalize upd H4 t5 _=H5 at s5 g5 ⊢
  have S5:=S4.trans s5
  have eE:ev=.non:=by
   rcases hE with ⟨_,z⟩ | ⟨z,_⟩
   ·exact z
   ·exact absurd rfl z
  subst eE
  have r1:RdV K H5 (.ref tt) (toldD .none s.sd m.left):=.tup' ((s4.trans s5).tup gt) (.cons .non (.cons (.lst' (SqL.of ((s4.trans s5) _ _ g3)) (rd_ints _)) (.cons (.int _) .nil)))
  have r2:RdV K H5 (.ref t5) (toldD .none s.sd m.left):=.tup' g5 (.cons .non (.cons (.lst' (S5.seq xD) (rd_ints _)) (.cons (.int _) .nil)))
  refine ⟨_,_,r1,r2,told_ok rfl (Nat.zero_le _),told_ok rfl (Nat.zero_le _),_,rfl,?_⟩
  rw [told_self rfl (Nat.zero_le _)]
  refine iteF ?_
  refine ⟨_,rfl,sz0,fun l6 n6=>?_⟩
  have s6:=sN n6 (.lst [])
  refine ⟨.list [],.list [],.lst' (SqL.of (s6 _ _ (s5 _ _ g4))) .nil,.lst' (SqL.of uS) .nil,rfl,rfl,_,rfl,?_⟩
  generalize upd H5 l6 _=H6 at s6 ⊢
  refine iteF ?_
  have S6:=S5.trans s6
  have s36:=s4.trans (s5.trans s6)
  refine ⟨_,rfl,tt,_,_,_,rfl,rfl,s36.tup gt,aN (j:=1) rfl,tl,_,rfl,SqL.of (s36 _ _ g3),(fun x hx=>by obtain ⟨n,_,rfl⟩:=List.mem_map.mp hx; exact .inr ⟨n,rfl⟩),(by rw [List.length_map]; show s.sd.length≤1000; omega),fun H7 s7=>?_⟩
  refine ⟨_,rfl,iteF ?_⟩
  have S7:=S6.trans s7
  refine ⟨_,rfl,_,rfl,_,rfl,_,rfl,b,s.bx,wt,rfl,S7.seq xB,by omega,fun tb yb H8 s8 gb vb=>?_⟩
  refine ⟨_,rfl,_,rfl,a,s.st,wt,rfl,(S7.trans s8).seq xS,by omega,fun ts yt H9 s9 gs vs=>?_⟩
  refine ⟨sz4,fun tf nf=>?_⟩
  have sf:=sN nf (.tup [.int (f'.part:Int),.int (i:Int),.ref tb,.ref ts])
  have gf:SqT K (upd H9 tf (.tup [.int (f'.part:Int),.int (i:Int),.ref tb,.ref ts])) tf [.int (f'.part:Int),.int (i:Int),.ref tb,.ref ts]:=SqT.of uS
  generalize upd H9 tf _=HA at sf gf ⊢
  have SA:=S7.trans (s8.trans (s9.trans sf))
  refine ⟨_,rfl,m.ma,dx,_,rfl,SA _ _ ob,mc_no (by decide +kernel),mcS m f' i s,rfl,M.same SA,(by show 1≤100; decide),fun lf yf HB sB nlf gB hF=>?_⟩
  have SB:=SA.trans sB
  obtain ⟨y0,rfl⟩:=ex1 (show yf.length=1 from hF.1)
  have hF0:=hF.2 0 y0 _ rfl rfl
  refine ⟨_,rfl,_,rfl,sz1,fun l9 n9=>?_⟩
  have sC:=sN n9 (.lst [.ref tf])
  have gC:=uS (H:=HB) (a:=l9) (o:=.lst [.ref tf])
  generalize upd HB l9 _=HC at sC gC ⊢
  have SC:=SB.trans sC
  have sBC:=sB.trans sC
  have q1:RdV K HC (.ref lf) (frD wt f'.part i (s.bx.map ovl) (s.st.map ovl)):=.lst' (SqL.of (sC _ _ gB)) (.cons (RdV.same sC hF0.rd) .nil)
  have q2:RdV K HC (.ref l9) (frD wt f'.part i (s.bx.map ovl) (s.st.map ovl)):=.lst' (SqL.of gC) (.cons (.tup' (sBC.tup gf) (.cons (.int _) (.cons (.int _) (.cons (.tup' ((s9.trans (sf.trans sBC)).tup gb) (vb.same (s9.trans (sf.trans sBC))).rd) (.cons (.tup' ((sf.trans sBC).tup gs) (vs.same (sf.trans sBC)).rd) .nil))))) .nil)
  refine ⟨_,_,q1,q2,fr_ok,fr_ok,_,rfl,?_⟩
  rw [fr_self]
  refine iteF ?_
  obtain ⟨t0,tb0,ts0,bvs,svs,rfl,k2',k3,k4,k5,k6⟩:=hF0.same sC
  refine ⟨_,rfl,lf,_,_,_,rfl,rfl,SqL.of (sC _ _ gB),aN (j:=0) rfl,t0,_,_,_,rfl,rfl,k2',aN (j:=3) rfl,ts0,rfl,⟨_,k5⟩,fun D hD=>?_⟩
  have l6:=k6.1
  have l6':svs.length=s.st.length:=by rw [l6]; exact List.length_map _
  refine lc_tup (xs:=svs) (fun j zs HD=>Same HC HD∧HD D=some (.lst zs)∧(∀x∈zs,NoT x)∧zs.length=j) (Nat.le_of_lt (sK (by omega))) ⟨sN hD _,uS,(fun x hx=>nomatch hx),rfl⟩ ?_ ?_ ?_
  ·rintro j zs HD hj ⟨sD,gD,_,hz⟩
   exact ⟨gD,Nat.le_of_eq hz,sD.tup k5⟩
  ·rintro j x zs HD hx ⟨sD,gD,hN,hz⟩
   have hj:j < s.st.length:=by rw [← l6']; exact (List.getElem?_eq_some_iff.mp hx).1
   have hv':=k6.2 j x (ovl s.st[j]) hx (by show (s.st.map ovl)[j]?=_; rw [List.getElem?_map,gee hj]; rfl)
   refine ⟨rfl,_,rfl,x,wt,s.st[j],rfl,hv'.same sD,fun u hu=>⟨gD,Same_upd sD hD _,uS,fun y hy=>?_,by simp [hz]⟩⟩
   rcases List.mem_append.mp hy with z | z
   ·exact hN y z
   ·rw [msp z]; exact hu
  ·rintro zs HD ⟨sD,gD,hN,hz⟩
   refine ⟨D,zs,rfl,SqL.of gD,hN,by omega,fun HE sE=>?_⟩
   refine ⟨_,rfl,iteF ?_⟩
   have sCE:=sD.trans sE
   have SE:=SC.trans sCE
   have s3E:Same H3 HE:=s4.trans (s5.trans (s6.trans (s7.trans (s8.trans (s9.trans (sf.trans (sB.trans (sC.trans sCE))))))))
   have s4E:Same H4 HE:=s5.trans (s6.trans (s7.trans (s8.trans (s9.trans (sf.trans (sB.trans (sC.trans sCE)))))))
   refine ⟨_,rfl,tt,_,_,_,rfl,rfl,s3E.tup gt,aN (j:=1) rfl,.inl ⟨rfl,_,SqL.of (s3E _ _ g3)⟩,tl,_,_,rfl,rfl,s3E _ _ g3,sK (by rw [List.length_map]; show s.sd.length≤1000; omega),?_⟩
   have e1:=nN g3 n4
   have e2:tl≠lf:=nN ((s4.trans (s5.trans (s6.trans (s7.trans (s8.trans (s9.trans sf)))))) _ _ g3) nlf
   have e3:l4≠lf:=nN ((s5.trans (s6.trans (s7.trans (s8.trans (s9.trans sf))))) _ _ g4) nlf
   have sF:=Same_upd SE ntl (.lst ((mcS m f' i s).said.map V.int++[.int 5]))
   have gF:=(uN (H:=HE) (o:=.lst ((mcS m f' i s).said.map V.int++[.int 5])) e1.symm).trans (s4E _ _ g4)
   have gF2:=(uN (H:=HE) (o:=.lst ((mcS m f' i s).said.map V.int++[.int 5])) e2.symm).trans ((sC.trans sCE) _ _ gB)
   generalize upd HE tl _=HF at sF gF gF2 ⊢
   refine ⟨_,rfl,.inl ⟨rfl,_,SqL.of gF⟩,l4,_,_,rfl,rfl,gF,sK (by show 0≤1000; omega),?_⟩
   have sG:=Same_upd sF (s3.free n4) (.lst ([]++[.int 1]))
   have gG:=(uN (H:=HF) (o:=.lst ([]++[.int 1])) e3.symm).trans gF2
   generalize upd HF l4 _=HG at sG gG ⊢
   refine ⟨_,rfl,.inl ⟨rfl,_,SqL.of gG⟩,lf,_,rfl,rfl,gG,?_⟩
   have sH:=Same_upd sG (SA.free nlf) (.lst [])
   generalize upd HG lf _=HH at sH ⊢
   have MH:=M.same sH
   have kH:=kT.trans (keep_of sH)
   have hrow:∀r,(rs++[.bare e])[i]?=some r→p.rows[i]?=some r:=fun r hr=>by rw [kp.rw]; exact hr
   by_cases hl:i + 1 < sts.length
   ·have hir:i < rs.length:=by omega
    have hK:=kp.gr.stp i rs[i] s sts[i + 1] (gee hir) hs (gee hl)
    have hS:=step_of (K:=K) (m:=m) (f:=f') hK hinv kp.pt (hrow _ (by rw [List.getElem?_append_left hir,gee hir])) kp.hh kp.wf kp.h8 (by omega)
    exact ⟨_,rfl,m.ma,dx,_,rfl,sH _ _ ob,mc_no (by decide +kernel),mcS m f' i s,_,rfl,MH,hS,fun HI MI kI=>⟨_,_,_,_,_,_,_,_,rfl,kH.trans kI,.inl ⟨_,gee hl,MI⟩⟩⟩
   ·have hir:i=rs.length:=by omega
    obtain ⟨lo,s1,l,hlo,hs1⟩:=kp.la
    have es:s1=s:=by
     have:sts[i]?=some s1:=by
      have ll:lo.length=rs.length:=by have:=congrArg List.length hlo; simp at this; omega
      rw [hlo,hir,← ll]
      simp
     rw [hs] at this
     exact (Option.some.inj this).symm
    subst es
    have hS:=end_of (K:=K) (m:=m) (f:=f') kp.he hs1 hinv kp.pt (hrow _ (by rw [hir]; simp)) kp.hh kp.gv kp.sp kp.wf kp.h8 (by omega)
    exact ⟨_,rfl,m.ma,dx,_,rfl,sH _ _ ob,mc_no (by decide +kernel),mcS m f' i s1,_,rfl,MH,hS,fun HI MI kI=>⟨_,_,_,_,_,_,_,_,rfl,kH.trans kI,.inr ⟨by omega,lo,s1,hlo,MI⟩⟩⟩
 ·rintro σ H2 ⟨o6,o7,o8,o9,o10,o11,o12,o13,rfl,k2,hi⟩
  obtain ⟨lo,s,hlo,M⟩:∃lo s,sts=lo++[s]∧McAt K H2 C_Frame C wt {m with frs:=[],said:=s.sd,fin:=[.inl (if e="toss" then "fault" else "gave"),.inr 77]}:=by
   rcases hi with ⟨s,h,_⟩ | ⟨_,h⟩
   ·have:=(List.getElem?_eq_some_iff.mp h).1
    omega
   ·exact h
  have du2:=SqT.keep k2 mu kp.du
  have dt2:=SqT.keep k2 mu kp.dt
  have lay:PyData.canLay0 (.str (if e="toss" then "fault" else "gave"))=true:=by
   rcases kp.he with z | z <;> rw [z] <;> decide +kernel
  generalize hx:(if e="toss" then ("fault" : Str) else "gave")=x at M dt2 lay
  have hit:=kp.it
  rw [hlo] at hit
  obtain ⟨yp,y,rfl,t,a,b,d,rfl,hX⟩:=hit.lastOf
  have hinv:s.sd.length≤200:=by
   have:=(kp.gr.inv lo.length s (by rw [hlo]; simp)).sd
   have:=congrArg List.length hlo
   simp at this
   omega
  obtain ⟨xT,xS,xB,xD⟩:=hX H2 k2
  obtain ⟨dx,ev0,ob,_⟩:=id M.ob
  have c1:PyData.canLay0 (.tuple [.str x,.int 77])=true:=by
   show (PyData.canLay0 (.str x)&&(PyData.canLay0 (.int 77)&&true))=true
   rw [lay]; rfl
  have c2:PyData.depth (.tuple [.str x,.int 77])≤1:=Nat.le_refl _
  refine ⟨_,rfl,due,_,_,_,rfl,rfl,du2,aN (j:=0) rfl,_,rfl,_,rfl,sa,_,_,_,rfl,rfl,kp.sl H2 k2,atI_neg1,t,_,_,_,rfl,rfl,xT,aN (j:=2) rfl,_,rfl,sz3,fun t1 n1=>?_⟩
  have s1:=sN n1 (.tup [.ref dt,.ref d,.int m.left])
  have g1:SqT K (upd H2 t1 (.tup [.ref dt,.ref d,.int m.left])) t1 [.ref dt,.ref d,.int m.left]:=SqT.of uS
  generalize upd H2 t1 _=H3 at s1 g1 ⊢
  have M3:=M.same s1
  refine ⟨_,rfl,m.ma,dx,_,rfl,s1 _ _ ob,mc_no (by decide +kernel),{m with frs:=[],said:=s.sd,fin:=[.inl x,.inr 77]},rfl,M3,(by show s.sd.length≤1000; omega),fun tt tl ev H4 s4 ntl g4 gt hE=>?_⟩
  have endD:∀{HX:Hp} {ev:V},EndAt K HX ev [.inl x,.inr 77]→RdV K HX ev (.tuple [.str x,.int 77]):=fun {HX ev} h=>by
   rcases h with ⟨z,_⟩ | ⟨_,tE,rfl,hT⟩
   ·cases z
   ·exact .tup' hT (.cons (.str _) (.cons (.int _) .nil))
  have S4:=s1.trans s4
  have r1:RdV K H4 (.ref tt) (toldD (.tuple [.str x,.int 77]) s.sd m.left):=.tup' gt (.cons (endD hE) (.cons (.lst' (SqL.of g4) (rd_ints _)) (.cons (.int _) .nil)))
  have r2:RdV K H4 (.ref t1) (toldD (.tuple [.str x,.int 77]) s.sd m.left):=.tup' (s4.tup g1) (.cons (.tup' (S4.tup dt2) (.cons (.str _) (.cons (.int _) .nil))) (.cons (.lst' (S4.seq xD) (rd_ints _)) (.cons (.int _) .nil)))
  refine ⟨_,rfl,_,_,r1,r2,told_ok c1 c2,told_ok c1 c2,_,rfl,?_⟩
  rw [told_self c1 c2]
  refine iteF ?_
  have M4:=M.same S4
  refine ⟨_,rfl,m.ma,dx,_,rfl,S4 _ _ ob,mc_no (by decide +kernel),{m with frs:=[],said:=s.sd,fin:=[.inl x,.inr 77]},{m with frs:=[],said:=s.sd,fin:=[.inl x,.inr 77]},rfl,M4,.inl ⟨(fun z=>nomatch z),rfl⟩,fun H6 M6 k6=>?_⟩
  obtain ⟨dx6,ev6,ob6,_⟩:=id M6.ob
  have mu4:=M4.mut
  have sub:∀c∈foot {m with frs:=[],said:=s.sd,fin:=[.inl x,.inr 77]},c∈foot (mcS m f' 0 s0):=fun c hc=>by
   simp only [foot,mcS,List.mem_cons,List.flatMap_nil,List.not_mem_nil,or_false] at hc ⊢
   rcases hc with z | z | z | z
   ·exact .inl z
   ·exact .inr (.inl z)
   ·exact .inr (.inr (.inl z))
   ·exact .inr (.inr (.inr (.inl z)))
  have K6:KeepX (foot (mcS m f' 0 s0)) H H6:=(k2.trans (keep_of S4)).trans (k6.sub sub)
  obtain ⟨_,_,_,yD⟩:=hX H6 K6
  have g6:=SqT.keep k6 mu4 (s4.tup g1)
  have d6:=SqT.keep k6 mu4 (S4.tup dt2)
  refine ⟨_,rfl,m.ma,dx6,_,rfl,ob6,mc_no (by decide +kernel),{m with frs:=[],said:=s.sd,fin:=[.inl x,.inr 77]},rfl,M6,(by show s.sd.length≤1000; omega),fun tt' tl' ev' H7 s7 ntl' g7 gt' hE'=>?_⟩
  have r3:RdV K H7 (.ref tt') (toldD (.tuple [.str x,.int 77]) s.sd m.left):=.tup' gt' (.cons (endD hE') (.cons (.lst' (SqL.of g7) (rd_ints _)) (.cons (.int _) .nil)))
  have r4:RdV K H7 (.ref t1) (toldD (.tuple [.str x,.int 77]) s.sd m.left):=.tup' (s7.tup g6) (.cons (.tup' (s7.tup d6) (.cons (.str _) (.cons (.int _) .nil))) (.cons (.lst' (s7.seq yD) (rd_ints _)) (.cons (.int _) .nil)))
  refine ⟨_,rfl,_,_,r3,r4,told_ok c1 c2,told_ok c1 c2,?_⟩
  rw [told_self c1 c2]
  exact q H7 (K6.trans (keep_of s7))
theorem sc_is_door:FnScope ["takes","gives"] ["takes","gives"] (dS s_is_door):=by walk_at "sc"
theorem ok_is_door{f:Addr}{fd:FuncData}(F:Fun K "is_door" "is_door" s_is_door f fd)(z_all:mg "all"=none){C_Frame:Addr}(ac_Frame:AC_Frame K C_Frame):FnOk P w K mg base CX0 1 f fd ["takes","gives"] (sp_is_door K):=by
 refine F.ok sc_is_door (fun vs H Q E h=>?_) (fun cdv A outer s H vs Q E hr h=>?_)
 ·obtain ⟨tl,g,ys,ks,gk,rfl,hS,hK,hg,h100,q⟩:=h
  rfl
 obtain ⟨tl,g,ys,ks,gk,rfl,hS,hK,hg,h100,q⟩:=h
 refine ⟨_,(qO (ps_ret (pe_callB (call_all rfl) rfl z_all bt_all (pK (pe_lc 1 ["kind"] [] ⟨rfl,rfl,rfl,rfl,rfl,rfl,rfl,rfl⟩ (pi_list (pe_op op_catS (pv 0) (pe_lst (pK (pv 1) pN)))) (fun _ _ _ _=>⟨(pg_name (i:=0) (show List.Nodup (["kind"]:List Str) by decide +kernel) rfl (Or.inl rfl)),pif_nil,(pe_cmpR (r:=rEqD K) (op_eqD (hr.units)) (pv 0) (pe_tup (pK pe_str pN)) (nomark _))⟩)) pN)))),?_⟩
 have ly:=hK.1
 rw [List.length_map] at ly
 refine ⟨_,rfl,_,rfl,sz1,fun l1 h1=>?_⟩
 have u1:=sN h1 (.lst [g])
 refine ⟨tl,l1,ys,_,rfl,rfl,u1.seq hS,SqL.of uS,Nat.le_of_lt (sK (by show ys.length + 1≤1000; omega)),fun l2 h2=>?_⟩
 have u2:=sN h2 (.lst (ys++[g]))
 have U:=u1.trans u2
 have g2:=uS (H:=upd H l1 (.lst [g])) (a:=l2) (o:=.lst (ys++[g]))
 generalize upd (upd H l1 (.lst [g])) l2 (.lst (ys++[g]))=H1 at U g2 ⊢
 refine ⟨l2,rfl,⟨_,SqL.of g2⟩,fun D hD=>?_⟩
 have hA:RdAll K H (ys++[g]) (kdsD (ks++[gk])):=by
  unfold kdsD
  rw [List.map_append]
  exact RdAll.append hK (.cons hg .nil)
 refine lc_list (xs:=ys++[g]) (fun i zs H2=>Same H1 H2∧H2 D=some (.lst zs)∧zs=(((ks++[gk]).take i).map isNumK).map V.bl) (Nat.le_of_lt (sK (by rw [List.length_append]; show ys.length + 1≤1000; omega))) ⟨sN hD _,uS,rfl⟩ ?_ ?_ ?_
 ·rintro i zs H2 hi ⟨s2,d2,rfl⟩
  refine ⟨d2,?_,s2.seq (SqL.of g2)⟩
  rw [List.length_map,List.length_map,List.length_take]
  omega
 ·rintro i x zs H2 hx ⟨s2,d2,rfl⟩
  have hi:i < (ks++[gk]).length:=by
   have:=(List.getElem?_eq_some_iff.mp hx).1
   rw [List.length_append] at this ⊢
   simp only [List.length_singleton] at this ⊢
   omega
  have hr':=hA.2 i x (.tuple (kdL (ks++[gk])[i])) hx (by rw [List.getElem?_map,gee hi]; rfl)
  refine ⟨rfl,_,rfl,sz1,fun t ht=>?_⟩
  have s3:=sN ht (.tup [.str "number"])
  refine ⟨_,_,RdV.same (U.trans (s2.trans s3)) hr',.tup' (SqT.of uS) (.cons (.str _) .nil),kdD_ok _,(by decide +kernel),s3 _ _ d2,Same_upd (s2.trans s3) hD _,uS,?_⟩
  rw [kd_isNum,List.take_succ_eq_append_getElem hi,List.map_append,List.map_append]
  rfl
 ·rintro zs H2 ⟨s2,d2,rfl⟩
  have e:(ks++[gk]).take (ys++[g]).length=ks++[gk]:=List.take_of_length_le (by rw [List.length_append,List.length_append]; simp only [List.length_singleton]; omega)
  rw [e] at d2
  refine ⟨D,_,rfl,SqL.of d2,?_⟩
  have z:=q H2 (U.trans s2)
  rw [List.all_map]
  exact z
theorem sc_check_door:FnScope ["parts","part","inputs","takes"] ["parts","part","inputs"] (dS s_check_door):=by walk_at "sc"
theorem ok_check_door{f:Addr}{fd:FuncData}(F:Fun K "check_door" "check_door" s_check_door f fd)(z_len:mg "len"=none){C_Frame:Addr}(ac_Frame:AC_Frame K C_Frame)(h_is_door:Has P w K mg base CX0 "is_door" 1 ["takes","gives"] (sp_is_door K)):FnOk P w K mg base CX0 2 f fd ["parts","part","inputs"] (sp_check_door K):=by
 refine F.ok sc_check_door (fun vs H Q E h=>?_) (fun cdv A outer s H vs Q E hr h=>?_)
 ·obtain ⟨pl,il,xs,zs,ps,j,p,rfl,hL,hP,hp,hd,h100,hI,hl,q⟩:=h
  rfl
 obtain ⟨pl,il,xs,zs,ps,j,p,rfl,hL,hP,hp,hd,h100,hI,hl,q⟩:=h
 refine ⟨_,(qK (ps_if (pt_not (pt_chain op_le op_lt pI (pv 1) (pe_callB call_len_seq rfl z_len bt_len (pK (pv 0) pN)))) (qO ps_never) pss_nil)
   (qK (ps_set (i:=3) sc_check_door.nd rfl (Or.inl rfl) (pe_ix ix_tup (pe_ix ix_list (pv 0) (pv 1) (fun _ _=>rfl)) pI (fun _ _=>rfl)))
   (qO (ps_if (PW.pt (pw_or (pt_not (pt_val (pe_ch h_is_door (hr.mono (by decide)) rfl (pK (pv 3) (pK (pe_ix ix_tup (pe_ix ix_list (pv 0) (pv 1) (fun _ _=>rfl)) pI (fun _ _=>rfl)) pN))))) (pw_or1 (tR op_ne (pe_callB call_len_seq rfl z_len bt_len (pK (pv 2) pN)) (pe_callB call_len_seq rfl z_len bt_len (pK (pv 3) pN)) (nomark _))))) (qO ps_never) pss_nil)))),?_⟩
 obtain ⟨w0,hw0,hwr⟩:=bk_part hP hp
 obtain ⟨t,l0,l4,l5,ks,vs4,vs5,f1,rfl,hTt,hl0,hk,rg,hl4,hk4,hl5,hk5⟩:=pt_inv hwr
 have hj:j < xs.length:=(List.getElem?_eq_some_iff.mp hw0).1
 refine ⟨_,rfl,_,_,rfl,rfl,_,rfl,?_⟩
 refine ifY (by omega) ?_
 refine ⟨_,rfl,pl,xs,rfl,.inl hL,_,_,rfl,rfl,_,rfl,?_⟩
 refine ifNn (by omega) ?_
 dsimp only [tNext]
 refine ⟨_,rfl,_,rfl,pl,_,_,_,rfl,rfl,hL,aN hw0,t,_,_,_,rfl,rfl,hTt,aN (j:=0) rfl,?_⟩
 refine ⟨_,rfl,_,rfl,_,rfl,pl,_,_,_,rfl,rfl,hL,aN hw0,t,_,_,_,rfl,rfl,hTt,aN (j:=1) rfl,l0,_,ks,p.takes,p.gives,rfl,hl0,hk,rg,h100,fun H1 s1=>?_⟩
 rw [hd]
 refine ⟨_,rfl,iteF ?_⟩
 have lk:=hk.1
 rw [List.length_map] at lk
 refine ⟨_,rfl,il,zs,rfl,.inl (s1.seq hI),_,rfl,l0,ks,rfl,.inl (s1.seq hl0),rfl,_,rfl,?_⟩
 refine ifNn (by rw [hl,lk]) ?_
 exact q H1 s1
theorem sc_copied:FnScope ["book","makes","parts"] ["book"] (dS s_copied):=by walk_at "sc"
theorem ok_copied{f:Addr}{fd:FuncData}(F:Fun K "copied" "copied" s_copied f fd)(z_list:mg "list"=none){C_Frame:Addr}(ac_Frame:AC_Frame K C_Frame):FnOk P w K mg base CX0 1 f fd ["book"] (sp_copied K):=by
 refine F.ok sc_copied (fun vs H Q E h=>?_) (fun cdv A outer s H vs Q E hr h=>?_)
 ·obtain ⟨b,ms,ps,rfl,hB,h8,hp8,q⟩:=h
  rfl
 obtain ⟨b,ms,ps,rfl,hB,h8,hp8,q⟩:=h
 refine ⟨_,(qK (ps_setLC (i:=1) sc_copied.nd rfl (Or.inl rfl) 1 ["make"] [] ⟨rfl,rfl,rfl,rfl,rfl,rfl,rfl,rfl⟩ (pi_list (pe_ix ix_tup (pv 0) pI (fun _ _=>rfl))) (fun _ _ _ _=>⟨(pg_name (i:=0) (show List.Nodup (["make"]:List Str) by decide +kernel) rfl (Or.inl rfl)),pif_nil,(pe_tup (pK (pe_ix (r:=rIxT K) ix_tup (pv 0) pI (fun _ _=>rfl)) (pK (pe_callTy (r:=rListOf K) call_list_of rfl z_list bt_list (pK (pe_ix (r:=rIxT K) ix_tup (pv 0) pI (fun _ _=>rfl)) pN)) pN)))⟩))
   (qK (ps_setLC (i:=2) sc_copied.nd rfl (Or.inl rfl) 1 ["part"] [] ⟨rfl,rfl,rfl,rfl,rfl,rfl,rfl,rfl⟩ (pi_list (pe_ix ix_tup (pv 0) pI (fun _ _=>rfl))) (fun _ _ _ _=>⟨(pg_name (i:=0) (show List.Nodup (["part"]:List Str) by decide +kernel) rfl (Or.inl rfl)),pif_nil,(pe_tup (pK (pe_callTy (r:=rListOf K) call_list_of rfl z_list bt_list (pK (pe_ix (r:=rIxT K) ix_tup (pv 0) pI (fun _ _=>rfl)) pN)) (pK (pe_ix (r:=rIxT K) ix_tup (pv 0) pI (fun _ _=>rfl)) (pK (pe_ix (r:=rIxT K) ix_tup (pv 0) pI (fun _ _=>rfl)) (pK (pe_ix (r:=rIxT K) ix_tup (pv 0) pI (fun _ _=>rfl)) (pK (pe_callTy (r:=rListOf K) call_list_of rfl z_list bt_list (pK (pe_ix (r:=rIxT K) ix_tup (pv 0) pI (fun _ _=>rfl)) pN)) (pK (pe_callTy (r:=rListOf K) call_list_of rfl z_list bt_list (pK (pe_ix (r:=rIxT K) ix_tup (pv 0) pI (fun _ _=>rfl)) pN)) pN)))))))⟩))
   (qO (ps_ret (pe_tup (pK (pv 1) (pK (pv 2) pN))))))),?_⟩
 obtain ⟨b',mk,pl,xs,e,hT,hM,hL,hP⟩:=bk_inv hB
 cases e
 obtain ⟨zs,hS,hI⟩:=hM
 have lz:=hI.1
 have lx:=hP.1
 rw [List.length_map] at lx
 refine ⟨_,rfl,b,_,_,_,rfl,rfl,hT,aN (j:=0) rfl,mk,rfl,⟨_,hS⟩,fun D hD=>?_⟩
 refine lc_list (xs:=zs) (fun i ys H2=>Same H H2∧H2 D=some (.lst ys)∧(∀HX,NewK [D] H H2 HX→MIt K HX ys (ms.take i))∧ys.length=i) (Nat.le_of_lt (sK (by omega))) ⟨sN hD _,uS,fun HX _=>MIt.nil K _,rfl⟩ ?_ ?_ ?_
 ·rintro i ys H2 hi ⟨s2,d2,_,hl⟩
  exact ⟨d2,Nat.le_of_eq hl,s2.seq hS⟩
 ·rintro i x ys H2 hx ⟨s2,d2,hF,hl⟩
  have hix:i < zs.length:=(List.getElem?_eq_some_iff.mp hx).1
  have him:i < ms.length:=by omega
  obtain ⟨t,l,ks,rfl,e2',e3',e4⟩:=hI.2 i x _ hx (gee him)
  have e2:=s2.tup e2'
  have e3:=s2.seq e3'
  refine ⟨rfl,_,rfl,t,_,_,_,rfl,rfl,e2,aN (j:=0) rfl,_,rfl,t,_,_,_,rfl,rfl,e2,aN (j:=1) rfl,l,ks,rfl,.inl e3,fun l2 hl2=>?_⟩
  refine ⟨sz2,fun u hu=>?_⟩
  have nl:l2≠D:=(nN d2 hl2).symm
  have s3:=sN hl2 (.lst ks)
  have s4:=sN hu (.tup [elV (ms[i]).1,.ref l2])
  have d4:=s4 _ _ (s3 _ _ d2)
  have nu:u≠D:=(nN (s3 _ _ d2) hu).symm
  have fl:H l2=none:=s2.free hl2
  have fu:H u=none:=(s2.trans s3).free hu
  refine ⟨d4,fun b o e=>?_,uS,fun HX hX=>?_,by simp [hl]⟩
  ·rw [uN (nN e hD)]
   exact s4 b o (s3 b o (s2 b o e))
  ·have z:=hF HX (hX.sub (fun c o n e=>by rw [uN (fun z=>n (by rw [z]; exact List.mem_singleton.mpr rfl))]; exact s4 c o (s3 c o e)) (fun c hc=>.inl hc))
   have ht:ms.take (i + 1)=ms.take i++[ms[i]]:=by rw [List.take_succ_eq_append_getElem him]
   rw [ht]
   refine z.snoc ⟨u,l2,ks,rfl,?_,?_,?_⟩
   ·exact SqT.of (hX u _ (fun z=>nu (msp z)) (by rw [uN nu]; exact uS) (fun zs e=>by rw [fu] at e; cases e))
   ·exact SqL.of (hX l2 _ (fun z=>nl (msp z)) (by rw [uN nl]; exact s4 _ _ uS) (fun zs e=>by rw [fl] at e; cases e))
   ·exact kds_keepM (fun c o e m=>hX c o (fun z=>nN e hD (msp z)) (by rw [uN (nN e hD)]; exact s4 c o (s3 c o (s2 c o e))) (fun z h=>by rw [e] at h; cases h; exact m)) e4
 ·rintro zs1 H1 ⟨s1,d1,hF1,hl1⟩
  have e:ms.take zs.length=ms:=List.take_of_length_le (by omega)
  rw [e] at hF1
  refine ⟨_,rfl,b,_,_,_,rfl,rfl,s1.tup hT,aN (j:=1) rfl,pl,rfl,⟨_,s1.seq hL⟩,fun D2 hD2=>?_⟩
  have nD:D2≠D:=(nN d1 hD2).symm
  have hD20:H D2=none:=s1.free hD2
  refine lc_list (xs:=xs) (fun i ys H2=>Same H1 H2∧H2 D2=some (.lst ys)∧(∀HX,NewK [D2] H H2 HX→RdAll K HX ys ((ps.take i).map ptD))∧ys.length=i) (Nat.le_of_lt (sK (by omega))) ⟨sN hD2 _,uS,fun HX _=>.nil,rfl⟩ ?_ ?_ ?_
  ·rintro i ys H2 hi ⟨s2,d2,_,hl⟩
   exact ⟨d2,Nat.le_of_eq hl,(s1.trans s2).seq hL⟩
  ·rintro i x ys H2 hx ⟨s2',d2,hF,hl⟩
   have s2:=s1.trans s2'
   have hix:i < xs.length:=(List.getElem?_eq_some_iff.mp hx).1
   have hip:i < ps.length:=by omega
   have hxr:=hP.2 i x (ptD ps[i]) hx (by rw [List.getElem?_map,gee hip]; rfl)
   obtain ⟨t,l0,l4,l5,ks,vs4,vs5,f1,rfl,hTt,hl0,hk,rg,hl4,hk4,hl5,hk5⟩:=pt_inv hxr
   have T2:=s2.tup hTt
   refine ⟨rfl,_,rfl,t,_,_,_,rfl,rfl,T2,aN (j:=0) rfl,l0,ks,rfl,.inl (s2.seq hl0),fun a1 h1=>?_⟩
   have b1:=sN h1 (.lst ks)
   have T3:=b1.tup T2
   refine ⟨_,rfl,t,_,_,_,rfl,rfl,T3,aN (j:=1) rfl,_,rfl,t,_,_,_,rfl,rfl,T3,aN (j:=2) rfl,_,rfl,t,_,_,_,rfl,rfl,T3,aN (j:=3) rfl,_,rfl,t,_,_,_,rfl,rfl,T3,aN (j:=4) rfl,l4,vs4,rfl,.inl ((s2.trans b1).seq hl4),fun a2 h2=>?_⟩
   have b2:=sN h2 (.lst vs4)
   have T4:=b2.tup T3
   refine ⟨_,rfl,t,_,_,_,rfl,rfl,T4,aN (j:=5) rfl,l5,vs5,rfl,.inl ((s2.trans (b1.trans b2)).seq hl5),fun a3 h3=>⟨sz6,fun t3 ht3=>?_⟩⟩
   have b3:=sN h3 (.lst vs5)
   have b4:=sN ht3 (.tup [.ref a1,f1,.int (ps[i].boxes:Int),.int (ps[i].height:Int),.ref a2,.ref a3])
   have bA:=b1.trans (b2.trans (b3.trans b4))
   have n1:a1≠D2:=(nN d2 h1).symm
   have n2:a2≠D2:=(nN (b1 _ _ d2) h2).symm
   have n3:a3≠D2:=(nN (b2 _ _ (b1 _ _ d2)) h3).symm
   have n4:t3≠D2:=(nN (b3 _ _ (b2 _ _ (b1 _ _ d2))) ht3).symm
   have f1n:H a1=none:=s2.free h1
   have f2n:H a2=none:=(s2.trans b1).free h2
   have f3n:H a3=none:=(s2.trans (b1.trans b2)).free h3
   have f4n:H t3=none:=(s2.trans (b1.trans (b2.trans b3))).free ht3
   have e1:=b4 _ _ (b3 _ _ (b2 _ _ (uS (H:=H2) (a:=a1) (o:=.lst ks))))
   have e2:=b4 _ _ (b3 _ _ (uS (a:=a2) (o:=.lst vs4)))
   have e3:=b4 _ _ (uS (a:=a3) (o:=.lst vs5))
   have e4:=uS (H:=upd (upd (upd H2 a1 (.lst ks)) a2 (.lst vs4)) a3 (.lst vs5)) (a:=t3) (o:=.tup [.ref a1,f1,.int (ps[i].boxes:Int),.int (ps[i].height:Int),.ref a2,.ref a3])
   generalize upd (upd (upd (upd H2 a1 (.lst ks)) a2 (.lst vs4)) a3 (.lst vs5)) t3 (.tup [.ref a1,f1,.int (ps[i].boxes:Int),.int (ps[i].height:Int),.ref a2,.ref a3])=H9 at bA e1 e2 e3 e4 ⊢
   refine ⟨bA _ _ d2,fun b o e=>?_,uS,fun HX hX=>?_,by simp [hl]⟩
   ·rw [uN (nN e hD2)]
    exact bA b o (s2' b o e)
   ·have z:=hF HX (hX.sub (fun c o n e=>by rw [uN (fun z=>n (by rw [z]; exact List.mem_singleton.mpr rfl))]; exact bA c o e) (fun c hc=>.inl hc))
    have ht:ps.take (i + 1)=ps.take i++[ps[i]]:=by rw [List.take_succ_eq_append_getElem hip]
    rw [ht,List.map_append]
    have k9:∀c o,c≠D2→H c=none→H9 c=some o→HX c=some o:=fun c o d n e=>hX c o (fun z=>d (msp z)) (by rw [uN d]; exact e) (fun z h=>by rw [n] at h; cases h)
    have kO:∀c o,H c=some o→¬ MutC o→HX c=some o:=fun c o e m=>hX c o (fun z=>nN e hD20 (msp z)) (by rw [uN (nN e hD20)]; exact bA c o (s2 c o e)) (fun z h=>by rw [e] at h; cases h; exact m)
    obtain ⟨g,rfl,hg⟩:=kd_inv rg
    refine RdAll.append z (.cons ?_ .nil)
    exact .tup' (SqT.of (k9 _ _ n4 f4n e4)) (.cons (.lst' (SqL.of (k9 _ _ n1 f1n e1)) (kds_keepM kO hk)) (.cons (rd_kd (SqT.keepM kO hg)) (.cons (.int _) (.cons (.int _) (.cons (.lst' (SqL.of (k9 _ _ n2 f2n e2)) (rws_keepM kO hk4)) (.cons (.lst' (SqL.of (k9 _ _ n3 f3n e3)) (sts_keepM kO hk5)) .nil))))))
  ·rintro ys H2 ⟨s2,d2,hF,hl⟩
   have e':ps.take xs.length=ps:=List.take_of_length_le (by omega)
   rw [e'] at hF
   refine ⟨_,rfl,_,rfl,sz2,fun t ht=>?_⟩
   have s3:=sN ht (.tup [.ref D,.ref D2])
   have ft:H t=none:=(s1.trans s2).free ht
   have fD:H D=none:=hD
   refine q t _ (s1.trans (s2.trans s3)) ⟨D,D2,ys,fun HX hX=>?_⟩
   refine ⟨SqT.of (hX t _ (fun z=>nomatch z) uS (fun z h=>by rw [ft] at h; cases h)),⟨zs1,SqL.of (hX D _ (fun z=>nomatch z) (s3 _ _ (s2 _ _ d1)) (fun z h=>by rw [fD] at h; cases h)),hF1 HX (hX.sub (fun c o n e=>s3 c o (s2 c o e)) (fun c hc=>nomatch hc))⟩,SqL.of (hX D2 _ (fun z=>nomatch z) (s3 _ _ d2) (fun z h=>by rw [hD20] at h; cases h)),hF HX (hX.sub (fun c o n e=>s3 c o e) (fun c hc=>nomatch hc))⟩
theorem sc_Frame___init__:FnScope ["self","part","boxes"] ["self","part","boxes"] (dS s_Frame___init__):=by walk_at "sc"
theorem ok_Frame___init__{f:Addr}{fd:FuncData}(F:Fun K "__init__" "Frame.__init__" s_Frame___init__ f fd){C_Frame:Addr}(ac_Frame:AC_Frame K C_Frame):FnOk P w K mg base CX0 1 f fd ["self","part","boxes"] (sp_Frame_init K C_Frame):=by
 refine F.ok sc_Frame___init__ (fun vs H Q E h=>?_) (fun cdv A outer s H vs Q E hr h=>?_)
 ·obtain ⟨x,dx,bl,p,rfl,hx,q⟩:=h
  rfl
 obtain ⟨x,dx,bl,p,rfl,hx,q⟩:=h
 refine ⟨_,(qK (ps_fld (pv 0) (pv 1) rfl)
   (qK (ps_fld (pv 0) pI rfl)
   (qK (ps_fld (pv 0) (pv 2) rfl)
   (qO (ps_fld (pv 0) (pe_lst pN) rfl))))),?_⟩
 refine ⟨_,rfl,_,rfl,x,C_Frame,dx,_,rfl,hx,ac_Frame.cl,ac_Frame.a_part,(by show 0 < 1000; decide),?_⟩
 refine ⟨_,rfl,x,C_Frame,dx,_,rfl,uS,ac_Frame.cl,ac_Frame.a_at,(by show 1 < 1000; decide),?_⟩
 refine ⟨_,rfl,_,rfl,x,C_Frame,dx,_,rfl,uS,ac_Frame.cl,ac_Frame.a_boxes,(by show (putF _ _ _).length < 1000; exact Nat.lt_of_le_of_lt (length_putF _ _ _) (by show 2 < 1000; decide)),?_⟩
 refine ⟨sz0,fun sl hsl=>?_⟩
 have ne:x≠sl:=fun e=>by subst e; rw [uS] at hsl; cases hsl
 have hs0:H sl=none:=by rw [uN ne.symm,uN ne.symm,uN ne.symm] at hsl; exact hsl
 refine ⟨_,rfl,x,C_Frame,dx,_,rfl,(uN ne).trans uS,ac_Frame.cl,ac_Frame.a_stack,(by show (putF _ _ _).length < 1000; exact Nat.lt_of_le_of_lt (length_putF _ _ _) (Nat.succ_lt_succ (Nat.lt_of_le_of_lt (length_putF _ _ _) (by show 2 < 999; decide)))),?_⟩
 refine q sl _ hs0 ?_ ((uN ne.symm).trans uS) (fun c o hc e=>?_)
 ·rw [uS,fm_new]
 ·rw [uN hc,uN (nN e hs0),uN hc,uN hc,uN hc]
  exact e
theorem sc_started:FnScope ["parts","part","values","nothing"] ["parts","part","values","nothing"] (dS s_started):=by walk_at "sc"
theorem ok_started{f:Addr}{fd:FuncData}(F:Fun K "started" "started" s_started f fd)(z_len:mg "len"=none){C_Frame:Addr}(ac_Frame:AC_Frame K C_Frame)(hn_Frame:HasN P w K mg base CX0 C_Frame "Frame" 1 ["self","part","boxes"] (sp_Frame_init K C_Frame)):FnOk P w K mg base CX0 3 f fd ["parts","part","values","nothing"] (sp_started K C_Frame):=by
 refine F.ok sc_started (fun vs H Q E h=>?_) (fun cdv A outer s H vs Q E hr h=>?_)
 ·obtain ⟨pl,vl,ps,xs,ys,j,p,n,rfl,hL,hP,hp,hV,hl,h8,q⟩:=h
  rfl
 obtain ⟨pl,vl,ps,xs,ys,j,p,n,rfl,hL,hP,hp,hV,hl,h8,q⟩:=h
 refine ⟨_,(qO (ps_ret (pe_cn hn_Frame pass0 (hr.mono (by decide)) rfl (pK (pv 1) (pK (pe_op op_catS (pv 2) (pe_op op_rep (pe_lst (pK (pv 3) pN)) (pe_op op_sub (pe_ix ix_tup (pe_ix ix_list (pv 0) (pv 1) (fun _ _=>rfl)) pI (fun _ _=>rfl)) (pe_callB call_len_seq rfl z_len bt_len (pK (pv 2) pN))))) pN))))),?_⟩
 obtain ⟨w0,hw0,hwr⟩:=bk_part hP hp
 obtain ⟨t,l0,l4,l5,ks,vs4,vs5,f1,rfl,hTt,hl0,hk,rg,hl4,hk4,hl5,hk5⟩:=pt_inv hwr
 refine ⟨_,rfl,_,rfl,_,rfl,sz1,fun l1 h1=>?_⟩
 have u1:=sN h1 (.lst [n])
 have g1:=uS (H:=H) (a:=l1) (o:=.lst [n])
 generalize upd H l1 (.lst [n])=H1 at u1 g1 ⊢
 refine ⟨_,rfl,_,rfl,pl,_,_,_,rfl,rfl,u1.seq hL,aN hw0,t,_,_,_,rfl,rfl,u1.tup hTt,aN (j:=2) rfl,_,rfl,vl,ys,rfl,.inl (u1.seq hV),_,_,rfl,rfl,l1,_,_,rfl,rfl,g1,by omega,by omega,?_,fun l2 h2=>?_⟩
 ·show 1 * ((p.boxes:Int) - ((ys.length:Nat):Int)).toNat≤sizeLine
  exact Nat.le_of_lt (sK (by omega))
 rw [rep_one,show ((p.boxes:Int) - ((ys.length:Nat):Int)).toNat=p.boxes - ys.length by omega]
 have u2:=sN h2 (.lst (List.replicate (p.boxes - ys.length) n))
 have g2:=uS (H:=H1) (a:=l2) (o:=.lst (List.replicate (p.boxes - ys.length) n))
 generalize upd H1 l2 _=H2 at u2 g2 ⊢
 have U2:=u1.trans u2
 refine ⟨vl,l2,_,_,rfl,rfl,U2.seq hV,SqL.of g2,Nat.le_of_lt (sK (by simp; omega)),fun l3 h3=>?_⟩
 have u3:=sN h3 (.lst (ys++List.replicate (p.boxes - ys.length) n))
 have g3:=uS (H:=H2) (a:=l3) (o:=.lst (ys++List.replicate (p.boxes - ys.length) n))
 have n3:H l3=none:=U2.free h3
 generalize upd H2 l3 _=H3 at u3 g3 ⊢
 have U3:=U2.trans u3
 intro x dx nx ndx ne
 refine ⟨x,dx,l3,(j:Int),rfl,uS,fun sl H' nsl hx hsl hk=>⟨rfl,?_⟩⟩
 have xl:x≠l3:=fun e=>by subst e; rw [g3] at nx; cases nx
 have dl:dx≠l3:=fun e=>by subst e; rw [g3] at ndx; cases ndx
 have sx:sl≠x:=fun e=>by subst e; rw [uS] at nsl; cases nsl
 have sd:sl≠dx:=fun e=>by subst e; rw [uN sx,uS] at nsl; cases nsl
 have ns3:H3 sl=none:=by rw [uN sx,uN sd] at nsl; exact nsl
 have ls:l3≠sl:=fun e=>by subst e; rw [g3] at ns3; cases ns3
 have k3:∀c o,H3 c=some o→H' c=some o:=fun c o e=>by
  have cx:c≠x:=fun z=>by subst z; rw [nx] at e; cases e
  have cd:c≠dx:=fun z=>by subst z; rw [ndx] at e; cases e
  exact hk c o cx (by rw [uN cx,uN cd]; exact e)
 exact q x l3 sl H' (U3.free nx) n3 (U3.free ns3) ls ⟨dx,hx⟩ (k3 _ _ g3) hsl (fun c o e=>k3 c o (U3 c o e))
theorem sc_Plain_nothing:FnScope ["self"] ["self"] (dS s_Plain_nothing):=by walk_at "sc"
theorem ok_Plain_nothing{f:Addr}{fd:FuncData}(F:Fun K "nothing" "Plain.nothing" s_Plain_nothing f fd){C_Frame:Addr}(ac_Frame:AC_Frame K C_Frame){C:Addr}(ac:AC_Plain K C):FnOk P w K mg base CX0 1 f fd ["self"] (sp_nothing K false):=by
 refine F.ok sc_Plain_nothing (fun vs H Q E h=>?_) (fun cdv A outer s H vs Q E hr h=>?_)
 ·obtain ⟨x,rfl,q⟩:=h
  rfl
 obtain ⟨x,rfl,q⟩:=h
 refine ⟨_,(qO (ps_ret pI)),?_⟩
 exact q _ rfl
theorem sc_Watched_nothing:FnScope ["self"] ["self"] (dS s_Watched_nothing):=by walk_at "sc"
theorem ok_Watched_nothing{f:Addr}{fd:FuncData}(F:Fun K "nothing" "Watched.nothing" s_Watched_nothing f fd){C_Frame:Addr}(ac_Frame:AC_Frame K C_Frame){C:Addr}(ac:AC_Plain K C):FnOk P w K mg base CX0 1 f fd ["self"] (sp_nothing K true):=by
 refine F.ok sc_Watched_nothing (fun vs H Q E h=>?_) (fun cdv A outer s H vs Q E hr h=>?_)
 ·obtain ⟨x,rfl,q⟩:=h
  rfl
 obtain ⟨x,rfl,q⟩:=h
 refine ⟨_,(qO (ps_ret pe_non)),?_⟩
 exact q _ .non
theorem sc_Plain_add_frame:FnScope ["self","part","values"] ["self","part","values"] (dS s_Plain_add_frame):=by walk_at "sc"
theorem ok_Plain_add_frame{f:Addr}{fd:FuncData}(F:Fun K "add_frame" "Plain.add_frame" s_Plain_add_frame f fd){C_Frame:Addr}(ac_Frame:AC_Frame K C_Frame){C:Addr}{wt:Bool}(ac:AC_Plain K C)(h_started:Has P w K mg base CX0 "started" 3 ["parts","part","values","nothing"] (sp_started K C_Frame))(hm_nothing:HasM P w K mg base CX0 C "nothing" 1 ["self"] (sp_nothing K wt)):FnOk P w K mg base CX0 4 f fd ["self","part","values"] (sp_add_frame K C_Frame C wt):=by
 refine F.ok sc_Plain_add_frame (fun vs H Q E h=>?_) (fun cdv A outer s H vs Q E hr h=>?_)
 ·obtain ⟨mm,vl,ys,us,j,p,rfl,hM,hp,hV,hU,hl,h8,h100,q⟩:=h
  rfl
 obtain ⟨mm,vl,ys,us,j,p,rfl,hM,hp,hV,hU,hl,h8,h100,q⟩:=h
 refine ⟨_,(qO (ps_expr (pe_bm PySem.F.plainAttrs_list PySem.F.slot_list_append PySem.F.type_list_append mt_append (pe_fld (pv 0) rfl) (pK (pe_ch h_started (hr.mono (by decide)) rfl (pK (pe_ix ix_tup (pe_fld (pv 0) rfl) pI (fun _ _=>rfl)) (pK (pv 1) (pK (pv 2) (pK (pe_cm0 (pv 0) hm_nothing pass0 (hr.mono (by decide))) pN))))) pN)))),?_⟩
 obtain ⟨mdx,ev,m1,m2⟩:=hM.ob
 obtain ⟨mk,pl,xs,hb⟩:=hM.bk
 obtain ⟨hT,hMk,hL,hP⟩:=hb H KeepX.refl
 have ly:=hU.1
 refine ⟨_,rfl,mm.ma,C,mdx,_,_,rfl,m1,ac.cl,ac.a_live,mc_live,.inl ⟨rfl,_,SqL.of hM.lv⟩,_,rfl,mm.ma,C,mdx,_,_,rfl,m1,ac.cl,ac.a_book,mc_book,mm.b,_,_,_,rfl,rfl,hT,aN (j:=1) rfl,_,rfl,_,rfl,_,rfl,mm.ma,mdx,_,rfl,m1,mc_no (by decide +kernel),_,rfl,fun v hv=>?_⟩
 refine ⟨pl,vl,mm.ps,xs,ys,j,p,v,rfl,hL,hP,hp,hV,by omega,h8,fun fa bl sl H1 n1 n2 n3 ne ob g2 g3 s1=>?_⟩
 obtain ⟨dx,g1⟩:=ob
 have hU1:=(hU.same s1).append (VIt.rep (hv.same s1) (p.boxes - ys.length))
 have hF:FmAt K H1 C_Frame wt ⟨fa,bl,sl,j,0,us++List.replicate (p.boxes - us.length) .none,[]⟩:=by
  refine ⟨⟨dx,g1⟩,⟨_,g2,?_⟩,⟨_,g3,VIt.nil⟩,ne⟩
  rw [← ly]
  exact hU1
 obtain ⟨z1,z2⟩:=hF.fs
 have fr:∀c∈fmL ⟨fa,bl,sl,j,0,us++List.replicate (p.boxes - us.length) .none,[]⟩,H c=none:=by
  intro c hc
  simp only [fmL,List.mem_cons,List.not_mem_nil,or_false] at hc
  rcases hc with rfl | rfl | rfl
  ·exact n1
  ·exact n2
  ·exact n3
 have P:=hM.push s1 hF fr (by simp only [fmL,List.nodup_cons,List.mem_cons,List.not_mem_nil,or_false,not_or,not_false_eq_true,List.nodup_nil,and_true]; exact ⟨⟨z1,z2⟩,ne⟩)
 rw [List.map_append] at P
 exact ⟨mm.lv,_,_,rfl,rfl,s1 _ _ hM.lv,sK (by rw [List.length_map]; show mm.frs.length≤1000; omega),q _ _ P.1 rfl rfl rfl rfl fr P.2⟩
theorem sc_Plain___init__:FnScope ["self","book","part","inputs","budget"] ["self","book","part","inputs","budget"] (dS s_Plain___init__):=by walk_at "sc"
theorem ok_Plain___init__{f:Addr}{fd:FuncData}(F:Fun K "__init__" "Plain.__init__" s_Plain___init__ f fd){C_Frame:Addr}(ac_Frame:AC_Frame K C_Frame){C:Addr}{wt:Bool}(ac:AC_Plain K C)(h_check_door:Has P w K mg base CX0 "check_door" 2 ["parts","part","inputs"] (sp_check_door K))(h_copied:Has P w K mg base CX0 "copied" 1 ["book"] (sp_copied K))(hm_add_frame:HasM P w K mg base CX0 C "add_frame" 4 ["self","part","values"] (sp_add_frame K C_Frame C wt))(hm_tagged:HasM P w K mg base CX0 C "tagged" 1 ["self","tag","number"] (sp_tagged K wt)):FnOk P w K mg base CX0 5 f fd ["self","book","part","inputs","budget"] (sp_Plain_init K C_Frame C wt):=by
 refine F.ok sc_Plain___init__ (fun vs H Q E h=>?_) (fun cdv A outer s H vs Q E hr h=>?_)
 ·obtain ⟨x,dx,b,il,j,bud,ms,ps,p,ws,rfl,hx,hB,h8,hp8,hp,hd,hI,hl,hb,hb8,q⟩:=h
  rfl
 obtain ⟨x,dx,b,il,j,bud,ms,ps,p,ws,rfl,hx,hB,h8,hp8,hp,hd,hI,hl,hb,hb8,q⟩:=h
 refine ⟨_,(qK (ps_expr (pe_ch h_check_door (hr.mono (by decide)) rfl (pK (pe_ix ix_tup (pv 1) pI (fun _ _=>rfl)) (pK (pv 2) (pK (pv 3) pN)))))
   (qK (ps_fld (pv 0) (pe_ch h_copied (hr.mono (by decide)) rfl (pK (pv 1) pN)) rfl)
   (qK (ps_fld (pv 0) (pe_lst pN) rfl)
   (qK (ps_fld (pv 0) (pe_lst pN) rfl)
   (qK (ps_fld (pv 0) (pe_lst pN) rfl)
   (qK (ps_fld (pv 0) (pv 4) rfl)
   (qK (ps_fld (pv 0) pe_non rfl)
   (qO (ps_expr (pe_cm (pv 0) hm_add_frame pass0 (hr.mono (by decide)) (pK (pv 2) (pK (pe_lc 1 ["word","self"] [0] ⟨rfl,rfl,rfl,rfl,rfl,rfl,rfl,rfl⟩ (pi_list (pv 3)) (fun _ _ _ _=>⟨(pg_name (i:=0) (show List.Nodup (["word","self"]:List Str) by decide +kernel) rfl (Or.inl rfl)),pif_nil,(show PE _ _ (tMeth C _ _ [] _ _ _) from (pe_cm (pv 1) hm_tagged pass0 (hr.mono (by decide)) (pK pe_str (pK (pv 0) pN))))⟩)) pN)))))))))))),?_⟩
 obtain ⟨b',mk,pl,xs,e,hT,hM,hL,hP⟩:=bk_inv hB
 cases e
 have lw:(ws.map V.int).length=p.takes.length:=by rw [List.length_map,hl]
 refine ⟨_,rfl,b,_,_,_,rfl,rfl,hT,aN (j:=1) rfl,_,rfl,_,rfl,pl,il,xs,_,ps,j,p,rfl,hL,hP,hp,hd,by omega,hI,lw,fun H1 s1=>?_⟩
 refine ⟨_,rfl,b,ms,ps,rfl,RdV.same s1 hB,h8,hp8,fun bb H2 s2 hbk=>?_⟩
 have U2:=s1.trans s2
 have hx2:=U2 _ _ hx
 refine ⟨_,rfl,x,C,dx,_,rfl,hx2,ac.cl,ac.a_book,(by show 0 < 1000; decide),?_⟩
 have k3:KeepX [x] H2 (upd H2 x (.ins C dx (putF "book" (.ref bb) []))):=keep_upd
 have x3:=uS (H:=H2) (a:=x) (o:=.ins C dx (putF "book" (.ref bb) []))
 have c3:(putF "book" (.ref bb) []).length≤1:=putF_few (Nat.le_refl 0)
 generalize hF3:putF "book" (.ref bb) []=F3 at k3 x3 c3 ⊢
 generalize upd H2 x (.ins C dx F3)=H3 at k3 x3 ⊢
 refine ⟨sz0,fun lv nlv=>⟨_,rfl,x,C,dx,_,rfl,(uN (nN x3 nlv)).trans x3,ac.cl,ac.a_live,Nat.lt_of_le_of_lt c3 (by decide),?_⟩⟩
 obtain ⟨k4,x4,lv4,lv0,lvx,kk4⟩:=newl (o':=.ins C dx (putF "live" (.ref lv) F3)) k3 x3 nlv
 have c4:(putF "live" (.ref lv) F3).length≤2:=putF_few c3
 generalize hF4:putF "live" (.ref lv) F3=F4 at k4 x4 lv4 kk4 c4 ⊢
 generalize upd (upd H3 lv (.lst [])) x (.ins C dx F4)=H4 at k4 x4 lv4 kk4 ⊢
 refine ⟨sz0,fun rc nrc=>⟨_,rfl,x,C,dx,_,rfl,(uN (nN x4 nrc)).trans x4,ac.cl,ac.a_records,Nat.lt_of_le_of_lt c4 (by decide),?_⟩⟩
 obtain ⟨k5,x5,rc5,rc0,rcx,kk5⟩:=newl (o':=.ins C dx (putF "records" (.ref rc) F4)) k4 x4 nrc
 have rl:lv≠rc:=nN lv4 nrc
 have lv5:=kk5 _ _ lvx lv4
 have c5:(putF "records" (.ref rc) F4).length≤3:=putF_few c4
 generalize hF5:putF "records" (.ref rc) F4=F5 at k5 x5 rc5 kk5 c5 lv5 ⊢
 generalize upd (upd H4 rc (.lst [])) x (.ins C dx F5)=H5 at k5 x5 rc5 kk5 lv5 ⊢
 refine ⟨sz0,fun sd nsd=>⟨_,rfl,x,C,dx,_,rfl,(uN (nN x5 nsd)).trans x5,ac.cl,ac.a_said,Nat.lt_of_le_of_lt c5 (by decide),?_⟩⟩
 obtain ⟨k6,x6,sd6,sd0,sdx,kk6⟩:=newl (o':=.ins C dx (putF "said" (.ref sd) F5)) k5 x5 nsd
 have sl:lv≠sd:=nN lv5 nsd
 have sr:rc≠sd:=nN rc5 nsd
 have lv6:=kk6 _ _ lvx lv5
 have rc6:=kk6 _ _ rcx rc5
 have c6:(putF "said" (.ref sd) F5).length≤4:=putF_few c5
 generalize hF6:putF "said" (.ref sd) F5=F6 at k6 x6 sd6 kk6 c6 lv6 rc6 ⊢
 generalize upd (upd H5 sd (.lst [])) x (.ins C dx F6)=H6 at k6 x6 sd6 kk6 lv6 rc6 ⊢
 refine ⟨_,rfl,_,rfl,x,C,dx,_,rfl,x6,ac.cl,ac.a_left,Nat.lt_of_le_of_lt c6 (by decide),?_⟩
 have c7:(putF "left" (.int bud) F6).length≤5:=putF_few c6
 refine ⟨_,rfl,x,C,dx,_,rfl,uS,ac.cl,ac.a_end,Nat.lt_of_le_of_lt c7 (by decide),?_⟩
 subst hF3 hF4 hF5 hF6
 rw [mc_new]
 have x8:=uS (H:=upd H6 x (.ins C dx (putF "left" (.int bud) (putF "said" (.ref sd) (putF "records" (.ref rc) (putF "live" (.ref lv) (putF "book" (.ref bb) []))))))) (a:=x) (o:=.ins C dx (mcF bb lv rc sd bud .non))
 have k8:KeepX [x] H6 (upd (upd H6 x (.ins C dx (putF "left" (.int bud) (putF "said" (.ref sd) (putF "records" (.ref rc) (putF "live" (.ref lv) (putF "book" (.ref bb) []))))))) x (.ins C dx (mcF bb lv rc sd bud .non))):=keep_upd.trans keep_upd
 generalize upd (upd H6 x (.ins C dx (putF "left" (.int bud) (putF "said" (.ref sd) (putF "records" (.ref rc) (putF "live" (.ref lv) (putF "book" (.ref bb) []))))))) x (.ins C dx (mcF bb lv rc sd bud .non))=H8 at x8 k8 ⊢
 have nx:∀c,c≠x→c∉[x]:=fun c h z=>h (msp z)
 have lv8:=k8 _ _ (nx _ lvx) lv6
 have rc8:=k8 _ _ (nx _ rcx) rc6
 have sd8:=k8 _ _ (nx _ sdx) sd6
 have K8:=k6.trans k8
 clear k3 k4 k5 k6 kk4 kk5 kk6 x3 x4 x5 x6 c3 c4 c5 c6 c7 lv4 lv5 lv6 rc5 rc6 sd6
 have hx1:=s1 _ _ hx
 obtain ⟨mk',pl',xs',hbk⟩:=hbk
 have M8:McAt K H8 C_Frame C wt ⟨x,bb,lv,rc,sd,ms,ps,[],[],bud,[]⟩:=by
  refine ⟨⟨dx,.non,x8,.inl ⟨rfl,rfl⟩⟩,⟨mk',pl',xs',fun HX kX=>hbk HX fun c o _ e m=>?_⟩,lv8,rc8,sd8,(fun f hf=>nomatch hf),?_⟩
  ·have cx:c≠x:=fun z=>by subst z; exact m _ hx1 (.inr ⟨_,_,_,rfl⟩)
   refine kX c o (fun hc=>?_) (K8 c o (nx c cx) e)
   simp only [foot,List.flatMap_nil,List.mem_cons,List.not_mem_nil,or_false] at hc
   rcases hc with rfl | rfl | rfl | rfl
   ·exact cx rfl
   ·rw [lv0] at e; cases e
   ·rw [rc0] at e; cases e
   ·rw [sd0] at e; cases e
  ·simp only [foot,List.flatMap_nil,List.nodup_cons,List.mem_cons,List.not_mem_nil,or_false,not_or,not_false_eq_true,List.nodup_nil,and_true]
   exact ⟨⟨lvx.symm,rcx.symm,sdx.symm⟩,⟨rl,sl⟩,sr⟩
 have K0:KeepX [x] H H8:=fun c o n e=>K8 c o n (U2 c o e)
 have hI8:SqL K H8 il (ws.map V.int):=by
  rcases hI with (h | ⟨u,h⟩) | h
  ·exact .inl (.inl (K0 _ _ (fun z=>by rw [msp z,hx] at h; cases h) h))
  ·exact .inl (.inr ⟨u,K0 _ _ (fun z=>by rw [msp z,hx] at h; cases h) h⟩)
  ·exact .inr h
 refine ⟨_,rfl,x,dx,_,rfl,x8,mc_no (by decide +kernel),_,rfl,_,rfl,il,rfl,⟨_,hI8⟩,fun D hD=>?_⟩
 refine lc_list (xs:=ws.map V.int) (fun i ys H9=>Same H8 H9∧H9 D=some (.lst ys)∧VIt K H9 wt ys ((ws.take i).map Vl.num)) (Nat.le_of_lt (sK (by omega))) ⟨sN hD _,uS,VIt.nil⟩ ?_ ?_ ?_
 ·rintro i ys H9 hi ⟨s9,g9,hV⟩
  refine ⟨g9,?_,s9.seq hI8⟩
  rw [hV.1,List.length_map,List.length_take]
  omega
 ·rintro i v ys H9 hv ⟨s9,g9,hV⟩
  rw [List.getElem?_map] at hv
  cases hwi:ws[i]? with
  | none=>rw [hwi] at hv; cases hv
  | some n =>
   rw [hwi] at hv
   cases hv
   refine ⟨rfl,_,rfl,x,dx,_,rfl,s9 _ _ x8,mc_no (by decide +kernel),_,rfl,_,n,rfl,fun u H10 s10 hu=>?_⟩
   have g10:=s10 _ _ g9
   have hiw:=(List.getElem?_eq_some_iff.mp hwi)
   have mu:MutAll H10 [D]:=fun c hc=>by rw [msp hc]; exact ⟨_,g10,.inl ⟨_,rfl⟩⟩
   refine ⟨g10,Same_upd (s9.trans s10) hD _,uS,?_⟩
   rw [List.take_succ_eq_append_getElem hiw.1,List.map_append,hiw.2]
   exact VIt.keep keep_upd mu ((hV.same s10).snoc hu)
 ·rintro ys H9 ⟨s9,g9,hV⟩
  rw [List.take_of_length_le (by rw [List.length_map]; omega)] at hV
  have M9:=M8.same s9
  refine ⟨_,D,ys,ws.map Vl.num,j,p,rfl,M9,hp,SqL.of g9,hV,by rw [List.length_map]; exact hb,hb8,(by show 0≤100; decide),fun f H10 M10 f1 f2 f3 f4 fr k10=>?_⟩
  rw [List.length_map] at f3
  have kE:∀c o,c≠x→H2 c=some o→H10 c=some o:=fun c o n e=>by
   refine k10 c o (fun hc=>?_) (s9 _ _ (K8 c o (nx c n) e))
   simp only [foot,List.flatMap_nil,List.mem_cons,List.not_mem_nil,or_false] at hc
   rcases hc with rfl | rfl | rfl | rfl
   ·exact n rfl
   ·rw [lv0] at e; cases e
   ·rw [rc0] at e; cases e
   ·rw [sd0] at e; cases e
  have free2:∀c∈foot ⟨x,bb,lv,rc,sd,ms,ps,[f],[],bud,[]⟩,c≠x→H2 c=none:=fun c hc n=>by
   simp only [foot,List.flatMap_cons,List.flatMap_nil,List.append_nil,List.mem_cons] at hc
   rcases hc with rfl | rfl | rfl | rfl | hc
   ·exact absurd rfl n
   ·exact lv0
   ·exact rc0
   ·exact sd0
   ·have z:=s9.free (fr c hc)
    cases e:H2 c with
    | none=>rfl
    | some o=>rw [K8 c o (nx c n) e] at z; cases z
  refine q bb lv rc sd f H10 f1 f2 f3 f4 M10 (fun c hc n=>U2.free (free2 c hc n)) (fun c o n e=>kE c o (fun z=>n (by rw [z]; exact List.mem_singleton.mpr rfl)) (U2 c o e)) (fun G hG=>⟨mk',pl',xs',fun HX kX=>hbk HX fun c o _ e m=>?_⟩)
  have cx:c≠x:=fun z=>by subst z; exact m _ hx1 (.inr ⟨_,_,_,rfl⟩)
  refine kX c o (fun hc=>?_) (kE c o cx e)
  rcases List.mem_append.mp hc with z | z
  ·rw [free2 c z cx] at e; cases e
  ·obtain ⟨o',e',mo⟩:=hG c z
   exact m _ (s1 _ _ e') mo
theorem sc_law:FnScope ["_law_script","_law_inputs","_law_many","_law_height","_law_rows","_law_states","_law_other","_law_takes","_law_stretches","_law_mine","_law_part","_law_book","_law_budget","_law_held","_law_first","_law_second","_law_due"] ["_law_script"] (dS s_law):=by walk_at "sc"
def o4E:Expr:=match (dB s_law).getD 4 (.Pass ⟨0,0,0,0⟩) with | .Assign _ e _=>e | _=>.Constant .none 0 ⟨0,0,0,0⟩
theorem o4_ok{X:Cx}:PEv X o4E (tTup (tCons (tLst tNil) (tCons (tTup (tCons (tC (.str "number")) tNil)) (tCons (tC (.int 0)) (tCons (tC (.int 1)) (tCons (tLst (tCons (tTup (tCons (tC (.str "push")) (tCons (tC (.int 5)) tNil))) (tCons (tTup (tCons (tC (.str "give")) tNil)) tNil))) (tCons (tLst tNil) tNil))))))):=by
 constructor
 show PE X (.Tuple [.List [] _,.Tuple [.Constant _ _ _] _ _,.Constant _ _ _,.Constant _ _ _,.List [.Tuple [.Constant _ _ _,.Constant _ _ _] _ _,.Tuple [.Constant _ _ _] _ _] _,.List [] _] _ _) _
 refine pe_tup ?_
 refine pv_cL ?_ ?_
 ·refine pe_lst ?_
  exact pN
 refine pv_cT ?_ ?_
 ·refine pe_tup ?_
  refine pv_cC ?_ ?_
  ·exact pe_str
  exact pN
 refine pv_cC ?_ ?_
 ·exact pI
 refine pv_cC ?_ ?_
 ·exact pI
 refine pv_cL ?_ ?_
 ·refine pe_lst ?_
  refine pv_cT ?_ ?_
  ·refine pe_tup ?_
   refine pv_cC ?_ ?_
   ·exact pe_str
   refine pv_cC ?_ ?_
   ·exact pI
   exact pN
  refine pv_cT ?_ ?_
  ·refine pe_tup ?_
   refine pv_cC ?_ ?_
   ·exact pe_str
   exact pN
  exact pN
 refine pv_cL ?_ ?_
 ·refine pe_lst ?_
  exact pN
 exact pN
theorem ok_law{f:Addr}{fd:FuncData}(F:Fun K "law" "law" s_law f fd)(z_int:mg "int"=none)(z_isinstance:mg "isinstance"=none)(z_len:mg "len"=none)(z_list:mg "list"=none)(z_min:mg "min"=none)(z_range:mg "range"=none){C_Plain:Addr}(g_Plain:mg "Plain"=some (.ref C_Plain)){C_Frame:Addr}(ac_Frame:AC_Frame K C_Frame)(h__law_cell:Has P w K mg base CX0 "_law_cell" 1 ["_law_script","_law_k"] (sp_law_cell K))(h__law_grown:Has P w K mg base CX0 "_law_grown" 4 ["_law_script","_law_boxes","_law_height"] (sp_law_grown K))(h__law_keeps__Plain:Has P w K mg base CX0 "_law_keeps" 8 ["_law_machine","_law_part","_law_states","_law_watched","_law_due"] (sp_law_keeps K C_Frame C_Plain false)){C_Watched:Addr}(h__law_keeps__Watched:Has P w K mg base CX0 "_law_keeps" 8 ["_law_machine","_law_part","_law_states","_law_watched","_law_due"] (sp_law_keeps K C_Frame C_Watched true))(h__law_word:Has P w K mg base CX0 "_law_word" 1 ["_law_cell_here"] (sp_law_word K))(hn_Plain:HasN P w K mg base CX0 C_Plain "Plain" 5 ["self","book","part","inputs","budget"] (sp_Plain_init K C_Frame C_Plain false))(hn_Watched:HasN P w K mg base CX0 C_Watched "Watched" 5 ["self","book","part","inputs","budget"] (sp_Plain_init K C_Frame C_Watched true))(i_WP:PySem.W.kitOne K (.ref C_Watched) (.ref C_Plain)=some true)(iw_cl:PySem.W.findIn K (.ref C_Watched) "__class__"=some (some (.builtin "object.__class__")))(iw_sp:PySem.W.specialIn K (.builtin "object.__class__") "__get__"=some (some (.builtin "getset_descriptor.__get__")))(iw_tk:PySem.W.takesIn K (.builtin "object.__class__")=some true)(iw_mo:PySem.W.mroIn K C_Watched (.type "object")=some true)(cls_Watched:Cls K C_Watched):FnOk P w K mg base CX0 9 f fd ["_law_script"] (sp_law K):=by
 refine F.ok sc_law (fun vs H Q E h=>?_) (fun cdv A outer s H vs Q E hr h=>?_)
 ·obtain ⟨a,ns,rfl,hS,hl,q⟩:=h
  rfl
 obtain ⟨a,ns,rfl,hS,hl,q⟩:=h
 refine goS (ps_setLC (i:=1) sc_law.nd rfl (Or.inl rfl) 1 ["_law_k","_law_script"] [0] ⟨rfl,rfl,rfl,rfl,rfl,rfl,rfl,rfl⟩ (pi_range1 rfl z_range (pK (pe_op op_mod (pe_ch h__law_cell (hr.mono (by decide)) rfl (pK (pv 0) (pK pI pN))) pI) pN)) (fun _ _ _ _=>⟨(pg_name (i:=0) (show List.Nodup (["_law_k","_law_script"]:List Str) by decide +kernel) rfl (Or.inl rfl)),pif_nil,(pe_ch h__law_word (hr.mono (by decide)) rfl (pK (pe_ch h__law_cell (hr.mono (by decide)) rfl (pK (pv 1) (pK (pe_op op_add pI (pv 0)) pN))) pN))⟩)) (fun R kk=>?_)
 refine ⟨_,rfl,a,ns,_,rfl,hS,by decide,by decide,fun v0 H1 s1=>?_⟩
 refine ⟨_,_,rfl,rfl,(by show (0:Int) < 5; decide),_,rfl,by omega,by omega,fun D hD=>?_⟩
 refine lc_range (lo:=0) (n:=(v0 % 5).toNat) (fun i ys H2=>Same H1 H2∧H2 D=some (.lst ys)∧∃ws:List Int,ys=ws.map V.int∧ws.length=i∧∀n∈ws,inW n) (Nat.le_of_lt (sK (by omega))) ⟨sN hD _,uS,[],rfl,rfl,fun n hn=>(nomatch hn)⟩ ?_ ?_ ?_
 ·rintro i ys H2 ⟨s2,d2,ws,rfl,hl2,_⟩
  exact ⟨d2,by rw [List.length_map,hl2]; exact Nat.le_refl _⟩
 ·rintro i ys H2 hi ⟨s2,d2,ws,rfl,hl2,hw⟩
  refine ⟨rfl,_,rfl,_,rfl,_,_,rfl,rfl,a,ns,_,rfl,(s1.trans s2).seq hS,by omega,by omega,fun c H3 s3=>?_⟩
  refine ⟨c,rfl,fun n H4 s4 hn=>?_⟩
  have s34:=s3.trans s4
  refine ⟨s34 _ _ d2,Same_upd (s2.trans s34) hD _,uS,ws++[n],by rw [List.map_append]; rfl,by simp [hl2],fun k hk=>?_⟩
  rcases List.mem_append.mp hk with z | z
  ·exact hw k z
  ·rw [msp z]; exact hn
 rintro ys H2 ⟨s2,d2,ws,rfl,hl2,hw⟩
 have hl4:ws.length≤4:=by omega
 refine kk [some (.ref a),some (.ref D),none,none,none,none,none,none,none,none,none,none,none,none,none,none,none] H2 ?_
 clear kk R
 refine goS (@ps_setU _ 2 _ _ _ _ _ sc_law.nd rfl (Or.inl rfl) (pe_callB (call_min2 rfl) rfl z_min bt_min (pK pI (pK (pe_op op_add (pe_callB call_len_seq rfl z_len bt_len (pK (pv 1) pN)) (pe_op op_mod (pe_ch h__law_cell (hr.mono (by decide)) rfl (pK (pv 0) (pK pI pN))) pI)) pN))) rfl (.inr rfl)) (fun R kk=>?_)
 have S2:=s1.trans s2
 refine ⟨_,rfl,D,_,rfl,.inl (SqL.of d2),_,rfl,a,ns,_,rfl,S2.seq hS,by decide,by decide,fun v1 H3 s3=>?_⟩
 refine ⟨_,_,rfl,rfl,(by show (0:Int) < 5; decide),_,_,rfl,rfl,_,_,rfl,?_⟩
 obtain ⟨many,em,hm1,hm8⟩:∃many:Nat,(if (((ws.map V.int).length:Nat):Int) + v1 % 5 < 8 then (((ws.map V.int).length:Nat):Int) + v1 % 5 else 8)=(many:Int)∧ws.length≤many∧many≤8:=by
  rw [List.length_map]
  split
  ·exact ⟨((ws.length:Int) + v1 % 5).toNat,by omega,by omega,by omega⟩
  ·exact ⟨8,rfl,by omega,by omega⟩
 rw [em]
 refine kk [some (.ref a),some (.ref D),some (.int (many:Int)),none,none,none,none,none,none,none,none,none,none,none,none,none,none] H3 ?_
 clear kk R
 refine goS (@ps_setU _ 3 _ _ _ _ _ sc_law.nd rfl (Or.inl rfl) (pe_op op_add pI (pe_op op_mod (pe_ch h__law_cell (hr.mono (by decide)) rfl (pK (pv 0) (pK pI pN))) pI)) rfl (.inr rfl)) (fun R kk=>?_)
 have S3:=S2.trans s3
 refine ⟨_,rfl,a,ns,_,rfl,S3.seq hS,by decide,by decide,fun v2 H4 s4=>?_⟩
 refine ⟨_,_,rfl,rfl,(by show (0:Int) < 8; decide),_,_,rfl,rfl,?_⟩
 obtain ⟨h,eh,h1,h8⟩:∃h:Nat,(1:Int) + v2 % 8=(h:Int)∧1≤h∧h≤8:=⟨(1 + v2 % 8).toNat,by omega,by omega,by omega⟩
 rw [show (fun i j:Int=>V.int (i + j)) 1 (v2 % 8)=V.int (h:Int) from congrArg V.int eh]
 refine kk [some (.ref a),some (.ref D),some (.int (many:Int)),some (.int (h:Int)),none,none,none,none,none,none,none,none,none,none,none,none,none] H4 ?_
 clear kk R
 refine goS (ps_asg (pe_ch h__law_grown (hr.mono (by decide)) rfl (pK (pv 0) (pK (pe_op op_catS (pv 1) (pe_op op_rep (pe_lst (pK pe_non pN)) (pe_op op_sub (pv 2) (pe_callB call_len_seq rfl z_len bt_len (pK (pv 1) pN))))) (pK (pv 3) pN)))) (pg_tup rfl (pgs_cons (pg_name (i:=4) sc_law.nd rfl (Or.inl rfl)) (pgs_cons (pg_name (i:=5) sc_law.nd rfl (Or.inl rfl)) pgs_nil)))) (fun R kk=>?_)
 have S4:=S3.trans s4
 have d4:=(s3.trans s4) _ _ d2
 refine ⟨_,rfl,_,rfl,sz1,fun l1 n1=>?_⟩
 have s5:=sN n1 (.lst [.non])
 have g5:=uS (H:=H4) (a:=l1) (o:=.lst [.non])
 generalize upd H4 l1 _=H5 at s5 g5 ⊢
 have lw:(ws.map V.int).length=ws.length:=List.length_map _
 refine ⟨_,rfl,_,rfl,D,_,rfl,.inl (SqL.of (s5 _ _ d4)),_,_,rfl,rfl,l1,_,_,rfl,rfl,g5,by omega,by omega,?_,fun l2 n2=>?_⟩
 ·show 1 * ((many:Int) - (((ws.map V.int).length:Nat):Int)).toNat≤sizeLine
  exact Nat.le_of_lt (sK (by omega))
 rw [rep_one,show ((many:Int) - (((ws.map V.int).length:Nat):Int)).toNat=many - ws.length by omega]
 have s6:=sN n2 (.lst (List.replicate (many - ws.length) V.non))
 have g6:=uS (H:=H5) (a:=l2) (o:=.lst (List.replicate (many - ws.length) V.non))
 generalize upd H5 l2 _=H6 at s6 g6 ⊢
 have d6:=(s5.trans s6) _ _ d4
 refine ⟨D,l2,_,_,rfl,rfl,SqL.of d6,SqL.of g6,Nat.le_of_lt (sK (by rw [lw,List.length_replicate]; omega)),fun l3 n3=>?_⟩
 have s7:=sN n3 (.lst (ws.map V.int++List.replicate (many - ws.length) V.non))
 have g7:upd H6 l3 (.lst (ws.map V.int++List.replicate (many - ws.length) V.non)) l3=some (.lst ((ws.map some++List.replicate (many - ws.length) none).map optV)):=by
  rw [uS,List.map_append,List.map_map,List.map_replicate]
  rfl
 generalize upd H6 l3 _=H7 at s7 g7 ⊢
 have S7:=S4.trans (s5.trans (s6.trans s7))
 have d7:=s7 _ _ d6
 have l3D:l3≠D:=(nN d6 n3).symm
 refine ⟨_,rfl,a,l3,D,_,ns,_,h,rfl,S7.seq hS,g7,(fun n hn=>?_),d7,l3D,h1,h8,fun tg ra sa rs sts zs ys e lo s l H8 L gt he G hlo hst hrs=>?_⟩
 ·rcases List.mem_append.mp hn with z | z
  ·obtain ⟨k,hk,e⟩:=List.mem_map.mp z
   cases e
   exact hw n hk
  ·have:=List.eq_of_mem_replicate z
   cases this
 refine ⟨tg,_,rfl,gt,rfl,_,_,rfl,_,_,rfl,rfl,kk [some (.ref a),some (.ref D),some (.int (many:Int)),some (.int (h:Int)),some (.ref ra),some (.ref sa),none,none,none,none,none,none,none,none,none,none,none] H8 ?_⟩
 clear kk R
 refine goS (@ps_setV _ 6 _ _ _ _ _ sc_law.nd rfl (Or.inl rfl) o4_ok rfl (.inr rfl)) (fun R kk=>?_)
 refine ⟨sz0,fun o1 p1=>⟨sz1,fun o2 p2=>⟨sz2,fun o3 p3=>⟨sz1,fun o4 p4=>⟨sz2,fun o5 p5=>⟨sz0,fun o6 p6=>⟨sz6,fun o7 p7=>?_⟩⟩⟩⟩⟩⟩⟩
 obtain ⟨H9,S9,hO⟩:∃H9,Same H8 H9∧RdV K H9 (.ref o7) (ptD ⟨[],.num,0,1,[.push 5,.bare "give"],[]⟩)∧H9=upd (upd (upd (upd (upd (upd (upd H8 o1 (.lst [])) o2 (.tup [.str "number"])) o3 (.tup [.str "push",.int 5])) o4 (.tup [.str "give"])) o5 (.lst [.ref o3,.ref o4])) o6 (.lst [])) o7 (.tup [.ref o1,.ref o2,.int 0,.int 1,.ref o5,.ref o6]):=by
  have a1:=sN p1 (.lst [])
  have a2:=sN p2 (.tup [.str "number"])
  have a3:=sN p3 (.tup [.str "push",.int 5])
  have a4:=sN p4 (.tup [.str "give"])
  have a5:=sN p5 (.lst [.ref o3,.ref o4])
  have a6:=sN p6 (.lst [])
  have a7:=sN p7 (.tup [.ref o1,.ref o2,.int 0,.int 1,.ref o5,.ref o6])
  have b6:=a6.trans a7
  have b5:=a5.trans b6
  have b4:=a4.trans b5
  have b3:=a3.trans b4
  have b2:=a2.trans b3
  refine ⟨_,a1.trans b2,?_,rfl⟩
  exact .tup' (SqT.of uS) (.cons (.lst' (SqL.of (b2 _ _ uS)) .nil) (.cons (.tup' (SqT.of (b3 _ _ uS)) (.cons (.str _) .nil)) (.cons (.int _) (.cons (.int _) (.cons (.lst' (SqL.of (b6 _ _ uS)) (.cons (.tup' (SqT.of (b4 _ _ uS)) (.cons (.str _) (.cons (.int _) .nil))) (.cons (.tup' (SqT.of (b5 _ _ uS)) (.cons (.str _) .nil)) .nil))) (.cons (.lst' (SqL.of (a7 _ _ uS)) .nil) .nil))))))
 obtain ⟨hO,e9⟩:=hO
 rw [← e9]
 refine kk [some (.ref a),some (.ref D),some (.int (many:Int)),some (.int (h:Int)),some (.ref ra),some (.ref sa),some (.ref o7),none,none,none,none,none,none,none,none,none,none] H9 ?_
 clear kk R
 refine goS (ps_setLC (i:=7) sc_law.nd rfl (Or.inl rfl) 1 ["_law_one"] [] ⟨rfl,rfl,rfl,rfl,rfl,rfl,rfl,rfl⟩ (pi_list (pv 1)) (fun _ _ _ _=>⟨(pg_name (i:=0) (show List.Nodup (["_law_one"]:List Str) by decide +kernel) rfl (Or.inl rfl)),pif_nil,(pe_tup (pK pe_str pN))⟩)) (fun R kk=>?_)
 clear e9 p1 p2 p3 p4 p5 p6 p7
 have d9:=S9 _ _ (L.s _ _ (s7 _ _ d6))
 refine ⟨_,rfl,D,rfl,⟨_,SqL.of d9⟩,fun T nT=>?_⟩
 refine lc_list (xs:=ws.map V.int) (fun i ks HA=>Same H9 HA∧HA T=some (.lst ks)∧KIt K HA ks (List.replicate i .num)) (Nat.le_of_lt (sK (by omega))) ⟨sN nT _,uS,KIt.nil K _⟩ ?_ ?_ ?_
 ·rintro i ks HA hi ⟨sA,gA,kA⟩
  exact ⟨gA,by rw [kA.1,List.length_replicate]; exact Nat.le_refl _,sA.seq (SqL.of d9)⟩
 ·rintro i x ks HA hx ⟨sA,gA,kA⟩
  refine ⟨rfl,sz1,fun t ht=>?_⟩
  have sB:=sN ht (.tup [.str "number"])
  refine ⟨sB _ _ gA,Same_upd (sA.trans sB) nT _,uS,?_⟩
  rw [List.replicate_succ']
  exact KIt.upd (KIt.snoc (kA.same sB) (t:=t) (k:=.num) (SqT.of uS)) (sB _ _ gA)
 rintro ks HA ⟨sA,gA,kA⟩
 rw [lw] at kA
 refine kk [some (.ref a),some (.ref D),some (.int (many:Int)),some (.int (h:Int)),some (.ref ra),some (.ref sa),some (.ref o7),some (.ref T),none,none,none,none,none,none,none,none,none] HA ?_
 clear kk R
 refine goS (@ps_setU _ 8 _ _ _ _ _ sc_law.nd rfl (Or.inl rfl) (pe_lst pN) rfl (.inr rfl)) (fun R kk=>?_)
 refine ⟨sz0,fun X nX=>?_⟩
 have sB:=sN nX (.lst [])
 have gX:=uS (H:=HA) (a:=X) (o:=.lst [])
 generalize upd HA X _=HB at sB gX ⊢
 refine kk [some (.ref a),some (.ref D),some (.int (many:Int)),some (.int (h:Int)),some (.ref ra),some (.ref sa),some (.ref o7),some (.ref T),some (.ref X),none,none,none,none,none,none,none,none] HB ?_
 clear kk R
 refine goS (@ps_setU _ 9 _ _ _ _ _ sc_law.nd rfl (Or.inl rfl) (pe_tup (pK (pv 7) (pK (pe_tup (pK pe_str pN)) (pK (pv 2) (pK (pv 3) (pK (pv 4) (pK (pv 8) pN))))))) rfl (.inr rfl)) (fun R kk=>?_)
 refine ⟨_,rfl,sz1,fun tn ntn=>?_⟩
 have sC:=sN ntn (.tup [.str "number"])
 have gtn:SqT K (upd HB tn (.tup [.str "number"])) tn (kdV .num):=SqT.of uS
 generalize upd HB tn _=HC at sC gtn ⊢
 refine ⟨_,rfl,_,rfl,_,rfl,_,rfl,sz6,fun tm ntm=>?_⟩
 have sD:=sN ntm (.tup [.ref T,.ref tn,.int (many:Int),.int (h:Int),.ref ra,.ref X])
 have gm:=uS (H:=HC) (a:=tm) (o:=.tup [.ref T,.ref tn,.int (many:Int),.int (h:Int),.ref ra,.ref X])
 generalize upd HC tm _=HD at sD gm ⊢
 refine kk [some (.ref a),some (.ref D),some (.int (many:Int)),some (.int (h:Int)),some (.ref ra),some (.ref sa),some (.ref o7),some (.ref T),some (.ref X),some (.ref tm),none,none,none,none,none,none,none] HD ?_
 clear kk R
 refine goS (@ps_setU _ 10 _ _ _ _ _ sc_law.nd rfl (Or.inl rfl) (pe_op op_mod (pe_ch h__law_cell (hr.mono (by decide)) rfl (pK (pv 0) (pK pI pN))) pI) rfl (.inr rfl)) (fun R kk=>?_)
 have SD9:=sA.trans (sB.trans (sC.trans sD))
 have SD8:=S9.trans SD9
 have LD:=L.same SD8
 have hMine:RdV K HD (.ref tm) (ptD ⟨List.replicate ws.length .num,.num,many,h,rs++[.bare e],[]⟩):=by
  refine .tup' (SqT.of gm) (.cons (.lst' (SqL.of ((sB.trans (sC.trans sD)) _ _ gA)) (kA.same (sB.trans (sC.trans sD))).rd) (.cons (rd_kd (sD.tup gtn)) (.cons (.int _) (.cons (.int _) (.cons (.lst' (SqL.of LD.gr) ?_) (.cons (.lst' (SqL.of ((sC.trans sD) _ _ gX)) .nil) .nil))))))
  refine RdAll.of LD.ir.1 fun j r hr=>?_
  have hj:j < zs.length:=by rw [LD.ir.1]; exact (List.getElem?_eq_some_iff.mp hr).1
  obtain ⟨t,e1,e2⟩:=LD.ir.2 j zs[j] r (gee hj) hr
  exact ⟨_,gee hj,by rw [e1]; exact rd_rw e2⟩
 have hO':=RdV.same SD9 hO
 have SD:Same H HD:=L.s.trans SD8 |> fun z=>S7.trans z
 refine ⟨_,rfl,a,ns,_,rfl,SD.seq hS,by decide,by decide,fun v3 HE sE=>?_⟩
 refine ⟨_,_,rfl,rfl,(by show (0:Int) < 3; decide),?_⟩
 obtain ⟨part,ep,hp3⟩:=modN (e:=v3) (n:=3) (by decide)
 rw [show (fun i j:Int=>V.int (i % j)) v3 3=V.int (part:Int) from congrArg V.int ep]
 refine kk [some (.ref a),some (.ref D),some (.int (many:Int)),some (.int (h:Int)),some (.ref ra),some (.ref sa),some (.ref o7),some (.ref T),some (.ref X),some (.ref tm),some (.int (part:Int)),none,none,none,none,none,none] HE ?_
 clear kk R
 refine goS (@ps_setU _ 11 _ _ _ _ _ sc_law.nd rfl (Or.inl rfl) (pe_tup (pK (pe_lst (pK (pe_tup (pK pe_non (pK (pe_lst pN) pN))) pN)) (pK (pe_op op_catS (pe_op op_catS (pe_op op_rep (pe_lst (pK (pv 6) pN)) (pv 10)) (pe_lst (pK (pv 9) pN))) (pe_op op_rep (pe_lst (pK (pv 6) pN)) (pe_op op_mod (pe_op op_fdiv (pe_ch h__law_cell (hr.mono (by decide)) rfl (pK (pv 0) (pK pI pN))) pI) pI))) pN))) rfl (.inr rfl)) (fun R kk=>?_)
 refine ⟨sz0,fun b1 n1=>?_⟩
 have u1:=sN n1 (.lst [])
 have w1:=uS (H:=HE) (a:=b1) (o:=.lst [])
 generalize upd HE b1 _=E1 at u1 w1 ⊢
 refine ⟨sz2,fun b2 n2=>?_⟩
 have u2:=sN n2 (.tup [.non,.ref b1])
 have w2:=uS (H:=E1) (a:=b2) (o:=.tup [.non,.ref b1])
 generalize upd E1 b2 _=E2 at u2 w2 ⊢
 refine ⟨sz1,fun b3 n3=>?_⟩
 have u3:=sN n3 (.lst [.ref b2])
 have w3:=uS (H:=E2) (a:=b3) (o:=.lst [.ref b2])
 generalize upd E2 b3 _=E3 at u3 w3 ⊢
 refine ⟨_,rfl,sz1,fun c1 m1=>?_⟩
 have u4:=sN m1 (.lst [.ref o7])
 have w4:=uS (H:=E3) (a:=c1) (o:=.lst [.ref o7])
 generalize upd E3 c1 _=E4 at u4 w4 ⊢
 refine ⟨_,rfl,c1,_,_,rfl,rfl,w4,by omega,by omega,(by show 1 * ((part:Int)).toNat≤sizeLine; exact Nat.le_of_lt (sK (by omega))),fun c2 m2=>?_⟩
 rw [rep_one,Int.toNat_natCast]
 have u5:=sN m2 (.lst (List.replicate part (.ref o7)))
 have w5:=uS (H:=E4) (a:=c2) (o:=.lst (List.replicate part (.ref o7)))
 generalize upd E4 c2 _=E5 at u5 w5 ⊢
 refine ⟨_,rfl,sz1,fun c3 m3=>?_⟩
 have u6:=sN m3 (.lst [.ref tm])
 have w6:=uS (H:=E5) (a:=c3) (o:=.lst [.ref tm])
 generalize upd E5 c3 _=E6 at u6 w6 ⊢
 refine ⟨c2,c3,_,_,rfl,rfl,SqL.of (u6 _ _ w5),SqL.of w6,Nat.le_of_lt (sK (by rw [List.length_replicate]; show part + 1≤1000; omega)),fun c4 m4=>?_⟩
 have u7:=sN m4 (.lst (List.replicate part (.ref o7)++[.ref tm]))
 have w7:=uS (H:=E6) (a:=c4) (o:=.lst (List.replicate part (.ref o7)++[.ref tm]))
 generalize upd E6 c4 _=E7 at u7 w7 ⊢
 refine ⟨_,rfl,sz1,fun c5 m5=>?_⟩
 have u8:=sN m5 (.lst [.ref o7])
 have w8:=uS (H:=E7) (a:=c5) (o:=.lst [.ref o7])
 generalize upd E7 c5 _=E8 at u8 w8 ⊢
 have uE8:=u1.trans (u2.trans (u3.trans (u4.trans (u5.trans (u6.trans (u7.trans u8))))))
 refine ⟨_,rfl,a,ns,_,rfl,(SD.trans (sE.trans uE8)).seq hS,by decide,by decide,fun v4 E9 u9=>?_⟩
 obtain ⟨k2,ek2,hk2⟩:=modN (e:=v4 / 3) (n:=2) (by decide)
 refine ⟨_,_,rfl,rfl,(by show (0:Int) < 3∧(3:Int) < 1073741824; decide),_,_,rfl,rfl,(by show (0:Int) < 2; decide),?_⟩
 rw [show (fun i j:Int=>V.int (i % j)) (v4 / 3) 2=V.int (k2:Int) from congrArg V.int ek2]
 refine ⟨c5,_,_,rfl,rfl,u9 _ _ w8,by omega,by omega,(by show 1 * ((k2:Int)).toNat≤sizeLine; exact Nat.le_of_lt (sK (by omega))),fun c6 m6=>?_⟩
 rw [rep_one,Int.toNat_natCast]
 have u10:=sN m6 (.lst (List.replicate k2 (.ref o7)))
 have w10:=uS (H:=E9) (a:=c6) (o:=.lst (List.replicate k2 (.ref o7)))
 generalize upd E9 c6 _=EA at u10 w10 ⊢
 have u8A:=u8.trans (u9.trans u10)
 refine ⟨c4,c6,_,_,rfl,rfl,SqL.of (u8A _ _ w7),SqL.of w10,Nat.le_of_lt (sK (by rw [List.length_append,List.length_replicate,List.length_replicate]; show part + 1 + k2≤1000; omega)),fun c7 m7=>?_⟩
 have u11:=sN m7 (.lst (List.replicate part (.ref o7)++[.ref tm]++List.replicate k2 (.ref o7)))
 have w11:=uS (H:=EA) (a:=c7) (o:=.lst (List.replicate part (.ref o7)++[.ref tm]++List.replicate k2 (.ref o7)))
 generalize upd EA c7 _=EB at u11 w11 ⊢
 refine ⟨sz2,fun bk nbk=>?_⟩
 have u12:=sN nbk (.tup [.ref b3,.ref c7])
 have w12:=uS (H:=EB) (a:=bk) (o:=.tup [.ref b3,.ref c7])
 generalize upd EB bk _=EC at u12 w12 ⊢
 refine kk [some (.ref a),some (.ref D),some (.int (many:Int)),some (.int (h:Int)),some (.ref ra),some (.ref sa),some (.ref o7),some (.ref T),some (.ref X),some (.ref tm),some (.int (part:Int)),some (.ref bk),none,none,none,none,none] EC ?_
 clear kk R
 refine goS (@ps_setU _ 12 _ _ _ _ _ sc_law.nd rfl (Or.inl rfl) (pe_op op_mod (pe_ch h__law_cell (hr.mono (by decide)) rfl (pK (pv 0) (pK pI pN))) pI) rfl (.inr rfl)) (fun R kk=>?_)
 have uBC:=u11.trans u12
 have uED:Same HD EC:=sE.trans (uE8.trans (u9.trans (u10.trans uBC)))
 have u3C:Same E3 EC:=u4.trans (u5.trans (u6.trans (u7.trans (u8A.trans uBC))))
 have hBook:RdV K EC (.ref bk) (bkD [(none,[])] (List.replicate part ⟨[],.num,0,1,[.push 5,.bare "give"],[]⟩++[⟨List.replicate ws.length .num,.num,many,h,rs++[.bare e],[]⟩]++List.replicate k2 ⟨[],.num,0,1,[.push 5,.bare "give"],[]⟩)):=by
  refine .tup' (SqT.of w12) (.cons (.lst' (SqL.of (u3C _ _ w3)) (.cons (.tup' (SqT.of ((u3.trans u3C) _ _ w2)) (.cons .non (.cons (.lst' (SqL.of ((u2.trans (u3.trans u3C)) _ _ w1)) .nil) .nil))) .nil)) (.cons (.lst' (SqL.of (u12 _ _ w11)) ?_) .nil))
  rw [List.map_append,List.map_append,List.map_replicate,List.map_replicate]
  exact RdAll.append (RdAll.append (rep_rd (RdV.same uED hO') part) (.cons (RdV.same uED hMine) .nil)) (rep_rd (RdV.same uED hO') k2)
 refine ⟨_,rfl,a,ns,_,rfl,(SD.trans uED).seq hS,by decide,by decide,fun v5 F1 x1=>?_⟩
 refine ⟨_,_,rfl,rfl,(by show (0:Int) < 10001; decide),?_⟩
 obtain ⟨bud,eb⟩:∃b:Int,v5 % 10001=b:=⟨_,rfl⟩
 rw [show (fun i j:Int=>V.int (i % j)) v5 10001=V.int bud from congrArg V.int eb]
 refine kk [some (.ref a),some (.ref D),some (.int (many:Int)),some (.int (h:Int)),some (.ref ra),some (.ref sa),some (.ref o7),some (.ref T),some (.ref X),some (.ref tm),some (.int (part:Int)),some (.ref bk),some (.int bud),none,none,none,none] F1 ?_
 clear kk R
 refine goS (@ps_setU _ 13 _ _ _ _ _ sc_law.nd rfl (Or.inl rfl) (pe_callTy call_list_of rfl z_list bt_list (pK (pv 4) pN)) rfl (.inr rfl)) (fun R kk=>?_)
 have LF:=LD.same (uED.trans x1)
 refine ⟨_,rfl,ra,_,rfl,.inl (SqL.of LF.gr),fun hl nhl=>?_⟩
 have x2:=sN nhl (.lst zs)
 have g2:=uS (H:=F1) (a:=hl) (o:=.lst zs)
 generalize upd F1 hl _=F2 at x2 g2 ⊢
 refine kk [some (.ref a),some (.ref D),some (.int (many:Int)),some (.int (h:Int)),some (.ref ra),some (.ref sa),some (.ref o7),some (.ref T),some (.ref X),some (.ref tm),some (.int (part:Int)),some (.ref bk),some (.int bud),some (.ref hl),none,none,none] F2 ?_
 clear kk R
 refine goS (@ps_setU _ 14 _ _ _ _ _ sc_law.nd rfl (Or.inl rfl) (pe_cn hn_Watched pass0 (hr.mono (by decide)) rfl (pK (pv 11) (pK (pv 10) (pK (pe_callTy call_list_of rfl z_list bt_list (pK (pv 1) pN)) (pK (pv 12) pN))))) rfl (.inr rfl)) (fun R kk=>?_)
 have uF2:Same EC F2:=x1.trans x2
 have dF2:F2 D=some (.lst (ws.map V.int)):=uF2 _ _ (uED _ _ (SD8 _ _ (L.s _ _ d7)))
 generalize ePs:(List.replicate part (⟨[],.num,0,1,[.push 5,.bare "give"],[]⟩:Pt)++[⟨List.replicate ws.length .num,.num,many,h,rs++[.bare e],[]⟩]++List.replicate k2 ⟨[],.num,0,1,[.push 5,.bare "give"],[]⟩)=ps at hBook
 have p8:ps.length≤8:=by rw [← ePs]; exact (ps_facts hp3 hk2).1
 have pj:ps[part]?=some ⟨List.replicate ws.length .num,.num,many,h,rs++[.bare e],[]⟩:=by rw [← ePs]; exact (ps_facts hp3 hk2).2
 have pn:=nums_all ws.length
 clear ePs
 refine ⟨_,rfl,_,rfl,_,rfl,D,_,rfl,.inl (SqL.of dF2),fun il nil=>?_⟩
 have x3:=sN nil (.lst (ws.map V.int))
 have g3:=uS (H:=F2) (a:=il) (o:=.lst (ws.map V.int))
 generalize upd F2 il _=F3 at x3 g3 ⊢
 refine ⟨_,rfl,fun m1 dx1 nm1 ndx1 ne1=>?_⟩
 have y1:=(made_same (H':=upd (upd F3 dx1 (.own m1)) m1 (.ins C_Watched dx1 [])) nm1 ndx1 ne1 KeepX.refl).1
 have rl:ws.length=(List.replicate ws.length Kd.num).length:=(List.length_replicate ..).symm
 refine ⟨m1,dx1,bk,il,part,bud,_,ps,_,ws,rfl,uS,RdV.same (uF2.trans (x3.trans y1)) hBook,(by show 1≤8; decide),p8,pj,pn,SqL.of (y1 _ _ g3),rl,hm1,hm8,fun bb1 lv1 rc1 sd1 f1 F4 p1 a1 b1 t1 M1 fr1 k1 bk1=>⟨rfl,kk [some (.ref a),some (.ref D),some (.int (many:Int)),some (.int (h:Int)),some (.ref ra),some (.ref sa),some (.ref o7),some (.ref T),some (.ref X),some (.ref tm),some (.int (part:Int)),some (.ref bk),some (.int bud),some (.ref hl),some (.ref m1),none,none] F4 ?_⟩⟩
 clear kk R
 refine goS (@ps_setU _ 15 _ _ _ _ _ sc_law.nd rfl (Or.inl rfl) (pe_cn hn_Plain pass0 (hr.mono (by decide)) rfl (pK (pv 11) (pK (pv 10) (pK (pv 1) (pK (pv 12) pN))))) rfl (.inr rfl)) (fun R kk=>?_)
 have x4:=(made_same nm1 ndx1 ne1 k1).2
 have z1:∀c∈foot ⟨m1,bb1,lv1,rc1,sd1,[(none,[])],ps,[f1],[],bud,[]⟩,F3 c=none:=fun c hc=>by
  by_cases e:c=m1
  ·rw [e]; exact nm1
  ·exact y1.free (fr1 c hc e)
 have uC3:Same EC F3:=uF2.trans x3
 have mu1:MutAll F1 [D,ra,T,X,c7,b3]:=fun c hc=>by
  simp only [List.mem_cons,List.not_mem_nil,or_false] at hc
  have e0:=(uED.trans x1) _ _ (SD8 _ _ (L.s _ _ d7))
  have e2:=(uED.trans x1) _ _ ((sB.trans (sC.trans sD)) _ _ gA)
  have e3:=(uED.trans x1) _ _ ((sC.trans sD) _ _ gX)
  have e4:=(u12.trans x1) _ _ w11
  have e5:=(u3C.trans x1) _ _ w3
  rcases hc with rfl | rfl | rfl | rfl | rfl | rfl
  ·exact ⟨_,e0,.inl ⟨_,rfl⟩⟩
  ·exact ⟨_,LF.gr,.inl ⟨_,rfl⟩⟩
  ·exact ⟨_,e2,.inl ⟨_,rfl⟩⟩
  ·exact ⟨_,e3,.inl ⟨_,rfl⟩⟩
  ·exact ⟨_,e4,.inl ⟨_,rfl⟩⟩
  ·exact ⟨_,e5,.inl ⟨_,rfl⟩⟩
 have muG:=mu1.same (x2.trans x3)
 have BK1:=bk1 _ (muG.same y1)
 clear bk1 fr1 k1
 refine ⟨_,rfl,_,rfl,_,rfl,_,rfl,fun m2 dx2 nm2 ndx2 ne2=>?_⟩
 have y2:=(made_same (H':=upd (upd F4 dx2 (.own m2)) m2 (.ins C_Plain dx2 [])) nm2 ndx2 ne2 KeepX.refl).1
 have dF4:=(x3.trans x4) _ _ dF2
 refine ⟨m2,dx2,bk,D,part,bud,_,ps,_,ws,rfl,uS,RdV.same (uC3.trans (x4.trans y2)) hBook,(by show 1≤8; decide),p8,pj,pn,SqL.of (y2 _ _ dF4),rl,hm1,hm8,fun bb2 lv2 rc2 sd2 f2 F5 p2 a2 b2 t2 M2 fr2 k2' bk2=>⟨rfl,kk [some (.ref a),some (.ref D),some (.int (many:Int)),some (.int (h:Int)),some (.ref ra),some (.ref sa),some (.ref o7),some (.ref T),some (.ref X),some (.ref tm),some (.int (part:Int)),some (.ref bk),some (.int bud),some (.ref hl),some (.ref m1),some (.ref m2),none] F5 ?_⟩⟩
 clear kk R
 refine goS (ps_if (PW.pt (pw_or (tR (op_neD (hr.units)) (pv 4) (pv 13) (nomark _)) (pw_or1 (tR op_ne (pe_callB call_len_seq rfl z_len bt_len (pK (pv 1) pN)) (pe_callB call_len_seq rfl z_len bt_len (pK (pv 7) pN)) (nomark _))))) (qO (ps_ret pe_bl)) pss_nil) (fun R kk=>?_)
 have x5:=(made_same nm2 ndx2 ne2 k2').2
 have z2:∀c∈foot ⟨m2,bb2,lv2,rc2,sd2,[(none,[])],ps,[f2],[],bud,[]⟩,F4 c=none:=fun c hc=>by
  by_cases e:c=m2
  ·rw [e]; exact nm2
  ·exact y2.free (fr2 c hc e)
 have muH:MutAll F4 ([D,ra,T,X,c7,b3]++foot ⟨m1,bb1,lv1,rc1,sd1,[(none,[])],ps,[f1],[],bud,[]⟩):=fun c hc=>by
  rcases List.mem_append.mp hc with z | z
  ·exact muG.same x4 c z
  ·exact M1.mut c z
 have BK2:=bk2 _ (muH.same y2)
 clear bk2 fr2 k2'
 have M1':=M1.same x5
 have BK1':=BK1.to (keep_of x5) (fun c hc=>hc)
 have uC5:Same EC F5:=uC3.trans (x4.trans x5)
 have x25:Same F2 F5:=x3.trans (x4.trans x5)
 have L5:=LF.same (x2.trans x25)
 have sg:∀r∈rs++[Rw.bare e],r.Sg:=fun r hr=>by
  rcases List.mem_append.mp hr with z | z
  ·exact G.sg r z
  ·rw [msp z]
   have all:∀s∈bareL,PyData.canLay0 (.str s)=true:=by decide +kernel
   rcases he with rfl | rfl
   ·exact all "give" (by decide +kernel)
   ·exact all "toss" (by decide +kernel)
 refine ⟨_,rfl,_,rfl,_,_,rd_rows (SqL.of L5.gr) L5.ir,rd_rows (SqL.of (x25 _ _ g2)) L5.ir,rows_ok sg,rows_ok sg,_,rfl,?_⟩
 rw [rows_self sg]
 refine iteF ?_
 have dF5:=x5 _ _ dF4
 have gT5:=(uED.trans uC5) _ _ ((sB.trans (sC.trans sD)) _ _ gA)
 refine ⟨_,rfl,D,_,rfl,.inl (SqL.of dF5),_,rfl,T,_,rfl,.inl (SqL.of gT5),rfl,_,rfl,?_⟩
 have eL:V.int (((ws.map V.int).length:Nat):Int)=V.int ((ks.length:Nat):Int):=by rw [lw,kA.1,List.length_replicate]
 rw [decide_eq_true eL]
 refine iteF ?_
 show R _ _
 refine kk _ _ ?_
 clear kk R eL
 have q0:D≠ra:=nN d7 L.nr
 have r9:=S9 _ _ L.gr
 have q1:D≠T:=nN d9 nT
 have q2:ra≠T:=nN r9 nT
 have q3:D≠X:=nN (sA _ _ d9) nX
 have q4:ra≠X:=nN (sA _ _ r9) nX
 have q5:T≠X:=nN gA nX
 have sDE2:Same HD E2:=sE.trans (u1.trans u2)
 have sE2A:Same E2 EA:=u3.trans (u4.trans (u5.trans (u6.trans (u7.trans u8A))))
 have hD2:=sDE2 _ _ (SD9 _ _ d9)
 have hr2:=sDE2 _ _ (SD9 _ _ r9)
 have hT2:=sDE2 _ _ ((sB.trans (sC.trans sD)) _ _ gA)
 have hX2:=sDE2 _ _ ((sC.trans sD) _ _ gX)
 have hb2:=(u4.trans (u5.trans (u6.trans (u7.trans u8A)))) _ _ w3
 have q6:D≠b3:=nN hD2 n3
 have q7:ra≠b3:=nN hr2 n3
 have q8:T≠b3:=nN hT2 n3
 have q9:X≠b3:=nN hX2 n3
 have qA:D≠c7:=nN (sE2A _ _ hD2) m7
 have qB:ra≠c7:=nN (sE2A _ _ hr2) m7
 have qC:T≠c7:=nN (sE2A _ _ hT2) m7
 have qD:X≠c7:=nN (sE2A _ _ hX2) m7
 have qE:b3≠c7:=nN hb2 m7
 have gX5:=(uED.trans uC5) _ _ ((sC.trans sD) _ _ gX)
 have gc5:=(u12.trans uC5) _ _ w11
 have gb5:=(u3C.trans uC5) _ _ w3
 have gk5:=SqT.of (K:=K) (uC5 _ _ w12)
 have gh5:=x25 _ _ g2
 have S85:Same H8 F5:=SD8.trans (uED.trans uC5)
 have i0:D∈[D,ra,T,X,c7,b3]:=by simp
 have i1:ra∈[D,ra,T,X,c7,b3]:=by simp
 have i2:T∈[D,ra,T,X,c7,b3]:=by simp
 have i3:X∈[D,ra,T,X,c7,b3]:=by simp
 have i4:c7∈[D,ra,T,X,c7,b3]:=by simp
 have i5:b3∈[D,ra,T,X,c7,b3]:=by simp
 have one:∀{A:Addr} {N:Hp} {o:HO},A∈[D,ra,T,X,c7,b3]→KeepX [D,ra,T,X,c7,b3] N (upd N A o):=fun hA=>keep_upd.sub fun c hc=>by rw [msp hc]; exact hA
 refine goS (ps_expr (pe_bm PySem.F.plainAttrs_list PySem.F.slot_list_append PySem.F.type_list_append mt_append (pv 1) (pK pI pN))) (fun R kk=>?_)
 refine ⟨_,rfl,.inl ⟨rfl,_,SqL.of dF5⟩,D,_,_,rfl,rfl,dF5,sK (by rw [lw]; omega),kk _ _ ?_⟩
 clear kk R
 have kN:KeepX [D,ra,T,X,c7,b3] F5 (upd F5 D (.lst (ws.map V.int++[.int 4]))):=one i0
 have gr1:=(uN (H:=F5) (o:=.lst (ws.map V.int++[.int 4])) q0.symm).trans L5.gr
 have gT1:=(uN (H:=F5) (o:=.lst (ws.map V.int++[.int 4])) q1.symm).trans gT5
 have gX1:=(uN (H:=F5) (o:=.lst (ws.map V.int++[.int 4])) q3.symm).trans gX5
 have gc1:=(uN (H:=F5) (o:=.lst (ws.map V.int++[.int 4])) qA.symm).trans gc5
 have gb1:=(uN (H:=F5) (o:=.lst (ws.map V.int++[.int 4])) q6.symm).trans gb5
 generalize upd F5 D _=N1 at kN gr1 gT1 gX1 gc1 gb1 ⊢
 have muF5:MutAll F5 [D,ra,T,X,c7,b3]:=muG.same (x4.trans x5)
 refine goS (@ps_setU _ 16 _ _ _ _ _ sc_law.nd rfl (Or.inl rfl) (pe_tup (pK (pe_ix ix_list (pe_lst (pK (pe_tup (pK pe_str (pK pI pN))) (pK (pe_tup (pK pe_str (pK pI pN))) pN))) (pe_callTy call_int1 rfl z_int bt_int (pK (pe_cmpR (op_eqD (hr.units)) (pe_ix ix_list (pv 4) (pe_un un_neg pI) (fun _ _=>rfl)) (pe_tup (pK pe_str pN)) (nomark _)) pN)) (fun _ _=>rfl)) (pK (pv 12) pN))) rfl (.inr rfl)) (fun R kk=>?_)
 obtain ⟨zp,zl,ezs,hzl⟩:=L5.ir.lastOf
 obtain ⟨tl,rfl,hTl⟩:=hzl
 refine ⟨sz2,fun t1' nt1=>⟨sz2,fun t2' nt2=>⟨sz2,fun lg nlg=>?_⟩⟩⟩
 have v1:=sN nt1 (.tup [.str "gave",.int 77])
 have o1':=uS (H:=N1) (a:=t1') (o:=.tup [.str "gave",.int 77])
 have v2:=sN nt2 (.tup [.str "fault",.int 77])
 have o2':=uS (H:=upd N1 t1' (.tup [.str "gave",.int 77])) (a:=t2') (o:=.tup [.str "fault",.int 77])
 have v3:=sN nlg (.lst [.ref t1',.ref t2'])
 have o3':=uS (H:=upd (upd N1 t1' (.tup [.str "gave",.int 77])) t2' (.tup [.str "fault",.int 77])) (a:=lg) (o:=.lst [.ref t1',.ref t2'])
 have vA:=v1.trans (v2.trans v3)
 have o1A:=(v2.trans v3) _ _ o1'
 have o2A:=v3 _ _ o2'
 generalize upd (upd (upd N1 t1' (.tup [.str "gave",.int 77])) t2' (.tup [.str "fault",.int 77])) lg (.lst [.ref t1',.ref t2'])=N2 at vA o1A o2A o3' ⊢
 clear v1 v2 v3 o1' o2' nt1 nt2 nlg
 have gr2:=vA _ _ gr1
 have kN2:=kN.trans (keep_of vA)
 have hTl2:SqT K N2 tl (rwV (.bare e)):=SqT.keep kN2 muF5 hTl
 refine ⟨_,rfl,_,rfl,ra,_,_,_,rfl,rfl,SqL.of gr2,(by rw [ezs]; exact atI_neg1),sz1,fun tt ntt=>?_⟩
 have v4:=sN ntt (.tup [.str "toss"])
 have o4:SqT K (upd N2 tt (.tup [.str "toss"])) tt (rwV (.bare "toss")):=SqT.of uS
 generalize upd N2 tt _=N3 at v4 o4 ⊢
 have sge:Rw.Sg (.bare e):=sg _ (by simp)
 have sgt:Rw.Sg (.bare "toss"):=(by decide +kernel:PyData.canLay0 (.str "toss")=true)
 have eqt:PyData.eqv (rwD (.bare e)) (rwD (.bare "toss"))=decide (e="toss"):=by
  rcases he with rfl | rfl <;> decide +kernel
 refine ⟨_,_,rd_rw (v4.tup hTl2),rd_rw o4,row_ok sge,row_ok sgt,.inr ⟨_,rfl,?_⟩⟩
 rw [eqt]
 have hat:atI [V.ref t1',V.ref t2'] (if decide (e="toss")=true then 1 else 0)=some (.ref (if e="toss" then t2' else t1')):=by
  by_cases z:e="toss"
  ·rw [decide_eq_true z,if_pos rfl,if_pos z]; exact aN (j:=1) rfl
  ·rw [decide_eq_false z,if_neg Bool.false_ne_true,if_neg z]; exact aN (j:=0) rfl
 have odt:SqT K N3 (if e="toss" then t2' else t1') [.str (if e="toss" then "fault" else "gave"),.int 77]:=by
  by_cases z:e="toss"
  ·rw [if_pos z,if_pos z]; exact SqT.of (v4 _ _ o2A)
  ·rw [if_neg z,if_neg z]; exact SqT.of (v4 _ _ o1A)
 refine ⟨lg,_,_,_,rfl,rfl,SqL.of (v4 _ _ o3'),hat,_,rfl,sz2,fun du ndu=>kk [some (.ref a),some (.ref D),some (.int (many:Int)),some (.int (h:Int)),some (.ref ra),some (.ref sa),some (.ref o7),some (.ref T),some (.ref X),some (.ref tm),some (.int (part:Int)),some (.ref bk),some (.int bud),some (.ref hl),some (.ref m1),some (.ref m2),some (.ref du)] _ ?_⟩
 clear kk R
 generalize (if e="toss" then t2' else t1')=dt at odt ⊢
 have v5':=sN ndu (.tup [.ref dt,.int bud])
 have odu:SqT K (upd N3 du (.tup [.ref dt,.int bud])) du [.ref dt,.int bud]:=SqT.of uS
 generalize upd N3 du _=N4 at v5' odu ⊢
 have v14:=vA.trans (v4.trans v5')
 have odt4:=v5'.tup odt
 have kN4:=kN.trans (keep_of v14)
 have gr4:=v14 _ _ gr1
 have gT4:=v14 _ _ gT1
 have gX4:=v14 _ _ gX1
 have gc4:=v14 _ _ gc1
 have gb4:=v14 _ _ gb1
 clear v14 v5' v4 vA odt o4 hat eqt hTl2 kN2 gr2 o1A o2A o3' gr1 gT1 gX1 gc1 gb1 kN ntt ndu
 refine goS (ps_expr (pe_bm0 PySem.F.plainAttrs_list PySem.F.slot_list_clear PySem.F.type_list_clear mt_clear (pv 4))) (fun R kk=>?_)
 refine ⟨_,rfl,.inl ⟨rfl,_,SqL.of gr4⟩,ra,_,rfl,rfl,gr4,kk _ _ ?_⟩
 clear kk R
 have mu4:MutAll N4 [ra,T,X,c7,b3]:=fun c hc=>by
  simp only [List.mem_cons,List.not_mem_nil,or_false] at hc
  rcases hc with rfl | rfl | rfl | rfl | rfl
  ·exact ⟨_,gr4,.inl ⟨_,rfl⟩⟩
  ·exact ⟨_,gT4,.inl ⟨_,rfl⟩⟩
  ·exact ⟨_,gX4,.inl ⟨_,rfl⟩⟩
  ·exact ⟨_,gc4,.inl ⟨_,rfl⟩⟩
  ·exact ⟨_,gb4,.inl ⟨_,rfl⟩⟩
 have j1:ra∈[ra,T,X,c7,b3]:=by simp
 have j2:T∈[ra,T,X,c7,b3]:=by simp
 have j3:X∈[ra,T,X,c7,b3]:=by simp
 have j4:c7∈[ra,T,X,c7,b3]:=by simp
 have j5:b3∈[ra,T,X,c7,b3]:=by simp
 have sub56:∀c∈[ra,T,X,c7,b3],c∈[D,ra,T,X,c7,b3]:=fun c hc=>List.mem_cons_of_mem _ hc
 have one5:∀{A:Addr} {N:Hp} {o:HO},A∈[ra,T,X,c7,b3]→KeepX [ra,T,X,c7,b3] N (upd N A o):=fun hA=>keep_upd.sub fun c hc=>by rw [msp hc]; exact hA
 have kM:KeepX [ra,T,X,c7,b3] N4 (upd N4 ra (.lst [])):=one5 j1
 have gr5:=uS (H:=N4) (a:=ra) (o:=.lst [])
 have gT5:=(uN (H:=N4) (o:=.lst []) q2.symm).trans gT4
 have gX5:=(uN (H:=N4) (o:=.lst []) q4.symm).trans gX4
 have gc5:=(uN (H:=N4) (o:=.lst []) qB.symm).trans gc4
 have gb5:=(uN (H:=N4) (o:=.lst []) q7.symm).trans gb4
 generalize upd N4 ra _=N5 at kM gr5 gT5 gX5 gc5 gb5 ⊢
 refine goS (ps_expr (pe_bm PySem.F.plainAttrs_list PySem.F.slot_list_append PySem.F.type_list_append mt_append (pv 7) (pK (pe_tup (pK pe_str pN)) pN))) (fun R kk=>?_)
 refine ⟨_,rfl,.inl ⟨rfl,_,SqL.of gT5⟩,sz1,fun ta nta=>?_⟩
 have v6:=sN nta (.tup [.str "any"])
 generalize upd N5 ta _=N6 at v6 ⊢
 refine ⟨T,_,_,rfl,rfl,v6 _ _ gT5,sK (by rw [kA.1,List.length_replicate]; omega),kk _ _ ?_⟩
 clear kk R
 have kM6:=(kM.trans (keep_of v6)).trans (one5 (o:=.lst (ks++[.ref ta])) (N:=N6) j2)
 have gr6:=(uN (H:=N6) (o:=.lst (ks++[.ref ta])) q2).trans (v6 _ _ gr5)
 have gX6:=(uN (H:=N6) (o:=.lst (ks++[.ref ta])) q5.symm).trans (v6 _ _ gX5)
 have gc6:=(uN (H:=N6) (o:=.lst (ks++[.ref ta])) qC.symm).trans (v6 _ _ gc5)
 have gb6:=(uN (H:=N6) (o:=.lst (ks++[.ref ta])) q8.symm).trans (v6 _ _ gb5)
 generalize upd N6 T _=N7 at kM6 gr6 gX6 gc6 gb6 ⊢
 have hl7:N7 hl=some (.lst zs):=kM6 _ _ (fun z=>notin mu1 nhl (sub56 _ z)) (kN4 _ _ (notin mu1 nhl) gh5)
 have lzs:zs.length≤102:=by have:=L5.ir.1; rw [this]; simp; omega
 refine goS (ps_expr (pe_bm PySem.F.plainAttrs_list PySem.F.slot_list_append PySem.F.type_list_append mt_append (pv 8) (pK (pe_tup (pK pI (pK (pe_callB call_len_seq rfl z_len bt_len (pK (pv 13) pN)) (pK pI pN)))) pN))) (fun R kk=>?_)
 refine ⟨_,rfl,.inl ⟨rfl,_,SqL.of gX6⟩,_,rfl,hl,_,rfl,.inl (SqL.of hl7),sz3,fun ts nts=>?_⟩
 have v8:=sN nts (.tup [.int 0,.int ((zs.length:Nat):Int),.int 0])
 generalize upd N7 ts _=N8 at v8 ⊢
 refine ⟨X,_,_,rfl,rfl,v8 _ _ gX6,sK (Nat.zero_le _),kk _ _ ?_⟩
 clear kk R
 have kM8:=(kM6.trans (keep_of v8)).trans (one5 (o:=.lst ([]++[.ref ts])) (N:=N8) j3)
 have gr8:=(uN (H:=N8) (o:=.lst ([]++[.ref ts])) q4).trans (v8 _ _ gr6)
 have gc8:=(uN (H:=N8) (o:=.lst ([]++[.ref ts])) qD.symm).trans (v8 _ _ gc6)
 have gb8:=(uN (H:=N8) (o:=.lst ([]++[.ref ts])) q9.symm).trans (v8 _ _ gb6)
 generalize upd N8 X _=N9 at kM8 gr8 gc8 gb8 ⊢
 have kN9:=kN4.trans (kM8.sub sub56)
 have gk9:=SqT.keep kN9 muF5 gk5
 refine goS (ps_expr (pe_bm0 PySem.F.plainAttrs_list PySem.F.slot_list_clear PySem.F.type_list_clear mt_clear (pe_ix ix_tup (pv 11) pI (fun _ _=>rfl)))) (fun R kk=>?_)
 refine ⟨_,rfl,bk,_,_,_,rfl,rfl,gk9,aN (j:=1) rfl,.inl ⟨rfl,_,SqL.of gc8⟩,c7,_,rfl,rfl,gc8,kk _ _ ?_⟩
 clear kk R
 have kMA:=kM8.trans (one5 (o:=.lst []) (N:=N9) j4)
 have grA:=(uN (H:=N9) (o:=.lst []) qB).trans gr8
 have gbA:=(uN (H:=N9) (o:=.lst []) qE).trans gb8
 generalize upd N9 c7 _=NA at kMA grA gbA ⊢
 have kNA:=kN4.trans (kMA.sub sub56)
 refine goS (ps_expr (pe_bm0 PySem.F.plainAttrs_list PySem.F.slot_list_clear PySem.F.type_list_clear mt_clear (pe_ix ix_tup (pv 11) pI (fun _ _=>rfl)))) (fun R kk=>?_)
 refine ⟨_,rfl,bk,_,_,_,rfl,rfl,SqT.keep kNA muF5 gk5,aN (j:=0) rfl,.inl ⟨rfl,_,SqL.of gbA⟩,b3,_,rfl,rfl,gbA,kk _ _ ?_⟩
 clear kk R
 have kMB:=kMA.trans (one5 (o:=.lst []) (N:=NA) j5)
 have grB:=(uN (H:=NA) (o:=.lst []) q7).trans grA
 generalize upd NA b3 _=NB at kMB grB ⊢
 have kNB:=kN4.trans (kMB.sub sub56)
 have oduB:=SqT.keep kMB mu4 odu
 have odtB:=SqT.keep kMB mu4 odt4
 clear kMA kM8 kM6 kM kNA kN9 gbA grA gc8 gb8 gr8 gr6 gX6 gc6 gb6 gr5 gT5 gX5 gc5 gb5 gk9 hl7 v8 v6
 have dj1:∀c∈foot ⟨m1,bb1,lv1,rc1,sd1,[(none,[])],ps,[f1],[],bud,[]⟩,c∉[D,ra,T,X,c7,b3]:=fun c hc=>notin muG (z1 c hc)
 have M1e:=M1'.keepG kNB muF5 dj1 BK1'
 have eS1:=mcS_new (x:=m1) (bb:=bb1) (lv:=lv1) (rc:=rc1) (sd:=sd1) (ms:=[(none,[])]) (ps:=ps) (bud:=bud) a1 b1 t1
 have eS2:=mcS_new (x:=m2) (bb:=bb2) (lv:=lv2) (rc:=rc2) (sd:=sd2) (ms:=[(none,[])]) (ps:=ps) (bud:=bud) a2 b2 t2
 have saF3:F3 sa=some (.lst ys):=(x2.trans x3) _ _ LF.gs
 have sa1:sa∉foot ⟨m1,bb1,lv1,rc1,sd1,[(none,[])],ps,[f1],[],bud,[]⟩:=fun z=>by rw [z1 _ z] at saF3; cases saF3
 have sa2:sa∉foot ⟨m2,bb2,lv2,rc2,sd2,[(none,[])],ps,[f2],[],bud,[]⟩:=fun z=>by have:=x4 _ _ saF3; rw [z2 _ z] at this; cases this
 have nT8:H8 T=none:=S9.free nT
 have nX8:H8 X=none:=(S9.trans sA).free nX
 have nb8:H8 b3=none:=(SD8.trans sDE2).free n3
 have nc8:H8 c7=none:=(SD8.trans (sDE2.trans sE2A)).free m7
 have keep8:∀c o,H8 c=some o→c∉[ra,sa,D]→NB c=some o:=fun c o hc nc=>by
  refine kNB c o (fun z=>?_) (S85 _ _ hc)
  simp only [List.mem_cons,List.not_mem_nil,or_false,not_or] at nc z
  rcases z with z | z | z | z | z | z
  ·exact nc.2.2 z
  ·exact nc.1 z
  ·rw [z,nT8] at hc; cases hc
  ·rw [z,nX8] at hc; cases hc
  ·rw [z,nc8] at hc; cases hc
  ·rw [z,nb8] at hc; cases hc
 have S83:Same H8 F3:=SD8.trans (uED.trans uC3)
 have saNB:NB sa=some (.lst ys):=kNB _ _ (fun z=>by
  simp only [List.mem_cons,List.not_mem_nil,or_false] at z
  have hs:=L.gs
  rcases z with z | z | z | z | z | z
  ·have:=L.ns; rw [z,d7] at this; cases this
  ·exact L.ne z.symm
  ·rw [z,nT8] at hs; cases hs
  ·rw [z,nX8] at hs; cases hs
  ·rw [z,nc8] at hs; cases hs
  ·rw [z,nb8] at hs; cases hs) L5.gs
 have nb:(ws.map some++List.replicate (many - ws.length) (none:Option Int)).length≤8:=by simp; omega
 have kpOf:∀(mm:Mc) (ff:Fm) (N:Hp),mm.ps=ps→mm.ms=[(none,[])]→mm.left=bud→ff.part=part→mcS mm ff 0 ⟨[],ws.map some++List.replicate (many - ws.length) none,[]⟩=mm→(∀c o,H8 c=some o→c∉[ra,sa,D]→c∉foot mm∧N c=some o)→sa∉foot mm→N sa=some (.lst ys)→SqT K N du [.ref dt,.int bud]→SqT K N dt [.str (if e="toss" then "fault" else "gave"),.int 77]→Kp K N mm ff sa du dt sts rs ys h (ws.map some++List.replicate (many - ws.length) (none:Option Int)).length ⟨[],ws.map some++List.replicate (many - ws.length) none,[]⟩ e ⟨List.replicate ws.length .num,.num,many,h,rs++[.bare e],[]⟩:=fun mm ff N e1 e2 e3 e4 e5 hk n1 g1 o1 o2=>{
  sl:=fun HX kX=>SqL.of (kX _ _ (by rw [e5]; exact n1) g1)
  it:=by
   rw [e5]
   refine L.is.imp fun y x hy=>?_
   obtain ⟨t',a',b',d',e',hX⟩:=hy
   exact ⟨t',a',b',d',e',fun HX kX=>hX HX (fun c o nc hc=>kX c o (hk c o hc nc).1 (hk c o hc nc).2)⟩
  du:=by rw [e3]; exact o1
  dt:=o2
  gr:=G
  pt:=by rw [e1,e4]; exact pj
  rw:=rfl
  he:=he
  hh:=rfl
  h8:=h8
  nb8:=nb
  sp:=rfl
  gv:=rfl
  wf:=by rw [e2]; exact wf1
  few:=hrs
  la:=⟨lo,s,l,hlo,hst⟩}
 have no1:∀c o,H8 c=some o→c∉foot ⟨m1,bb1,lv1,rc1,sd1,[(none,[])],ps,[f1],[],bud,[]⟩:=fun c o hc z=>by have:=S83 _ _ hc; rw [z1 _ z] at this; cases this
 have no2:∀c o,H8 c=some o→c∉foot ⟨m2,bb2,lv2,rc2,sd2,[(none,[])],ps,[f2],[],bud,[]⟩:=fun c o hc z=>by have:=x4 _ _ (S83 _ _ hc); rw [z2 _ z] at this; cases this
 obtain ⟨dxo,evo,obo,_⟩:=id M1e.ob
 refine goS (ps_if (PW.pt (pw_or (pt_not (pt_val (pe_callB call_isiO rfl z_isinstance bt_isinstance (pK (pv 14) (pK (pe_glob (v:=.ref C_Plain) rfl g_Plain rfl) pN))))) (pw_or1 (pt_not (pt_val (pe_ch h__law_keeps__Watched (hr.mono (by decide)) rfl (pK (pv 14) (pK (pv 10) (pK (pv 5) (pK pe_bl (pK (pv 16) pN))))))))))) (qO (ps_ret pe_bl)) pss_nil) (fun R kk=>?_)
 refine ⟨_,rfl,m1,C_Watched,dxo,_,_,_,_,rfl,obo,TyOf.ins obo cls_Watched iw_cl iw_sp iw_tk iw_mo,rfl,i_WP,_,rfl,iteF ?_⟩
 refine ⟨_,rfl,_,rfl,_,rfl,_,rfl,⟨m1,bb1,lv1,rc1,sd1,[(none,[])],ps,[f1],[],bud,[]⟩,f1,sa,du,dt,sts,rs,ys,h,_,_,e,_,(by rw [p1]; rfl),(by rw [eS1]; exact M1e),kpOf _ _ _ rfl rfl rfl p1 eS1 (fun c o hc nc=>⟨no1 c o hc,keep8 c o hc nc⟩) sa1 saNB oduB odtB,fun NC kC=>⟨_,rfl,iteF (kk _ NC ?_)⟩⟩
 clear kk R
 refine goE (ps_ret (pe_and (pe_ch h__law_keeps__Plain (hr.mono (by decide)) rfl (pK (pv 15) (pK (pv 10) (pK (pv 5) (pK pe_bl (pK (pv 16) pN)))))) (pe_one (pe_cmpR (op_eqD (hr.units)) (pv 4) (pe_lst pN) (nomark _))))) ?_
 rw [eS1] at kC
 have muM1:=M1e.mut
 have kC5:KeepX ([D,ra,T,X,c7,b3]++foot ⟨m1,bb1,lv1,rc1,sd1,[(none,[])],ps,[f1],[],bud,[]⟩) F5 NC:=(kNB.sub fun c hc=>List.mem_append_left _ hc).trans (kC.sub fun c hc=>List.mem_append_right _ hc)
 have M2e:=M2.keepG kC5 (muH.same x5) (fun c hc=>notin muH (z2 c hc)) BK2
 refine ⟨_,rfl,_,rfl,_,rfl,_,rfl,⟨m2,bb2,lv2,rc2,sd2,[(none,[])],ps,[f2],[],bud,[]⟩,f2,sa,du,dt,sts,rs,ys,h,_,_,e,_,(by rw [p2]; rfl),(by rw [eS2]; exact M2e),kpOf _ _ _ rfl rfl rfl p2 eS2 (fun c o hc nc=>⟨no2 c o hc,kC c o (no1 c o hc) (keep8 c o hc nc)⟩) sa2 (kC _ _ sa1 saNB) (SqT.keep kC muM1 oduB) (SqT.keep kC muM1 odtB),fun ND kD=>?_⟩
 rw [eS2] at kD
 have rF3:=(x2.trans x3) _ _ LF.gr
 have ra1:ra∉foot ⟨m1,bb1,lv1,rc1,sd1,[(none,[])],ps,[f1],[],bud,[]⟩:=fun z=>by rw [z1 _ z] at rF3; cases rF3
 have ra2:ra∉foot ⟨m2,bb2,lv2,rc2,sd2,[(none,[])],ps,[f2],[],bud,[]⟩:=fun z=>by have:=x4 _ _ rF3; rw [z2 _ z] at this; cases this
 have raD:=kD _ _ ra2 (kC _ _ ra1 grB)
 refine ⟨_,rfl,iteT ?_⟩
 refine ⟨_,rfl,sz0,fun le nle=>?_⟩
 exact ⟨.list [],.list [],.lst' (SqL.of ((sN nle _) _ _ raD)) .nil,.lst' (SqL.of uS) .nil,rfl,rfl,q _⟩
end
def DefK(K:Fgg)(n:Str)(s:Stmt):Prop:=∃f fd,PySem.W.nsIn K mainGlobals n=some (some (.ref f))∧Fun K n n s f fd
def MetK(K:Fgg)(f:Addr)(n q:Str)(s:Stmt):Prop:=(∃fd,Fun K n q s f fd)∧PySem.W.isFn K (.ref f)=true
theorem all_mk{l:PySem.W.OpenLaw}{w:World}{K:Fgg}{h:Heap}{mg:Str→Option Value}{fa f12 f13 f14 f15 f16 f21 f22 f23 f24 f27 f28 f29 f39 f40 f41 f46 f48 f49 f50 f51 f52:Addr}(X:K.In h)(G:h.Ns mainGlobals mg)(hfa:mg "law"=some (.ref fa))
  {od52 an52:Option Addr} {sl52:Array (Option Value)} {oc52 kV52 dc52 pm52 cd52 ct52:Value}
  {t_HALF t_TURN:Tok}
  {ep_ALWAYS:Nat}
  {r_ALWAYS_2 r_ALWAYS_5 r_ALWAYS_9 r_ALWAYS_11 r_ALWAYS_15 r_ALWAYS_17 r_ALWAYS_21 r_ALWAYS_24 r_ALWAYS_26 r_ALWAYS_30 r_ALWAYS_32 r_ALWAYS_36 r_ALWAYS_39 r_ALWAYS_41 r_ALWAYS_45 r_ALWAYS_48 r_ALWAYS_50 r_ALWAYS_54 r_ALWAYS_57 r_ALWAYS_59 r_ALWAYS_63 r_ALWAYS_66 r_ALWAYS_68 r_ALWAYS_72 r_ALWAYS_75 r_ALWAYS_77 r_ALWAYS_81 r_ALWAYS_84 r_ALWAYS_86 r_ALWAYS_90 r_ALWAYS_93 r_ALWAYS_95 r_ALWAYS_98 r_ALWAYS_102 r_ALWAYS_104 r_ALWAYS_109 r_ALWAYS_111 r_ALWAYS_114 r_ALWAYS_118 r_ALWAYS_120 r_ALWAYS_124 r_ALWAYS_126 d_ALWAYS:Addr} {t_ALWAYS_1 t_ALWAYS_4 t_ALWAYS_7 t_ALWAYS_8 t_ALWAYS_13 t_ALWAYS_14 t_ALWAYS_19 t_ALWAYS_20 t_ALWAYS_23 t_ALWAYS_28 t_ALWAYS_29 t_ALWAYS_34 t_ALWAYS_35 t_ALWAYS_38 t_ALWAYS_43 t_ALWAYS_44 t_ALWAYS_47 t_ALWAYS_52 t_ALWAYS_53 t_ALWAYS_56 t_ALWAYS_61 t_ALWAYS_62 t_ALWAYS_65 t_ALWAYS_70 t_ALWAYS_71 t_ALWAYS_74 t_ALWAYS_79 t_ALWAYS_80 t_ALWAYS_83 t_ALWAYS_88 t_ALWAYS_89 t_ALWAYS_92 t_ALWAYS_97 t_ALWAYS_100 t_ALWAYS_101 t_ALWAYS_106 t_ALWAYS_107 t_ALWAYS_108 t_ALWAYS_113 t_ALWAYS_116 t_ALWAYS_117 t_ALWAYS_122 t_ALWAYS_123:Tok}
  {r_GOING_4:Addr} {t_GOING_1 t_GOING_2 t_GOING_3:Tok}
  {ep_LEFT:Nat}
  {d_LEFT:Addr} {t_LEFT_1 t_LEFT_2 t_LEFT_3 t_LEFT_4 t_LEFT_5 t_LEFT_6 t_LEFT_7 t_LEFT_8 t_LEFT_9 t_LEFT_10 t_LEFT_11 t_LEFT_12 t_LEFT_13 t_LEFT_14 t_LEFT_15 t_LEFT_16 t_LEFT_17 t_LEFT_18 t_LEFT_19 t_LEFT_20:Tok}
  {r_OF_RECORDS_6:Addr} {t_OF_RECORDS_1 t_OF_RECORDS_2 t_OF_RECORDS_3 t_OF_RECORDS_4 t_OF_RECORDS_5:Tok}
  {r_RECKONING_8:Addr} {t_RECKONING_1 t_RECKONING_2 t_RECKONING_3 t_RECKONING_4 t_RECKONING_5 t_RECKONING_6 t_RECKONING_7:Tok}
  {C_Frame:Addr} (gp_Frame:PySem.W.nsIn K mainGlobals "Frame"=some (some (.ref C_Frame)))
  (pg_Frame:PySem.W.plainGet K C_Frame Str.empty=true)
  (hd_Frame:PySem.W.hasDictIn K C_Frame=true)
  (po_Frame:PySem.W.plainOver K C_Frame=true)
  (sa_Frame:PySem.W.findIn K (.ref C_Frame) "__setattr__"=some (some (.builtin "object.__setattr__")))
  (mk_Frame:PySem.W.makesIn K C_Frame=true)
  (kc_Frame:PySem.W.keepIn K (.ref C_Frame)=true)
  (na_part_Frame:PySem.W.findIn K (.ref C_Frame) "part"=some none)
  (na_at_Frame:PySem.W.findIn K (.ref C_Frame) "at"=some none)
  (na_boxes_Frame:PySem.W.findIn K (.ref C_Frame) "boxes"=some none)
  (na_stack_Frame:PySem.W.findIn K (.ref C_Frame) "stack"=some none)
  (fm_Frame___init__:PySem.W.findIn K (.ref C_Frame) "__init__"=some (some (.ref f46)))
  {C_Plain:Addr} (gp_Plain:PySem.W.nsIn K mainGlobals "Plain"=some (some (.ref C_Plain)))
  (pg_Plain:PySem.W.plainGet K C_Plain Str.empty=true)
  (hd_Plain:PySem.W.hasDictIn K C_Plain=true)
  (po_Plain:PySem.W.plainOver K C_Plain=true)
  (sa_Plain:PySem.W.findIn K (.ref C_Plain) "__setattr__"=some (some (.builtin "object.__setattr__")))
  (mk_Plain:PySem.W.makesIn K C_Plain=true)
  (kc_Plain:PySem.W.keepIn K (.ref C_Plain)=true)
  (na_book_Plain:PySem.W.findIn K (.ref C_Plain) "book"=some none)
  (na_live_Plain:PySem.W.findIn K (.ref C_Plain) "live"=some none)
  (na_records_Plain:PySem.W.findIn K (.ref C_Plain) "records"=some none)
  (na_said_Plain:PySem.W.findIn K (.ref C_Plain) "said"=some none)
  (na_left_Plain:PySem.W.findIn K (.ref C_Plain) "left"=some none)
  (na_end_Plain:PySem.W.findIn K (.ref C_Plain) "end"=some none)
  (fm_Plain_frames:PySem.W.findIn K (.ref C_Plain) "frames"=some (some (.ref f12)))
  (fm_Plain_heap:PySem.W.findIn K (.ref C_Plain) "heap"=some (some (.ref f13)))
  (fm_Plain_bare:PySem.W.findIn K (.ref C_Plain) "bare"=some (some (.ref f14)))
  (fm_Plain_do_give:PySem.W.findIn K (.ref C_Plain) "do_give"=some (some (.ref f16)))
  (fm_Plain_tagged:PySem.W.findIn K (.ref C_Plain) "tagged"=some (some (.ref f21)))
  (fm_Plain_do_reckoning:PySem.W.findIn K (.ref C_Plain) "do_reckoning"=some (some (.ref f23)))
  (fm_Plain_do_straight:PySem.W.findIn K (.ref C_Plain) "do_straight"=some (some (.ref f24)))
  (fm_Plain_fault:PySem.W.findIn K (.ref C_Plain) "fault"=some (some (.ref f27)))
  (fm_Plain_do_row:PySem.W.findIn K (.ref C_Plain) "do_row"=some (some (.ref f28)))
  (fm_Plain_looked:PySem.W.findIn K (.ref C_Plain) "looked"=some (some (.ref f29)))
  (fm_Plain_step:PySem.W.findIn K (.ref C_Plain) "step"=some (some (.ref f40)))
  (fm_Plain_told:PySem.W.findIn K (.ref C_Plain) "told"=some (some (.ref f41)))
  (fm_Plain_nothing:PySem.W.findIn K (.ref C_Plain) "nothing"=some (some (.ref f48)))
  (fm_Plain_add_frame:PySem.W.findIn K (.ref C_Plain) "add_frame"=some (some (.ref f50)))
  (fm_Plain___init__:PySem.W.findIn K (.ref C_Plain) "__init__"=some (some (.ref f51)))
  {C_Watched:Addr} (gp_Watched:PySem.W.nsIn K mainGlobals "Watched"=some (some (.ref C_Watched)))
  (pg_Watched:PySem.W.plainGet K C_Watched Str.empty=true)
  (hd_Watched:PySem.W.hasDictIn K C_Watched=true)
  (po_Watched:PySem.W.plainOver K C_Watched=true)
  (sa_Watched:PySem.W.findIn K (.ref C_Watched) "__setattr__"=some (some (.builtin "object.__setattr__")))
  (mk_Watched:PySem.W.makesIn K C_Watched=true)
  (kc_Watched:PySem.W.keepIn K (.ref C_Watched)=true)
  (na_book_Watched:PySem.W.findIn K (.ref C_Watched) "book"=some none)
  (na_live_Watched:PySem.W.findIn K (.ref C_Watched) "live"=some none)
  (na_records_Watched:PySem.W.findIn K (.ref C_Watched) "records"=some none)
  (na_said_Watched:PySem.W.findIn K (.ref C_Watched) "said"=some none)
  (na_left_Watched:PySem.W.findIn K (.ref C_Watched) "left"=some none)
  (na_end_Watched:PySem.W.findIn K (.ref C_Watched) "end"=some none)
  (fm_Watched_frames:PySem.W.findIn K (.ref C_Watched) "frames"=some (some (.ref f12)))
  (fm_Watched_heap:PySem.W.findIn K (.ref C_Watched) "heap"=some (some (.ref f13)))
  (fm_Watched_bare:PySem.W.findIn K (.ref C_Watched) "bare"=some (some (.ref f15)))
  (fm_Watched_do_give:PySem.W.findIn K (.ref C_Watched) "do_give"=some (some (.ref f16)))
  (fm_Watched_tagged:PySem.W.findIn K (.ref C_Watched) "tagged"=some (some (.ref f22)))
  (fm_Watched_do_reckoning:PySem.W.findIn K (.ref C_Watched) "do_reckoning"=some (some (.ref f23)))
  (fm_Watched_do_straight:PySem.W.findIn K (.ref C_Watched) "do_straight"=some (some (.ref f24)))
  (fm_Watched_fault:PySem.W.findIn K (.ref C_Watched) "fault"=some (some (.ref f27)))
  (fm_Watched_do_row:PySem.W.findIn K (.ref C_Watched) "do_row"=some (some (.ref f28)))
  (fm_Watched_looked:PySem.W.findIn K (.ref C_Watched) "looked"=some (some (.ref f39)))
  (fm_Watched_step:PySem.W.findIn K (.ref C_Watched) "step"=some (some (.ref f40)))
  (fm_Watched_told:PySem.W.findIn K (.ref C_Watched) "told"=some (some (.ref f41)))
  (fm_Watched_nothing:PySem.W.findIn K (.ref C_Watched) "nothing"=some (some (.ref f49)))
  (fm_Watched_add_frame:PySem.W.findIn K (.ref C_Watched) "add_frame"=some (some (.ref f50)))
  (fm_Watched___init__:PySem.W.findIn K (.ref C_Watched) "__init__"=some (some (.ref f51)))
  (d0:DefK K "_law_cell" s_law_cell)
  (d1:DefK K "_law_wrapped" s_law_wrapped)
  (d2:DefK K "_law_reckoned" s_law_reckoned)
  (d3:DefK K "_law_done" s_law_done)
  (d4:DefK K "_law_fit" s_law_fit)
  (d5:DefK K "_law_word" s_law_word)
  (d6:DefK K "_law_row" s_law_row)
  (d7:DefK K "_law_grown" s_law_grown)
  (d8:DefK K "_law_bare" s_law_bare)
  (d9:DefK K "_law_no_truths" s_law_no_truths)
  (d10:DefK K "_law_tagged" s_law_tagged)
  (d11:DefK K "frame_told" s_frame_told)
  (l12:MetK K f12 "frames" "Plain.frames" s_Plain_frames)
  (l13:MetK K f13 "heap" "Plain.heap" s_Plain_heap)
  (l14:MetK K f14 "bare" "Plain.bare" s_Plain_bare)
  (l15:MetK K f15 "bare" "Watched.bare" s_Watched_bare)
  (l16:MetK K f16 "do_give" "Plain.do_give" s_Plain_do_give)
  (d17:DefK K "wrapped" s_wrapped)
  (d18:DefK K "divided" s_divided)
  (d19:DefK K "reckoned" s_reckoned)
  (d20:DefK K "taken" s_taken)
  (l21:MetK K f21 "tagged" "Plain.tagged" s_Plain_tagged)
  (l22:MetK K f22 "tagged" "Watched.tagged" s_Watched_tagged)
  (l23:MetK K f23 "do_reckoning" "Plain.do_reckoning" s_Plain_do_reckoning)
  (l24:MetK K f24 "do_straight" "Plain.do_straight" s_Plain_do_straight)
  (d25:DefK K "catcher" s_catcher)
  (d26:DefK K "caught_at" s_caught_at)
  (l27:MetK K f27 "fault" "Plain.fault" s_Plain_fault)
  (l28:MetK K f28 "do_row" "Plain.do_row" s_Plain_do_row)
  (l29:MetK K f29 "looked" "Plain.looked" s_Plain_looked)
  (d30:DefK K "elders_of" s_elders_of)
  (d31:DefK K "fields_of" s_fields_of)
  (d32:DefK K "full_mask" s_full_mask)
  (d33:DefK K "asked_of_records" s_asked_of_records)
  (d34:DefK K "asked" s_asked)
  (d35:DefK K "is_under" s_is_under)
  (d36:DefK K "record_has_kind" s_record_has_kind)
  (d37:DefK K "has_kind" s_has_kind)
  (d38:DefK K "leaves" s_leaves)
  (l39:MetK K f39 "looked" "Watched.looked" s_Watched_looked)
  (l40:MetK K f40 "step" "Plain.step" s_Plain_step)
  (l41:MetK K f41 "told" "Plain.told" s_Plain_told)
  (d42:DefK K "_law_keeps" s_law_keeps)
  (d43:DefK K "is_door" s_is_door)
  (d44:DefK K "check_door" s_check_door)
  (d45:DefK K "copied" s_copied)
  (l46:MetK K f46 "__init__" "Frame.__init__" s_Frame___init__)
  (d47:DefK K "started" s_started)
  (l48:MetK K f48 "nothing" "Plain.nothing" s_Plain_nothing)
  (l49:MetK K f49 "nothing" "Watched.nothing" s_Watched_nothing)
  (l50:MetK K f50 "add_frame" "Plain.add_frame" s_Plain_add_frame)
  (l51:MetK K f51 "__init__" "Plain.__init__" s_Plain___init__)
  (a52:PySem.W.nsIn K mainGlobals "law"=some (some (.ref f52))) (l52:K.lookup f52=some ⟨oc52,od52,.func (PySem.W.fnOf "law" "law" (dA s_law) (dB s_law) (dS s_law) .none kV52 dc52 pm52 an52 cd52 ct52),sl52⟩) (c52:PySem.W.codeIn K cd52 "law"=true) (k52:PySem.W.keepIn K (.ref f52)=true)
  (g_HALF:PySem.W.nsIn K mainGlobals "HALF"=some (some (.int 2147483648 t_HALF)))
  (g_TURN:PySem.W.nsIn K mainGlobals "TURN"=some (some (.int 4294967296 t_TURN)))
  (i_WP:PySem.W.kitOne K (.ref C_Watched) (.ref C_Plain)=some true)
  (iw_cl:PySem.W.findIn K (.ref C_Watched) "__class__"=some (some (.builtin "object.__class__")))
  (iw_sp:PySem.W.specialIn K (.builtin "object.__class__") "__get__"=some (some (.builtin "getset_descriptor.__get__")))
  (iw_tk:PySem.W.takesIn K (.builtin "object.__class__")=some true)
  (iw_mo:PySem.W.mroIn K C_Watched (.type "object")=some true)
  (g_ALWAYS:PySem.W.nsIn K mainGlobals "ALWAYS"=some (some (.ref d_ALWAYS)))
  (n_ALWAYS_129:(d_ALWAYS == sysModules)=false)
  (q_ALWAYS_128:K.lookup d_ALWAYS=some {cls:=.type "dict",data:=.dict #[{hash:=PyData.keyHash w.params "push",key:=.str "push" t_ALWAYS_1,val:=.ref r_ALWAYS_2},{hash:=PyData.keyHash w.params "load",key:=.str "load" t_ALWAYS_4,val:=.ref r_ALWAYS_5},{hash:=PyData.keyHash w.params "store",key:=.str "store" t_ALWAYS_7,val:=.ref r_ALWAYS_11},{hash:=PyData.keyHash w.params "dup",key:=.str "dup" t_ALWAYS_13,val:=.ref r_ALWAYS_17},{hash:=PyData.keyHash w.params "swap",key:=.str "swap" t_ALWAYS_19,val:=.ref r_ALWAYS_26},{hash:=PyData.keyHash w.params "drop",key:=.str "drop" t_ALWAYS_28,val:=.ref r_ALWAYS_32},{hash:=PyData.keyHash w.params "add",key:=.str "add" t_ALWAYS_34,val:=.ref r_ALWAYS_41},{hash:=PyData.keyHash w.params "sub",key:=.str "sub" t_ALWAYS_43,val:=.ref r_ALWAYS_50},{hash:=PyData.keyHash w.params "mul",key:=.str "mul" t_ALWAYS_52,val:=.ref r_ALWAYS_59},{hash:=PyData.keyHash w.params "div",key:=.str "div" t_ALWAYS_61,val:=.ref r_ALWAYS_68},{hash:=PyData.keyHash w.params "rem",key:=.str "rem" t_ALWAYS_70,val:=.ref r_ALWAYS_77},{hash:=PyData.keyHash w.params "less",key:=.str "less" t_ALWAYS_79,val:=.ref r_ALWAYS_86},{hash:=PyData.keyHash w.params "same",key:=.str "same" t_ALWAYS_88,val:=.ref r_ALWAYS_95},{hash:=PyData.keyHash w.params "jump",key:=.str "jump" t_ALWAYS_97,val:=.ref r_ALWAYS_98},{hash:=PyData.keyHash w.params "zero",key:=.str "zero" t_ALWAYS_100,val:=.ref r_ALWAYS_104},{hash:=PyData.keyHash w.params "kin",key:=.str "kin" t_ALWAYS_106,val:=.ref r_ALWAYS_111},{hash:=PyData.keyHash w.params "make",key:=.str "make" t_ALWAYS_113,val:=.ref r_ALWAYS_114},{hash:=PyData.keyHash w.params "toss",key:=.str "toss" t_ALWAYS_116,val:=.ref r_ALWAYS_120},{hash:=PyData.keyHash w.params "say",key:=.str "say" t_ALWAYS_122,val:=.ref r_ALWAYS_126}] ep_ALWAYS})
  (q_ALWAYS_127:K.lookup r_ALWAYS_126=some {cls:=.type "tuple",data:=.seq #[.ref r_ALWAYS_124] 0})
  (q_ALWAYS_125:K.lookup r_ALWAYS_124=some {cls:=.type "tuple",data:=.seq #[.str "number" t_ALWAYS_123] 0})
  (q_ALWAYS_121:K.lookup r_ALWAYS_120=some {cls:=.type "tuple",data:=.seq #[.ref r_ALWAYS_118] 0})
  (q_ALWAYS_119:K.lookup r_ALWAYS_118=some {cls:=.type "tuple",data:=.seq #[.str "number" t_ALWAYS_117] 0})
  (q_ALWAYS_115:K.lookup r_ALWAYS_114=some {cls:=.type "tuple",data:=.seq #[] 0})
  (q_ALWAYS_112:K.lookup r_ALWAYS_111=some {cls:=.type "tuple",data:=.seq #[.ref r_ALWAYS_109] 0})
  (q_ALWAYS_110:K.lookup r_ALWAYS_109=some {cls:=.type "tuple",data:=.seq #[.str "whole" t_ALWAYS_107,.int 0 t_ALWAYS_108] 0})
  (q_ALWAYS_105:K.lookup r_ALWAYS_104=some {cls:=.type "tuple",data:=.seq #[.ref r_ALWAYS_102] 0})
  (q_ALWAYS_103:K.lookup r_ALWAYS_102=some {cls:=.type "tuple",data:=.seq #[.str "number" t_ALWAYS_101] 0})
  (q_ALWAYS_99:K.lookup r_ALWAYS_98=some {cls:=.type "tuple",data:=.seq #[] 0})
  (q_ALWAYS_96:K.lookup r_ALWAYS_95=some {cls:=.type "tuple",data:=.seq #[.ref r_ALWAYS_90,.ref r_ALWAYS_93] 0})
  (q_ALWAYS_94:K.lookup r_ALWAYS_93=some {cls:=.type "tuple",data:=.seq #[.str "number" t_ALWAYS_92] 0})
  (q_ALWAYS_91:K.lookup r_ALWAYS_90=some {cls:=.type "tuple",data:=.seq #[.str "number" t_ALWAYS_89] 0})
  (q_ALWAYS_87:K.lookup r_ALWAYS_86=some {cls:=.type "tuple",data:=.seq #[.ref r_ALWAYS_81,.ref r_ALWAYS_84] 0})
  (q_ALWAYS_85:K.lookup r_ALWAYS_84=some {cls:=.type "tuple",data:=.seq #[.str "number" t_ALWAYS_83] 0})
  (q_ALWAYS_82:K.lookup r_ALWAYS_81=some {cls:=.type "tuple",data:=.seq #[.str "number" t_ALWAYS_80] 0})
  (q_ALWAYS_78:K.lookup r_ALWAYS_77=some {cls:=.type "tuple",data:=.seq #[.ref r_ALWAYS_72,.ref r_ALWAYS_75] 0})
  (q_ALWAYS_76:K.lookup r_ALWAYS_75=some {cls:=.type "tuple",data:=.seq #[.str "number" t_ALWAYS_74] 0})
  (q_ALWAYS_73:K.lookup r_ALWAYS_72=some {cls:=.type "tuple",data:=.seq #[.str "number" t_ALWAYS_71] 0})
  (q_ALWAYS_69:K.lookup r_ALWAYS_68=some {cls:=.type "tuple",data:=.seq #[.ref r_ALWAYS_63,.ref r_ALWAYS_66] 0})
  (q_ALWAYS_67:K.lookup r_ALWAYS_66=some {cls:=.type "tuple",data:=.seq #[.str "number" t_ALWAYS_65] 0})
  (q_ALWAYS_64:K.lookup r_ALWAYS_63=some {cls:=.type "tuple",data:=.seq #[.str "number" t_ALWAYS_62] 0})
  (q_ALWAYS_60:K.lookup r_ALWAYS_59=some {cls:=.type "tuple",data:=.seq #[.ref r_ALWAYS_54,.ref r_ALWAYS_57] 0})
  (q_ALWAYS_58:K.lookup r_ALWAYS_57=some {cls:=.type "tuple",data:=.seq #[.str "number" t_ALWAYS_56] 0})
  (q_ALWAYS_55:K.lookup r_ALWAYS_54=some {cls:=.type "tuple",data:=.seq #[.str "number" t_ALWAYS_53] 0})
  (q_ALWAYS_51:K.lookup r_ALWAYS_50=some {cls:=.type "tuple",data:=.seq #[.ref r_ALWAYS_45,.ref r_ALWAYS_48] 0})
  (q_ALWAYS_49:K.lookup r_ALWAYS_48=some {cls:=.type "tuple",data:=.seq #[.str "number" t_ALWAYS_47] 0})
  (q_ALWAYS_46:K.lookup r_ALWAYS_45=some {cls:=.type "tuple",data:=.seq #[.str "number" t_ALWAYS_44] 0})
  (q_ALWAYS_42:K.lookup r_ALWAYS_41=some {cls:=.type "tuple",data:=.seq #[.ref r_ALWAYS_36,.ref r_ALWAYS_39] 0})
  (q_ALWAYS_40:K.lookup r_ALWAYS_39=some {cls:=.type "tuple",data:=.seq #[.str "number" t_ALWAYS_38] 0})
  (q_ALWAYS_37:K.lookup r_ALWAYS_36=some {cls:=.type "tuple",data:=.seq #[.str "number" t_ALWAYS_35] 0})
  (q_ALWAYS_33:K.lookup r_ALWAYS_32=some {cls:=.type "tuple",data:=.seq #[.ref r_ALWAYS_30] 0})
  (q_ALWAYS_31:K.lookup r_ALWAYS_30=some {cls:=.type "tuple",data:=.seq #[.str "any" t_ALWAYS_29] 0})
  (q_ALWAYS_27:K.lookup r_ALWAYS_26=some {cls:=.type "tuple",data:=.seq #[.ref r_ALWAYS_21,.ref r_ALWAYS_24] 0})
  (q_ALWAYS_25:K.lookup r_ALWAYS_24=some {cls:=.type "tuple",data:=.seq #[.str "any" t_ALWAYS_23] 0})
  (q_ALWAYS_22:K.lookup r_ALWAYS_21=some {cls:=.type "tuple",data:=.seq #[.str "any" t_ALWAYS_20] 0})
  (q_ALWAYS_18:K.lookup r_ALWAYS_17=some {cls:=.type "tuple",data:=.seq #[.ref r_ALWAYS_15] 0})
  (q_ALWAYS_16:K.lookup r_ALWAYS_15=some {cls:=.type "tuple",data:=.seq #[.str "any" t_ALWAYS_14] 0})
  (q_ALWAYS_12:K.lookup r_ALWAYS_11=some {cls:=.type "tuple",data:=.seq #[.ref r_ALWAYS_9] 0})
  (q_ALWAYS_10:K.lookup r_ALWAYS_9=some {cls:=.type "tuple",data:=.seq #[.str "any" t_ALWAYS_8] 0})
  (q_ALWAYS_6:K.lookup r_ALWAYS_5=some {cls:=.type "tuple",data:=.seq #[] 0})
  (q_ALWAYS_3:K.lookup r_ALWAYS_2=some {cls:=.type "tuple",data:=.seq #[] 0})
  (g_GOING:PySem.W.nsIn K mainGlobals "GOING"=some (some (.ref r_GOING_4)))
  (q_GOING_5:K.lookup r_GOING_4=some {cls:=.type "tuple",data:=.seq #[.str "jump" t_GOING_1,.str "zero" t_GOING_2,.str "kin" t_GOING_3] 0})
  (g_LEFT:PySem.W.nsIn K mainGlobals "LEFT"=some (some (.ref d_LEFT)))
  (n_LEFT_22:(d_LEFT == sysModules)=false)
  (q_LEFT_21:K.lookup d_LEFT=some {cls:=.type "dict",data:=.dict #[{hash:=PyData.keyHash w.params "store",key:=.str "store" t_LEFT_1,val:=.int 0 t_LEFT_2},{hash:=PyData.keyHash w.params "dup",key:=.str "dup" t_LEFT_3,val:=.int 2 t_LEFT_4},{hash:=PyData.keyHash w.params "swap",key:=.str "swap" t_LEFT_5,val:=.int 2 t_LEFT_6},{hash:=PyData.keyHash w.params "drop",key:=.str "drop" t_LEFT_7,val:=.int 0 t_LEFT_8},{hash:=PyData.keyHash w.params "jump",key:=.str "jump" t_LEFT_9,val:=.int 0 t_LEFT_10},{hash:=PyData.keyHash w.params "zero",key:=.str "zero" t_LEFT_11,val:=.int 0 t_LEFT_12},{hash:=PyData.keyHash w.params "put",key:=.str "put" t_LEFT_13,val:=.int 0 t_LEFT_14},{hash:=PyData.keyHash w.params "toss",key:=.str "toss" t_LEFT_15,val:=.int 0 t_LEFT_16},{hash:=PyData.keyHash w.params "say",key:=.str "say" t_LEFT_17,val:=.int 0 t_LEFT_18},{hash:=PyData.keyHash w.params "give",key:=.str "give" t_LEFT_19,val:=.int 0 t_LEFT_20}] ep_LEFT})
  (g_OF_RECORDS:PySem.W.nsIn K mainGlobals "OF_RECORDS"=some (some (.ref r_OF_RECORDS_6)))
  (q_OF_RECORDS_7:K.lookup r_OF_RECORDS_6=some {cls:=.type "tuple",data:=.seq #[.str "make" t_OF_RECORDS_1,.str "fill" t_OF_RECORDS_2,.str "begin" t_OF_RECORDS_3,.str "get" t_OF_RECORDS_4,.str "put" t_OF_RECORDS_5] 0})
  (g_RECKONING:PySem.W.nsIn K mainGlobals "RECKONING"=some (some (.ref r_RECKONING_8)))
  (q_RECKONING_9:K.lookup r_RECKONING_8=some {cls:=.type "tuple",data:=.seq #[.str "add" t_RECKONING_1,.str "sub" t_RECKONING_2,.str "mul" t_RECKONING_3,.str "div" t_RECKONING_4,.str "rem" t_RECKONING_5,.str "less" t_RECKONING_6,.str "same" t_RECKONING_7] 0})
  (z_all:PySem.W.nsIn K mainGlobals "all"=some none)
  (z_bool:PySem.W.nsIn K mainGlobals "bool"=some none)
  (z_enumerate:PySem.W.nsIn K mainGlobals "enumerate"=some none)
  (z_int:PySem.W.nsIn K mainGlobals "int"=some none)
  (z_isinstance:PySem.W.nsIn K mainGlobals "isinstance"=some none)
  (z_len:PySem.W.nsIn K mainGlobals "len"=some none)
  (z_list:PySem.W.nsIn K mainGlobals "list"=some none)
  (z_max:PySem.W.nsIn K mainGlobals "max"=some none)
  (z_min:PySem.W.nsIn K mainGlobals "min"=some none)
  (z_range:PySem.W.nsIn K mainGlobals "range"=some none)
  (z_tuple:PySem.W.nsIn K mainGlobals "tuple"=some none)
  (z_zip:PySem.W.nsIn K mainGlobals "zip"=some none)
  : ∃fd:FuncData,(∀(s:Shared) (v:Value),BindsTo s fd ⟨[v],[]⟩ [("_law_script",v)])∧∀base:Heap,K.In base→base.Ns mainGlobals mg→FnOk l.prog w K mg base CX0 9 fa fd ["_law_script"] (sp_law K):=by
 have e:=hfa.symm.trans (PySem.W.mg_of X G a52)
 cases e
 obtain ⟨f0,fd0,a0,F0⟩:=d0
 have k0:=F0.kp
 have b0:=F0.binds (ps:=["_law_script","_law_k"]) fun _ _ _ _ _ _=>ln2 (fun _ _=>by rfl)
 obtain ⟨f1,fd1,a1,F1⟩:=d1
 have k1:=F1.kp
 have b1:=F1.binds (ps:=["_law_number"]) fun _ _ _ _ _ _=>ln1 (fun _=>by rfl)
 obtain ⟨f2,fd2,a2,F2⟩:=d2
 have k2:=F2.kp
 have b2:=F2.binds (ps:=["_law_sign","_law_one","_law_other"]) fun _ _ _ _ _ _=>ln3 (fun _ _ _=>by rfl)
 obtain ⟨f3,fd3,a3,F3⟩:=d3
 have k3:=F3.kp
 have b3:=F3.binds (ps:=["_law_stack","_law_boxes","_law_said","_law_row_here"]) fun _ _ _ _ _ _=>ln4 (fun _ _ _ _=>by rfl)
 obtain ⟨f4,fd4,a4,F4⟩:=d4
 have k4:=F4.kp
 have b4:=F4.binds (ps:=["_law_stack","_law_height"]) fun _ _ _ _ _ _=>ln2 (fun _ _=>by rfl)
 obtain ⟨f5,fd5,a5,F5⟩:=d5
 have k5:=F5.kp
 have b5:=F5.binds (ps:=["_law_cell_here"]) fun _ _ _ _ _ _=>ln1 (fun _=>by rfl)
 obtain ⟨f6,fd6,a6,F6⟩:=d6
 have k6:=F6.kp
 have b6:=F6.binds (ps:=["_law_stack","_law_boxes","_law_height","_law_cell_here","_law_other"]) fun _ _ _ _ _ _=>ln5 (fun _ _ _ _ _=>by rfl)
 obtain ⟨f7,fd7,a7,F7⟩:=d7
 have k7:=F7.kp
 have b7:=F7.binds (ps:=["_law_script","_law_boxes","_law_height"]) fun _ _ _ _ _ _=>ln3 (fun _ _ _=>by rfl)
 obtain ⟨f8,fd8,a8,F8⟩:=d8
 have k8:=F8.kp
 have b8:=F8.binds (ps:=["_law_value"]) fun _ _ _ _ _ _=>ln1 (fun _=>by rfl)
 obtain ⟨f9,fd9,a9,F9⟩:=d9
 have k9:=F9.kp
 have b9:=F9.binds (ps:=["_law_some"]) fun _ _ _ _ _ _=>ln1 (fun _=>by rfl)
 obtain ⟨f10,fd10,a10,F10⟩:=d10
 have k10:=F10.kp
 have b10:=F10.binds (ps:=["_law_some","_law_watched"]) fun _ _ _ _ _ _=>ln2 (fun _ _=>by rfl)
 obtain ⟨f11,fd11,a11,F11⟩:=d11
 have k11:=F11.kp
 have b11:=F11.binds (ps:=["frame"]) fun _ _ _ _ _ _=>ln1 (fun _=>by rfl)
 obtain ⟨⟨fd12,F12⟩,q12⟩:=l12
 have k12:=F12.kp
 have b12:=F12.binds (ps:=["self"]) fun _ _ _ _ _ _=>ln1 (fun _=>by rfl)
 obtain ⟨⟨fd13,F13⟩,q13⟩:=l13
 have k13:=F13.kp
 have b13:=F13.binds (ps:=["self"]) fun _ _ _ _ _ _=>ln1 (fun _=>by rfl)
 obtain ⟨⟨fd14,F14⟩,q14⟩:=l14
 have k14:=F14.kp
 have b14:=F14.binds (ps:=["self","value"]) fun _ _ _ _ _ _=>ln2 (fun _ _=>by rfl)
 obtain ⟨⟨fd15,F15⟩,q15⟩:=l15
 have k15:=F15.kp
 have b15:=F15.binds (ps:=["self","value"]) fun _ _ _ _ _ _=>ln2 (fun _ _=>by rfl)
 obtain ⟨⟨fd16,F16⟩,q16⟩:=l16
 have k16:=F16.kp
 have b16:=F16.binds (ps:=["self","frame"]) fun _ _ _ _ _ _=>ln2 (fun _ _=>by rfl)
 obtain ⟨f17,fd17,a17,F17⟩:=d17
 have k17:=F17.kp
 have b17:=F17.binds (ps:=["number"]) fun _ _ _ _ _ _=>ln1 (fun _=>by rfl)
 obtain ⟨f18,fd18,a18,F18⟩:=d18
 have k18:=F18.kp
 have b18:=F18.binds (ps:=["sign","one","other"]) fun _ _ _ _ _ _=>ln3 (fun _ _ _=>by rfl)
 obtain ⟨f19,fd19,a19,F19⟩:=d19
 have k19:=F19.kp
 have b19:=F19.binds (ps:=["sign","one","other"]) fun _ _ _ _ _ _=>ln3 (fun _ _ _=>by rfl)
 obtain ⟨f20,fd20,a20,F20⟩:=d20
 have k20:=F20.kp
 have b20:=F20.binds (ps:=["stack","many"]) fun _ _ _ _ _ _=>ln2 (fun _ _=>by rfl)
 obtain ⟨⟨fd21,F21⟩,q21⟩:=l21
 have k21:=F21.kp
 have b21:=F21.binds (ps:=["self","tag","number"]) fun _ _ _ _ _ _=>ln3 (fun _ _ _=>by rfl)
 obtain ⟨⟨fd22,F22⟩,q22⟩:=l22
 have k22:=F22.kp
 have b22:=F22.binds (ps:=["self","tag","number"]) fun _ _ _ _ _ _=>ln3 (fun _ _ _=>by rfl)
 obtain ⟨⟨fd23,F23⟩,q23⟩:=l23
 have k23:=F23.kp
 have b23:=F23.binds (ps:=["self","frame","sign"]) fun _ _ _ _ _ _=>ln3 (fun _ _ _=>by rfl)
 obtain ⟨⟨fd24,F24⟩,q24⟩:=l24
 have k24:=F24.kp
 have b24:=F24.binds (ps:=["self","frame","row"]) fun _ _ _ _ _ _=>ln3 (fun _ _ _=>by rfl)
 obtain ⟨f25,fd25,a25,F25⟩:=d25
 have k25:=F25.kp
 have b25:=F25.binds (ps:=["stretches","at"]) fun _ _ _ _ _ _=>ln2 (fun _ _=>by rfl)
 obtain ⟨f26,fd26,a26,F26⟩:=d26
 have k26:=F26.kp
 have b26:=F26.binds (ps:=["parts","live"]) fun _ _ _ _ _ _=>ln2 (fun _ _=>by rfl)
 obtain ⟨⟨fd27,F27⟩,q27⟩:=l27
 have k27:=F27.kp
 have b27:=F27.binds (ps:=["self","number"]) fun _ _ _ _ _ _=>ln2 (fun _ _=>by rfl)
 obtain ⟨⟨fd28,F28⟩,q28⟩:=l28
 have k28:=F28.kp
 have b28:=F28.binds (ps:=["self","frame","row"]) fun _ _ _ _ _ _=>ln3 (fun _ _ _=>by rfl)
 obtain ⟨⟨fd29,F29⟩,q29⟩:=l29
 have k29:=F29.kp
 have b29:=F29.binds (ps:=["self","frame","row"]) fun _ _ _ _ _ _=>ln3 (fun _ _ _=>by rfl)
 obtain ⟨f30,fd30,a30,F30⟩:=d30
 have k30:=F30.kp
 have b30:=F30.binds (ps:=["makes","c"]) fun _ _ _ _ _ _=>ln2 (fun _ _=>by rfl)
 obtain ⟨f31,fd31,a31,F31⟩:=d31
 have k31:=F31.kp
 have b31:=F31.binds (ps:=["makes","c"]) fun _ _ _ _ _ _=>ln2 (fun _ _=>by rfl)
 obtain ⟨f32,fd32,a32,F32⟩:=d32
 have k32:=F32.kp
 have b32:=F32.binds (ps:=["makes","c"]) fun _ _ _ _ _ _=>ln2 (fun _ _=>by rfl)
 obtain ⟨f33,fd33,a33,F33⟩:=d33
 have k33:=F33.kp
 have b33:=F33.binds (ps:=["makes","row"]) fun _ _ _ _ _ _=>ln2 (fun _ _=>by rfl)
 obtain ⟨f34,fd34,a34,F34⟩:=d34
 have k34:=F34.kp
 have b34:=F34.binds (ps:=["book","part","row"]) fun _ _ _ _ _ _=>ln3 (fun _ _ _=>by rfl)
 obtain ⟨f35,fd35,a35,F35⟩:=d35
 have k35:=F35.kp
 have b35:=F35.binds (ps:=["makes","c","other"]) fun _ _ _ _ _ _=>ln3 (fun _ _ _=>by rfl)
 obtain ⟨f36,fd36,a36,F36⟩:=d36
 have k36:=F36.kp
 have b36:=F36.binds (ps:=["makes","record","kind"]) fun _ _ _ _ _ _=>ln3 (fun _ _ _=>by rfl)
 obtain ⟨f37,fd37,a37,F37⟩:=d37
 have k37:=F37.kp
 have b37:=F37.binds (ps:=["makes","heap","value","kind"]) fun _ _ _ _ _ _=>ln4 (fun _ _ _ _=>by rfl)
 obtain ⟨f38,fd38,a38,F38⟩:=d38
 have k38:=F38.kp
 have b38:=F38.binds (ps:=["row"]) fun _ _ _ _ _ _=>ln1 (fun _=>by rfl)
 obtain ⟨⟨fd39,F39⟩,q39⟩:=l39
 have k39:=F39.kp
 have b39:=F39.binds (ps:=["self","frame","row"]) fun _ _ _ _ _ _=>ln3 (fun _ _ _=>by rfl)
 obtain ⟨⟨fd40,F40⟩,q40⟩:=l40
 have k40:=F40.kp
 have b40:=F40.binds (ps:=["self"]) fun _ _ _ _ _ _=>ln1 (fun _=>by rfl)
 obtain ⟨⟨fd41,F41⟩,q41⟩:=l41
 have k41:=F41.kp
 have b41:=F41.binds (ps:=["self"]) fun _ _ _ _ _ _=>ln1 (fun _=>by rfl)
 obtain ⟨f42,fd42,a42,F42⟩:=d42
 have k42:=F42.kp
 have b42:=F42.binds (ps:=["_law_machine","_law_part","_law_states","_law_watched","_law_due"]) fun _ _ _ _ _ _=>ln5 (fun _ _ _ _ _=>by rfl)
 obtain ⟨f43,fd43,a43,F43⟩:=d43
 have k43:=F43.kp
 have b43:=F43.binds (ps:=["takes","gives"]) fun _ _ _ _ _ _=>ln2 (fun _ _=>by rfl)
 obtain ⟨f44,fd44,a44,F44⟩:=d44
 have k44:=F44.kp
 have b44:=F44.binds (ps:=["parts","part","inputs"]) fun _ _ _ _ _ _=>ln3 (fun _ _ _=>by rfl)
 obtain ⟨f45,fd45,a45,F45⟩:=d45
 have k45:=F45.kp
 have b45:=F45.binds (ps:=["book"]) fun _ _ _ _ _ _=>ln1 (fun _=>by rfl)
 obtain ⟨⟨fd46,F46⟩,q46⟩:=l46
 have k46:=F46.kp
 have b46:=F46.binds (ps:=["self","part","boxes"]) fun _ _ _ _ _ _=>ln3 (fun _ _ _=>by rfl)
 obtain ⟨f47,fd47,a47,F47⟩:=d47
 have k47:=F47.kp
 have b47:=F47.binds (ps:=["parts","part","values","nothing"]) fun _ _ _ _ _ _=>ln4 (fun _ _ _ _=>by rfl)
 obtain ⟨⟨fd48,F48⟩,q48⟩:=l48
 have k48:=F48.kp
 have b48:=F48.binds (ps:=["self"]) fun _ _ _ _ _ _=>ln1 (fun _=>by rfl)
 obtain ⟨⟨fd49,F49⟩,q49⟩:=l49
 have k49:=F49.kp
 have b49:=F49.binds (ps:=["self"]) fun _ _ _ _ _ _=>ln1 (fun _=>by rfl)
 obtain ⟨⟨fd50,F50⟩,q50⟩:=l50
 have k50:=F50.kp
 have b50:=F50.binds (ps:=["self","part","values"]) fun _ _ _ _ _ _=>ln3 (fun _ _ _=>by rfl)
 obtain ⟨⟨fd51,F51⟩,q51⟩:=l51
 have k51:=F51.kp
 have b51:=F51.binds (ps:=["self","book","part","inputs","budget"]) fun _ _ _ _ _ _=>ln5 (fun _ _ _ _ _=>by rfl)
 have F52:=fun_mk (st:=s_law) l52 c52 k52
 have y_all:=PySem.W.mg_none_of X G z_all
 have y_bool:=PySem.W.mg_none_of X G z_bool
 have y_enumerate:=PySem.W.mg_none_of X G z_enumerate
 have y_int:=PySem.W.mg_none_of X G z_int
 have y_isinstance:=PySem.W.mg_none_of X G z_isinstance
 have y_len:=PySem.W.mg_none_of X G z_len
 have y_list:=PySem.W.mg_none_of X G z_list
 have y_max:=PySem.W.mg_none_of X G z_max
 have y_min:=PySem.W.mg_none_of X G z_min
 have y_range:=PySem.W.mg_none_of X G z_range
 have y_tuple:=PySem.W.mg_none_of X G z_tuple
 have y_zip:=PySem.W.mg_none_of X G z_zip
 have v_HALF:=PySem.W.mg_of X G g_HALF
 have v_TURN:=PySem.W.mg_of X G g_TURN
 have v_ALWAYS:=PySem.W.mg_of X G g_ALWAYS
 have v_GOING:=PySem.W.mg_of X G g_GOING
 have v_LEFT:=PySem.W.mg_of X G g_LEFT
 have v_OF_RECORDS:=PySem.W.mg_of X G g_OF_RECORDS
 have v_RECKONING:=PySem.W.mg_of X G g_RECKONING
 have v_Frame:=PySem.W.mg_of X G gp_Frame
 have AC_Frame:Mine.AC_Frame K C_Frame:=⟨⟨pg_Frame,hd_Frame,po_Frame,sa_Frame⟩,na_part_Frame,na_at_Frame,na_boxes_Frame,na_stack_Frame⟩
 have v_Plain:=PySem.W.mg_of X G gp_Plain
 have AC_Plain:Mine.AC_Plain K C_Plain:=⟨⟨pg_Plain,hd_Plain,po_Plain,sa_Plain⟩,na_book_Plain,na_live_Plain,na_records_Plain,na_said_Plain,na_left_Plain,na_end_Plain⟩
 have v_Watched:=PySem.W.mg_of X G gp_Watched
 have AC_Watched:Mine.AC_Plain K C_Watched:=⟨⟨pg_Watched,hd_Watched,po_Watched,sa_Watched⟩,na_book_Watched,na_live_Watched,na_records_Watched,na_said_Watched,na_left_Watched,na_end_Watched⟩
 have w_ALWAYS:DiD K w d_ALWAYS kd_ALWAYS:=diD_of (ent:=[("push",t_ALWAYS_1,.ref r_ALWAYS_2),("load",t_ALWAYS_4,.ref r_ALWAYS_5),("store",t_ALWAYS_7,.ref r_ALWAYS_11),("dup",t_ALWAYS_13,.ref r_ALWAYS_17),("swap",t_ALWAYS_19,.ref r_ALWAYS_26),("drop",t_ALWAYS_28,.ref r_ALWAYS_32),("add",t_ALWAYS_34,.ref r_ALWAYS_41),("sub",t_ALWAYS_43,.ref r_ALWAYS_50),("mul",t_ALWAYS_52,.ref r_ALWAYS_59),("div",t_ALWAYS_61,.ref r_ALWAYS_68),("rem",t_ALWAYS_70,.ref r_ALWAYS_77),("less",t_ALWAYS_79,.ref r_ALWAYS_86),("same",t_ALWAYS_88,.ref r_ALWAYS_95),("jump",t_ALWAYS_97,.ref r_ALWAYS_98),("zero",t_ALWAYS_100,.ref r_ALWAYS_104),("kin",t_ALWAYS_106,.ref r_ALWAYS_111),("make",t_ALWAYS_113,.ref r_ALWAYS_114),("toss",t_ALWAYS_116,.ref r_ALWAYS_120),("say",t_ALWAYS_122,.ref r_ALWAYS_126)]) n_ALWAYS_129 q_ALWAYS_128 (show (["push","load","store","dup","swap","drop","add","sub","mul","div","rem","less","same","jump","zero","kin","make","toss","say"]:List Str).Nodup by decide +kernel) (.cons ⟨rfl,(rdK_tup (its:=[]) q_ALWAYS_3 (show 0≤sizeLine by decide) .nil)⟩ (.cons ⟨rfl,(rdK_tup (its:=[]) q_ALWAYS_6 (show 0≤sizeLine by decide) .nil)⟩ (.cons ⟨rfl,(rdK_tup (its:=[.ref r_ALWAYS_9]) q_ALWAYS_12 (show 1≤sizeLine by decide) (.cons (rdK_tup (its:=[.str "any" t_ALWAYS_8]) q_ALWAYS_10 (show 1≤sizeLine by decide) (.cons rdK_str .nil)) .nil))⟩ (.cons ⟨rfl,(rdK_tup (its:=[.ref r_ALWAYS_15]) q_ALWAYS_18 (show 1≤sizeLine by decide) (.cons (rdK_tup (its:=[.str "any" t_ALWAYS_14]) q_ALWAYS_16 (show 1≤sizeLine by decide) (.cons rdK_str .nil)) .nil))⟩ (.cons ⟨rfl,(rdK_tup (its:=[.ref r_ALWAYS_21,.ref r_ALWAYS_24]) q_ALWAYS_27 (show 2≤sizeLine by decide) (.cons (rdK_tup (its:=[.str "any" t_ALWAYS_20]) q_ALWAYS_22 (show 1≤sizeLine by decide) (.cons rdK_str .nil)) (.cons (rdK_tup (its:=[.str "any" t_ALWAYS_23]) q_ALWAYS_25 (show 1≤sizeLine by decide) (.cons rdK_str .nil)) .nil)))⟩ (.cons ⟨rfl,(rdK_tup (its:=[.ref r_ALWAYS_30]) q_ALWAYS_33 (show 1≤sizeLine by decide) (.cons (rdK_tup (its:=[.str "any" t_ALWAYS_29]) q_ALWAYS_31 (show 1≤sizeLine by decide) (.cons rdK_str .nil)) .nil))⟩ (.cons ⟨rfl,(rdK_tup (its:=[.ref r_ALWAYS_36,.ref r_ALWAYS_39]) q_ALWAYS_42 (show 2≤sizeLine by decide) (.cons (rdK_tup (its:=[.str "number" t_ALWAYS_35]) q_ALWAYS_37 (show 1≤sizeLine by decide) (.cons rdK_str .nil)) (.cons (rdK_tup (its:=[.str "number" t_ALWAYS_38]) q_ALWAYS_40 (show 1≤sizeLine by decide) (.cons rdK_str .nil)) .nil)))⟩ (.cons ⟨rfl,(rdK_tup (its:=[.ref r_ALWAYS_45,.ref r_ALWAYS_48]) q_ALWAYS_51 (show 2≤sizeLine by decide) (.cons (rdK_tup (its:=[.str "number" t_ALWAYS_44]) q_ALWAYS_46 (show 1≤sizeLine by decide) (.cons rdK_str .nil)) (.cons (rdK_tup (its:=[.str "number" t_ALWAYS_47]) q_ALWAYS_49 (show 1≤sizeLine by decide) (.cons rdK_str .nil)) .nil)))⟩ (.cons ⟨rfl,(rdK_tup (its:=[.ref r_ALWAYS_54,.ref r_ALWAYS_57]) q_ALWAYS_60 (show 2≤sizeLine by decide) (.cons (rdK_tup (its:=[.str "number" t_ALWAYS_53]) q_ALWAYS_55 (show 1≤sizeLine by decide) (.cons rdK_str .nil)) (.cons (rdK_tup (its:=[.str "number" t_ALWAYS_56]) q_ALWAYS_58 (show 1≤sizeLine by decide) (.cons rdK_str .nil)) .nil)))⟩ (.cons ⟨rfl,(rdK_tup (its:=[.ref r_ALWAYS_63,.ref r_ALWAYS_66]) q_ALWAYS_69 (show 2≤sizeLine by decide) (.cons (rdK_tup (its:=[.str "number" t_ALWAYS_62]) q_ALWAYS_64 (show 1≤sizeLine by decide) (.cons rdK_str .nil)) (.cons (rdK_tup (its:=[.str "number" t_ALWAYS_65]) q_ALWAYS_67 (show 1≤sizeLine by decide) (.cons rdK_str .nil)) .nil)))⟩ (.cons ⟨rfl,(rdK_tup (its:=[.ref r_ALWAYS_72,.ref r_ALWAYS_75]) q_ALWAYS_78 (show 2≤sizeLine by decide) (.cons (rdK_tup (its:=[.str "number" t_ALWAYS_71]) q_ALWAYS_73 (show 1≤sizeLine by decide) (.cons rdK_str .nil)) (.cons (rdK_tup (its:=[.str "number" t_ALWAYS_74]) q_ALWAYS_76 (show 1≤sizeLine by decide) (.cons rdK_str .nil)) .nil)))⟩ (.cons ⟨rfl,(rdK_tup (its:=[.ref r_ALWAYS_81,.ref r_ALWAYS_84]) q_ALWAYS_87 (show 2≤sizeLine by decide) (.cons (rdK_tup (its:=[.str "number" t_ALWAYS_80]) q_ALWAYS_82 (show 1≤sizeLine by decide) (.cons rdK_str .nil)) (.cons (rdK_tup (its:=[.str "number" t_ALWAYS_83]) q_ALWAYS_85 (show 1≤sizeLine by decide) (.cons rdK_str .nil)) .nil)))⟩ (.cons ⟨rfl,(rdK_tup (its:=[.ref r_ALWAYS_90,.ref r_ALWAYS_93]) q_ALWAYS_96 (show 2≤sizeLine by decide) (.cons (rdK_tup (its:=[.str "number" t_ALWAYS_89]) q_ALWAYS_91 (show 1≤sizeLine by decide) (.cons rdK_str .nil)) (.cons (rdK_tup (its:=[.str "number" t_ALWAYS_92]) q_ALWAYS_94 (show 1≤sizeLine by decide) (.cons rdK_str .nil)) .nil)))⟩ (.cons ⟨rfl,(rdK_tup (its:=[]) q_ALWAYS_99 (show 0≤sizeLine by decide) .nil)⟩ (.cons ⟨rfl,(rdK_tup (its:=[.ref r_ALWAYS_102]) q_ALWAYS_105 (show 1≤sizeLine by decide) (.cons (rdK_tup (its:=[.str "number" t_ALWAYS_101]) q_ALWAYS_103 (show 1≤sizeLine by decide) (.cons rdK_str .nil)) .nil))⟩ (.cons ⟨rfl,(rdK_tup (its:=[.ref r_ALWAYS_109]) q_ALWAYS_112 (show 1≤sizeLine by decide) (.cons (rdK_tup (its:=[.str "whole" t_ALWAYS_107,.int 0 t_ALWAYS_108]) q_ALWAYS_110 (show 2≤sizeLine by decide) (.cons rdK_str (.cons rdK_int .nil))) .nil))⟩ (.cons ⟨rfl,(rdK_tup (its:=[]) q_ALWAYS_115 (show 0≤sizeLine by decide) .nil)⟩ (.cons ⟨rfl,(rdK_tup (its:=[.ref r_ALWAYS_118]) q_ALWAYS_121 (show 1≤sizeLine by decide) (.cons (rdK_tup (its:=[.str "number" t_ALWAYS_117]) q_ALWAYS_119 (show 1≤sizeLine by decide) (.cons rdK_str .nil)) .nil))⟩ (.cons ⟨rfl,(rdK_tup (its:=[.ref r_ALWAYS_124]) q_ALWAYS_127 (show 1≤sizeLine by decide) (.cons (rdK_tup (its:=[.str "number" t_ALWAYS_123]) q_ALWAYS_125 (show 1≤sizeLine by decide) (.cons rdK_str .nil)) .nil))⟩ .nil)))))))))))))))))))
 have w_GOING:∀H:Hp,RdV K H (.ref r_GOING_4) kd_GOING:=rdK_ref (rdK_tup (its:=[.str "jump" t_GOING_1,.str "zero" t_GOING_2,.str "kin" t_GOING_3]) q_GOING_5 (show 3≤sizeLine by decide) (.cons rdK_str (.cons rdK_str (.cons rdK_str .nil))))
 have w_LEFT:DiD K w d_LEFT kd_LEFT:=diD_of (ent:=[("store",t_LEFT_1,.int 0 t_LEFT_2),("dup",t_LEFT_3,.int 2 t_LEFT_4),("swap",t_LEFT_5,.int 2 t_LEFT_6),("drop",t_LEFT_7,.int 0 t_LEFT_8),("jump",t_LEFT_9,.int 0 t_LEFT_10),("zero",t_LEFT_11,.int 0 t_LEFT_12),("put",t_LEFT_13,.int 0 t_LEFT_14),("toss",t_LEFT_15,.int 0 t_LEFT_16),("say",t_LEFT_17,.int 0 t_LEFT_18),("give",t_LEFT_19,.int 0 t_LEFT_20)]) n_LEFT_22 q_LEFT_21 (show (["store","dup","swap","drop","jump","zero","put","toss","say","give"]:List Str).Nodup by decide +kernel) (.cons ⟨rfl,rdK_int⟩ (.cons ⟨rfl,rdK_int⟩ (.cons ⟨rfl,rdK_int⟩ (.cons ⟨rfl,rdK_int⟩ (.cons ⟨rfl,rdK_int⟩ (.cons ⟨rfl,rdK_int⟩ (.cons ⟨rfl,rdK_int⟩ (.cons ⟨rfl,rdK_int⟩ (.cons ⟨rfl,rdK_int⟩ (.cons ⟨rfl,rdK_int⟩ .nil))))))))))
 have w_OF_RECORDS:∀H:Hp,RdV K H (.ref r_OF_RECORDS_6) kd_OF_RECORDS:=rdK_ref (rdK_tup (its:=[.str "make" t_OF_RECORDS_1,.str "fill" t_OF_RECORDS_2,.str "begin" t_OF_RECORDS_3,.str "get" t_OF_RECORDS_4,.str "put" t_OF_RECORDS_5]) q_OF_RECORDS_7 (show 5≤sizeLine by decide) (.cons rdK_str (.cons rdK_str (.cons rdK_str (.cons rdK_str (.cons rdK_str .nil))))))
 have w_RECKONING:∀H:Hp,RdV K H (.ref r_RECKONING_8) kd_RECKONING:=rdK_ref (rdK_tup (its:=[.str "add" t_RECKONING_1,.str "sub" t_RECKONING_2,.str "mul" t_RECKONING_3,.str "div" t_RECKONING_4,.str "rem" t_RECKONING_5,.str "less" t_RECKONING_6,.str "same" t_RECKONING_7]) q_RECKONING_9 (show 7≤sizeLine by decide) (.cons rdK_str (.cons rdK_str (.cons rdK_str (.cons rdK_str (.cons rdK_str (.cons rdK_str (.cons rdK_str .nil))))))))
 refine ⟨PySem.W.fnOf "law" "law" (dA s_law) (dB s_law) (dS s_law) .none kV52 dc52 pm52 an52 cd52 ct52,fun s v=>.of_eq rfl,fun base _ _=>?_⟩
 have H__law_cell:Has l.prog w K mg base CX0 "_law_cell" 1 ["_law_script","_law_k"] (sp_law_cell K):=⟨_,_,ok__law_cell F0 y_len AC_Frame,b0,k0,PySem.W.mg_of X G a0⟩
 have H__law_wrapped:Has l.prog w K mg base CX0 "_law_wrapped" 1 ["_law_number"] (sp_law_wrapped K):=⟨_,_,ok__law_wrapped F1 AC_Frame,b1,k1,PySem.W.mg_of X G a1⟩
 have H__law_reckoned:Has l.prog w K mg base CX0 "_law_reckoned" 2 ["_law_sign","_law_one","_law_other"] (sp_law_reckoned K):=⟨_,_,ok__law_reckoned F2 y_int AC_Frame H__law_wrapped,b2,k2,PySem.W.mg_of X G a2⟩
 have H__law_done:Has l.prog w K mg base CX0 "_law_done" 3 ["_law_stack","_law_boxes","_law_said","_law_row_here"] (sp_law_done K):=⟨_,_,ok__law_done F3 y_list AC_Frame H__law_reckoned,b3,k3,PySem.W.mg_of X G a3⟩
 have H__law_fit:Has l.prog w K mg base CX0 "_law_fit" 1 ["_law_stack","_law_height"] (sp_law_fit K):=⟨_,_,ok__law_fit F4 y_len AC_Frame,b4,k4,PySem.W.mg_of X G a4⟩
 have H__law_word:Has l.prog w K mg base CX0 "_law_word" 1 ["_law_cell_here"] (sp_law_word K):=⟨_,_,ok__law_word F5 y_max y_min AC_Frame,b5,k5,PySem.W.mg_of X G a5⟩
 have H__law_row:Has l.prog w K mg base CX0 "_law_row" 2 ["_law_stack","_law_boxes","_law_height","_law_cell_here","_law_other"] (sp_law_row K):=⟨_,_,ok__law_row F6 y_int y_len AC_Frame H__law_fit H__law_word,b6,k6,PySem.W.mg_of X G a6⟩
 have H__law_grown:Has l.prog w K mg base CX0 "_law_grown" 4 ["_law_script","_law_boxes","_law_height"] (sp_law_grown K):=⟨_,_,ok__law_grown F7 y_len y_range AC_Frame H__law_cell H__law_done H__law_row,b7,k7,PySem.W.mg_of X G a7⟩
 have H__law_bare:Has l.prog w K mg base CX0 "_law_bare" 1 ["_law_value"] (sp_law_bare K):=⟨_,_,ok__law_bare F8 y_isinstance y_tuple AC_Frame,b8,k8,PySem.W.mg_of X G a8⟩
 have H__law_no_truths:Has l.prog w K mg base CX0 "_law_no_truths" 1 ["_law_some"] (sp_law_no_truths K):=⟨_,_,ok__law_no_truths F9 y_bool y_isinstance AC_Frame,b9,k9,PySem.W.mg_of X G a9⟩
 have H__law_tagged:Has l.prog w K mg base CX0 "_law_tagged" 1 ["_law_some","_law_watched"] (sp_law_tagged K):=⟨_,_,ok__law_tagged F10 y_tuple AC_Frame,b10,k10,PySem.W.mg_of X G a10⟩
 have H_frame_told:Has l.prog w K mg base CX0 "frame_told" 1 ["frame"] (sp_frame_told K C_Frame):=⟨_,_,ok_frame_told F11 y_tuple AC_Frame,b11,k11,PySem.W.mg_of X G a11⟩
 have HM_Plain_frames:HasM l.prog w K mg base CX0 C_Plain "frames" 2 ["self"] (sp_frames K C_Frame C_Plain false):=⟨⟨_,_,ok_Plain_frames F12 (C:=C_Plain) (wt:=false) AC_Frame AC_Plain H_frame_told,b12,⟨fm_Plain_frames,q12,k12⟩⟩,AC_Plain.cl⟩
 have HM_Watched_frames:HasM l.prog w K mg base CX0 C_Watched "frames" 2 ["self"] (sp_frames K C_Frame C_Watched true):=⟨⟨_,_,ok_Plain_frames F12 (C:=C_Watched) (wt:=true) AC_Frame AC_Watched H_frame_told,b12,⟨fm_Watched_frames,q12,k12⟩⟩,AC_Watched.cl⟩
 have HM_Plain_heap:HasM l.prog w K mg base CX0 C_Plain "heap" 1 ["self"] (sp_heap K C_Frame C_Plain false):=⟨⟨_,_,ok_Plain_heap F13 (C:=C_Plain) (wt:=false) y_list AC_Frame AC_Plain,b13,⟨fm_Plain_heap,q13,k13⟩⟩,AC_Plain.cl⟩
 have HM_Watched_heap:HasM l.prog w K mg base CX0 C_Watched "heap" 1 ["self"] (sp_heap K C_Frame C_Watched true):=⟨⟨_,_,ok_Plain_heap F13 (C:=C_Watched) (wt:=true) y_list AC_Frame AC_Watched,b13,⟨fm_Watched_heap,q13,k13⟩⟩,AC_Watched.cl⟩
 have HM_Plain_bare:HasM l.prog w K mg base CX0 C_Plain "bare" 1 ["self","value"] (sp_bare K false):=⟨⟨_,_,ok_Plain_bare F14 (C:=C_Plain) AC_Frame AC_Plain,b14,⟨fm_Plain_bare,q14,k14⟩⟩,AC_Plain.cl⟩
 have HM_Watched_bare:HasM l.prog w K mg base CX0 C_Watched "bare" 1 ["self","value"] (sp_bare K true):=⟨⟨_,_,ok_Watched_bare F15 (C:=C_Watched) AC_Frame AC_Watched,b15,⟨fm_Watched_bare,q15,k15⟩⟩,AC_Watched.cl⟩
 have HM_Plain_do_give:HasM l.prog w K mg base CX0 C_Plain "do_give" 2 ["self","frame"] (sp_do_give K C_Frame C_Plain false):=⟨⟨_,_,ok_Plain_do_give F16 (C:=C_Plain) (wt:=false) y_len AC_Frame AC_Plain HM_Plain_bare,b16,⟨fm_Plain_do_give,q16,k16⟩⟩,AC_Plain.cl⟩
 have HM_Watched_do_give:HasM l.prog w K mg base CX0 C_Watched "do_give" 2 ["self","frame"] (sp_do_give K C_Frame C_Watched true):=⟨⟨_,_,ok_Plain_do_give F16 (C:=C_Watched) (wt:=true) y_len AC_Frame AC_Watched HM_Watched_bare,b16,⟨fm_Watched_do_give,q16,k16⟩⟩,AC_Watched.cl⟩
 have H_wrapped:Has l.prog w K mg base CX0 "wrapped" 1 ["number"] (sp_wrapped K):=⟨_,_,ok_wrapped F17 v_HALF ⟨_,rfl⟩ v_TURN ⟨_,rfl⟩ AC_Frame,b17,k17,PySem.W.mg_of X G a17⟩
 have H_divided:Has l.prog w K mg base CX0 "divided" 2 ["sign","one","other"] (sp_divided K):=⟨_,_,ok_divided F18 AC_Frame H_wrapped,b18,k18,PySem.W.mg_of X G a18⟩
 have H_reckoned:Has l.prog w K mg base CX0 "reckoned" 3 ["sign","one","other"] (sp_reckoned K):=⟨_,_,ok_reckoned F19 AC_Frame H_divided H_wrapped,b19,k19,PySem.W.mg_of X G a19⟩
 have H_taken:Has l.prog w K mg base CX0 "taken" 1 ["stack","many"] (sp_taken K):=⟨_,_,ok_taken F20 y_range AC_Frame,b20,k20,PySem.W.mg_of X G a20⟩
 have HM_Plain_tagged:HasM l.prog w K mg base CX0 C_Plain "tagged" 1 ["self","tag","number"] (sp_tagged K false):=⟨⟨_,_,ok_Plain_tagged F21 (C:=C_Plain) AC_Frame AC_Plain,b21,⟨fm_Plain_tagged,q21,k21⟩⟩,AC_Plain.cl⟩
 have HM_Watched_tagged:HasM l.prog w K mg base CX0 C_Watched "tagged" 1 ["self","tag","number"] (sp_tagged K true):=⟨⟨_,_,ok_Watched_tagged F22 (C:=C_Watched) AC_Frame AC_Watched,b22,⟨fm_Watched_tagged,q22,k22⟩⟩,AC_Watched.cl⟩
 have HM_Plain_do_reckoning:HasM l.prog w K mg base CX0 C_Plain "do_reckoning" 4 ["self","frame","sign"] (sp_do_reckoning K C_Frame C_Plain false):=⟨⟨_,_,ok_Plain_do_reckoning F23 (C:=C_Plain) (wt:=false) AC_Frame AC_Plain H_reckoned H_taken HM_Plain_bare HM_Plain_tagged,b23,⟨fm_Plain_do_reckoning,q23,k23⟩⟩,AC_Plain.cl⟩
 have HM_Watched_do_reckoning:HasM l.prog w K mg base CX0 C_Watched "do_reckoning" 4 ["self","frame","sign"] (sp_do_reckoning K C_Frame C_Watched true):=⟨⟨_,_,ok_Plain_do_reckoning F23 (C:=C_Watched) (wt:=true) AC_Frame AC_Watched H_reckoned H_taken HM_Watched_bare HM_Watched_tagged,b23,⟨fm_Watched_do_reckoning,q23,k23⟩⟩,AC_Watched.cl⟩
 have HM_Plain_do_straight:HasM l.prog w K mg base CX0 C_Plain "do_straight" 2 ["self","frame","row"] (sp_do_straight K C_Frame C_Plain false):=⟨⟨_,_,ok_Plain_do_straight F24 (C:=C_Plain) (wt:=false) AC_Frame AC_Plain H_taken HM_Plain_bare HM_Plain_tagged,b24,⟨fm_Plain_do_straight,q24,k24⟩⟩,AC_Plain.cl⟩
 have HM_Watched_do_straight:HasM l.prog w K mg base CX0 C_Watched "do_straight" 2 ["self","frame","row"] (sp_do_straight K C_Frame C_Watched true):=⟨⟨_,_,ok_Plain_do_straight F24 (C:=C_Watched) (wt:=true) AC_Frame AC_Watched H_taken HM_Watched_bare HM_Watched_tagged,b24,⟨fm_Watched_do_straight,q24,k24⟩⟩,AC_Watched.cl⟩
 have H_catcher:Has l.prog w K mg base CX0 "catcher" 1 ["stretches","at"] (sp_catcher K):=⟨_,_,ok_catcher F25 AC_Frame,b25,k25,PySem.W.mg_of X G a25⟩
 have H_caught_at:Has l.prog w K mg base CX0 "caught_at" 2 ["parts","live"] (sp_caught_at K C_Frame):=⟨_,_,ok_caught_at F26 y_len AC_Frame H_catcher,b26,k26,PySem.W.mg_of X G a26⟩
 have HM_Plain_fault:HasM l.prog w K mg base CX0 C_Plain "fault" 3 ["self","number"] (sp_fault K C_Frame C_Plain false):=⟨⟨_,_,ok_Plain_fault F27 (C:=C_Plain) (wt:=false) AC_Frame AC_Plain H_caught_at,b27,⟨fm_Plain_fault,q27,k27⟩⟩,AC_Plain.cl⟩
 have HM_Watched_fault:HasM l.prog w K mg base CX0 C_Watched "fault" 3 ["self","number"] (sp_fault K C_Frame C_Watched true):=⟨⟨_,_,ok_Plain_fault F27 (C:=C_Watched) (wt:=true) AC_Frame AC_Watched H_caught_at,b27,⟨fm_Watched_fault,q27,k27⟩⟩,AC_Watched.cl⟩
 have HM_Plain_do_row:HasM l.prog w K mg base CX0 C_Plain "do_row" 5 ["self","frame","row"] (sp_do_row K C_Frame C_Plain false):=⟨⟨_,_,ok_Plain_do_row F28 (C:=C_Plain) (wt:=false) v_GOING w_GOING ⟨_,q_GOING_5,rfl,rfl⟩ v_OF_RECORDS w_OF_RECORDS ⟨_,q_OF_RECORDS_7,rfl,rfl⟩ v_RECKONING w_RECKONING ⟨_,q_RECKONING_9,rfl,rfl⟩ AC_Frame AC_Plain HM_Plain_bare HM_Plain_do_give HM_Plain_do_reckoning HM_Plain_do_straight HM_Plain_fault,b28,⟨fm_Plain_do_row,q28,k28⟩⟩,AC_Plain.cl⟩
 have HM_Watched_do_row:HasM l.prog w K mg base CX0 C_Watched "do_row" 5 ["self","frame","row"] (sp_do_row K C_Frame C_Watched true):=⟨⟨_,_,ok_Plain_do_row F28 (C:=C_Watched) (wt:=true) v_GOING w_GOING ⟨_,q_GOING_5,rfl,rfl⟩ v_OF_RECORDS w_OF_RECORDS ⟨_,q_OF_RECORDS_7,rfl,rfl⟩ v_RECKONING w_RECKONING ⟨_,q_RECKONING_9,rfl,rfl⟩ AC_Frame AC_Watched HM_Watched_bare HM_Watched_do_give HM_Watched_do_reckoning HM_Watched_do_straight HM_Watched_fault,b28,⟨fm_Watched_do_row,q28,k28⟩⟩,AC_Watched.cl⟩
 have HM_Plain_looked:HasM l.prog w K mg base CX0 C_Plain "looked" 6 ["self","frame","row"] (sp_looked K C_Frame C_Plain false):=⟨⟨_,_,ok_Plain_looked F29 (C:=C_Plain) AC_Frame AC_Plain,b29,⟨fm_Plain_looked,q29,k29⟩⟩,AC_Plain.cl⟩
 have H_elders_of:Has l.prog w K mg base CX0 "elders_of" 1 ["makes","c"] (sp_elders_of K):=⟨_,_,ok_elders_of F30 AC_Frame,b30,k30,PySem.W.mg_of X G a30⟩
 have H_fields_of:Has l.prog w K mg base CX0 "fields_of" 2 ["makes","c"] (sp_fields_of K):=⟨_,_,ok_fields_of F31 y_list AC_Frame H_elders_of,b31,k31,PySem.W.mg_of X G a31⟩
 have H_full_mask:Has l.prog w K mg base CX0 "full_mask" 3 ["makes","c"] (sp_full_mask K):=⟨_,_,ok_full_mask F32 y_len AC_Frame H_fields_of,b32,k32,PySem.W.mg_of X G a32⟩
 have H_asked_of_records:Has l.prog w K mg base CX0 "asked_of_records" 4 ["makes","row"] (sp_asked_of_records K):=⟨_,_,ok_asked_of_records F33 AC_Frame H_fields_of H_full_mask,b33,k33,PySem.W.mg_of X G a33⟩
 have H_asked:Has l.prog w K mg base CX0 "asked" 5 ["book","part","row"] (sp_asked K):=⟨_,_,ok_asked F34 y_list v_ALWAYS w_ALWAYS AC_Frame H_asked_of_records,b34,k34,PySem.W.mg_of X G a34⟩
 have H_is_under:Has l.prog w K mg base CX0 "is_under" 2 ["makes","c","other"] (sp_is_under K):=⟨_,_,ok_is_under F35 AC_Frame H_elders_of,b35,k35,PySem.W.mg_of X G a35⟩
 have H_record_has_kind:Has l.prog w K mg base CX0 "record_has_kind" 3 ["makes","record","kind"] (sp_record_has_kind K):=⟨_,_,ok_record_has_kind F36 AC_Frame H_is_under,b36,k36,PySem.W.mg_of X G a36⟩
 have H_has_kind:Has l.prog w K mg base CX0 "has_kind" 4 ["makes","heap","value","kind"] (sp_has_kind K):=⟨_,_,ok_has_kind F37 AC_Frame H_record_has_kind,b37,k37,PySem.W.mg_of X G a37⟩
 have H_leaves:Has l.prog w K mg base CX0 "leaves" 1 ["row"] (sp_leaves K):=⟨_,_,ok_leaves F38 v_LEFT w_LEFT AC_Frame,b38,k38,PySem.W.mg_of X G a38⟩
 have HM_Watched_looked:HasM l.prog w K mg base CX0 C_Watched "looked" 6 ["self","frame","row"] (sp_looked K C_Frame C_Watched true):=⟨⟨_,_,ok_Watched_looked F39 (C:=C_Watched) y_len y_zip AC_Frame AC_Watched H_asked H_has_kind H_leaves,b39,⟨fm_Watched_looked,q39,k39⟩⟩,AC_Watched.cl⟩
 have HM_Plain_step:HasM l.prog w K mg base CX0 C_Plain "step" 7 ["self"] (sp_step K C_Frame C_Plain false):=⟨⟨_,_,ok_Plain_step F40 (C:=C_Plain) (wt:=false) AC_Frame AC_Plain HM_Plain_do_row HM_Plain_looked,b40,⟨fm_Plain_step,q40,k40⟩⟩,AC_Plain.cl⟩
 have HM_Watched_step:HasM l.prog w K mg base CX0 C_Watched "step" 7 ["self"] (sp_step K C_Frame C_Watched true):=⟨⟨_,_,ok_Plain_step F40 (C:=C_Watched) (wt:=true) AC_Frame AC_Watched HM_Watched_do_row HM_Watched_looked,b40,⟨fm_Watched_step,q40,k40⟩⟩,AC_Watched.cl⟩
 have HM_Plain_told:HasM l.prog w K mg base CX0 C_Plain "told" 1 ["self"] (sp_told K C_Frame C_Plain false):=⟨⟨_,_,ok_Plain_told F41 (C:=C_Plain) (wt:=false) y_list AC_Frame AC_Plain,b41,⟨fm_Plain_told,q41,k41⟩⟩,AC_Plain.cl⟩
 have HM_Watched_told:HasM l.prog w K mg base CX0 C_Watched "told" 1 ["self"] (sp_told K C_Frame C_Watched true):=⟨⟨_,_,ok_Plain_told F41 (C:=C_Watched) (wt:=true) y_list AC_Frame AC_Watched,b41,⟨fm_Watched_told,q41,k41⟩⟩,AC_Watched.cl⟩
 have H__law_keeps__Plain:Has l.prog w K mg base CX0 "_law_keeps" 8 ["_law_machine","_law_part","_law_states","_law_watched","_law_due"] (sp_law_keeps K C_Frame C_Plain false):=⟨_,_,ok__law_keeps F42 (C:=C_Plain) (wt:=false) y_enumerate AC_Frame AC_Plain H__law_bare H__law_no_truths H__law_tagged HM_Plain_frames HM_Plain_heap HM_Plain_step HM_Plain_told,b42,k42,PySem.W.mg_of X G a42⟩
 have H__law_keeps__Watched:Has l.prog w K mg base CX0 "_law_keeps" 8 ["_law_machine","_law_part","_law_states","_law_watched","_law_due"] (sp_law_keeps K C_Frame C_Watched true):=⟨_,_,ok__law_keeps F42 (C:=C_Watched) (wt:=true) y_enumerate AC_Frame AC_Watched H__law_bare H__law_no_truths H__law_tagged HM_Watched_frames HM_Watched_heap HM_Watched_step HM_Watched_told,b42,k42,PySem.W.mg_of X G a42⟩
 have H_is_door:Has l.prog w K mg base CX0 "is_door" 1 ["takes","gives"] (sp_is_door K):=⟨_,_,ok_is_door F43 y_all AC_Frame,b43,k43,PySem.W.mg_of X G a43⟩
 have H_check_door:Has l.prog w K mg base CX0 "check_door" 2 ["parts","part","inputs"] (sp_check_door K):=⟨_,_,ok_check_door F44 y_len AC_Frame H_is_door,b44,k44,PySem.W.mg_of X G a44⟩
 have H_copied:Has l.prog w K mg base CX0 "copied" 1 ["book"] (sp_copied K):=⟨_,_,ok_copied F45 y_list AC_Frame,b45,k45,PySem.W.mg_of X G a45⟩
 have HN_Frame:HasN l.prog w K mg base CX0 C_Frame "Frame" 1 ["self","part","boxes"] (sp_Frame_init K C_Frame):=⟨⟨_,_,ok_Frame___init__ F46 AC_Frame,b46,⟨mk_Frame,fm_Frame___init__,q46,kc_Frame⟩,v_Frame⟩⟩
 have H_started:Has l.prog w K mg base CX0 "started" 3 ["parts","part","values","nothing"] (sp_started K C_Frame):=⟨_,_,ok_started F47 y_len AC_Frame HN_Frame,b47,k47,PySem.W.mg_of X G a47⟩
 have HM_Plain_nothing:HasM l.prog w K mg base CX0 C_Plain "nothing" 1 ["self"] (sp_nothing K false):=⟨⟨_,_,ok_Plain_nothing F48 (C:=C_Plain) AC_Frame AC_Plain,b48,⟨fm_Plain_nothing,q48,k48⟩⟩,AC_Plain.cl⟩
 have HM_Watched_nothing:HasM l.prog w K mg base CX0 C_Watched "nothing" 1 ["self"] (sp_nothing K true):=⟨⟨_,_,ok_Watched_nothing F49 (C:=C_Watched) AC_Frame AC_Watched,b49,⟨fm_Watched_nothing,q49,k49⟩⟩,AC_Watched.cl⟩
 have HM_Plain_add_frame:HasM l.prog w K mg base CX0 C_Plain "add_frame" 4 ["self","part","values"] (sp_add_frame K C_Frame C_Plain false):=⟨⟨_,_,ok_Plain_add_frame F50 (C:=C_Plain) (wt:=false) AC_Frame AC_Plain H_started HM_Plain_nothing,b50,⟨fm_Plain_add_frame,q50,k50⟩⟩,AC_Plain.cl⟩
 have HM_Watched_add_frame:HasM l.prog w K mg base CX0 C_Watched "add_frame" 4 ["self","part","values"] (sp_add_frame K C_Frame C_Watched true):=⟨⟨_,_,ok_Plain_add_frame F50 (C:=C_Watched) (wt:=true) AC_Frame AC_Watched H_started HM_Watched_nothing,b50,⟨fm_Watched_add_frame,q50,k50⟩⟩,AC_Watched.cl⟩
 have HN_Plain:HasN l.prog w K mg base CX0 C_Plain "Plain" 5 ["self","book","part","inputs","budget"] (sp_Plain_init K C_Frame C_Plain false):=⟨⟨_,_,ok_Plain___init__ F51 (C:=C_Plain) (wt:=false) AC_Frame AC_Plain H_check_door H_copied HM_Plain_add_frame HM_Plain_tagged,b51,⟨mk_Plain,fm_Plain___init__,q51,kc_Plain⟩,v_Plain⟩⟩
 have HN_Watched:HasN l.prog w K mg base CX0 C_Watched "Watched" 5 ["self","book","part","inputs","budget"] (sp_Plain_init K C_Frame C_Watched true):=⟨⟨_,_,ok_Plain___init__ F51 (C:=C_Watched) (wt:=true) AC_Frame AC_Watched H_check_door H_copied HM_Watched_add_frame HM_Watched_tagged,b51,⟨mk_Watched,fm_Watched___init__,q51,kc_Watched⟩,v_Watched⟩⟩
 exact ok_law (P:=l.prog) (w:=w) (base:=base) F52 y_int y_isinstance y_len y_list y_min y_range v_Plain AC_Frame H__law_cell H__law_grown H__law_keeps__Plain H__law_keeps__Watched H__law_word HN_Plain HN_Watched i_WP iw_cl iw_sp iw_tk iw_mo AC_Watched.cl
theorem walk{l:PySem.W.OpenLaw}{q:Program}{loose:List Str}{XP:(Str→Option Value)→Heap→Prop}{YP:World→Heap→Prop}{d:DefRec}{K:Params→Fgg}(hn:l.most=some 63)(hdf:d.params.defaults=[])
  (hY:∀(w:World) (h:Heap),YP w h→(K w.params).In h)
  (F:∀(w:World) (mg:Str→Option Value) (fa:Addr) (h:Heap),(K w.params).In h→h.Ns mainGlobals mg→mg d.name=some (.ref fa) →
   ∃fd:FuncData,(∀(s:Shared) (u:Value),BindsTo s fd ⟨[u],[]⟩ [("_law_script",u)])∧∀base:Heap,(K w.params).In base→base.Ns mainGlobals mg→FnOk l.prog w (K w.params) mg base CX0 9 fa fd ["_law_script"] (sp_law (K w.params))) :
  PySem.W.WalkO q loose XP YP l.row.toRowW d [] (fun f vs=>PySem.call f vs) :=
 L2.walk_of (n:=63) (k:=9) (x:="_law_script") (CX:=fun _=>CX0) (sp:=fun w=>sp_law (K w.params)) hn (by decide) hdf ⟨rfl,by decide,by decide,rfl⟩ hY F (fun _ _ a ns hl _ hS=>⟨a,ns,rfl,hS,hl,fun _=>rfl⟩) fun _ _ _ _ _ z=>z
end Mine
noncomputable section
namespace MH
open PySem PySem.W L2 Mine
abbrev OF:=Program→Params→Obj
abbrev TF:=Program→Params→BT
abbrev r(a:Nat):Value:=.ref a
abbrev s(x:Str)(t:Tok):Value:=.str x t
abbrev i(n:Int):Value:=.int n 0
abbrev cF:Str:="/claim/cut.py"
def de(P:Params)(x:Str)(t:Tok)(v:Value):DictEntry:=⟨PyData.keyHash P x,.str x t,v⟩
abbrev fn(a b:Str)(e:Stmt)(dV kV doc pm:Value)(an:Option Addr)(cd ct:Value):FuncData:=PySem.W.fnOf a b (dA e) (dB e) (dS e) dV kV doc pm an cd ct
abbrev fx(g u:Nat)(a b:Str)(e:Stmt)(dV kV doc pm:Value)(an:Option Addr)(cd ct:Value):FuncData:=⟨a,b,dA e,.stmts (dB e),dS e,g,[],dV,kV,doc,pm,an,cd,ct,u⟩
abbrev tu(l:List Value):Obj:=⟨.type "tuple",none,.seq l.toArray 0,#[]⟩
abbrev nf(l:List Value):Obj:=⟨.none,none,.fields l.toArray,#[]⟩
abbrev co(l:List Value):Obj:=⟨.type "code",none,.fields l.toArray,#[]⟩
abbrev fm(l:List (Option Value)):Obj:=⟨.type "frame",none,.plain,l.toArray⟩
abbrev di(l:List DictEntry)(n:Nat):Obj:=⟨.type "dict",none,.dict l.toArray n,#[]⟩
abbrev fo(f:FuncData):Obj:=⟨.type "function",none,.func f,#[]⟩
abbrev no(f:FuncData):Obj:=⟨.none,none,.func f,#[]⟩
abbrev bn(o:Obj)(l r:BT):BT:=.node o l r
abbrev bl(o:Obj):BT:=.node o .nil .nil
abbrev pw:Program:=PySem.Challenge.pw_stackwarden_k33_straight_code
def envF(p:Program):Env:={scope:=p.main.scope,locals:=mainNs,globals:=mainNs,cells:=[],code:=(.ref 13),frame:=some 14}
def codeF(p:Program):Code:=.body (behindTheImports p) (envF p)
abbrev BF:List Frame:=[topFrame ⟨0,0,0,0⟩]
def stsF(p:Program)(i n:Nat):List Stmt:=((behindTheImports p).drop i).take n
def viewF(p:Program):Program:={p with main:={p.main with body:=[tf p 1,tf p 2,tf p 3,tf p 5,tf p 6,tf p 7,tf p 8,tf p 10,tf p 11,tf p 12,tf p 13,tf p 14,tf p 15,tf p 16,tf p 17,tf p 19,tf p 21,tf p 22,tf p 24,tf p 25,tf p 26,tf p 27,tf p 28,tf p 29,tf p 31,tf p 32,tf p 33,tf p 34,tf p 35,tf p 36,tf p 38,tf p 40,tf p 41,tf p 42,tf p 44,tf p 45,tf p 47,tf p 49,tf p 50,tf p 51,tf p 52,tf p 53,tf p 54,tf p 55,tf p 56,tf p 57,tf p 58,tf p 59,tf p 60,tf p 61]}}
abbrev ST(t:BT)(n k:Nat)(os:OsState):SharedT:=⟨t,n,{},Array.mk [],{},k,os⟩
abbrev SH(h:Heap)(k:Nat)(os:OsState):Shared:=⟨h,Array.mk [],{},k,os⟩
local macro_rules | `(tactic| walk_at "qk")=>`(tactic| ((try rewrite [PySem.W.Fast.te14364793385576792824]); (try rewrite [PySem.W.Fast.te10110043849684766642]); (try rewrite [PySem.W.Fast.te14374325043358763698]); (try rewrite [PySem.W.Fast.te15667345088766844465]); (try rewrite [PySem.W.Fast.te14082659384304107361]); (try rewrite [PySem.W.Fast.te11892475500146522536]); (try rewrite [PySem.W.Fast.te5160383126252970620]); (try rewrite [PySem.W.Fast.te3399658132070893891]); (try rewrite [PySem.W.Fast.te5991557255702980513]); (try rewrite [PySem.W.Fast.te10880121769531294198]); (try rewrite [PySem.W.Fast.te821141287760084731]); (try rewrite [PySem.W.Fast.te7409074990110511671]); (try rewrite [PySem.W.Fast.te13664370479719496447]); (try rewrite [PySem.W.Fast.te5923862056798008813]); (try rewrite [PySem.W.Fast.te14722251495701143533]); (try rewrite [PySem.W.Fast.te10994771534591457954]); (try rewrite [PySem.W.Fast.te479339242167458305]); (try rewrite [PySem.W.Fast.te16090120013241838585]); (try rewrite [PySem.W.Fast.te3247288618530077131]); (try rewrite [PySem.W.Fast.te2386780881361962483]); (try rewrite [PySem.W.Fast.te11698064438423848299]); (try rewrite [PySem.W.Fast.te7317090234206586261]); (try rewrite [PySem.W.Fast.te7369524293546568484]); (try rewrite [PySem.W.Fast.te8920871248978507458]); (try rewrite [PySem.W.R.mapR_eq]); (try rewrite [PySem.W.Fast.te59003539963142882]); kernel_rfl))
def o0:OF:=fun p P=>tu []
def o1:OF:=fun p P=>nf []
def o2:OF:=fun p P=>co [(s "<module>" 182),(s "<module>" 183),(s cF 184),(i 1),(i 0),(i 0),(i 0),(i 0),(r 11),(.bool false),(i 181),(r 12),.none,.none,.none,.none,(i 185),(i 1),(s cF 186)]
def o3:OF:=fun p P=>fm [(some (r 13)),(some (r 3)),(some (r 3)),none,(some (s "__main__" 164)),none,(some (r 0))]
def H0(p:Program)(P:Params):Heap:=⟨Array.mk [(PySem.W.boot_o_0 P),(PySem.W.boot_o_1 P),(PySem.W.boot_o_2 P),(PySem.W.boot_o_3 P),(PySem.W.boot_o_4 P),(PySem.W.boot_o_5 P),(PySem.W.boot_o_6 P),(PySem.W.boot_o_7 P),(PySem.W.boot_o_8 P),(PySem.W.boot_o_9 P),(PySem.W.boot_o_10 P),(o0 p P),(o1 p P),(o2 p P),(o3 p P)],{}⟩
def o4:OF:=fun p P=>di [de P "__name__" 165 (s "stackwarden.errors" 187),de P "__doc__" 166 .none,de P "__package__" 167 .none,de P "__loader__" 168 (.builtin "__main__.__loader__#opaque"),de P "__spec__" 169 .none,de P "__annotations__" 170 (r 6),de P "__builtins__" 171 (r 4),de P "__file__" 173 (s cF 172),de P "__cached__" 174 .none,de P "WardenError" 206 (r 24)] 10
def o5:OF:=fun p P=>nf [(i 2),(i 0),(r 20)]
def o6:OF:=fun p P=>tu [(.type "ValueError")]
def o7:OF:=fun p P=>⟨(.type "builtin_function_or_method"),none,(.fields #[(.builtin "type.__prepare__"),(.type "type")]),#[]⟩
def o8:OF:=fun p P=>di [de P "__module__" 196 (s "stackwarden.errors" 187),de P "__qualname__" 198 (s "WardenError" 197),de P "__firstlineno__" 200 (.int 2 199),de P "__static_attributes__" 201 (r 22)] 4
def o9:OF:=fun p P=>co [(s "WardenError" 191),(s "WardenError" 192),(s cF 193),(i 2),(i 0),(i 0),(i 0),(i 0),(r 18),(.bool false),(i 181),(r 19),.none,.none,.none,.none,(i 194),(i 2),(s cF 195)]
def o10:OF:=fun p P=>fm [(some (r 20)),(some (r 3)),(some (r 17)),none,(some (s "stackwarden.errors" 187)),none,(some (r 0))]
def o11:OF:=fun p P=>di [de P "__module__" 196 (s "stackwarden.errors" 187),de P "__firstlineno__" 200 (.int 2 199),de P "__static_attributes__" 201 (r 22),de P "__weakref__" 203 (r 25),de P "__doc__" 204 .none] 3
def o12:OF:=fun p P=>⟨(.type "type"),none,(.cls {name:="WardenError",bases:=[(.type "ValueError")],mro:=[(r 24),(.type "ValueError"),(.type "Exception"),(.type "BaseException"),(.type "object")],ns:=23,qualname:="WardenError"}),#[(some (r 15)),none,(some (s "WardenError" 189)),(some (s "WardenError" 197)),(some (.builtin "ValueError.__new__")),(some (.bool true))]⟩
def o13:OF:=fun p P=>⟨(.type "getset_descriptor"),none,(.fields #[(s "__weakref__" 202),(r 24),(.builtin "ExceptionGroup.__weakref__"),.none]),#[]⟩
def o14:OF:=fun p P=>⟨(.type "super"),none,(.fields #[(r 24),(r 24),(r 24)]),#[]⟩
def o15:OF:=fun p P=>⟨(.type "builtin_function_or_method"),none,(.fields #[(.builtin "object.__init_subclass__"),(r 24)]),#[]⟩
def o16:OF:=fun p P=>di [de P "__name__" 165 (s "stackwarden.errors" 187),de P "__doc__" 166 .none,de P "__package__" 167 .none,de P "__loader__" 168 (.builtin "__main__.__loader__#opaque"),de P "__spec__" 169 .none,de P "__annotations__" 170 (r 6),de P "__builtins__" 171 (r 4),de P "__file__" 173 (s cF 172),de P "__cached__" 174 .none,de P "WardenError" 206 (r 24),de P "Nought" 222 (r 37)] 11
def o17:OF:=fun p P=>nf [(i 2),(i 0),(r 20),(i 4),(i 0),(r 33)]
def o18:OF:=fun p P=>⟨(.type "type"),none,(.cls {name:="WardenError",bases:=[(.type "ValueError")],mro:=[(r 24),(.type "ValueError"),(.type "Exception"),(.type "BaseException"),(.type "object")],ns:=23,qualname:="WardenError",subclasses:=[(r 37)]}),#[(some (r 15)),none,(some (s "WardenError" 189)),(some (s "WardenError" 197)),(some (.builtin "ValueError.__new__")),(some (.bool true))]⟩
def o19:OF:=fun p P=>tu [(r 24)]
def o20:OF:=fun p P=>di [de P "__module__" 214 (s "stackwarden.errors" 187),de P "__qualname__" 216 (s "Nought" 215),de P "__firstlineno__" 218 (.int 4 217),de P "__static_attributes__" 219 (r 35)] 4
def o21:OF:=fun p P=>co [(s "Nought" 209),(s "Nought" 210),(s cF 211),(i 4),(i 0),(i 0),(i 0),(i 0),(r 31),(.bool false),(i 181),(r 32),.none,.none,.none,.none,(i 212),(i 4),(s cF 213)]
def o22:OF:=fun p P=>fm [(some (r 33)),(some (r 3)),(some (r 30)),none,(some (s "stackwarden.errors" 187)),none,(some (r 0))]
def o23:OF:=fun p P=>di [de P "__module__" 214 (s "stackwarden.errors" 187),de P "__firstlineno__" 218 (.int 4 217),de P "__static_attributes__" 219 (r 35),de P "__doc__" 220 .none] 2
def o24:OF:=fun p P=>⟨(.type "type"),none,(.cls {name:="Nought",bases:=[(r 24)],mro:=[(r 37),(r 24),(.type "ValueError"),(.type "Exception"),(.type "BaseException"),(.type "object")],ns:=36,qualname:="Nought"}),#[(some (r 28)),none,(some (s "Nought" 207)),(some (s "Nought" 215)),(some (.builtin "ValueError.__new__")),(some (.bool true))]⟩
def o25:OF:=fun p P=>⟨(.type "super"),none,(.fields #[(r 37),(r 37),(r 37)]),#[]⟩
def o26:OF:=fun p P=>⟨(.type "builtin_function_or_method"),none,(.fields #[(.builtin "object.__init_subclass__"),(r 37)]),#[]⟩
def o27:OF:=fun p P=>di [de P "__name__" 165 (s "stackwarden.words" 277),de P "__doc__" 166 .none,de P "__package__" 167 .none,de P "__loader__" 168 (.builtin "__main__.__loader__#opaque"),de P "__spec__" 169 .none,de P "__annotations__" 170 (r 6),de P "__builtins__" 171 (r 4),de P "__file__" 173 (s cF 172),de P "__cached__" 174 .none,de P "WardenError" 206 (r 24),de P "Nought" 222 (r 37),de P "NoDoor" 238 (r 49),de P "elders_of" 249 (r 58),de P "fields_of" 259 (r 65),de P "is_under" 268 (r 72),de P "full_mask" 276 (r 79),de P "HALF" 280 (.int 2147483648 279),de P "TURN" 282 (.int 4294967296 281)] 18
def o28:OF:=fun p P=>nf [(i 2),(i 0),(r 20),(i 4),(i 0),(r 33),(i 6),(i 0),(r 45),(i 9),(i 0),(r 57),(i 15),(i 0),(r 64),(i 20),(i 0),(r 71),(i 22),(i 0),(r 78)]
def o29:OF:=fun p P=>⟨(.type "type"),none,(.cls {name:="WardenError",bases:=[(.type "ValueError")],mro:=[(r 24),(.type "ValueError"),(.type "Exception"),(.type "BaseException"),(.type "object")],ns:=23,qualname:="WardenError",subclasses:=[(r 37),(r 49)]}),#[(some (r 15)),none,(some (s "WardenError" 189)),(some (s "WardenError" 197)),(some (.builtin "ValueError.__new__")),(some (.bool true))]⟩
def o30:OF:=fun p P=>di [de P "__module__" 230 (s "stackwarden.errors" 187),de P "__qualname__" 232 (s "NoDoor" 231),de P "__firstlineno__" 234 (.int 6 233),de P "__static_attributes__" 235 (r 47)] 4
def o31:OF:=fun p P=>co [(s "NoDoor" 225),(s "NoDoor" 226),(s cF 227),(i 6),(i 0),(i 0),(i 0),(i 0),(r 43),(.bool false),(i 181),(r 44),.none,.none,.none,.none,(i 228),(i 6),(s cF 229)]
def o32:OF:=fun p P=>fm [(some (r 45)),(some (r 3)),(some (r 42)),none,(some (s "stackwarden.errors" 187)),none,(some (r 0))]
def o33:OF:=fun p P=>di [de P "__module__" 230 (s "stackwarden.errors" 187),de P "__firstlineno__" 234 (.int 6 233),de P "__static_attributes__" 235 (r 47),de P "__doc__" 236 .none] 2
def o34:OF:=fun p P=>⟨(.type "type"),none,(.cls {name:="NoDoor",bases:=[(r 24)],mro:=[(r 49),(r 24),(.type "ValueError"),(.type "Exception"),(.type "BaseException"),(.type "object")],ns:=48,qualname:="NoDoor"}),#[(some (r 40)),none,(some (s "NoDoor" 223)),(some (s "NoDoor" 231)),(some (.builtin "ValueError.__new__")),(some (.bool true))]⟩
def o35:OF:=fun p P=>⟨(.type "super"),none,(.fields #[(r 49),(r 49),(r 49)]),#[]⟩
def o36:OF:=fun p P=>⟨(.type "builtin_function_or_method"),none,(.fields #[(.builtin "object.__init_subclass__"),(r 49)]),#[]⟩
def o37:OF:=fun p P=>tu [(s "makes" 244),(s "c" 245),(s "elders" 246)]
def o38:OF:=fun p P=>no (fx 0 0 "elders_of" "elders_of" (tf p 5) .none .none .none .none none .none .none)
def o39:OF:=fun p P=>co [(s "elders_of" 241),(s "elders_of" 242),(s cF 243),(i 9),(i 2),(i 0),(i 0),(i 3),(r 52),(.bool true),(i 181),(r 53),.none,(r 54),(r 55),(r 56),(i 247),(i 9),(s cF 248)]
def o40:OF:=fun p P=>fo (fn "elders_of" "elders_of" (tf p 5) .none .none .none (s "stackwarden.kinds" 239) none (r 57) .none)
def o41:OF:=fun p P=>tu [(s "makes" 253),(s "c" 254),(s "fields" 255),(s "elder" 256)]
def o42:OF:=fun p P=>no (fx 0 0 "fields_of" "fields_of" (tf p 6) .none .none .none .none none .none .none)
def o43:OF:=fun p P=>co [(s "fields_of" 250),(s "fields_of" 251),(s cF 252),(i 15),(i 2),(i 0),(i 0),(i 3),(r 59),(.bool true),(i 181),(r 60),.none,(r 61),(r 62),(r 63),(i 257),(i 15),(s cF 258)]
def o44:OF:=fun p P=>fo (fn "fields_of" "fields_of" (tf p 6) .none .none .none (s "stackwarden.kinds" 239) none (r 64) .none)
def o45:OF:=fun p P=>tu [(s "makes" 263),(s "c" 264),(s "other" 265)]
def o46:OF:=fun p P=>no (fx 0 0 "is_under" "is_under" (tf p 7) .none .none .none .none none .none .none)
def o47:OF:=fun p P=>co [(s "is_under" 260),(s "is_under" 261),(s cF 262),(i 20),(i 3),(i 0),(i 0),(i 3),(r 66),(.bool true),(i 181),(r 67),.none,(r 68),(r 69),(r 70),(i 266),(i 20),(s cF 267)]
def o48:OF:=fun p P=>fo (fn "is_under" "is_under" (tf p 7) .none .none .none (s "stackwarden.kinds" 239) none (r 71) .none)
def o49:OF:=fun p P=>tu [(s "makes" 272),(s "c" 273)]
def o50:OF:=fun p P=>no (fx 0 0 "full_mask" "full_mask" (tf p 8) .none .none .none .none none .none .none)
def o51:OF:=fun p P=>co [(s "full_mask" 269),(s "full_mask" 270),(s cF 271),(i 22),(i 2),(i 0),(i 0),(i 3),(r 73),(.bool true),(i 181),(r 74),.none,(r 75),(r 76),(r 77),(i 274),(i 22),(s cF 275)]
def o52:OF:=fun p P=>fo (fn "full_mask" "full_mask" (tf p 8) .none .none .none (s "stackwarden.kinds" 239) none (r 78) .none)
def o53:OF:=fun p P=>di [de P "__name__" 165 (s "stackwarden.asks" 352),de P "__doc__" 166 .none,de P "__package__" 167 .none,de P "__loader__" 168 (.builtin "__main__.__loader__#opaque"),de P "__spec__" 169 .none,de P "__annotations__" 170 (r 6),de P "__builtins__" 171 (r 4),de P "__file__" 173 (s cF 172),de P "__cached__" 174 .none,de P "WardenError" 206 (r 24),de P "Nought" 222 (r 37),de P "NoDoor" 238 (r 49),de P "elders_of" 249 (r 58),de P "fields_of" 259 (r 65),de P "is_under" 268 (r 72),de P "full_mask" 276 (r 79),de P "HALF" 280 (.int 2147483648 279),de P "TURN" 282 (.int 4294967296 281),de P "wrapped" 289 (r 86),de P "reckoned" 298 (r 93),de P "divided" 307 (r 100),de P "RECKONING" 315 (r 101),de P "OF_RECORDS" 321 (r 102),de P "GOING" 325 (r 103),de P "copied" 333 (r 108),de P "is_door" 341 (r 113),de P "check_door" 351 (r 120)] 27
def o54:OF:=fun p P=>nf [(i 2),(i 0),(r 20),(i 4),(i 0),(r 33),(i 6),(i 0),(r 45),(i 9),(i 0),(r 57),(i 15),(i 0),(r 64),(i 20),(i 0),(r 71),(i 22),(i 0),(r 78),(i 27),(i 0),(r 85),(i 29),(i 0),(r 92),(i 41),(i 0),(r 99),(i 51),(i 0),(r 107),(i 56),(i 0),(r 112),(i 58),(i 0),(r 119)]
def o55:OF:=fun p P=>tu [(s "number" 286)]
def o56:OF:=fun p P=>no (fx 0 0 "wrapped" "wrapped" (tf p 12) .none .none .none .none none .none .none)
def o57:OF:=fun p P=>co [(s "wrapped" 283),(s "wrapped" 284),(s cF 285),(i 27),(i 1),(i 0),(i 0),(i 3),(r 80),(.bool true),(i 181),(r 81),.none,(r 82),(r 83),(r 84),(i 287),(i 27),(s cF 288)]
def o58:OF:=fun p P=>fo (fn "wrapped" "wrapped" (tf p 12) .none .none .none (s "stackwarden.words" 277) none (r 85) .none)
def o59:OF:=fun p P=>tu [(s "sign" 293),(s "one" 294),(s "other" 295)]
def o60:OF:=fun p P=>no (fx 0 0 "reckoned" "reckoned" (tf p 13) .none .none .none .none none .none .none)
def o61:OF:=fun p P=>co [(s "reckoned" 290),(s "reckoned" 291),(s cF 292),(i 29),(i 3),(i 0),(i 0),(i 3),(r 87),(.bool true),(i 181),(r 88),.none,(r 89),(r 90),(r 91),(i 296),(i 29),(s cF 297)]
def o62:OF:=fun p P=>fo (fn "reckoned" "reckoned" (tf p 13) .none .none .none (s "stackwarden.words" 277) none (r 92) .none)
def o63:OF:=fun p P=>tu [(s "sign" 302),(s "one" 303),(s "other" 304)]
def o64:OF:=fun p P=>no (fx 0 0 "divided" "divided" (tf p 14) .none .none .none .none none .none .none)
def o65:OF:=fun p P=>co [(s "divided" 299),(s "divided" 300),(s cF 301),(i 41),(i 3),(i 0),(i 0),(i 3),(r 94),(.bool true),(i 181),(r 95),.none,(r 96),(r 97),(r 98),(i 305),(i 41),(s cF 306)]
def o66:OF:=fun p P=>fo (fn "divided" "divided" (tf p 14) .none .none .none (s "stackwarden.words" 277) none (r 99) .none)
def o67:OF:=fun p P=>tu [(s "add" 308),(s "sub" 309),(s "mul" 310),(s "div" 311),(s "rem" 312),(s "less" 313),(s "same" 314)]
def o68:OF:=fun p P=>tu [(s "make" 316),(s "fill" 317),(s "begin" 318),(s "get" 319),(s "put" 320)]
def o69:OF:=fun p P=>tu [(s "jump" 322),(s "zero" 323),(s "kin" 324)]
def o70:OF:=fun p P=>no (fx 0 0 "copied" "copied" (tf p 19) .none .none .none .none none .none .none)
def o71:OF:=fun p P=>co [(s "copied" 328),(s "copied" 329),(s cF 330),(i 51),(i 1),(i 0),(i 0),(i 3),(r 104),(.bool true),(i 181),(r 105),.none,.none,.none,(r 106),(i 331),(i 51),(s cF 332)]
def o72:OF:=fun p P=>fo (fn "copied" "copied" (tf p 19) .none .none .none (s "stackwarden.books" 326) none (r 107) .none)
def o73:OF:=fun p P=>no (fx 0 0 "is_door" "is_door" (tf p 21) .none .none .none .none none .none .none)
def o74:OF:=fun p P=>co [(s "is_door" 336),(s "is_door" 337),(s cF 338),(i 56),(i 2),(i 0),(i 0),(i 3),(r 109),(.bool true),(i 181),(r 110),.none,.none,.none,(r 111),(i 339),(i 56),(s cF 340)]
def o75:OF:=fun p P=>fo (fn "is_door" "is_door" (tf p 21) .none .none .none (s "stackwarden.doors" 334) none (r 112) .none)
def o76:OF:=fun p P=>tu [(s "parts" 345),(s "part" 346),(s "inputs" 347),(s "takes" 348)]
def o77:OF:=fun p P=>no (fx 0 0 "check_door" "check_door" (tf p 22) .none .none .none .none none .none .none)
def o78:OF:=fun p P=>co [(s "check_door" 342),(s "check_door" 343),(s cF 344),(i 58),(i 3),(i 0),(i 0),(i 3),(r 114),(.bool true),(i 181),(r 115),.none,(r 116),(r 117),(r 118),(i 349),(i 58),(s cF 350)]
def o79:OF:=fun p P=>fo (fn "check_door" "check_door" (tf p 22) .none .none .none (s "stackwarden.doors" 334) none (r 119) .none)
def o80:OF:=fun p P=>di [de P "__name__" 165 (s "stackwarden.asks" 352),de P "__doc__" 166 .none,de P "__package__" 167 .none,de P "__loader__" 168 (.builtin "__main__.__loader__#opaque"),de P "__spec__" 169 .none,de P "__annotations__" 170 (r 6),de P "__builtins__" 171 (r 4),de P "__file__" 173 (s cF 172),de P "__cached__" 174 .none,de P "WardenError" 206 (r 24),de P "Nought" 222 (r 37),de P "NoDoor" 238 (r 49),de P "elders_of" 249 (r 58),de P "fields_of" 259 (r 65),de P "is_under" 268 (r 72),de P "full_mask" 276 (r 79),de P "HALF" 280 (.int 2147483648 279),de P "TURN" 282 (.int 4294967296 281),de P "wrapped" 289 (r 86),de P "reckoned" 298 (r 93),de P "divided" 307 (r 100),de P "RECKONING" 315 (r 101),de P "OF_RECORDS" 321 (r 102),de P "GOING" 325 (r 103),de P "copied" 333 (r 108),de P "is_door" 341 (r 113),de P "check_door" 351 (r 120),de P "ALWAYS" 416 (r 121)] 28
def o81:OF:=fun p P=>di [de P "push" 354 (r 122),de P "load" 356 (r 123),de P "store" 358 (r 125),de P "dup" 361 (r 127),de P "swap" 364 (r 130),de P "drop" 368 (r 132),de P "add" 371 (r 135),de P "sub" 375 (r 138),de P "mul" 379 (r 141),de P "div" 383 (r 144),de P "rem" 387 (r 147),de P "less" 391 (r 150),de P "same" 395 (r 153),de P "jump" 399 (r 154),de P "zero" 401 (r 156),de P "kin" 404 (r 158),de P "make" 408 (r 159),de P "toss" 410 (r 162),de P "say" 412 (r 164)] 19
def o82:OF:=fun p P=>tu [(s "any" 359)]
def o83:OF:=fun p P=>tu [(r 124)]
def o84:OF:=fun p P=>tu [(s "any" 362)]
def o85:OF:=fun p P=>tu [(r 126)]
def o86:OF:=fun p P=>tu [(s "any" 365)]
def o87:OF:=fun p P=>tu [(s "any" 366)]
def o88:OF:=fun p P=>tu [(r 128),(r 129)]
def o89:OF:=fun p P=>tu [(s "any" 369)]
def o90:OF:=fun p P=>tu [(r 131)]
def o91:OF:=fun p P=>tu [(s "number" 372)]
def o92:OF:=fun p P=>tu [(s "number" 373)]
def o93:OF:=fun p P=>tu [(r 133),(r 134)]
def o94:OF:=fun p P=>tu [(s "number" 376)]
def o95:OF:=fun p P=>tu [(s "number" 377)]
def o96:OF:=fun p P=>tu [(r 136),(r 137)]
def o97:OF:=fun p P=>tu [(s "number" 380)]
def o98:OF:=fun p P=>tu [(s "number" 381)]
def o99:OF:=fun p P=>tu [(r 139),(r 140)]
def o100:OF:=fun p P=>tu [(s "number" 384)]
def o101:OF:=fun p P=>tu [(s "number" 385)]
def o102:OF:=fun p P=>tu [(r 142),(r 143)]
def o103:OF:=fun p P=>tu [(s "number" 388)]
def o104:OF:=fun p P=>tu [(s "number" 389)]
def o105:OF:=fun p P=>tu [(r 145),(r 146)]
def o106:OF:=fun p P=>tu [(s "number" 392)]
def o107:OF:=fun p P=>tu [(s "number" 393)]
def o108:OF:=fun p P=>tu [(r 148),(r 149)]
def o109:OF:=fun p P=>tu [(s "number" 396)]
def o110:OF:=fun p P=>tu [(s "number" 397)]
def o111:OF:=fun p P=>tu [(r 151),(r 152)]
def o112:OF:=fun p P=>tu [(s "number" 402)]
def o113:OF:=fun p P=>tu [(r 155)]
def o114:OF:=fun p P=>tu [(s "whole" 405),(.int 0 406)]
def o115:OF:=fun p P=>tu [(r 157)]
def o116:OF:=fun p P=>di [de P "toss" 410 (r 162),de P "say" 412 (r 164)] 2
def o117:OF:=fun p P=>tu [(s "number" 411)]
def o118:OF:=fun p P=>tu [(r 161)]
def o119:OF:=fun p P=>tu [(s "number" 413)]
def o120:OF:=fun p P=>tu [(r 163)]
def o121:OF:=fun p P=>di [de P "__name__" 165 (s "stackwarden.frames" 486),de P "__doc__" 166 .none,de P "__package__" 167 .none,de P "__loader__" 168 (.builtin "__main__.__loader__#opaque"),de P "__spec__" 169 .none,de P "__annotations__" 170 (r 6),de P "__builtins__" 171 (r 4),de P "__file__" 173 (s cF 172),de P "__cached__" 174 .none,de P "WardenError" 206 (r 24),de P "Nought" 222 (r 37),de P "NoDoor" 238 (r 49),de P "elders_of" 249 (r 58),de P "fields_of" 259 (r 65),de P "is_under" 268 (r 72),de P "full_mask" 276 (r 79),de P "HALF" 280 (.int 2147483648 279),de P "TURN" 282 (.int 4294967296 281),de P "wrapped" 289 (r 86),de P "reckoned" 298 (r 93),de P "divided" 307 (r 100),de P "RECKONING" 315 (r 101),de P "OF_RECORDS" 321 (r 102),de P "GOING" 325 (r 103),de P "copied" 333 (r 108),de P "is_door" 341 (r 113),de P "check_door" 351 (r 120),de P "ALWAYS" 416 (r 121),de P "LEFT" 447 (r 165),de P "asked" 458 (r 172),de P "asked_of_records" 469 (r 179),de P "leaves" 476 (r 186),de P "catcher" 485 (r 193),de P "MOST_FRAMES" 489 (.int 12 488)] 34
def o122:OF:=fun p P=>nf [(i 2),(i 0),(r 20),(i 4),(i 0),(r 33),(i 6),(i 0),(r 45),(i 9),(i 0),(r 57),(i 15),(i 0),(r 64),(i 20),(i 0),(r 71),(i 22),(i 0),(r 78),(i 27),(i 0),(r 85),(i 29),(i 0),(r 92),(i 41),(i 0),(r 99),(i 51),(i 0),(r 107),(i 56),(i 0),(r 112),(i 58),(i 0),(r 119),(i 67),(i 0),(r 171),(i 77),(i 0),(r 178),(i 88),(i 0),(r 185),(i 90),(i 0),(r 192)]
def o123:OF:=fun p P=>di [de P "store" 417 (.int 0 418),de P "dup" 419 (.int 2 420),de P "swap" 421 (.int 2 422),de P "drop" 423 (.int 0 424),de P "jump" 425 (.int 0 426),de P "zero" 427 (.int 0 428),de P "put" 429 (.int 0 430),de P "toss" 431 (.int 0 432),de P "say" 433 (.int 0 434),de P "give" 435 (.int 0 436)] 10
def o124:OF:=fun p P=>tu [(s "book" 451),(s "part" 452),(s "row" 453),(s "sign" 454),(s "parts" 455)]
def o125:OF:=fun p P=>no (fx 0 0 "asked" "asked" (tf p 26) .none .none .none .none none .none .none)
def o126:OF:=fun p P=>co [(s "asked" 448),(s "asked" 449),(s cF 450),(i 67),(i 3),(i 0),(i 0),(i 3),(r 166),(.bool true),(i 181),(r 167),.none,(r 168),(r 169),(r 170),(i 456),(i 67),(s cF 457)]
def o127:OF:=fun p P=>fo (fn "asked" "asked" (tf p 26) .none .none .none (s "stackwarden.asks" 352) none (r 171) .none)
def o128:OF:=fun p P=>tu [(s "makes" 462),(s "row" 463),(s "sign" 464),(s "c" 465),(s "field" 466)]
def o129:OF:=fun p P=>no (fx 0 0 "asked_of_records" "asked_of_records" (tf p 27) .none .none .none .none none .none .none)
def o130:OF:=fun p P=>co [(s "asked_of_records" 459),(s "asked_of_records" 460),(s cF 461),(i 77),(i 2),(i 0),(i 0),(i 3),(r 173),(.bool true),(i 181),(r 174),.none,(r 175),(r 176),(r 177),(i 467),(i 77),(s cF 468)]
def o131:OF:=fun p P=>fo (fn "asked_of_records" "asked_of_records" (tf p 27) .none .none .none (s "stackwarden.asks" 352) none (r 178) .none)
def o132:OF:=fun p P=>tu [(s "row" 473)]
def o133:OF:=fun p P=>no (fx 0 0 "leaves" "leaves" (tf p 28) .none .none .none .none none .none .none)
def o134:OF:=fun p P=>co [(s "leaves" 470),(s "leaves" 471),(s cF 472),(i 88),(i 1),(i 0),(i 0),(i 3),(r 180),(.bool true),(i 181),(r 181),.none,(r 182),(r 183),(r 184),(i 474),(i 88),(s cF 475)]
def o135:OF:=fun p P=>fo (fn "leaves" "leaves" (tf p 28) .none .none .none (s "stackwarden.asks" 352) none (r 185) .none)
def o136:OF:=fun p P=>tu [(s "stretches" 480),(s "at" 481),(s "stretch" 482)]
def o137:OF:=fun p P=>no (fx 0 0 "catcher" "catcher" (tf p 29) .none .none .none .none none .none .none)
def o138:OF:=fun p P=>co [(s "catcher" 477),(s "catcher" 478),(s cF 479),(i 90),(i 2),(i 0),(i 0),(i 3),(r 187),(.bool true),(i 181),(r 188),.none,(r 189),(r 190),(r 191),(i 483),(i 90),(s cF 484)]
def o139:OF:=fun p P=>fo (fn "catcher" "catcher" (tf p 29) .none .none .none (s "stackwarden.asks" 352) none (r 192) .none)
def o140:OF:=fun p P=>di [de P "__name__" 165 (s "stackwarden.plain" 566),de P "__doc__" 166 .none,de P "__package__" 167 .none,de P "__loader__" 168 (.builtin "__main__.__loader__#opaque"),de P "__spec__" 169 .none,de P "__annotations__" 170 (r 6),de P "__builtins__" 171 (r 4),de P "__file__" 173 (s cF 172),de P "__cached__" 174 .none,de P "WardenError" 206 (r 24),de P "Nought" 222 (r 37),de P "NoDoor" 238 (r 49),de P "elders_of" 249 (r 58),de P "fields_of" 259 (r 65),de P "is_under" 268 (r 72),de P "full_mask" 276 (r 79),de P "HALF" 280 (.int 2147483648 279),de P "TURN" 282 (.int 4294967296 281),de P "wrapped" 289 (r 86),de P "reckoned" 298 (r 93),de P "divided" 307 (r 100),de P "RECKONING" 315 (r 101),de P "OF_RECORDS" 321 (r 102),de P "GOING" 325 (r 103),de P "copied" 333 (r 108),de P "is_door" 341 (r 113),de P "check_door" 351 (r 120),de P "ALWAYS" 416 (r 121),de P "LEFT" 447 (r 165),de P "asked" 458 (r 172),de P "asked_of_records" 469 (r 179),de P "leaves" 476 (r 186),de P "catcher" 485 (r 193),de P "MOST_FRAMES" 489 (.int 12 488),de P "Frame" 522 (r 210),de P "started" 532 (r 221),de P "taken" 538 (r 226),de P "caught_at" 547 (r 233),de P "frame_told" 554 (r 240),de P "replaced" 565 (r 247)] 40
def o141:OF:=fun p P=>nf [(i 2),(i 0),(r 20),(i 4),(i 0),(r 33),(i 6),(i 0),(r 45),(i 9),(i 0),(r 57),(i 15),(i 0),(r 64),(i 20),(i 0),(r 71),(i 22),(i 0),(r 78),(i 27),(i 0),(r 85),(i 29),(i 0),(r 92),(i 41),(i 0),(r 99),(i 51),(i 0),(r 107),(i 56),(i 0),(r 112),(i 58),(i 0),(r 119),(i 67),(i 0),(r 171),(i 77),(i 0),(r 178),(i 88),(i 0),(r 185),(i 90),(i 0),(r 192),(i 97),(i 0),(r 199),(i 104),(i 0),(r 220),(i 106),(i 0),(r 225),(i 110),(i 0),(r 232),(i 117),(i 0),(r 239),(i 120),(i 0),(r 246)]
def o142:OF:=fun p P=>di [de P "__module__" 497 (s "stackwarden.frames" 486),de P "__qualname__" 499 (s "Frame" 498),de P "__firstlineno__" 501 (.int 97 500),de P "__init__" 510 (r 207),de P "__static_attributes__" 515 (r 208)] 5
def o143:OF:=fun p P=>nf [(i 99),(i 4),(r 206)]
def o144:OF:=fun p P=>co [(s "Frame" 492),(s "Frame" 493),(s cF 494),(i 97),(i 0),(i 0),(i 0),(i 0),(r 197),(.bool false),(i 181),(r 198),.none,.none,.none,.none,(i 495),(i 97),(s cF 496)]
def o145:OF:=fun p P=>fm [(some (r 199)),(some (r 3)),(some (r 196)),none,(some (s "stackwarden.frames" 486)),none,(some (r 0))]
def o146:OF:=fun p P=>tu [(s "self" 505),(s "part" 506),(s "boxes" 507)]
def o147:OF:=fun p P=>no (fx 0 0 "__init__" "Frame.__init__" (iC (tf p 32) 0) .none .none .none .none none .none .none)
def o148:OF:=fun p P=>co [(s "__init__" 502),(s "Frame.__init__" 503),(s cF 504),(i 99),(i 3),(i 0),(i 0),(i 3),(r 201),(.bool true),(i 181),(r 202),.none,(r 203),(r 204),(r 205),(i 508),(i 99),(s cF 509)]
def o149:OF:=fun p P=>fo (fn "__init__" "Frame.__init__" (iC (tf p 32) 0) .none .none .none (s "stackwarden.frames" 486) none (r 206) .none)
def o150:OF:=fun p P=>tu [(s "at" 511),(s "boxes" 512),(s "part" 513),(s "stack" 514)]
def o151:OF:=fun p P=>di [de P "__module__" 497 (s "stackwarden.frames" 486),de P "__firstlineno__" 501 (.int 97 500),de P "__init__" 510 (r 207),de P "__static_attributes__" 515 (r 208),de P "__dict__" 517 (r 211),de P "__weakref__" 519 (r 212),de P "__doc__" 520 .none] 4
def o152:OF:=fun p P=>⟨(.type "type"),none,(.cls {name:="Frame",bases:=[(.type "object")],mro:=[(r 210),(.type "object")],ns:=209,qualname:="Frame"}),#[none,none,(some (s "Frame" 490)),(some (s "Frame" 498)),(some (.builtin "object.__new__")),(some (.bool true))]⟩
def o153:OF:=fun p P=>⟨(.type "getset_descriptor"),none,(.fields #[(s "__dict__" 516),(r 210),(.builtin "function.__dict__"),(.builtin "function.__dict__#set")]),#[]⟩
def o154:OF:=fun p P=>⟨(.type "getset_descriptor"),none,(.fields #[(s "__weakref__" 518),(r 210),(.builtin "ExceptionGroup.__weakref__"),.none]),#[]⟩
def o155:OF:=fun p P=>⟨(.type "super"),none,(.fields #[(r 210),(r 210),(r 210)]),#[]⟩
def o156:OF:=fun p P=>⟨(.type "builtin_function_or_method"),none,(.fields #[(.builtin "object.__init_subclass__"),(r 210)]),#[]⟩
def o157:OF:=fun p P=>tu [(s "parts" 526),(s "part" 527),(s "values" 528),(s "nothing" 529)]
def o158:OF:=fun p P=>no (fx 0 0 "started" "started" (tf p 33) .none .none .none .none none .none .none)
def o159:OF:=fun p P=>co [(s "started" 523),(s "started" 524),(s cF 525),(i 104),(i 4),(i 0),(i 0),(i 3),(r 215),(.bool true),(i 181),(r 216),.none,(r 217),(r 218),(r 219),(i 530),(i 104),(s cF 531)]
def o160:OF:=fun p P=>fo (fn "started" "started" (tf p 33) .none .none .none (s "stackwarden.frames" 486) none (r 220) .none)
def o161:OF:=fun p P=>no (fx 0 0 "taken" "taken" (tf p 34) .none .none .none .none none .none .none)
def o162:OF:=fun p P=>co [(s "taken" 533),(s "taken" 534),(s cF 535),(i 106),(i 2),(i 0),(i 0),(i 3),(r 222),(.bool true),(i 181),(r 223),.none,.none,.none,(r 224),(i 536),(i 106),(s cF 537)]
def o163:OF:=fun p P=>fo (fn "taken" "taken" (tf p 34) .none .none .none (s "stackwarden.frames" 486) none (r 225) .none)
def o164:OF:=fun p P=>tu [(s "parts" 542),(s "live" 543),(s "at" 544)]
def o165:OF:=fun p P=>no (fx 0 0 "caught_at" "caught_at" (tf p 35) .none .none .none .none none .none .none)
def o166:OF:=fun p P=>co [(s "caught_at" 539),(s "caught_at" 540),(s cF 541),(i 110),(i 2),(i 0),(i 0),(i 3),(r 227),(.bool true),(i 181),(r 228),.none,(r 229),(r 230),(r 231),(i 545),(i 110),(s cF 546)]
def o167:OF:=fun p P=>fo (fn "caught_at" "caught_at" (tf p 35) .none .none .none (s "stackwarden.frames" 486) none (r 232) .none)
def o168:OF:=fun p P=>tu [(s "frame" 551)]
def o169:OF:=fun p P=>no (fx 0 0 "frame_told" "frame_told" (tf p 36) .none .none .none .none none .none .none)
def o170:OF:=fun p P=>co [(s "frame_told" 548),(s "frame_told" 549),(s cF 550),(i 117),(i 1),(i 0),(i 0),(i 3),(r 234),(.bool true),(i 181),(r 235),.none,(r 236),(r 237),(r 238),(i 552),(i 117),(s cF 553)]
def o171:OF:=fun p P=>fo (fn "frame_told" "frame_told" (tf p 36) .none .none .none (s "stackwarden.frames" 486) none (r 239) .none)
def o172:OF:=fun p P=>tu [(s "some" 560),(s "spot" 561),(s "thing" 562)]
def o173:OF:=fun p P=>no (fx 0 0 "replaced" "replaced" (tf p 38) .none .none .none .none none .none .none)
def o174:OF:=fun p P=>co [(s "replaced" 557),(s "replaced" 558),(s cF 559),(i 120),(i 3),(i 0),(i 0),(i 3),(r 241),(.bool true),(i 181),(r 242),.none,(r 243),(r 244),(r 245),(i 563),(i 120),(s cF 564)]
def o175:OF:=fun p P=>fo (fn "replaced" "replaced" (tf p 38) .none .none .none (s "stackwarden.spots" 555) none (r 246) .none)
def o176:OF:=fun p P=>di [de P "__name__" 165 (s "stackwarden.plain" 566),de P "__doc__" 166 .none,de P "__package__" 167 .none,de P "__loader__" 168 (.builtin "__main__.__loader__#opaque"),de P "__spec__" 169 .none,de P "__annotations__" 170 (r 6),de P "__builtins__" 171 (r 4),de P "__file__" 173 (s cF 172),de P "__cached__" 174 .none,de P "WardenError" 206 (r 24),de P "Nought" 222 (r 37),de P "NoDoor" 238 (r 49),de P "elders_of" 249 (r 58),de P "fields_of" 259 (r 65),de P "is_under" 268 (r 72),de P "full_mask" 276 (r 79),de P "HALF" 280 (.int 2147483648 279),de P "TURN" 282 (.int 4294967296 281),de P "wrapped" 289 (r 86),de P "reckoned" 298 (r 93),de P "divided" 307 (r 100),de P "RECKONING" 315 (r 101),de P "OF_RECORDS" 321 (r 102),de P "GOING" 325 (r 103),de P "copied" 333 (r 108),de P "is_door" 341 (r 113),de P "check_door" 351 (r 120),de P "ALWAYS" 416 (r 121),de P "LEFT" 447 (r 165),de P "asked" 458 (r 172),de P "asked_of_records" 469 (r 179),de P "leaves" 476 (r 186),de P "catcher" 485 (r 193),de P "MOST_FRAMES" 489 (.int 12 488),de P "Frame" 522 (r 210),de P "started" 532 (r 221),de P "taken" 538 (r 226),de P "caught_at" 547 (r 233),de P "frame_told" 554 (r 240),de P "replaced" 565 (r 247),de P "BY_NOUGHT" 569 (.int 1 568),de P "TOO_DEEP" 571 (.int 2 570)] 42
def o177:OF:=fun p P=>di [de P "__name__" 165 (s "stackwarden.plain" 566),de P "__doc__" 166 .none,de P "__package__" 167 .none,de P "__loader__" 168 (.builtin "__main__.__loader__#opaque"),de P "__spec__" 169 .none,de P "__annotations__" 170 (r 6),de P "__builtins__" 171 (r 4),de P "__file__" 173 (s cF 172),de P "__cached__" 174 .none,de P "WardenError" 206 (r 24),de P "Nought" 222 (r 37),de P "NoDoor" 238 (r 49),de P "elders_of" 249 (r 58),de P "fields_of" 259 (r 65),de P "is_under" 268 (r 72),de P "full_mask" 276 (r 79),de P "HALF" 280 (.int 2147483648 279),de P "TURN" 282 (.int 4294967296 281),de P "wrapped" 289 (r 86),de P "reckoned" 298 (r 93),de P "divided" 307 (r 100),de P "RECKONING" 315 (r 101),de P "OF_RECORDS" 321 (r 102),de P "GOING" 325 (r 103),de P "copied" 333 (r 108),de P "is_door" 341 (r 113),de P "check_door" 351 (r 120),de P "ALWAYS" 416 (r 121),de P "LEFT" 447 (r 165),de P "asked" 458 (r 172),de P "asked_of_records" 469 (r 179),de P "leaves" 476 (r 186),de P "catcher" 485 (r 193),de P "MOST_FRAMES" 489 (.int 12 488),de P "Frame" 522 (r 210),de P "started" 532 (r 221),de P "taken" 538 (r 226),de P "caught_at" 547 (r 233),de P "frame_told" 554 (r 240),de P "replaced" 565 (r 247),de P "BY_NOUGHT" 569 (.int 1 568),de P "TOO_DEEP" 571 (.int 2 570),de P "Plain" 806 (r 419)] 43
def o178:OF:=fun p P=>nf [(i 2),(i 0),(r 20),(i 4),(i 0),(r 33),(i 6),(i 0),(r 45),(i 9),(i 0),(r 57),(i 15),(i 0),(r 64),(i 20),(i 0),(r 71),(i 22),(i 0),(r 78),(i 27),(i 0),(r 85),(i 29),(i 0),(r 92),(i 41),(i 0),(r 99),(i 51),(i 0),(r 107),(i 56),(i 0),(r 112),(i 58),(i 0),(r 119),(i 67),(i 0),(r 171),(i 77),(i 0),(r 178),(i 88),(i 0),(r 185),(i 90),(i 0),(r 192),(i 97),(i 0),(r 199),(i 104),(i 0),(r 220),(i 106),(i 0),(r 225),(i 110),(i 0),(r 232),(i 117),(i 0),(r 239),(i 120),(i 0),(r 246),(i 125),(i 0),(r 253)]
def o179:OF:=fun p P=>di [de P "__module__" 579 (s "stackwarden.plain" 566),de P "__qualname__" 581 (s "Plain" 580),de P "__firstlineno__" 583 (.int 125 582),de P "__init__" 589 (r 259),de P "told" 596 (r 266),de P "frames" 602 (r 271),de P "heap" 609 (r 278),de P "step" 619 (r 285),de P "do_row" 629 (r 292),de P "do_straight" 641 (r 299),de P "do_of_records" 654 (r 306),de P "do_reckoning" 660 (r 311),de P "do_going" 669 (r 318),de P "goes" 679 (r 325),de P "go_on" 688 (r 332),de P "spend" 695 (r 339),de P "add_frame" 704 (r 346),de P "do_call" 713 (r 353),de P "do_give" 723 (r 360),de P "fault" 733 (r 367),de P "nothing" 740 (r 374),de P "tagged" 749 (r 381),de P "bare" 757 (r 388),de P "new_record" 765 (r 395),de P "with_field" 775 (r 402),de P "as_begun" 783 (r 409),de P "looked" 792 (r 416),de P "__static_attributes__" 799 (r 417)] 28
def o180:OF:=fun p P=>nf [(i 127),(i 4),(r 258),(i 137),(i 4),(r 265),(i 140),(i 4),(r 270),(i 143),(i 4),(r 277),(i 146),(i 4),(r 284),(i 157),(i 4),(r 291),(i 176),(i 4),(r 298),(i 195),(i 4),(r 305),(i 213),(i 4),(r 310),(i 223),(i 4),(r 317),(i 229),(i 4),(r 324),(i 237),(i 4),(r 331),(i 241),(i 4),(r 338),(i 248),(i 4),(r 345),(i 251),(i 4),(r 352),(i 259),(i 4),(r 359),(i 269),(i 4),(r 366),(i 278),(i 4),(r 373),(i 281),(i 4),(r 380),(i 284),(i 4),(r 387),(i 287),(i 4),(r 394),(i 290),(i 4),(r 401),(i 293),(i 4),(r 408),(i 296),(i 4),(r 415)]
def o181:OF:=fun p P=>co [(s "Plain" 574),(s "Plain" 575),(s cF 576),(i 125),(i 0),(i 0),(i 0),(i 0),(r 251),(.bool false),(i 181),(r 252),.none,.none,.none,.none,(i 577),(i 125),(s cF 578)]
def o182:OF:=fun p P=>fm [(some (r 253)),(some (r 3)),(some (r 250)),none,(some (s "stackwarden.plain" 566)),none,(some (r 0))]
def o183:OF:=fun p P=>no (fx 0 0 "__init__" "Plain.__init__" (iC (tf p 42) 0) .none .none .none .none none .none .none)
def o184:OF:=fun p P=>co [(s "__init__" 584),(s "Plain.__init__" 585),(s cF 586),(i 127),(i 5),(i 0),(i 0),(i 3),(r 255),(.bool true),(i 181),(r 256),.none,.none,.none,(r 257),(i 587),(i 127),(s cF 588)]
def o185:OF:=fun p P=>fo (fn "__init__" "Plain.__init__" (iC (tf p 42) 0) .none .none .none (s "stackwarden.plain" 566) none (r 258) .none)
def o186:OF:=fun p P=>tu [(s "self" 593)]
def o187:OF:=fun p P=>no (fx 0 0 "told" "Plain.told" (iC (tf p 42) 1) .none .none .none .none none .none .none)
def o188:OF:=fun p P=>co [(s "told" 590),(s "Plain.told" 591),(s cF 592),(i 137),(i 1),(i 0),(i 0),(i 3),(r 260),(.bool true),(i 181),(r 261),.none,(r 262),(r 263),(r 264),(i 594),(i 137),(s cF 595)]
def o189:OF:=fun p P=>fo (fn "told" "Plain.told" (iC (tf p 42) 1) .none .none .none (s "stackwarden.plain" 566) none (r 265) .none)
def o190:OF:=fun p P=>no (fx 0 0 "frames" "Plain.frames" (iC (tf p 42) 2) .none .none .none .none none .none .none)
def o191:OF:=fun p P=>co [(s "frames" 597),(s "Plain.frames" 598),(s cF 599),(i 140),(i 1),(i 0),(i 0),(i 3),(r 267),(.bool true),(i 181),(r 268),.none,.none,.none,(r 269),(i 600),(i 140),(s cF 601)]
def o192:OF:=fun p P=>fo (fn "frames" "Plain.frames" (iC (tf p 42) 2) .none .none .none (s "stackwarden.plain" 566) none (r 270) .none)
def o193:OF:=fun p P=>tu [(s "self" 606)]
def o194:OF:=fun p P=>no (fx 0 0 "heap" "Plain.heap" (iC (tf p 42) 3) .none .none .none .none none .none .none)
def o195:OF:=fun p P=>co [(s "heap" 603),(s "Plain.heap" 604),(s cF 605),(i 143),(i 1),(i 0),(i 0),(i 3),(r 272),(.bool true),(i 181),(r 273),.none,(r 274),(r 275),(r 276),(i 607),(i 143),(s cF 608)]
def o196:OF:=fun p P=>fo (fn "heap" "Plain.heap" (iC (tf p 42) 3) .none .none .none (s "stackwarden.plain" 566) none (r 277) .none)
def o197:OF:=fun p P=>tu [(s "self" 613),(s "frame" 614),(s "row" 615),(s "word" 616)]
def o198:OF:=fun p P=>no (fx 0 0 "step" "Plain.step" (iC (tf p 42) 4) .none .none .none .none none .none .none)
def o199:OF:=fun p P=>co [(s "step" 610),(s "Plain.step" 611),(s cF 612),(i 146),(i 1),(i 0),(i 0),(i 3),(r 279),(.bool true),(i 181),(r 280),.none,(r 281),(r 282),(r 283),(i 617),(i 146),(s cF 618)]
def o200:OF:=fun p P=>fo (fn "step" "Plain.step" (iC (tf p 42) 4) .none .none .none (s "stackwarden.plain" 566) none (r 284) .none)
def o201:OF:=fun p P=>tu [(s "self" 623),(s "frame" 624),(s "row" 625),(s "sign" 626)]
def o202:OF:=fun p P=>no (fx 0 0 "do_row" "Plain.do_row" (iC (tf p 42) 5) .none .none .none .none none .none .none)
def o203:OF:=fun p P=>co [(s "do_row" 620),(s "Plain.do_row" 621),(s cF 622),(i 157),(i 3),(i 0),(i 0),(i 3),(r 286),(.bool true),(i 181),(r 287),.none,(r 288),(r 289),(r 290),(i 627),(i 157),(s cF 628)]
def o204:OF:=fun p P=>fo (fn "do_row" "Plain.do_row" (iC (tf p 42) 5) .none .none .none (s "stackwarden.plain" 566) none (r 291) .none)
def o205:OF:=fun p P=>tu [(s "self" 633),(s "frame" 634),(s "row" 635),(s "sign" 636),(s "stack" 637),(s "pair" 638)]
def o206:OF:=fun p P=>no (fx 0 0 "do_straight" "Plain.do_straight" (iC (tf p 42) 6) .none .none .none .none none .none .none)
def o207:OF:=fun p P=>co [(s "do_straight" 630),(s "Plain.do_straight" 631),(s cF 632),(i 176),(i 3),(i 0),(i 0),(i 3),(r 293),(.bool true),(i 181),(r 294),.none,(r 295),(r 296),(r 297),(i 639),(i 176),(s cF 640)]
def o208:OF:=fun p P=>fo (fn "do_straight" "Plain.do_straight" (iC (tf p 42) 6) .none .none .none (s "stackwarden.plain" 566) none (r 298) .none)
def o209:OF:=fun p P=>tu [(s "self" 645),(s "stack" 646),(s "row" 647),(s "sign" 648),(s "number" 649),(s "record" 650),(s "value" 651)]
def o210:OF:=fun p P=>no (fx 0 0 "do_of_records" "Plain.do_of_records" (iC (tf p 42) 7) .none .none .none .none none .none .none)
def o211:OF:=fun p P=>co [(s "do_of_records" 642),(s "Plain.do_of_records" 643),(s cF 644),(i 195),(i 3),(i 0),(i 0),(i 3),(r 300),(.bool true),(i 181),(r 301),.none,(r 302),(r 303),(r 304),(i 652),(i 195),(s cF 653)]
def o212:OF:=fun p P=>fo (fn "do_of_records" "Plain.do_of_records" (iC (tf p 42) 7) .none .none .none (s "stackwarden.plain" 566) none (r 305) .none)
def o213:OF:=fun p P=>no (fx 0 0 "do_reckoning" "Plain.do_reckoning" (iC (tf p 42) 8) .none .none .none .none none .none .none)
def o214:OF:=fun p P=>co [(s "do_reckoning" 655),(s "Plain.do_reckoning" 656),(s cF 657),(i 213),(i 3),(i 0),(i 0),(i 3),(r 307),(.bool true),(i 181),(r 308),.none,.none,.none,(r 309),(i 658),(i 213),(s cF 659)]
def o215:OF:=fun p P=>fo (fn "do_reckoning" "Plain.do_reckoning" (iC (tf p 42) 8) .none .none .none (s "stackwarden.plain" 566) none (r 310) .none)
def o216:OF:=fun p P=>tu [(s "self" 664),(s "frame" 665),(s "row" 666)]
def o217:OF:=fun p P=>no (fx 0 0 "do_going" "Plain.do_going" (iC (tf p 42) 9) .none .none .none .none none .none .none)
def o218:OF:=fun p P=>co [(s "do_going" 661),(s "Plain.do_going" 662),(s cF 663),(i 223),(i 3),(i 0),(i 0),(i 3),(r 312),(.bool true),(i 181),(r 313),.none,(r 314),(r 315),(r 316),(i 667),(i 223),(s cF 668)]
def o219:OF:=fun p P=>fo (fn "do_going" "Plain.do_going" (iC (tf p 42) 9) .none .none .none (s "stackwarden.plain" 566) none (r 317) .none)
def o220:OF:=fun p P=>tu [(s "self" 673),(s "stack" 674),(s "row" 675),(s "record" 676)]
def o221:OF:=fun p P=>no (fx 0 0 "goes" "Plain.goes" (iC (tf p 42) 10) .none .none .none .none none .none .none)
def o222:OF:=fun p P=>co [(s "goes" 670),(s "Plain.goes" 671),(s cF 672),(i 229),(i 3),(i 0),(i 0),(i 3),(r 319),(.bool true),(i 181),(r 320),.none,(r 321),(r 322),(r 323),(i 677),(i 229),(s cF 678)]
def o223:OF:=fun p P=>fo (fn "goes" "Plain.goes" (iC (tf p 42) 10) .none .none .none (s "stackwarden.plain" 566) none (r 324) .none)
def o224:OF:=fun p P=>tu [(s "self" 683),(s "frame" 684),(s "at" 685)]
def o225:OF:=fun p P=>no (fx 0 0 "go_on" "Plain.go_on" (iC (tf p 42) 11) .none .none .none .none none .none .none)
def o226:OF:=fun p P=>co [(s "go_on" 680),(s "Plain.go_on" 681),(s cF 682),(i 237),(i 3),(i 0),(i 0),(i 3),(r 326),(.bool true),(i 181),(r 327),.none,(r 328),(r 329),(r 330),(i 686),(i 237),(s cF 687)]
def o227:OF:=fun p P=>fo (fn "go_on" "Plain.go_on" (iC (tf p 42) 11) .none .none .none (s "stackwarden.plain" 566) none (r 331) .none)
def o228:OF:=fun p P=>tu [(s "self" 692)]
def o229:OF:=fun p P=>no (fx 0 0 "spend" "Plain.spend" (iC (tf p 42) 12) .none .none .none .none none .none .none)
def o230:OF:=fun p P=>co [(s "spend" 689),(s "Plain.spend" 690),(s cF 691),(i 241),(i 1),(i 0),(i 0),(i 3),(r 333),(.bool true),(i 181),(r 334),.none,(r 335),(r 336),(r 337),(i 693),(i 241),(s cF 694)]
def o231:OF:=fun p P=>fo (fn "spend" "Plain.spend" (iC (tf p 42) 12) .none .none .none (s "stackwarden.plain" 566) none (r 338) .none)
def o232:OF:=fun p P=>tu [(s "self" 699),(s "part" 700),(s "values" 701)]
def o233:OF:=fun p P=>no (fx 0 0 "add_frame" "Plain.add_frame" (iC (tf p 42) 13) .none .none .none .none none .none .none)
def o234:OF:=fun p P=>co [(s "add_frame" 696),(s "Plain.add_frame" 697),(s cF 698),(i 248),(i 3),(i 0),(i 0),(i 3),(r 340),(.bool true),(i 181),(r 341),.none,(r 342),(r 343),(r 344),(i 702),(i 248),(s cF 703)]
def o235:OF:=fun p P=>fo (fn "add_frame" "Plain.add_frame" (iC (tf p 42) 13) .none .none .none (s "stackwarden.plain" 566) none (r 345) .none)
def o236:OF:=fun p P=>tu [(s "self" 708),(s "frame" 709),(s "part" 710)]
def o237:OF:=fun p P=>no (fx 0 0 "do_call" "Plain.do_call" (iC (tf p 42) 14) .none .none .none .none none .none .none)
def o238:OF:=fun p P=>co [(s "do_call" 705),(s "Plain.do_call" 706),(s cF 707),(i 251),(i 3),(i 0),(i 0),(i 3),(r 347),(.bool true),(i 181),(r 348),.none,(r 349),(r 350),(r 351),(i 711),(i 251),(s cF 712)]
def o239:OF:=fun p P=>fo (fn "do_call" "Plain.do_call" (iC (tf p 42) 14) .none .none .none (s "stackwarden.plain" 566) none (r 352) .none)
def o240:OF:=fun p P=>tu [(s "self" 717),(s "frame" 718),(s "value" 719),(s "beneath" 720)]
def o241:OF:=fun p P=>no (fx 0 0 "do_give" "Plain.do_give" (iC (tf p 42) 15) .none .none .none .none none .none .none)
def o242:OF:=fun p P=>co [(s "do_give" 714),(s "Plain.do_give" 715),(s cF 716),(i 259),(i 2),(i 0),(i 0),(i 3),(r 354),(.bool true),(i 181),(r 355),.none,(r 356),(r 357),(r 358),(i 721),(i 259),(s cF 722)]
def o243:OF:=fun p P=>fo (fn "do_give" "Plain.do_give" (iC (tf p 42) 15) .none .none .none (s "stackwarden.plain" 566) none (r 359) .none)
def o244:OF:=fun p P=>tu [(s "self" 727),(s "number" 728),(s "at" 729),(s "frame" 730)]
def o245:OF:=fun p P=>no (fx 0 0 "fault" "Plain.fault" (iC (tf p 42) 16) .none .none .none .none none .none .none)
def o246:OF:=fun p P=>co [(s "fault" 724),(s "Plain.fault" 725),(s cF 726),(i 269),(i 2),(i 0),(i 0),(i 3),(r 361),(.bool true),(i 181),(r 362),.none,(r 363),(r 364),(r 365),(i 731),(i 269),(s cF 732)]
def o247:OF:=fun p P=>fo (fn "fault" "Plain.fault" (iC (tf p 42) 16) .none .none .none (s "stackwarden.plain" 566) none (r 366) .none)
def o248:OF:=fun p P=>tu [(s "self" 737)]
def o249:OF:=fun p P=>no (fx 0 0 "nothing" "Plain.nothing" (iC (tf p 42) 17) .none .none .none .none none .none .none)
def o250:OF:=fun p P=>co [(s "nothing" 734),(s "Plain.nothing" 735),(s cF 736),(i 278),(i 1),(i 0),(i 0),(i 3),(r 368),(.bool true),(i 181),(r 369),.none,(r 370),(r 371),(r 372),(i 738),(i 278),(s cF 739)]
def o251:OF:=fun p P=>fo (fn "nothing" "Plain.nothing" (iC (tf p 42) 17) .none .none .none (s "stackwarden.plain" 566) none (r 373) .none)
def o252:OF:=fun p P=>tu [(s "self" 744),(s "tag" 745),(s "number" 746)]
def o253:OF:=fun p P=>no (fx 0 0 "tagged" "Plain.tagged" (iC (tf p 42) 18) .none .none .none .none none .none .none)
def o254:OF:=fun p P=>co [(s "tagged" 741),(s "Plain.tagged" 742),(s cF 743),(i 281),(i 3),(i 0),(i 0),(i 3),(r 375),(.bool true),(i 181),(r 376),.none,(r 377),(r 378),(r 379),(i 747),(i 281),(s cF 748)]
def o255:OF:=fun p P=>fo (fn "tagged" "Plain.tagged" (iC (tf p 42) 18) .none .none .none (s "stackwarden.plain" 566) none (r 380) .none)
def o256:OF:=fun p P=>tu [(s "self" 753),(s "value" 754)]
def o257:OF:=fun p P=>no (fx 0 0 "bare" "Plain.bare" (iC (tf p 42) 19) .none .none .none .none none .none .none)
def o258:OF:=fun p P=>co [(s "bare" 750),(s "Plain.bare" 751),(s cF 752),(i 284),(i 2),(i 0),(i 0),(i 3),(r 382),(.bool true),(i 181),(r 383),.none,(r 384),(r 385),(r 386),(i 755),(i 284),(s cF 756)]
def o259:OF:=fun p P=>fo (fn "bare" "Plain.bare" (iC (tf p 42) 19) .none .none .none (s "stackwarden.plain" 566) none (r 387) .none)
def o260:OF:=fun p P=>tu [(s "self" 761),(s "c" 762)]
def o261:OF:=fun p P=>no (fx 0 0 "new_record" "Plain.new_record" (iC (tf p 42) 20) .none .none .none .none none .none .none)
def o262:OF:=fun p P=>co [(s "new_record" 758),(s "Plain.new_record" 759),(s cF 760),(i 287),(i 2),(i 0),(i 0),(i 3),(r 389),(.bool true),(i 181),(r 390),.none,(r 391),(r 392),(r 393),(i 763),(i 287),(s cF 764)]
def o263:OF:=fun p P=>fo (fn "new_record" "Plain.new_record" (iC (tf p 42) 20) .none .none .none (s "stackwarden.plain" 566) none (r 394) .none)
def o264:OF:=fun p P=>tu [(s "self" 769),(s "record" 770),(s "f" 771),(s "value" 772)]
def o265:OF:=fun p P=>no (fx 0 0 "with_field" "Plain.with_field" (iC (tf p 42) 21) .none .none .none .none none .none .none)
def o266:OF:=fun p P=>co [(s "with_field" 766),(s "Plain.with_field" 767),(s cF 768),(i 290),(i 4),(i 0),(i 0),(i 3),(r 396),(.bool true),(i 181),(r 397),.none,(r 398),(r 399),(r 400),(i 773),(i 290),(s cF 774)]
def o267:OF:=fun p P=>fo (fn "with_field" "Plain.with_field" (iC (tf p 42) 21) .none .none .none (s "stackwarden.plain" 566) none (r 401) .none)
def o268:OF:=fun p P=>tu [(s "self" 779),(s "record" 780)]
def o269:OF:=fun p P=>no (fx 0 0 "as_begun" "Plain.as_begun" (iC (tf p 42) 22) .none .none .none .none none .none .none)
def o270:OF:=fun p P=>co [(s "as_begun" 776),(s "Plain.as_begun" 777),(s cF 778),(i 293),(i 2),(i 0),(i 0),(i 3),(r 403),(.bool true),(i 181),(r 404),.none,(r 405),(r 406),(r 407),(i 781),(i 293),(s cF 782)]
def o271:OF:=fun p P=>fo (fn "as_begun" "Plain.as_begun" (iC (tf p 42) 22) .none .none .none (s "stackwarden.plain" 566) none (r 408) .none)
def o272:OF:=fun p P=>tu [(s "self" 787),(s "frame" 788),(s "row" 789)]
def o273:OF:=fun p P=>no (fx 0 0 "looked" "Plain.looked" (iC (tf p 42) 23) .none .none .none .none none .none .none)
def o274:OF:=fun p P=>co [(s "looked" 784),(s "Plain.looked" 785),(s cF 786),(i 296),(i 3),(i 0),(i 0),(i 3),(r 410),(.bool true),(i 181),(r 411),.none,(r 412),(r 413),(r 414),(i 790),(i 296),(s cF 791)]
def o275:OF:=fun p P=>fo (fn "looked" "Plain.looked" (iC (tf p 42) 23) .none .none .none (s "stackwarden.plain" 566) none (r 415) .none)
def o276:OF:=fun p P=>tu [(s "book" 793),(s "end" 794),(s "left" 795),(s "live" 796),(s "records" 797),(s "said" 798)]
def o277:OF:=fun p P=>di [de P "__module__" 579 (s "stackwarden.plain" 566),de P "__firstlineno__" 583 (.int 125 582),de P "__init__" 589 (r 259),de P "told" 596 (r 266),de P "frames" 602 (r 271),de P "heap" 609 (r 278),de P "step" 619 (r 285),de P "do_row" 629 (r 292),de P "do_straight" 641 (r 299),de P "do_of_records" 654 (r 306),de P "do_reckoning" 660 (r 311),de P "do_going" 669 (r 318),de P "goes" 679 (r 325),de P "go_on" 688 (r 332),de P "spend" 695 (r 339),de P "add_frame" 704 (r 346),de P "do_call" 713 (r 353),de P "do_give" 723 (r 360),de P "fault" 733 (r 367),de P "nothing" 740 (r 374),de P "tagged" 749 (r 381),de P "bare" 757 (r 388),de P "new_record" 765 (r 395),de P "with_field" 775 (r 402),de P "as_begun" 783 (r 409),de P "looked" 792 (r 416),de P "__static_attributes__" 799 (r 417),de P "__dict__" 801 (r 420),de P "__weakref__" 803 (r 421),de P "__doc__" 804 .none] 4
def o278:OF:=fun p P=>⟨(.type "type"),none,(.cls {name:="Plain",bases:=[(.type "object")],mro:=[(r 419),(.type "object")],ns:=418,qualname:="Plain"}),#[none,none,(some (s "Plain" 572)),(some (s "Plain" 580)),(some (.builtin "object.__new__")),(some (.bool true))]⟩
def o279:OF:=fun p P=>⟨(.type "getset_descriptor"),none,(.fields #[(s "__dict__" 800),(r 419),(.builtin "function.__dict__"),(.builtin "function.__dict__#set")]),#[]⟩
def o280:OF:=fun p P=>⟨(.type "getset_descriptor"),none,(.fields #[(s "__weakref__" 802),(r 419),(.builtin "ExceptionGroup.__weakref__"),.none]),#[]⟩
def o281:OF:=fun p P=>⟨(.type "super"),none,(.fields #[(r 419),(r 419),(r 419)]),#[]⟩
def o282:OF:=fun p P=>⟨(.type "builtin_function_or_method"),none,(.fields #[(.builtin "object.__init_subclass__"),(r 419)]),#[]⟩
def o283:OF:=fun p P=>di [de P "__name__" 165 (s "stackwarden.watched" 828),de P "__doc__" 166 .none,de P "__package__" 167 .none,de P "__loader__" 168 (.builtin "__main__.__loader__#opaque"),de P "__spec__" 169 .none,de P "__annotations__" 170 (r 6),de P "__builtins__" 171 (r 4),de P "__file__" 173 (s cF 172),de P "__cached__" 174 .none,de P "WardenError" 206 (r 24),de P "Nought" 222 (r 37),de P "NoDoor" 238 (r 49),de P "elders_of" 249 (r 58),de P "fields_of" 259 (r 65),de P "is_under" 268 (r 72),de P "full_mask" 276 (r 79),de P "HALF" 280 (.int 2147483648 279),de P "TURN" 282 (.int 4294967296 281),de P "wrapped" 289 (r 86),de P "reckoned" 298 (r 93),de P "divided" 307 (r 100),de P "RECKONING" 315 (r 101),de P "OF_RECORDS" 321 (r 102),de P "GOING" 325 (r 103),de P "copied" 333 (r 108),de P "is_door" 341 (r 113),de P "check_door" 351 (r 120),de P "ALWAYS" 416 (r 121),de P "LEFT" 447 (r 165),de P "asked" 458 (r 172),de P "asked_of_records" 469 (r 179),de P "leaves" 476 (r 186),de P "catcher" 485 (r 193),de P "MOST_FRAMES" 489 (.int 12 488),de P "Frame" 522 (r 210),de P "started" 532 (r 221),de P "taken" 538 (r 226),de P "caught_at" 547 (r 233),de P "frame_told" 554 (r 240),de P "replaced" 565 (r 247),de P "BY_NOUGHT" 569 (.int 1 568),de P "TOO_DEEP" 571 (.int 2 570),de P "Plain" 806 (r 419),de P "has_kind" 818 (r 430),de P "record_has_kind" 827 (r 437)] 45
def o284:OF:=fun p P=>nf [(i 2),(i 0),(r 20),(i 4),(i 0),(r 33),(i 6),(i 0),(r 45),(i 9),(i 0),(r 57),(i 15),(i 0),(r 64),(i 20),(i 0),(r 71),(i 22),(i 0),(r 78),(i 27),(i 0),(r 85),(i 29),(i 0),(r 92),(i 41),(i 0),(r 99),(i 51),(i 0),(r 107),(i 56),(i 0),(r 112),(i 58),(i 0),(r 119),(i 67),(i 0),(r 171),(i 77),(i 0),(r 178),(i 88),(i 0),(r 185),(i 90),(i 0),(r 192),(i 97),(i 0),(r 199),(i 104),(i 0),(r 220),(i 106),(i 0),(r 225),(i 110),(i 0),(r 232),(i 117),(i 0),(r 239),(i 120),(i 0),(r 246),(i 125),(i 0),(r 253),(i 299),(i 0),(r 429),(i 307),(i 0),(r 436)]
def o285:OF:=fun p P=>tu [(s "makes" 812),(s "heap" 813),(s "value" 814),(s "kind" 815)]
def o286:OF:=fun p P=>no (fx 0 0 "has_kind" "has_kind" (tf p 44) .none .none .none .none none .none .none)
def o287:OF:=fun p P=>co [(s "has_kind" 809),(s "has_kind" 810),(s cF 811),(i 299),(i 4),(i 0),(i 0),(i 3),(r 424),(.bool true),(i 181),(r 425),.none,(r 426),(r 427),(r 428),(i 816),(i 299),(s cF 817)]
def o288:OF:=fun p P=>fo (fn "has_kind" "has_kind" (tf p 44) .none .none .none (s "stackwarden.values" 807) none (r 429) .none)
def o289:OF:=fun p P=>tu [(s "makes" 822),(s "record" 823),(s "kind" 824)]
def o290:OF:=fun p P=>no (fx 0 0 "record_has_kind" "record_has_kind" (tf p 45) .none .none .none .none none .none .none)
def o291:OF:=fun p P=>co [(s "record_has_kind" 819),(s "record_has_kind" 820),(s cF 821),(i 307),(i 3),(i 0),(i 0),(i 3),(r 431),(.bool true),(i 181),(r 432),.none,(r 433),(r 434),(r 435),(i 825),(i 307),(s cF 826)]
def o292:OF:=fun p P=>fo (fn "record_has_kind" "record_has_kind" (tf p 45) .none .none .none (s "stackwarden.values" 807) none (r 436) .none)
def o293:OF:=fun p P=>di [de P "__name__" 165 (s "stackwarden.watched" 828),de P "__doc__" 166 .none,de P "__package__" 167 .none,de P "__loader__" 168 (.builtin "__main__.__loader__#opaque"),de P "__spec__" 169 .none,de P "__annotations__" 170 (r 6),de P "__builtins__" 171 (r 4),de P "__file__" 173 (s cF 172),de P "__cached__" 174 .none,de P "WardenError" 206 (r 24),de P "Nought" 222 (r 37),de P "NoDoor" 238 (r 49),de P "elders_of" 249 (r 58),de P "fields_of" 259 (r 65),de P "is_under" 268 (r 72),de P "full_mask" 276 (r 79),de P "HALF" 280 (.int 2147483648 279),de P "TURN" 282 (.int 4294967296 281),de P "wrapped" 289 (r 86),de P "reckoned" 298 (r 93),de P "divided" 307 (r 100),de P "RECKONING" 315 (r 101),de P "OF_RECORDS" 321 (r 102),de P "GOING" 325 (r 103),de P "copied" 333 (r 108),de P "is_door" 341 (r 113),de P "check_door" 351 (r 120),de P "ALWAYS" 416 (r 121),de P "LEFT" 447 (r 165),de P "asked" 458 (r 172),de P "asked_of_records" 469 (r 179),de P "leaves" 476 (r 186),de P "catcher" 485 (r 193),de P "MOST_FRAMES" 489 (.int 12 488),de P "Frame" 522 (r 210),de P "started" 532 (r 221),de P "taken" 538 (r 226),de P "caught_at" 547 (r 233),de P "frame_told" 554 (r 240),de P "replaced" 565 (r 247),de P "BY_NOUGHT" 569 (.int 1 568),de P "TOO_DEEP" 571 (.int 2 570),de P "Plain" 806 (r 419),de P "has_kind" 818 (r 430),de P "record_has_kind" 827 (r 437),de P "Watched" 908 (r 496)] 46
def o294:OF:=fun p P=>nf [(i 2),(i 0),(r 20),(i 4),(i 0),(r 33),(i 6),(i 0),(r 45),(i 9),(i 0),(r 57),(i 15),(i 0),(r 64),(i 20),(i 0),(r 71),(i 22),(i 0),(r 78),(i 27),(i 0),(r 85),(i 29),(i 0),(r 92),(i 41),(i 0),(r 99),(i 51),(i 0),(r 107),(i 56),(i 0),(r 112),(i 58),(i 0),(r 119),(i 67),(i 0),(r 171),(i 77),(i 0),(r 178),(i 88),(i 0),(r 185),(i 90),(i 0),(r 192),(i 97),(i 0),(r 199),(i 104),(i 0),(r 220),(i 106),(i 0),(r 225),(i 110),(i 0),(r 232),(i 117),(i 0),(r 239),(i 120),(i 0),(r 246),(i 125),(i 0),(r 253),(i 299),(i 0),(r 429),(i 307),(i 0),(r 436),(i 312),(i 0),(r 443)]
def o295:OF:=fun p P=>⟨(.type "type"),none,(.cls {name:="Plain",bases:=[(.type "object")],mro:=[(r 419),(.type "object")],ns:=418,qualname:="Plain",subclasses:=[(r 496)]}),#[none,none,(some (s "Plain" 572)),(some (s "Plain" 580)),(some (.builtin "object.__new__")),(some (.bool true))]⟩
def o296:OF:=fun p P=>tu [(r 419)]
def o297:OF:=fun p P=>di [de P "__module__" 837 (s "stackwarden.watched" 828),de P "__qualname__" 839 (s "Watched" 838),de P "__firstlineno__" 841 (.int 312 840),de P "nothing" 848 (r 451),de P "tagged" 857 (r 458),de P "bare" 865 (r 465),de P "new_record" 873 (r 472),de P "with_field" 883 (r 479),de P "as_begun" 891 (r 486),de P "looked" 904 (r 493),de P "__static_attributes__" 905 (r 494)] 11
def o298:OF:=fun p P=>nf [(i 314),(i 4),(r 450),(i 317),(i 4),(r 457),(i 320),(i 4),(r 464),(i 323),(i 4),(r 471),(i 326),(i 4),(r 478),(i 329),(i 4),(r 485),(i 332),(i 4),(r 492)]
def o299:OF:=fun p P=>co [(s "Watched" 832),(s "Watched" 833),(s cF 834),(i 312),(i 0),(i 0),(i 0),(i 0),(r 441),(.bool false),(i 181),(r 442),.none,.none,.none,.none,(i 835),(i 312),(s cF 836)]
def o300:OF:=fun p P=>fm [(some (r 443)),(some (r 3)),(some (r 440)),none,(some (s "stackwarden.watched" 828)),none,(some (r 0))]
def o301:OF:=fun p P=>tu [(s "self" 845)]
def o302:OF:=fun p P=>no (fx 0 0 "nothing" "Watched.nothing" (iC (tf p 47) 0) .none .none .none .none none .none .none)
def o303:OF:=fun p P=>co [(s "nothing" 842),(s "Watched.nothing" 843),(s cF 844),(i 314),(i 1),(i 0),(i 0),(i 3),(r 445),(.bool true),(i 181),(r 446),.none,(r 447),(r 448),(r 449),(i 846),(i 314),(s cF 847)]
def o304:OF:=fun p P=>fo (fn "nothing" "Watched.nothing" (iC (tf p 47) 0) .none .none .none (s "stackwarden.watched" 828) none (r 450) .none)
def o305:OF:=fun p P=>tu [(s "self" 852),(s "tag" 853),(s "number" 854)]
def o306:OF:=fun p P=>no (fx 0 0 "tagged" "Watched.tagged" (iC (tf p 47) 1) .none .none .none .none none .none .none)
def o307:OF:=fun p P=>co [(s "tagged" 849),(s "Watched.tagged" 850),(s cF 851),(i 317),(i 3),(i 0),(i 0),(i 3),(r 452),(.bool true),(i 181),(r 453),.none,(r 454),(r 455),(r 456),(i 855),(i 317),(s cF 856)]
def o308:OF:=fun p P=>fo (fn "tagged" "Watched.tagged" (iC (tf p 47) 1) .none .none .none (s "stackwarden.watched" 828) none (r 457) .none)
def o309:OF:=fun p P=>tu [(s "self" 861),(s "value" 862)]
def o310:OF:=fun p P=>no (fx 0 0 "bare" "Watched.bare" (iC (tf p 47) 2) .none .none .none .none none .none .none)
def o311:OF:=fun p P=>co [(s "bare" 858),(s "Watched.bare" 859),(s cF 860),(i 320),(i 2),(i 0),(i 0),(i 3),(r 459),(.bool true),(i 181),(r 460),.none,(r 461),(r 462),(r 463),(i 863),(i 320),(s cF 864)]
def o312:OF:=fun p P=>fo (fn "bare" "Watched.bare" (iC (tf p 47) 2) .none .none .none (s "stackwarden.watched" 828) none (r 464) .none)
def o313:OF:=fun p P=>tu [(s "self" 869),(s "c" 870)]
def o314:OF:=fun p P=>no (fx 0 0 "new_record" "Watched.new_record" (iC (tf p 47) 3) .none .none .none .none none .none .none)
def o315:OF:=fun p P=>co [(s "new_record" 866),(s "Watched.new_record" 867),(s cF 868),(i 323),(i 2),(i 0),(i 0),(i 3),(r 466),(.bool true),(i 181),(r 467),.none,(r 468),(r 469),(r 470),(i 871),(i 323),(s cF 872)]
def o316:OF:=fun p P=>fo (fn "new_record" "Watched.new_record" (iC (tf p 47) 3) .none .none .none (s "stackwarden.watched" 828) none (r 471) .none)
def o317:OF:=fun p P=>tu [(s "self" 877),(s "record" 878),(s "f" 879),(s "value" 880)]
def o318:OF:=fun p P=>no (fx 0 0 "with_field" "Watched.with_field" (iC (tf p 47) 4) .none .none .none .none none .none .none)
def o319:OF:=fun p P=>co [(s "with_field" 874),(s "Watched.with_field" 875),(s cF 876),(i 326),(i 4),(i 0),(i 0),(i 3),(r 473),(.bool true),(i 181),(r 474),.none,(r 475),(r 476),(r 477),(i 881),(i 326),(s cF 882)]
def o320:OF:=fun p P=>fo (fn "with_field" "Watched.with_field" (iC (tf p 47) 4) .none .none .none (s "stackwarden.watched" 828) none (r 478) .none)
def o321:OF:=fun p P=>tu [(s "self" 887),(s "record" 888)]
def o322:OF:=fun p P=>no (fx 0 0 "as_begun" "Watched.as_begun" (iC (tf p 47) 5) .none .none .none .none none .none .none)
def o323:OF:=fun p P=>co [(s "as_begun" 884),(s "Watched.as_begun" 885),(s cF 886),(i 329),(i 2),(i 0),(i 0),(i 3),(r 480),(.bool true),(i 181),(r 481),.none,(r 482),(r 483),(r 484),(i 889),(i 329),(s cF 890)]
def o324:OF:=fun p P=>fo (fn "as_begun" "Watched.as_begun" (iC (tf p 47) 5) .none .none .none (s "stackwarden.watched" 828) none (r 485) .none)
def o325:OF:=fun p P=>tu [(s "self" 895),(s "frame" 896),(s "row" 897),(s "wanted" 898),(s "under" 899),(s "value" 900),(s "kind" 901)]
def o326:OF:=fun p P=>no (fx 0 0 "looked" "Watched.looked" (iC (tf p 47) 6) .none .none .none .none none .none .none)
def o327:OF:=fun p P=>co [(s "looked" 892),(s "Watched.looked" 893),(s cF 894),(i 332),(i 3),(i 0),(i 0),(i 3),(r 487),(.bool true),(i 181),(r 488),.none,(r 489),(r 490),(r 491),(i 902),(i 332),(s cF 903)]
def o328:OF:=fun p P=>fo (fn "looked" "Watched.looked" (iC (tf p 47) 6) .none .none .none (s "stackwarden.watched" 828) none (r 492) .none)
def o329:OF:=fun p P=>di [de P "__module__" 837 (s "stackwarden.watched" 828),de P "__firstlineno__" 841 (.int 312 840),de P "nothing" 848 (r 451),de P "tagged" 857 (r 458),de P "bare" 865 (r 465),de P "new_record" 873 (r 472),de P "with_field" 883 (r 479),de P "as_begun" 891 (r 486),de P "looked" 904 (r 493),de P "__static_attributes__" 905 (r 494),de P "__doc__" 906 .none] 2
def o330:OF:=fun p P=>⟨(.type "type"),none,(.cls {name:="Watched",bases:=[(r 419)],mro:=[(r 496),(r 419),(.type "object")],ns:=495,qualname:="Watched"}),#[(some (r 438)),none,(some (s "Watched" 830)),(some (s "Watched" 838)),(some (.builtin "object.__new__")),(some (.bool true))]⟩
def o331:OF:=fun p P=>⟨(.type "super"),none,(.fields #[(r 496),(r 496),(r 496)]),#[]⟩
def o332:OF:=fun p P=>⟨(.type "builtin_function_or_method"),none,(.fields #[(.builtin "object.__init_subclass__"),(r 496)]),#[]⟩
def o333:OF:=fun p P=>di [de P "__name__" 165 (s "law_stackwarden_k33_straight_code" 909),de P "__doc__" 166 .none,de P "__package__" 167 .none,de P "__loader__" 168 (.builtin "__main__.__loader__#opaque"),de P "__spec__" 169 .none,de P "__annotations__" 170 (r 6),de P "__builtins__" 171 (r 4),de P "__file__" 173 (s cF 172),de P "__cached__" 174 .none,de P "WardenError" 206 (r 24),de P "Nought" 222 (r 37),de P "NoDoor" 238 (r 49),de P "elders_of" 249 (r 58),de P "fields_of" 259 (r 65),de P "is_under" 268 (r 72),de P "full_mask" 276 (r 79),de P "HALF" 280 (.int 2147483648 279),de P "TURN" 282 (.int 4294967296 281),de P "wrapped" 289 (r 86),de P "reckoned" 298 (r 93),de P "divided" 307 (r 100),de P "RECKONING" 315 (r 101),de P "OF_RECORDS" 321 (r 102),de P "GOING" 325 (r 103),de P "copied" 333 (r 108),de P "is_door" 341 (r 113),de P "check_door" 351 (r 120),de P "ALWAYS" 416 (r 121),de P "LEFT" 447 (r 165),de P "asked" 458 (r 172),de P "asked_of_records" 469 (r 179),de P "leaves" 476 (r 186),de P "catcher" 485 (r 193),de P "MOST_FRAMES" 489 (.int 12 488),de P "Frame" 522 (r 210),de P "started" 532 (r 221),de P "taken" 538 (r 226),de P "caught_at" 547 (r 233),de P "frame_told" 554 (r 240),de P "replaced" 565 (r 247),de P "BY_NOUGHT" 569 (.int 1 568),de P "TOO_DEEP" 571 (.int 2 570),de P "Plain" 806 (r 419),de P "has_kind" 818 (r 430),de P "record_has_kind" 827 (r 437),de P "Watched" 908 (r 496),de P "_law_cell" 920 (r 505),de P "_law_word" 928 (r 512),de P "_law_wrapped" 935 (r 519),de P "_law_reckoned" 944 (r 526),de P "_law_fit" 953 (r 533),de P "_law_row" 966 (r 540),de P "_law_done" 977 (r 547),de P "_law_grown" 993 (r 554),de P "_law_tagged" 999 (r 559),de P "_law_bare" 1006 (r 566),de P "_law_no_truths" 1012 (r 571),de P "_law_keeps" 1018 (r 576)] 58
def o334:OF:=fun p P=>nf [(i 2),(i 0),(r 20),(i 4),(i 0),(r 33),(i 6),(i 0),(r 45),(i 9),(i 0),(r 57),(i 15),(i 0),(r 64),(i 20),(i 0),(r 71),(i 22),(i 0),(r 78),(i 27),(i 0),(r 85),(i 29),(i 0),(r 92),(i 41),(i 0),(r 99),(i 51),(i 0),(r 107),(i 56),(i 0),(r 112),(i 58),(i 0),(r 119),(i 67),(i 0),(r 171),(i 77),(i 0),(r 178),(i 88),(i 0),(r 185),(i 90),(i 0),(r 192),(i 97),(i 0),(r 199),(i 104),(i 0),(r 220),(i 106),(i 0),(r 225),(i 110),(i 0),(r 232),(i 117),(i 0),(r 239),(i 120),(i 0),(r 246),(i 125),(i 0),(r 253),(i 299),(i 0),(r 429),(i 307),(i 0),(r 436),(i 312),(i 0),(r 443),(i 344),(i 0),(r 504),(i 351),(i 0),(r 511),(i 360),(i 0),(r 518),(i 362),(i 0),(r 525),(i 376),(i 0),(r 532),(i 393),(i 0),(r 539),(i 403),(i 0),(r 546),(i 425),(i 0),(r 553),(i 439),(i 0),(r 558),(i 443),(i 0),(r 565),(i 447),(i 0),(r 570),(i 449),(i 0),(r 575)]
def o335:OF:=fun p P=>tu [(s "_law_script" 914),(s "_law_k" 915),(s "_law_far" 916),(s "_law_cell_here" 917)]
def o336:OF:=fun p P=>no (fx 0 0 "_law_cell" "_law_cell" (tf p 49) .none .none .none .none none .none .none)
def o337:OF:=fun p P=>co [(s "_law_cell" 911),(s "_law_cell" 912),(s cF 913),(i 344),(i 2),(i 0),(i 0),(i 3),(r 499),(.bool true),(i 181),(r 500),.none,(r 501),(r 502),(r 503),(i 918),(i 344),(s cF 919)]
def o338:OF:=fun p P=>fo (fn "_law_cell" "_law_cell" (tf p 49) .none .none .none (s "law_stackwarden_k33_straight_code" 909) none (r 504) .none)
def o339:OF:=fun p P=>tu [(s "_law_cell_here" 924),(s "_law_edge" 925)]
def o340:OF:=fun p P=>no (fx 0 0 "_law_word" "_law_word" (tf p 50) .none .none .none .none none .none .none)
def o341:OF:=fun p P=>co [(s "_law_word" 921),(s "_law_word" 922),(s cF 923),(i 351),(i 1),(i 0),(i 0),(i 3),(r 506),(.bool true),(i 181),(r 507),.none,(r 508),(r 509),(r 510),(i 926),(i 351),(s cF 927)]
def o342:OF:=fun p P=>fo (fn "_law_word" "_law_word" (tf p 50) .none .none .none (s "law_stackwarden_k33_straight_code" 909) none (r 511) .none)
def o343:OF:=fun p P=>tu [(s "_law_number" 932)]
def o344:OF:=fun p P=>no (fx 0 0 "_law_wrapped" "_law_wrapped" (tf p 51) .none .none .none .none none .none .none)
def o345:OF:=fun p P=>co [(s "_law_wrapped" 929),(s "_law_wrapped" 930),(s cF 931),(i 360),(i 1),(i 0),(i 0),(i 3),(r 513),(.bool true),(i 181),(r 514),.none,(r 515),(r 516),(r 517),(i 933),(i 360),(s cF 934)]
def o346:OF:=fun p P=>fo (fn "_law_wrapped" "_law_wrapped" (tf p 51) .none .none .none (s "law_stackwarden_k33_straight_code" 909) none (r 518) .none)
def o347:OF:=fun p P=>tu [(s "_law_sign" 939),(s "_law_one" 940),(s "_law_other" 941)]
def o348:OF:=fun p P=>no (fx 0 0 "_law_reckoned" "_law_reckoned" (tf p 52) .none .none .none .none none .none .none)
def o349:OF:=fun p P=>co [(s "_law_reckoned" 936),(s "_law_reckoned" 937),(s cF 938),(i 362),(i 3),(i 0),(i 0),(i 3),(r 520),(.bool true),(i 181),(r 521),.none,(r 522),(r 523),(r 524),(i 942),(i 362),(s cF 943)]
def o350:OF:=fun p P=>fo (fn "_law_reckoned" "_law_reckoned" (tf p 52) .none .none .none (s "law_stackwarden_k33_straight_code" 909) none (r 525) .none)
def o351:OF:=fun p P=>tu [(s "_law_stack" 948),(s "_law_height" 949),(s "_law_some" 950)]
def o352:OF:=fun p P=>no (fx 0 0 "_law_fit" "_law_fit" (tf p 53) .none .none .none .none none .none .none)
def o353:OF:=fun p P=>co [(s "_law_fit" 945),(s "_law_fit" 946),(s cF 947),(i 376),(i 2),(i 0),(i 0),(i 3),(r 527),(.bool true),(i 181),(r 528),.none,(r 529),(r 530),(r 531),(i 951),(i 376),(s cF 952)]
def o354:OF:=fun p P=>fo (fn "_law_fit" "_law_fit" (tf p 53) .none .none .none (s "law_stackwarden_k33_straight_code" 909) none (r 532) .none)
def o355:OF:=fun p P=>tu [(s "_law_stack" 957),(s "_law_boxes" 958),(s "_law_height" 959),(s "_law_cell_here" 960),(s "_law_other" 961),(s "_law_some" 962),(s "_law_sign" 963)]
def o356:OF:=fun p P=>no (fx 0 0 "_law_row" "_law_row" (tf p 54) .none .none .none .none none .none .none)
def o357:OF:=fun p P=>co [(s "_law_row" 954),(s "_law_row" 955),(s cF 956),(i 393),(i 5),(i 0),(i 0),(i 3),(r 534),(.bool true),(i 181),(r 535),.none,(r 536),(r 537),(r 538),(i 964),(i 393),(s cF 965)]
def o358:OF:=fun p P=>fo (fn "_law_row" "_law_row" (tf p 54) .none .none .none (s "law_stackwarden_k33_straight_code" 909) none (r 539) .none)
def o359:OF:=fun p P=>tu [(s "_law_stack" 970),(s "_law_boxes" 971),(s "_law_said" 972),(s "_law_row_here" 973),(s "_law_other" 974)]
def o360:OF:=fun p P=>no (fx 0 0 "_law_done" "_law_done" (tf p 55) .none .none .none .none none .none .none)
def o361:OF:=fun p P=>co [(s "_law_done" 967),(s "_law_done" 968),(s cF 969),(i 403),(i 4),(i 0),(i 0),(i 3),(r 541),(.bool true),(i 181),(r 542),.none,(r 543),(r 544),(r 545),(i 975),(i 403),(s cF 976)]
def o362:OF:=fun p P=>fo (fn "_law_done" "_law_done" (tf p 55) .none .none .none (s "law_stackwarden_k33_straight_code" 909) none (r 546) .none)
def o363:OF:=fun p P=>tu [(s "_law_script" 981),(s "_law_boxes" 982),(s "_law_height" 983),(s "_law_rows" 984),(s "_law_states" 985),(s "_law_k" 986),(s "_law_stack" 987),(s "_law_now" 988),(s "_law_said" 989),(s "_law_row_here" 990)]
def o364:OF:=fun p P=>no (fx 0 0 "_law_grown" "_law_grown" (tf p 56) .none .none .none .none none .none .none)
def o365:OF:=fun p P=>co [(s "_law_grown" 978),(s "_law_grown" 979),(s cF 980),(i 425),(i 3),(i 0),(i 0),(i 3),(r 548),(.bool true),(i 181),(r 549),.none,(r 550),(r 551),(r 552),(i 991),(i 425),(s cF 992)]
def o366:OF:=fun p P=>fo (fn "_law_grown" "_law_grown" (tf p 56) .none .none .none (s "law_stackwarden_k33_straight_code" 909) none (r 553) .none)
def o367:OF:=fun p P=>no (fx 0 0 "_law_tagged" "_law_tagged" (tf p 57) .none .none .none .none none .none .none)
def o368:OF:=fun p P=>co [(s "_law_tagged" 994),(s "_law_tagged" 995),(s cF 996),(i 439),(i 2),(i 0),(i 0),(i 3),(r 555),(.bool true),(i 181),(r 556),.none,.none,.none,(r 557),(i 997),(i 439),(s cF 998)]
def o369:OF:=fun p P=>fo (fn "_law_tagged" "_law_tagged" (tf p 57) .none .none .none (s "law_stackwarden_k33_straight_code" 909) none (r 558) .none)
def o370:OF:=fun p P=>tu [(s "_law_value" 1003)]
def o371:OF:=fun p P=>no (fx 0 0 "_law_bare" "_law_bare" (tf p 58) .none .none .none .none none .none .none)
def o372:OF:=fun p P=>co [(s "_law_bare" 1000),(s "_law_bare" 1001),(s cF 1002),(i 443),(i 1),(i 0),(i 0),(i 3),(r 560),(.bool true),(i 181),(r 561),.none,(r 562),(r 563),(r 564),(i 1004),(i 443),(s cF 1005)]
def o373:OF:=fun p P=>fo (fn "_law_bare" "_law_bare" (tf p 58) .none .none .none (s "law_stackwarden_k33_straight_code" 909) none (r 565) .none)
def o374:OF:=fun p P=>no (fx 0 0 "_law_no_truths" "_law_no_truths" (tf p 59) .none .none .none .none none .none .none)
def o375:OF:=fun p P=>co [(s "_law_no_truths" 1007),(s "_law_no_truths" 1008),(s cF 1009),(i 447),(i 1),(i 0),(i 0),(i 3),(r 567),(.bool true),(i 181),(r 568),.none,.none,.none,(r 569),(i 1010),(i 447),(s cF 1011)]
def o376:OF:=fun p P=>fo (fn "_law_no_truths" "_law_no_truths" (tf p 59) .none .none .none (s "law_stackwarden_k33_straight_code" 909) none (r 570) .none)
def o377:OF:=fun p P=>no (fx 0 0 "_law_keeps" "_law_keeps" (tf p 60) .none .none .none .none none .none .none)
def o378:OF:=fun p P=>co [(s "_law_keeps" 1013),(s "_law_keeps" 1014),(s cF 1015),(i 449),(i 5),(i 0),(i 0),(i 3),(r 572),(.bool true),(i 181),(r 573),.none,.none,.none,(r 574),(i 1016),(i 449),(s cF 1017)]
def o379:OF:=fun p P=>fo (fn "_law_keeps" "_law_keeps" (tf p 60) .none .none .none (s "law_stackwarden_k33_straight_code" 909) none (r 575) .none)
def o380:OF:=fun p P=>di [de P "__name__" 165 (s "law_stackwarden_k33_straight_code" 909),de P "__doc__" 166 .none,de P "__package__" 167 .none,de P "__loader__" 168 (.builtin "__main__.__loader__#opaque"),de P "__spec__" 169 .none,de P "__annotations__" 170 (r 6),de P "__builtins__" 171 (r 4),de P "__file__" 173 (s cF 172),de P "__cached__" 174 .none,de P "WardenError" 206 (r 24),de P "Nought" 222 (r 37),de P "NoDoor" 238 (r 49),de P "elders_of" 249 (r 58),de P "fields_of" 259 (r 65),de P "is_under" 268 (r 72),de P "full_mask" 276 (r 79),de P "HALF" 280 (.int 2147483648 279),de P "TURN" 282 (.int 4294967296 281),de P "wrapped" 289 (r 86),de P "reckoned" 298 (r 93),de P "divided" 307 (r 100),de P "RECKONING" 315 (r 101),de P "OF_RECORDS" 321 (r 102),de P "GOING" 325 (r 103),de P "copied" 333 (r 108),de P "is_door" 341 (r 113),de P "check_door" 351 (r 120),de P "ALWAYS" 416 (r 121),de P "LEFT" 447 (r 165),de P "asked" 458 (r 172),de P "asked_of_records" 469 (r 179),de P "leaves" 476 (r 186),de P "catcher" 485 (r 193),de P "MOST_FRAMES" 489 (.int 12 488),de P "Frame" 522 (r 210),de P "started" 532 (r 221),de P "taken" 538 (r 226),de P "caught_at" 547 (r 233),de P "frame_told" 554 (r 240),de P "replaced" 565 (r 247),de P "BY_NOUGHT" 569 (.int 1 568),de P "TOO_DEEP" 571 (.int 2 570),de P "Plain" 806 (r 419),de P "has_kind" 818 (r 430),de P "record_has_kind" 827 (r 437),de P "Watched" 908 (r 496),de P "_law_cell" 920 (r 505),de P "_law_word" 928 (r 512),de P "_law_wrapped" 935 (r 519),de P "_law_reckoned" 944 (r 526),de P "_law_fit" 953 (r 533),de P "_law_row" 966 (r 540),de P "_law_done" 977 (r 547),de P "_law_grown" 993 (r 554),de P "_law_tagged" 999 (r 559),de P "_law_bare" 1006 (r 566),de P "_law_no_truths" 1012 (r 571),de P "_law_keeps" 1018 (r 576),de P "law" 1024 (r 581)] 59
def o381:OF:=fun p P=>nf [(i 2),(i 0),(r 20),(i 4),(i 0),(r 33),(i 6),(i 0),(r 45),(i 9),(i 0),(r 57),(i 15),(i 0),(r 64),(i 20),(i 0),(r 71),(i 22),(i 0),(r 78),(i 27),(i 0),(r 85),(i 29),(i 0),(r 92),(i 41),(i 0),(r 99),(i 51),(i 0),(r 107),(i 56),(i 0),(r 112),(i 58),(i 0),(r 119),(i 67),(i 0),(r 171),(i 77),(i 0),(r 178),(i 88),(i 0),(r 185),(i 90),(i 0),(r 192),(i 97),(i 0),(r 199),(i 104),(i 0),(r 220),(i 106),(i 0),(r 225),(i 110),(i 0),(r 232),(i 117),(i 0),(r 239),(i 120),(i 0),(r 246),(i 125),(i 0),(r 253),(i 299),(i 0),(r 429),(i 307),(i 0),(r 436),(i 312),(i 0),(r 443),(i 344),(i 0),(r 504),(i 351),(i 0),(r 511),(i 360),(i 0),(r 518),(i 362),(i 0),(r 525),(i 376),(i 0),(r 532),(i 393),(i 0),(r 539),(i 403),(i 0),(r 546),(i 425),(i 0),(r 553),(i 439),(i 0),(r 558),(i 443),(i 0),(r 565),(i 447),(i 0),(r 570),(i 449),(i 0),(r 575),(i 469),(i 0),(r 580)]
def o382:OF:=fun p P=>no (fx 0 0 "law" "law" (tf p 61) .none .none .none .none none .none .none)
def o383:OF:=fun p P=>co [(s "law" 1019),(s "law" 1020),(s cF 1021),(i 469),(i 1),(i 0),(i 0),(i 3),(r 577),(.bool true),(i 181),(r 578),.none,.none,.none,(r 579),(i 1022),(i 469),(s cF 1023)]
def o384:OF:=fun p P=>fo (fn "law" "law" (tf p 61) .none .none .none (s "law_stackwarden_k33_straight_code" 909) none (r 580) .none)
def T0:TF:=fun p P=>(bn (PySem.W.boot_o_0 P) (bn (PySem.W.boot_o_1 P) (bn (PySem.W.boot_o_3 P) (bl (PySem.W.boot_o_7 P)) (bl (o0 p P))) (bn (PySem.W.boot_o_5 P) (bl (PySem.W.boot_o_9 P)) (bl (o2 p P)))) (bn (PySem.W.boot_o_2 P) (bn (PySem.W.boot_o_4 P) (bl (PySem.W.boot_o_8 P)) (bl (o1 p P))) (bn (PySem.W.boot_o_6 P) (bl (PySem.W.boot_o_10 P)) (bl (o3 p P)))))
def T1:TF:=fun p P=>(bn (PySem.W.boot_o_0 P) (bn (PySem.W.boot_o_1 P) (bn (o4 p P) (bn (PySem.W.boot_o_7 P) (bl (o6 p P)) (bl (o11 p P))) (bn (o0 p P) (bl (o1 p P)) (bl (o15 p P)))) (bn (PySem.W.boot_o_5 P) (bn (PySem.W.boot_o_9 P) (bl (o8 p P)) (bl (o13 p P))) (bn (o2 p P) (bl (o10 p P)) .nil))) (bn (PySem.W.boot_o_2 P) (bn (PySem.W.boot_o_4 P) (bn (PySem.W.boot_o_8 P) (bl (o7 p P)) (bl (o12 p P))) (bn (o5 p P) (bl (o9 p P)) .nil)) (bn (PySem.W.boot_o_6 P) (bn (PySem.W.boot_o_10 P) (bl (o0 p P)) (bl (o14 p P))) (bn (o3 p P) (bl (o0 p P)) .nil))))
def T2:TF:=fun p P=>(bn (PySem.W.boot_o_0 P) (bn (PySem.W.boot_o_1 P) (bn (o16 p P) (bn (PySem.W.boot_o_7 P) (bn (o6 p P) (bl (o0 p P)) .nil) (bn (o11 p P) (bl (o26 p P)) .nil)) (bn (o0 p P) (bn (o1 p P) (bl (o0 p P)) .nil) (bl (o15 p P)))) (bn (PySem.W.boot_o_5 P) (bn (PySem.W.boot_o_9 P) (bn (o8 p P) (bl (o21 p P)) .nil) (bl (o13 p P))) (bn (o2 p P) (bn (o10 p P) (bl (o24 p P)) .nil) (bl (o7 p P))))) (bn (PySem.W.boot_o_2 P) (bn (PySem.W.boot_o_4 P) (bn (PySem.W.boot_o_8 P) (bn (o7 p P) (bl (o1 p P)) .nil) (bl (o18 p P))) (bn (o17 p P) (bn (o9 p P) (bl (o23 p P)) .nil) (bl (o19 p P)))) (bn (PySem.W.boot_o_6 P) (bn (PySem.W.boot_o_10 P) (bn (o0 p P) (bl (o22 p P)) .nil) (bl (o14 p P))) (bn (o3 p P) (bn (o0 p P) (bl (o25 p P)) .nil) (bl (o20 p P))))))
def T3:TF:=fun p P=>(bn (PySem.W.boot_o_0 P) (bn (PySem.W.boot_o_1 P) (bn (o27 p P) (bn (PySem.W.boot_o_7 P) (bn (o6 p P) (bn (o0 p P) (bl (o42 p P)) .nil) (bn (o0 p P) (bl (o52 p P)) .nil)) (bn (o11 p P) (bn (o26 p P) (bl (o47 p P)) .nil) (bl (o0 p P)))) (bn (o0 p P) (bn (o1 p P) (bn (o0 p P) (bl (o1 p P)) .nil) (bl (o36 p P))) (bn (o15 p P) (bn (o0 p P) (bl (o49 p P)) .nil) (bl (o0 p P))))) (bn (PySem.W.boot_o_5 P) (bn (PySem.W.boot_o_9 P) (bn (o8 p P) (bn (o21 p P) (bl (o44 p P)) .nil) (bl (o34 p P))) (bn (o13 p P) (bn (o7 p P) (bl (o0 p P)) .nil) (bl (o39 p P)))) (bn (o2 p P) (bn (o10 p P) (bn (o24 p P) (bl (o0 p P)) .nil) (bl (o1 p P))) (bn (o7 p P) (bn (o31 p P) (bl (o50 p P)) .nil) (bl (o41 p P)))))) (bn (PySem.W.boot_o_2 P) (bn (PySem.W.boot_o_4 P) (bn (PySem.W.boot_o_8 P) (bn (o7 p P) (bn (o1 p P) (bl (o43 p P)) .nil) (bl (o33 p P))) (bn (o29 p P) (bn (o19 p P) (bl (o48 p P)) .nil) (bl (o38 p P)))) (bn (o28 p P) (bn (o9 p P) (bn (o23 p P) (bl (o45 p P)) .nil) (bl (o0 p P))) (bn (o19 p P) (bn (o1 p P) (bl (o0 p P)) .nil) (bl (o1 p P))))) (bn (PySem.W.boot_o_6 P) (bn (PySem.W.boot_o_10 P) (bn (o0 p P) (bn (o22 p P) (bl (o0 p P)) .nil) (bl (o35 p P))) (bn (o14 p P) (bn (o30 p P) (bl (o1 p P)) .nil) (bl (o40 p P)))) (bn (o3 p P) (bn (o0 p P) (bn (o25 p P) (bl (o46 p P)) .nil) (bl (o37 p P))) (bn (o20 p P) (bn (o32 p P) (bl (o51 p P)) .nil) (bl (o0 p P)))))))
def T4:TF:=fun p P=>(bn (PySem.W.boot_o_0 P) (bn (PySem.W.boot_o_1 P) (bn (o53 p P) (bn (PySem.W.boot_o_7 P) (bn (o6 p P) (bn (o0 p P) (bl (o42 p P)) (bl (o1 p P))) (bn (o0 p P) (bl (o52 p P)) (bl (o73 p P)))) (bn (o11 p P) (bn (o26 p P) (bl (o47 p P)) (bl (o69 p P))) (bn (o0 p P) (bl (o0 p P)) (bl (o78 p P))))) (bn (o0 p P) (bn (o1 p P) (bn (o0 p P) (bl (o1 p P)) (bl (o65 p P))) (bn (o36 p P) (bl (o0 p P)) (bl (o1 p P)))) (bn (o15 p P) (bn (o0 p P) (bl (o49 p P)) (bl (o71 p P))) (bn (o0 p P) (bl (o60 p P)) .nil)))) (bn (PySem.W.boot_o_5 P) (bn (PySem.W.boot_o_9 P) (bn (o8 p P) (bn (o21 p P) (bl (o44 p P)) (bl (o0 p P))) (bn (o34 p P) (bl (o1 p P)) (bl (o75 p P)))) (bn (o13 p P) (bn (o7 p P) (bl (o0 p P)) (bl (o1 p P))) (bn (o39 p P) (bl (o59 p P)) .nil))) (bn (o2 p P) (bn (o10 p P) (bn (o24 p P) (bl (o0 p P)) (bl (o67 p P))) (bn (o1 p P) (bl (o57 p P)) (bl (o0 p P)))) (bn (o7 p P) (bn (o31 p P) (bl (o50 p P)) (bl (o0 p P))) (bn (o41 p P) (bl (o62 p P)) .nil))))) (bn (PySem.W.boot_o_2 P) (bn (PySem.W.boot_o_4 P) (bn (PySem.W.boot_o_8 P) (bn (o7 p P) (bn (o1 p P) (bl (o43 p P)) (bl (o63 p P))) (bn (o33 p P) (bl (o0 p P)) (bl (o74 p P)))) (bn (o29 p P) (bn (o19 p P) (bl (o48 p P)) (bl (o0 p P))) (bn (o38 p P) (bl (o1 p P)) (bl (o79 p P))))) (bn (o54 p P) (bn (o9 p P) (bn (o23 p P) (bl (o45 p P)) (bl (o66 p P))) (bn (o0 p P) (bl (o56 p P)) (bl (o76 p P)))) (bn (o19 p P) (bn (o1 p P) (bl (o0 p P)) (bl (o72 p P))) (bn (o1 p P) (bl (o61 p P)) .nil)))) (bn (PySem.W.boot_o_6 P) (bn (PySem.W.boot_o_10 P) (bn (o0 p P) (bn (o22 p P) (bl (o0 p P)) (bl (o64 p P))) (bn (o35 p P) (bl (o55 p P)) (bl (o0 p P)))) (bn (o14 p P) (bn (o30 p P) (bl (o1 p P)) (bl (o70 p P))) (bn (o40 p P) (bl (o0 p P)) .nil))) (bn (o3 p P) (bn (o0 p P) (bn (o25 p P) (bl (o46 p P)) (bl (o68 p P))) (bn (o37 p P) (bl (o58 p P)) (bl (o77 p P)))) (bn (o20 p P) (bn (o32 p P) (bl (o51 p P)) (bl (o1 p P))) (bn (o0 p P) (bl (o0 p P)) .nil))))))
def u0:TF:=fun p P=>(bn (o0 p P) (bn (o1 p P) (bl (o89 p P)) .nil) (bn (o65 p P) (bl (o119 p P)) .nil))
def u1:TF:=fun p P=>(bn (o23 p P) (bn (o45 p P) (bl (o90 p P)) .nil) (bn (o66 p P) (bl (o120 p P)) .nil))
def u2:TF:=fun p P=>(bn (o22 p P) (bn (o0 p P) (bl (o88 p P)) .nil) (bn (o64 p P) (bl (o118 p P)) .nil))
def T5:TF:=fun p P=>(bn (PySem.W.boot_o_0 P) (bn (PySem.W.boot_o_1 P) (bn (o80 p P) (bn (PySem.W.boot_o_7 P) (bn (o6 p P) (bn (o0 p P) (bn (o42 p P) (bl (o85 p P)) .nil) (bn (o1 p P) (bl (o0 p P)) .nil)) (bn (o0 p P) (bn (o52 p P) (bl (o101 p P)) .nil) (bl (o73 p P)))) (bn (o11 p P) (bn (o26 p P) (bn (o47 p P) (bl (o93 p P)) .nil) (bl (o69 p P))) (bn (o0 p P) (bn (o0 p P) (bl (o109 p P)) .nil) (bl (o78 p P))))) (bn (o0 p P) (bn (o1 p P) (u0 p P) (bn (o36 p P) (bn (o0 p P) (bl (o105 p P)) .nil) (bl (o1 p P)))) (bn (o15 p P) (bn (o0 p P) (bn (o49 p P) (bl (o97 p P)) .nil) (bl (o71 p P))) (bn (o0 p P) (bn (o60 p P) (bl (o112 p P)) .nil) (bl (o0 p P)))))) (bn (PySem.W.boot_o_5 P) (bn (PySem.W.boot_o_9 P) (bn (o8 p P) (bn (o21 p P) (bn (o44 p P) (bl (o87 p P)) .nil) (bn (o0 p P) (bl (o117 p P)) .nil)) (bn (o34 p P) (bn (o1 p P) (bl (o103 p P)) .nil) (bl (o75 p P)))) (bn (o13 p P) (bn (o7 p P) (bn (o0 p P) (bl (o95 p P)) .nil) (bl (o1 p P))) (bn (o39 p P) (bn (o59 p P) (bl (o111 p P)) .nil) (bl (o81 p P))))) (bn (o2 p P) (bn (o10 p P) (bn (o24 p P) (bn (o0 p P) (bl (o91 p P)) .nil) (bl (o67 p P))) (bn (o1 p P) (bn (o57 p P) (bl (o107 p P)) .nil) (bl (o0 p P)))) (bn (o7 p P) (bn (o31 p P) (bn (o50 p P) (bl (o99 p P)) .nil) (bl (o0 p P))) (bn (o41 p P) (bn (o62 p P) (bl (o114 p P)) .nil) (bl (o83 p P))))))) (bn (PySem.W.boot_o_2 P) (bn (PySem.W.boot_o_4 P) (bn (PySem.W.boot_o_8 P) (bn (o7 p P) (bn (o1 p P) (bn (o43 p P) (bl (o86 p P)) .nil) (bn (o63 p P) (bl (o116 p P)) .nil)) (bn (o33 p P) (bn (o0 p P) (bl (o102 p P)) .nil) (bl (o74 p P)))) (bn (o29 p P) (bn (o19 p P) (bn (o48 p P) (bl (o94 p P)) .nil) (bl (o0 p P))) (bn (o38 p P) (bn (o1 p P) (bl (o110 p P)) .nil) (bl (o79 p P))))) (bn (o54 p P) (bn (o9 p P) (u1 p P) (bn (o0 p P) (bn (o56 p P) (bl (o106 p P)) .nil) (bl (o76 p P)))) (bn (o19 p P) (bn (o1 p P) (bn (o0 p P) (bl (o98 p P)) .nil) (bl (o72 p P))) (bn (o1 p P) (bn (o61 p P) (bl (o113 p P)) .nil) (bl (o82 p P)))))) (bn (PySem.W.boot_o_6 P) (bn (PySem.W.boot_o_10 P) (bn (o0 p P) (u2 p P) (bn (o35 p P) (bn (o55 p P) (bl (o104 p P)) .nil) (bl (o0 p P)))) (bn (o14 p P) (bn (o30 p P) (bn (o1 p P) (bl (o96 p P)) .nil) (bl (o70 p P))) (bn (o40 p P) (bn (o0 p P) (bl (o0 p P)) .nil) (bl (o0 p P))))) (bn (o3 p P) (bn (o0 p P) (bn (o25 p P) (bn (o46 p P) (bl (o92 p P)) .nil) (bl (o68 p P))) (bn (o37 p P) (bn (o58 p P) (bl (o108 p P)) .nil) (bl (o77 p P)))) (bn (o20 p P) (bn (o32 p P) (bn (o51 p P) (bl (o100 p P)) .nil) (bl (o1 p P))) (bn (o0 p P) (bn (o0 p P) (bl (o115 p P)) .nil) (bl (o84 p P))))))))
def T6:TF:=fun p P=>(bn (PySem.W.boot_o_0 P) (bn (PySem.W.boot_o_1 P) (bn (o121 p P) (bn (PySem.W.boot_o_7 P) (bn (o6 p P) (bn (o0 p P) (bn (o42 p P) (bl (o85 p P)) (bl (o137 p P))) (bn (o1 p P) (bl (o0 p P)) .nil)) (bn (o0 p P) (bn (o52 p P) (bl (o101 p P)) .nil) (bn (o73 p P) (bl (o128 p P)) .nil))) (bn (o11 p P) (bn (o26 p P) (bn (o47 p P) (bl (o93 p P)) .nil) (bn (o69 p P) (bl (o1 p P)) .nil)) (bn (o0 p P) (bn (o0 p P) (bl (o109 p P)) .nil) (bn (o78 p P) (bl (o0 p P)) .nil)))) (bn (o0 p P) (bn (o1 p P) (u0 p P) (bn (o36 p P) (bn (o0 p P) (bl (o105 p P)) .nil) (bn (o1 p P) (bl (o131 p P)) .nil))) (bn (o15 p P) (bn (o0 p P) (bn (o49 p P) (bl (o97 p P)) .nil) (bn (o71 p P) (bl (o126 p P)) .nil)) (bn (o0 p P) (bn (o60 p P) (bl (o112 p P)) .nil) (bn (o0 p P) (bl (o0 p P)) .nil))))) (bn (PySem.W.boot_o_5 P) (bn (PySem.W.boot_o_9 P) (bn (o8 p P) (bn (o21 p P) (bn (o44 p P) (bl (o87 p P)) (bl (o139 p P))) (bn (o0 p P) (bl (o117 p P)) .nil)) (bn (o34 p P) (bn (o1 p P) (bl (o103 p P)) .nil) (bn (o75 p P) (bl (o129 p P)) .nil))) (bn (o13 p P) (bn (o7 p P) (bn (o0 p P) (bl (o95 p P)) .nil) (bn (o1 p P) (bl (o0 p P)) .nil)) (bn (o39 p P) (bn (o59 p P) (bl (o111 p P)) .nil) (bn (o81 p P) (bl (o134 p P)) .nil)))) (bn (o2 p P) (bn (o10 p P) (bn (o24 p P) (bn (o0 p P) (bl (o91 p P)) .nil) (bn (o67 p P) (bl (o123 p P)) .nil)) (bn (o1 p P) (bn (o57 p P) (bl (o107 p P)) .nil) (bn (o0 p P) (bl (o1 p P)) .nil))) (bn (o7 p P) (bn (o31 p P) (bn (o50 p P) (bl (o99 p P)) .nil) (bn (o0 p P) (bl (o0 p P)) .nil)) (bn (o41 p P) (bn (o62 p P) (bl (o114 p P)) .nil) (bn (o83 p P) (bl (o136 p P)) .nil)))))) (bn (PySem.W.boot_o_2 P) (bn (PySem.W.boot_o_4 P) (bn (PySem.W.boot_o_8 P) (bn (o7 p P) (bn (o1 p P) (bn (o43 p P) (bl (o86 p P)) (bl (o138 p P))) (bn (o63 p P) (bl (o116 p P)) .nil)) (bn (o33 p P) (bn (o0 p P) (bl (o102 p P)) .nil) (bn (o74 p P) (bl (o0 p P)) .nil))) (bn (o29 p P) (bn (o19 p P) (bn (o48 p P) (bl (o94 p P)) .nil) (bn (o0 p P) (bl (o124 p P)) .nil)) (bn (o38 p P) (bn (o1 p P) (bl (o110 p P)) .nil) (bn (o79 p P) (bl (o133 p P)) .nil)))) (bn (o122 p P) (bn (o9 p P) (u1 p P) (bn (o0 p P) (bn (o56 p P) (bl (o106 p P)) .nil) (bn (o76 p P) (bl (o0 p P)) .nil))) (bn (o19 p P) (bn (o1 p P) (bn (o0 p P) (bl (o98 p P)) .nil) (bn (o72 p P) (bl (o127 p P)) .nil)) (bn (o1 p P) (bn (o61 p P) (bl (o113 p P)) .nil) (bn (o82 p P) (bl (o1 p P)) .nil))))) (bn (PySem.W.boot_o_6 P) (bn (PySem.W.boot_o_10 P) (bn (o0 p P) (u2 p P) (bn (o35 p P) (bn (o55 p P) (bl (o104 p P)) .nil) (bn (o0 p P) (bl (o130 p P)) .nil))) (bn (o14 p P) (bn (o30 p P) (bn (o1 p P) (bl (o96 p P)) .nil) (bn (o70 p P) (bl (o125 p P)) .nil)) (bn (o40 p P) (bn (o0 p P) (bl (o0 p P)) .nil) (bn (o0 p P) (bl (o135 p P)) .nil)))) (bn (o3 p P) (bn (o0 p P) (bn (o25 p P) (bn (o46 p P) (bl (o92 p P)) .nil) (bn (o68 p P) (bl (o0 p P)) .nil)) (bn (o37 p P) (bn (o58 p P) (bl (o108 p P)) .nil) (bn (o77 p P) (bl (o132 p P)) .nil))) (bn (o20 p P) (bn (o32 p P) (bn (o51 p P) (bl (o100 p P)) .nil) (bn (o1 p P) (bl (o1 p P)) .nil)) (bn (o0 p P) (bn (o0 p P) (bl (o115 p P)) .nil) (bn (o84 p P) (bl (o0 p P)) .nil)))))))
def u3:TF:=fun p P=>(bn (o0 p P) (bn (o42 p P) (bl (o85 p P)) (bl (o137 p P))) (bn (o1 p P) (bl (o0 p P)) (bl (o1 p P))))
def u4:TF:=fun p P=>(bn (o0 p P) (bn (o52 p P) (bl (o101 p P)) (bl (o149 p P))) (bn (o73 p P) (bl (o128 p P)) (bl (o170 p P))))
def u5:TF:=fun p P=>(bn (o6 p P) (u3 p P) (u4 p P))
def u6:TF:=fun p P=>(bn (o26 p P) (bn (o47 p P) (bl (o93 p P)) (bl (o144 p P))) (bn (o69 p P) (bl (o1 p P)) (bl (o165 p P))))
def u7:TF:=fun p P=>(bn (o0 p P) (bn (o0 p P) (bl (o109 p P)) (bl (o0 p P))) (bn (o78 p P) (bl (o0 p P)) (bl (o175 p P))))
def u8:TF:=fun p P=>(bn (o11 p P) (u6 p P) (u7 p P))
def u9:TF:=fun p P=>(bn (PySem.W.boot_o_7 P) (u5 p P) (u8 p P))
def u10:TF:=fun p P=>(bn (o0 p P) (bn (o1 p P) (bl (o89 p P)) (bl (o7 p P))) (bn (o65 p P) (bl (o119 p P)) (bl (o0 p P))))
def u11:TF:=fun p P=>(bn (o36 p P) (bn (o0 p P) (bl (o105 p P)) (bl (o153 p P))) (bn (o1 p P) (bl (o131 p P)) (bl (o172 p P))))
def u12:TF:=fun p P=>(bn (o1 p P) (u10 p P) (u11 p P))
def u13:TF:=fun p P=>(bn (o0 p P) (bn (o49 p P) (bl (o97 p P)) (bl (o146 p P))) (bn (o71 p P) (bl (o126 p P)) (bl (o1 p P))))
def u14:TF:=fun p P=>(bn (o0 p P) (bn (o60 p P) (bl (o112 p P)) (bl (o158 p P))) (bn (o0 p P) (bl (o0 p P)) .nil))
def u15:TF:=fun p P=>(bn (o15 p P) (u13 p P) (u14 p P))
def u16:TF:=fun p P=>(bn (o0 p P) (u12 p P) (u15 p P))
def u17:TF:=fun p P=>(bn (o21 p P) (bn (o44 p P) (bl (o87 p P)) (bl (o139 p P))) (bn (o0 p P) (bl (o117 p P)) (bl (o162 p P))))
def u18:TF:=fun p P=>(bn (o34 p P) (bn (o1 p P) (bl (o103 p P)) (bl (o151 p P))) (bn (o75 p P) (bl (o129 p P)) (bl (o0 p P))))
def u19:TF:=fun p P=>(bn (o8 p P) (u17 p P) (u18 p P))
def u20:TF:=fun p P=>(bn (o7 p P) (bn (o0 p P) (bl (o95 p P)) (bl (o0 p P))) (bn (o1 p P) (bl (o0 p P)) (bl (o167 p P))))
def u21:TF:=fun p P=>(bn (o39 p P) (bn (o59 p P) (bl (o111 p P)) (bl (o157 p P))) (bn (o81 p P) (bl (o134 p P)) .nil))
def u22:TF:=fun p P=>(bn (o13 p P) (u20 p P) (u21 p P))
def u23:TF:=fun p P=>(bn (PySem.W.boot_o_9 P) (u19 p P) (u22 p P))
def u24:TF:=fun p P=>(bn (o24 p P) (bn (o0 p P) (bl (o91 p P)) (bl (o0 p P))) (bn (o67 p P) (bl (o123 p P)) (bl (o164 p P))))
def u25:TF:=fun p P=>(bn (o1 p P) (bn (o57 p P) (bl (o107 p P)) (bl (o155 p P))) (bn (o0 p P) (bl (o1 p P)) (bl (o173 p P))))
def u26:TF:=fun p P=>(bn (o10 p P) (u24 p P) (u25 p P))
def u27:TF:=fun p P=>(bn (o31 p P) (bn (o50 p P) (bl (o99 p P)) (bl (o147 p P))) (bn (o0 p P) (bl (o0 p P)) (bl (o0 p P))))
def u28:TF:=fun p P=>(bn (o41 p P) (bn (o62 p P) (bl (o114 p P)) (bl (o160 p P))) (bn (o83 p P) (bl (o136 p P)) .nil))
def u29:TF:=fun p P=>(bn (o7 p P) (u27 p P) (u28 p P))
def u30:TF:=fun p P=>(bn (o2 p P) (u26 p P) (u29 p P))
def u31:TF:=fun p P=>(bn (PySem.W.boot_o_5 P) (u23 p P) (u30 p P))
def u32:TF:=fun p P=>(bn (o1 p P) (bn (o43 p P) (bl (o86 p P)) (bl (o138 p P))) (bn (o63 p P) (bl (o116 p P)) (bl (o161 p P))))
def u33:TF:=fun p P=>(bn (o33 p P) (bn (o0 p P) (bl (o102 p P)) (bl (o150 p P))) (bn (o74 p P) (bl (o0 p P)) (bl (o171 p P))))
def u34:TF:=fun p P=>(bn (o7 p P) (u32 p P) (u33 p P))
def u35:TF:=fun p P=>(bn (o19 p P) (bn (o48 p P) (bl (o94 p P)) (bl (o145 p P))) (bn (o0 p P) (bl (o124 p P)) (bl (o166 p P))))
def u36:TF:=fun p P=>(bn (o38 p P) (bn (o1 p P) (bl (o110 p P)) (bl (o1 p P))) (bn (o79 p P) (bl (o133 p P)) .nil))
def u37:TF:=fun p P=>(bn (o29 p P) (u35 p P) (u36 p P))
def u38:TF:=fun p P=>(bn (PySem.W.boot_o_8 P) (u34 p P) (u37 p P))
def u39:TF:=fun p P=>(bn (o23 p P) (bn (o45 p P) (bl (o90 p P)) (bl (o142 p P))) (bn (o66 p P) (bl (o120 p P)) (bl (o1 p P))))
def u40:TF:=fun p P=>(bn (o0 p P) (bn (o56 p P) (bl (o106 p P)) (bl (o154 p P))) (bn (o76 p P) (bl (o0 p P)) (bl (o0 p P))))
def u41:TF:=fun p P=>(bn (o9 p P) (u39 p P) (u40 p P))
def u42:TF:=fun p P=>(bn (o1 p P) (bn (o0 p P) (bl (o98 p P)) (bl (o0 p P))) (bn (o72 p P) (bl (o127 p P)) (bl (o168 p P))))
def u43:TF:=fun p P=>(bn (o1 p P) (bn (o61 p P) (bl (o113 p P)) (bl (o159 p P))) (bn (o82 p P) (bl (o1 p P)) .nil))
def u44:TF:=fun p P=>(bn (o19 p P) (u42 p P) (u43 p P))
def u45:TF:=fun p P=>(bn (o141 p P) (u41 p P) (u44 p P))
def u46:TF:=fun p P=>(bn (PySem.W.boot_o_4 P) (u38 p P) (u45 p P))
def u47:TF:=fun p P=>(bn (o22 p P) (bn (o0 p P) (bl (o88 p P)) (bl (o0 p P))) (bn (o64 p P) (bl (o118 p P)) (bl (o163 p P))))
def u48:TF:=fun p P=>(bn (o35 p P) (bn (o55 p P) (bl (o104 p P)) (bl (o152 p P))) (bn (o0 p P) (bl (o130 p P)) (bl (o1 p P))))
def u49:TF:=fun p P=>(bn (o0 p P) (u47 p P) (u48 p P))
def u50:TF:=fun p P=>(bn (o30 p P) (bn (o1 p P) (bl (o96 p P)) (bl (o1 p P))) (bn (o70 p P) (bl (o125 p P)) (bl (o0 p P))))
def u51:TF:=fun p P=>(bn (o40 p P) (bn (o0 p P) (bl (o0 p P)) (bl (o0 p P))) (bn (o0 p P) (bl (o135 p P)) .nil))
def u52:TF:=fun p P=>(bn (o14 p P) (u50 p P) (u51 p P))
def u53:TF:=fun p P=>(bn (PySem.W.boot_o_10 P) (u49 p P) (u52 p P))
def u54:TF:=fun p P=>(bn (o25 p P) (bn (o46 p P) (bl (o92 p P)) (bl (o143 p P))) (bn (o68 p P) (bl (o0 p P)) (bl (o0 p P))))
def u55:TF:=fun p P=>(bn (o37 p P) (bn (o58 p P) (bl (o108 p P)) (bl (o156 p P))) (bn (o77 p P) (bl (o132 p P)) (bl (o174 p P))))
def u56:TF:=fun p P=>(bn (o0 p P) (u54 p P) (u55 p P))
def u57:TF:=fun p P=>(bn (o32 p P) (bn (o51 p P) (bl (o100 p P)) (bl (o148 p P))) (bn (o1 p P) (bl (o1 p P)) (bl (o169 p P))))
def u58:TF:=fun p P=>(bn (o0 p P) (bn (o0 p P) (bl (o115 p P)) (bl (o0 p P))) (bn (o84 p P) (bl (o0 p P)) .nil))
def u59:TF:=fun p P=>(bn (o20 p P) (u57 p P) (u58 p P))
def u60:TF:=fun p P=>(bn (o3 p P) (u56 p P) (u59 p P))
def u61:TF:=fun p P=>(bn (PySem.W.boot_o_6 P) (u53 p P) (u60 p P))
def u62:TF:=fun p P=>(bn (PySem.W.boot_o_2 P) (u46 p P) (u61 p P))
def T7:TF:=fun p P=>(bn (PySem.W.boot_o_0 P) (bn (PySem.W.boot_o_1 P) (bn (o140 p P) (u9 p P) (u16 p P)) (u31 p P)) (u62 p P))
def T8:TF:=fun p P=>(bn (PySem.W.boot_o_0 P) (bn (PySem.W.boot_o_1 P) (bn (o176 p P) (u9 p P) (u16 p P)) (u31 p P)) (u62 p P))
def u63:TF:=fun p P=>(bn (o42 p P) (bn (o85 p P) (bl (o0 p P)) (bl (o1 p P))) (bn (o137 p P) (bl (o0 p P)) .nil))
def u64:TF:=fun p P=>(bn (o1 p P) (bn (o0 p P) (bl (o1 p P)) (bl (o274 p P))) (bn (o1 p P) (bl (o237 p P)) .nil))
def u65:TF:=fun p P=>(bn (o0 p P) (u63 p P) (u64 p P))
def u66:TF:=fun p P=>(bn (o52 p P) (bn (o101 p P) (bl (o192 p P)) (bl (o0 p P))) (bn (o149 p P) (bl (o228 p P)) .nil))
def u67:TF:=fun p P=>(bn (o47 p P) (bn (o93 p P) (bl (o0 p P)) (bl (o260 p P))) (bn (o144 p P) (bl (o1 p P)) .nil))
def u68:TF:=fun p P=>(bn (o69 p P) (bn (o1 p P) (bl (o205 p P)) (bl (o282 p P))) (bn (o165 p P) (bl (o242 p P)) .nil))
def u69:TF:=fun p P=>(bn (o26 p P) (u67 p P) (u68 p P))
def u70:TF:=fun p P=>(bn (o0 p P) (bn (o109 p P) (bl (o0 p P)) (bl (o269 p P))) (bn (o0 p P) (bl (o0 p P)) .nil))
def u71:TF:=fun p P=>(bn (o78 p P) (bn (o0 p P) (bl (o215 p P)) .nil) (bn (o175 p P) (bl (o0 p P)) .nil))
def u72:TF:=fun p P=>(bn (o0 p P) (u70 p P) (u71 p P))
def u73:TF:=fun p P=>(bn (o11 p P) (u69 p P) (u72 p P))
def u74:TF:=fun p P=>(bn (o1 p P) (bn (o89 p P) (bl (o185 p P)) (bl (o258 p P))) (bn (o7 p P) (bl (o221 p P)) .nil))
def u75:TF:=fun p P=>(bn (o65 p P) (bn (o119 p P) (bl (o203 p P)) (bl (o278 p P))) (bn (o0 p P) (bl (o1 p P)) .nil))
def u76:TF:=fun p P=>(bn (o0 p P) (u74 p P) (u75 p P))
def u77:TF:=fun p P=>(bn (o0 p P) (bn (o105 p P) (bl (o0 p P)) (bl (o0 p P))) (bn (o153 p P) (bl (o231 p P)) .nil))
def u78:TF:=fun p P=>(bn (o49 p P) (bn (o97 p P) (bl (o0 p P)) (bl (o263 p P))) (bn (o146 p P) (bl (o226 p P)) .nil))
def u79:TF:=fun p P=>(bn (o60 p P) (bn (o112 p P) (bl (o198 p P)) (bl (o1 p P))) (bn (o158 p P) (bl (o0 p P)) .nil))
def u80:TF:=fun p P=>(bn (o0 p P) (bn (o0 p P) (bl (o0 p P)) .nil) (bn (o0 p P) (bl (o253 p P)) .nil))
def u81:TF:=fun p P=>(bn (o0 p P) (u79 p P) (u80 p P))
def u82:TF:=fun p P=>(bn (o44 p P) (bn (o87 p P) (bl (o183 p P)) (bl (o0 p P))) (bn (o139 p P) (bl (o220 p P)) .nil))
def u83:TF:=fun p P=>(bn (o0 p P) (bn (o117 p P) (bl (o0 p P)) (bl (o276 p P))) (bn (o162 p P) (bl (o239 p P)) .nil))
def u84:TF:=fun p P=>(bn (o21 p P) (u82 p P) (u83 p P))
def u85:TF:=fun p P=>(bn (o1 p P) (bn (o103 p P) (bl (o1 p P)) (bl (o266 p P))) (bn (o151 p P) (bl (o229 p P)) .nil))
def u86:TF:=fun p P=>(bn (o0 p P) (bn (o95 p P) (bl (o188 p P)) (bl (o261 p P))) (bn (o0 p P) (bl (o0 p P)) .nil))
def u87:TF:=fun p P=>(bn (o59 p P) (bn (o111 p P) (bl (o197 p P)) (bl (o271 p P))) (bn (o157 p P) (bl (o234 p P)) .nil))
def u88:TF:=fun p P=>(bn (o81 p P) (bn (o134 p P) (bl (o1 p P)) .nil) (bn (o7 p P) (bl (o252 p P)) .nil))
def u89:TF:=fun p P=>(bn (o39 p P) (u87 p P) (u88 p P))
def u90:TF:=fun p P=>(bn (o0 p P) (bn (o91 p P) (bl (o1 p P)) (bl (o0 p P))) (bn (o0 p P) (bl (o223 p P)) .nil))
def u91:TF:=fun p P=>(bn (o67 p P) (bn (o123 p P) (bl (o0 p P)) (bl (o280 p P))) (bn (o164 p P) (bl (o0 p P)) .nil))
def u92:TF:=fun p P=>(bn (o24 p P) (u90 p P) (u91 p P))
def u93:TF:=fun p P=>(bn (o57 p P) (bn (o107 p P) (bl (o195 p P)) (bl (o268 p P))) (bn (o155 p P) (bl (o1 p P)) .nil))
def u94:TF:=fun p P=>(bn (o50 p P) (bn (o99 p P) (bl (o190 p P)) (bl (o1 p P))) (bn (o147 p P) (bl (o0 p P)) .nil))
def u95:TF:=fun p P=>(bn (o62 p P) (bn (o114 p P) (bl (o200 p P)) (bl (o0 p P))) (bn (o160 p P) (bl (o236 p P)) .nil))
def u96:TF:=fun p P=>(bn (o83 p P) (bn (o136 p P) (bl (o218 p P)) .nil) (bn (o181 p P) (bl (o255 p P)) .nil))
def u97:TF:=fun p P=>(bn (o41 p P) (u95 p P) (u96 p P))
def u98:TF:=fun p P=>(bn (o43 p P) (bn (o86 p P) (bl (o1 p P)) (bl (o256 p P))) (bn (o138 p P) (bl (o1 p P)) .nil))
def u99:TF:=fun p P=>(bn (o63 p P) (bn (o116 p P) (bl (o201 p P)) (bl (o275 p P))) (bn (o161 p P) (bl (o238 p P)) .nil))
def u100:TF:=fun p P=>(bn (o1 p P) (u98 p P) (u99 p P))
def u101:TF:=fun p P=>(bn (o0 p P) (bn (o102 p P) (bl (o0 p P)) (bl (o265 p P))) (bn (o150 p P) (bl (o0 p P)) .nil))
def u102:TF:=fun p P=>(bn (o48 p P) (bn (o94 p P) (bl (o187 p P)) (bl (o0 p P))) (bn (o145 p P) (bl (o224 p P)) .nil))
def u103:TF:=fun p P=>(bn (o1 p P) (bn (o110 p P) (bl (o1 p P)) (bl (o270 p P))) (bn (o1 p P) (bl (o233 p P)) .nil))
def u104:TF:=fun p P=>(bn (o79 p P) (bn (o133 p P) (bl (o0 p P)) .nil) (bn (o0 p P) (bl (o1 p P)) .nil))
def u105:TF:=fun p P=>(bn (o38 p P) (u103 p P) (u104 p P))
def u106:TF:=fun p P=>(bn (o45 p P) (bn (o90 p P) (bl (o0 p P)) (bl (o259 p P))) (bn (o142 p P) (bl (o222 p P)) .nil))
def u107:TF:=fun p P=>(bn (o66 p P) (bn (o120 p P) (bl (o204 p P)) (bl (o279 p P))) (bn (o1 p P) (bl (o240 p P)) .nil))
def u108:TF:=fun p P=>(bn (o23 p P) (u106 p P) (u107 p P))
def u109:TF:=fun p P=>(bn (o56 p P) (bn (o106 p P) (bl (o194 p P)) (bl (o1 p P))) (bn (o154 p P) (bl (o0 p P)) .nil))
def u110:TF:=fun p P=>(bn (o0 p P) (bn (o98 p P) (bl (o1 p P)) (bl (o0 p P))) (bn (o0 p P) (bl (o227 p P)) .nil))
def u111:TF:=fun p P=>(bn (o61 p P) (bn (o113 p P) (bl (o199 p P)) (bl (o272 p P))) (bn (o159 p P) (bl (o1 p P)) .nil))
def u112:TF:=fun p P=>(bn (o82 p P) (bn (o1 p P) (bl (o217 p P)) .nil) (bn (o180 p P) (bl (o254 p P)) .nil))
def u113:TF:=fun p P=>(bn (o1 p P) (u111 p P) (u112 p P))
def u114:TF:=fun p P=>(bn (o0 p P) (bn (o88 p P) (bl (o184 p P)) (bl (o257 p P))) (bn (o0 p P) (bl (o0 p P)) .nil))
def u115:TF:=fun p P=>(bn (o64 p P) (bn (o118 p P) (bl (o202 p P)) (bl (o277 p P))) (bn (o163 p P) (bl (o0 p P)) .nil))
def u116:TF:=fun p P=>(bn (o22 p P) (u114 p P) (u115 p P))
def u117:TF:=fun p P=>(bn (o55 p P) (bn (o104 p P) (bl (o193 p P)) (bl (o267 p P))) (bn (o152 p P) (bl (o230 p P)) .nil))
def u118:TF:=fun p P=>(bn (o1 p P) (bn (o96 p P) (bl (o189 p P)) (bl (o262 p P))) (bn (o1 p P) (bl (o225 p P)) .nil))
def u119:TF:=fun p P=>(bn (o0 p P) (bn (o0 p P) (bl (o0 p P)) (bl (o0 p P))) (bn (o0 p P) (bl (o235 p P)) .nil))
def u120:TF:=fun p P=>(bn (o0 p P) (bn (o135 p P) (bl (o216 p P)) .nil) (bn (o179 p P) (bl (o0 p P)) .nil))
def u121:TF:=fun p P=>(bn (o40 p P) (u119 p P) (u120 p P))
def u122:TF:=fun p P=>(bn (o46 p P) (bn (o92 p P) (bl (o186 p P)) (bl (o1 p P))) (bn (o143 p P) (bl (o0 p P)) .nil))
def u123:TF:=fun p P=>(bn (o68 p P) (bn (o0 p P) (bl (o1 p P)) (bl (o281 p P))) (bn (o0 p P) (bl (o241 p P)) .nil))
def u124:TF:=fun p P=>(bn (o25 p P) (u122 p P) (u123 p P))
def u125:TF:=fun p P=>(bn (o58 p P) (bn (o108 p P) (bl (o196 p P)) (bl (o0 p P))) (bn (o156 p P) (bl (o232 p P)) .nil))
def u126:TF:=fun p P=>(bn (o77 p P) (bn (o132 p P) (bl (o214 p P)) .nil) (bn (o174 p P) (bl (o251 p P)) .nil))
def u127:TF:=fun p P=>(bn (o37 p P) (u125 p P) (u126 p P))
def u128:TF:=fun p P=>(bn (o0 p P) (u124 p P) (u127 p P))
def u129:TF:=fun p P=>(bn (o51 p P) (bn (o100 p P) (bl (o191 p P)) (bl (o264 p P))) (bn (o148 p P) (bl (o1 p P)) .nil))
def u130:TF:=fun p P=>(bn (o0 p P) (bn (o115 p P) (bl (o0 p P)) (bl (o273 p P))) (bn (o0 p P) (bl (o0 p P)) .nil))
def u131:TF:=fun p P=>(bn (o84 p P) (bn (o0 p P) (bl (o219 p P)) .nil) (bn (o182 p P) (bl (o0 p P)) .nil))
def u132:TF:=fun p P=>(bn (o0 p P) (u130 p P) (u131 p P))
def T9:TF:=fun p P=>(bn (PySem.W.boot_o_0 P) (bn (PySem.W.boot_o_1 P) (bn (o177 p P) (bn (PySem.W.boot_o_7 P) (bn (o6 p P) (u65 p P) (bn (o0 p P) (u66 p P) (bn (o73 p P) (bn (o128 p P) (bl (o0 p P)) .nil) (bn (o170 p P) (bl (o247 p P)) .nil)))) (u73 p P)) (bn (o0 p P) (bn (o1 p P) (u76 p P) (bn (o36 p P) (u77 p P) (bn (o1 p P) (bn (o131 p P) (bl (o0 p P)) .nil) (bn (o172 p P) (bl (o0 p P)) .nil)))) (bn (o15 p P) (bn (o0 p P) (u78 p P) (bn (o71 p P) (bn (o126 p P) (bl (o208 p P)) .nil) (bn (o1 p P) (bl (o244 p P)) .nil))) (u81 p P)))) (bn (PySem.W.boot_o_5 P) (bn (PySem.W.boot_o_9 P) (bn (o8 p P) (u84 p P) (bn (o34 p P) (u85 p P) (bn (o75 p P) (bn (o129 p P) (bl (o211 p P)) .nil) (bn (o0 p P) (bl (o1 p P)) .nil)))) (bn (o13 p P) (bn (o7 p P) (u86 p P) (bn (o1 p P) (bn (o0 p P) (bl (o206 p P)) .nil) (bn (o167 p P) (bl (o0 p P)) .nil))) (u89 p P))) (bn (o2 p P) (bn (o10 p P) (u92 p P) (bn (o1 p P) (u93 p P) (bn (o0 p P) (bn (o1 p P) (bl (o213 p P)) .nil) (bn (o173 p P) (bl (o250 p P)) .nil)))) (bn (o7 p P) (bn (o31 p P) (u94 p P) (bn (o0 p P) (bn (o0 p P) (bl (o1 p P)) .nil) (bn (o0 p P) (bl (o245 p P)) .nil))) (u97 p P))))) (bn (PySem.W.boot_o_2 P) (bn (PySem.W.boot_o_4 P) (bn (PySem.W.boot_o_8 P) (bn (o7 p P) (u100 p P) (bn (o33 p P) (u101 p P) (bn (o74 p P) (bn (o0 p P) (bl (o210 p P)) .nil) (bn (o171 p P) (bl (o0 p P)) .nil)))) (bn (o29 p P) (bn (o19 p P) (u102 p P) (bn (o0 p P) (bn (o124 p P) (bl (o0 p P)) .nil) (bn (o166 p P) (bl (o243 p P)) .nil))) (u105 p P))) (bn (o178 p P) (bn (o9 p P) (u108 p P) (bn (o0 p P) (u109 p P) (bn (o76 p P) (bn (o0 p P) (bl (o1 p P)) .nil) (bn (o0 p P) (bl (o249 p P)) .nil)))) (bn (o19 p P) (bn (o1 p P) (u110 p P) (bn (o72 p P) (bn (o127 p P) (bl (o0 p P)) .nil) (bn (o168 p P) (bl (o0 p P)) .nil))) (u113 p P)))) (bn (PySem.W.boot_o_6 P) (bn (PySem.W.boot_o_10 P) (bn (o0 p P) (u116 p P) (bn (o35 p P) (u117 p P) (bn (o0 p P) (bn (o130 p P) (bl (o212 p P)) .nil) (bn (o1 p P) (bl (o248 p P)) .nil)))) (bn (o14 p P) (bn (o30 p P) (u118 p P) (bn (o70 p P) (bn (o125 p P) (bl (o207 p P)) .nil) (bn (o0 p P) (bl (o1 p P)) .nil))) (u121 p P))) (bn (o3 p P) (u128 p P) (bn (o20 p P) (bn (o32 p P) (u129 p P) (bn (o1 p P) (bn (o1 p P) (bl (o209 p P)) .nil) (bn (o169 p P) (bl (o246 p P)) .nil))) (u132 p P))))))
def u133:TF:=fun p P=>(bn (o1 p P) (bn (o131 p P) (bl (o0 p P)) (bl (o290 p P))) (bn (o172 p P) (bl (o0 p P)) .nil))
def u134:TF:=fun p P=>(bn (o0 p P) (bn (o1 p P) (bl (o213 p P)) (bl (o292 p P))) (bn (o173 p P) (bl (o250 p P)) .nil))
def u135:TF:=fun p P=>(bn (o76 p P) (bn (o0 p P) (bl (o1 p P)) (bl (o291 p P))) (bn (o0 p P) (bl (o249 p P)) .nil))
def T10:TF:=fun p P=>(bn (PySem.W.boot_o_0 P) (bn (PySem.W.boot_o_1 P) (bn (o283 p P) (bn (PySem.W.boot_o_7 P) (bn (o6 p P) (u65 p P) (bn (o0 p P) (u66 p P) (bn (o73 p P) (bn (o128 p P) (bl (o0 p P)) (bl (o0 p P))) (bn (o170 p P) (bl (o247 p P)) .nil)))) (u73 p P)) (bn (o0 p P) (bn (o1 p P) (u76 p P) (bn (o36 p P) (u77 p P) (u133 p P))) (bn (o15 p P) (bn (o0 p P) (u78 p P) (bn (o71 p P) (bn (o126 p P) (bl (o208 p P)) (bl (o0 p P))) (bn (o1 p P) (bl (o244 p P)) .nil))) (u81 p P)))) (bn (PySem.W.boot_o_5 P) (bn (PySem.W.boot_o_9 P) (bn (o8 p P) (u84 p P) (bn (o34 p P) (u85 p P) (bn (o75 p P) (bn (o129 p P) (bl (o211 p P)) (bl (o289 p P))) (bn (o0 p P) (bl (o1 p P)) .nil)))) (bn (o13 p P) (bn (o7 p P) (u86 p P) (bn (o1 p P) (bn (o0 p P) (bl (o206 p P)) (bl (o1 p P))) (bn (o167 p P) (bl (o0 p P)) .nil))) (u89 p P))) (bn (o2 p P) (bn (o10 p P) (u92 p P) (bn (o1 p P) (u93 p P) (u134 p P))) (bn (o7 p P) (bn (o31 p P) (u94 p P) (bn (o0 p P) (bn (o0 p P) (bl (o1 p P)) (bl (o287 p P))) (bn (o0 p P) (bl (o245 p P)) .nil))) (u97 p P))))) (bn (PySem.W.boot_o_2 P) (bn (PySem.W.boot_o_4 P) (bn (PySem.W.boot_o_8 P) (bn (o7 p P) (u100 p P) (bn (o33 p P) (u101 p P) (bn (o74 p P) (bn (o0 p P) (bl (o210 p P)) (bl (o1 p P))) (bn (o171 p P) (bl (o0 p P)) .nil)))) (bn (o29 p P) (bn (o19 p P) (u102 p P) (bn (o0 p P) (bn (o124 p P) (bl (o0 p P)) (bl (o0 p P))) (bn (o166 p P) (bl (o243 p P)) .nil))) (u105 p P))) (bn (o284 p P) (bn (o9 p P) (u108 p P) (bn (o0 p P) (u109 p P) (u135 p P))) (bn (o19 p P) (bn (o1 p P) (u110 p P) (bn (o72 p P) (bn (o127 p P) (bl (o0 p P)) (bl (o286 p P))) (bn (o168 p P) (bl (o0 p P)) .nil))) (u113 p P)))) (bn (PySem.W.boot_o_6 P) (bn (PySem.W.boot_o_10 P) (bn (o0 p P) (u116 p P) (bn (o35 p P) (u117 p P) (bn (o0 p P) (bn (o130 p P) (bl (o212 p P)) (bl (o0 p P))) (bn (o1 p P) (bl (o248 p P)) .nil)))) (bn (o14 p P) (bn (o30 p P) (u118 p P) (bn (o70 p P) (bn (o125 p P) (bl (o207 p P)) (bl (o285 p P))) (bn (o0 p P) (bl (o1 p P)) .nil))) (u121 p P))) (bn (o3 p P) (u128 p P) (bn (o20 p P) (bn (o32 p P) (u129 p P) (bn (o1 p P) (bn (o1 p P) (bl (o209 p P)) (bl (o288 p P))) (bn (o169 p P) (bl (o246 p P)) .nil))) (u132 p P))))))
def T11:TF:=fun p P=>(bn (PySem.W.boot_o_0 P) (bn (PySem.W.boot_o_1 P) (bn (o293 p P) (bn (PySem.W.boot_o_7 P) (bn (o6 p P) (bn (o0 p P) (bn (o42 p P) (bn (o85 p P) (bl (o0 p P)) (bl (o1 p P))) (bn (o137 p P) (bl (o0 p P)) (bl (o301 p P)))) (bn (o1 p P) (bn (o0 p P) (bl (o1 p P)) (bl (o274 p P))) (bn (o1 p P) (bl (o237 p P)) (bl (o320 p P))))) (bn (o0 p P) (bn (o52 p P) (bn (o101 p P) (bl (o192 p P)) (bl (o0 p P))) (bn (o149 p P) (bl (o228 p P)) (bl (o310 p P)))) (bn (o73 p P) (bn (o128 p P) (bl (o0 p P)) (bl (o0 p P))) (bn (o170 p P) (bl (o247 p P)) (bl (o329 p P)))))) (bn (o11 p P) (bn (o26 p P) (bn (o47 p P) (bn (o93 p P) (bl (o0 p P)) (bl (o260 p P))) (bn (o144 p P) (bl (o1 p P)) (bl (o0 p P)))) (bn (o69 p P) (bn (o1 p P) (bl (o205 p P)) (bl (o282 p P))) (bn (o165 p P) (bl (o242 p P)) (bl (o0 p P))))) (bn (o0 p P) (bn (o0 p P) (bn (o109 p P) (bl (o0 p P)) (bl (o269 p P))) (bn (o0 p P) (bl (o0 p P)) (bl (o315 p P)))) (bn (o78 p P) (bn (o0 p P) (bl (o215 p P)) (bl (o7 p P))) (bn (o175 p P) (bl (o0 p P)) .nil))))) (bn (o0 p P) (bn (o1 p P) (bn (o0 p P) (bn (o1 p P) (bn (o89 p P) (bl (o185 p P)) (bl (o258 p P))) (bn (o7 p P) (bl (o221 p P)) (bl (o304 p P)))) (bn (o65 p P) (bn (o119 p P) (bl (o203 p P)) (bl (o295 p P))) (bn (o0 p P) (bl (o1 p P)) (bl (o0 p P))))) (bn (o36 p P) (bn (o0 p P) (bn (o105 p P) (bl (o0 p P)) (bl (o0 p P))) (bn (o153 p P) (bl (o231 p P)) (bl (o1 p P)))) (u133 p P))) (bn (o15 p P) (bn (o0 p P) (bn (o49 p P) (bn (o97 p P) (bl (o0 p P)) (bl (o263 p P))) (bn (o146 p P) (bl (o226 p P)) (bl (o0 p P)))) (bn (o71 p P) (bn (o126 p P) (bl (o208 p P)) (bl (o0 p P))) (bn (o1 p P) (bl (o244 p P)) (bl (o326 p P))))) (bn (o0 p P) (bn (o60 p P) (bn (o112 p P) (bl (o198 p P)) (bl (o1 p P))) (bn (o158 p P) (bl (o0 p P)) (bl (o317 p P)))) (bn (o0 p P) (bn (o0 p P) (bl (o0 p P)) (bl (o299 p P))) (bn (o0 p P) (bl (o253 p P)) .nil)))))) (bn (PySem.W.boot_o_5 P) (bn (PySem.W.boot_o_9 P) (bn (o8 p P) (bn (o21 p P) (bn (o44 p P) (bn (o87 p P) (bl (o183 p P)) (bl (o0 p P))) (bn (o139 p P) (bl (o220 p P)) (bl (o302 p P)))) (bn (o0 p P) (bn (o117 p P) (bl (o0 p P)) (bl (o276 p P))) (bn (o162 p P) (bl (o239 p P)) (bl (o1 p P))))) (bn (o34 p P) (bn (o1 p P) (bn (o103 p P) (bl (o1 p P)) (bl (o266 p P))) (bn (o151 p P) (bl (o229 p P)) (bl (o312 p P)))) (bn (o75 p P) (bn (o129 p P) (bl (o211 p P)) (bl (o289 p P))) (bn (o0 p P) (bl (o1 p P)) (bl (o331 p P)))))) (bn (o13 p P) (bn (o7 p P) (bn (o0 p P) (bn (o95 p P) (bl (o188 p P)) (bl (o261 p P))) (bn (o0 p P) (bl (o0 p P)) (bl (o307 p P)))) (bn (o1 p P) (bn (o0 p P) (bl (o206 p P)) (bl (o1 p P))) (bn (o167 p P) (bl (o0 p P)) (bl (o325 p P))))) (bn (o39 p P) (bn (o59 p P) (bn (o111 p P) (bl (o197 p P)) (bl (o271 p P))) (bn (o157 p P) (bl (o234 p P)) (bl (o0 p P)))) (bn (o81 p P) (bn (o134 p P) (bl (o1 p P)) (bl (o0 p P))) (bn (o7 p P) (bl (o252 p P)) .nil))))) (bn (o2 p P) (bn (o10 p P) (bn (o24 p P) (bn (o0 p P) (bn (o91 p P) (bl (o1 p P)) (bl (o0 p P))) (bn (o0 p P) (bl (o223 p P)) (bl (o1 p P)))) (bn (o67 p P) (bn (o123 p P) (bl (o0 p P)) (bl (o280 p P))) (bn (o164 p P) (bl (o0 p P)) (bl (o323 p P))))) (bn (o1 p P) (bn (o57 p P) (bn (o107 p P) (bl (o195 p P)) (bl (o268 p P))) (bn (o155 p P) (bl (o1 p P)) (bl (o0 p P)))) (u134 p P))) (bn (o7 p P) (bn (o31 p P) (bn (o50 p P) (bn (o99 p P) (bl (o190 p P)) (bl (o1 p P))) (bn (o147 p P) (bl (o0 p P)) (bl (o309 p P)))) (bn (o0 p P) (bn (o0 p P) (bl (o1 p P)) (bl (o287 p P))) (bn (o0 p P) (bl (o245 p P)) (bl (o328 p P))))) (bn (o41 p P) (bn (o62 p P) (bn (o114 p P) (bl (o200 p P)) (bl (o0 p P))) (bn (o160 p P) (bl (o236 p P)) (bl (o318 p P)))) (bn (o83 p P) (bn (o136 p P) (bl (o218 p P)) (bl (o0 p P))) (bn (o181 p P) (bl (o255 p P)) .nil))))))) (bn (PySem.W.boot_o_2 P) (bn (PySem.W.boot_o_4 P) (bn (PySem.W.boot_o_8 P) (bn (o7 p P) (bn (o1 p P) (bn (o43 p P) (bn (o86 p P) (bl (o1 p P)) (bl (o256 p P))) (bn (o138 p P) (bl (o1 p P)) (bl (o0 p P)))) (bn (o63 p P) (bn (o116 p P) (bl (o201 p P)) (bl (o275 p P))) (bn (o161 p P) (bl (o238 p P)) (bl (o0 p P))))) (bn (o33 p P) (bn (o0 p P) (bn (o102 p P) (bl (o0 p P)) (bl (o265 p P))) (bn (o150 p P) (bl (o0 p P)) (bl (o311 p P)))) (bn (o74 p P) (bn (o0 p P) (bl (o210 p P)) (bl (o1 p P))) (bn (o171 p P) (bl (o0 p P)) (bl (o330 p P)))))) (bn (o29 p P) (bn (o19 p P) (bn (o48 p P) (bn (o94 p P) (bl (o187 p P)) (bl (o0 p P))) (bn (o145 p P) (bl (o224 p P)) (bl (o306 p P)))) (bn (o0 p P) (bn (o124 p P) (bl (o0 p P)) (bl (o0 p P))) (bn (o166 p P) (bl (o243 p P)) (bl (o1 p P))))) (bn (o38 p P) (bn (o1 p P) (bn (o110 p P) (bl (o1 p P)) (bl (o270 p P))) (bn (o1 p P) (bl (o233 p P)) (bl (o316 p P)))) (bn (o79 p P) (bn (o133 p P) (bl (o0 p P)) (bl (o297 p P))) (bn (o0 p P) (bl (o1 p P)) .nil))))) (bn (o294 p P) (bn (o9 p P) (bn (o23 p P) (bn (o45 p P) (bn (o90 p P) (bl (o0 p P)) (bl (o259 p P))) (bn (o142 p P) (bl (o222 p P)) (bl (o0 p P)))) (bn (o66 p P) (bn (o120 p P) (bl (o204 p P)) (bl (o279 p P))) (bn (o1 p P) (bl (o240 p P)) (bl (o322 p P))))) (bn (o0 p P) (bn (o56 p P) (bn (o106 p P) (bl (o194 p P)) (bl (o1 p P))) (bn (o154 p P) (bl (o0 p P)) (bl (o313 p P)))) (u135 p P))) (bn (o19 p P) (bn (o1 p P) (bn (o0 p P) (bn (o98 p P) (bl (o1 p P)) (bl (o0 p P))) (bn (o0 p P) (bl (o227 p P)) (bl (o1 p P)))) (bn (o72 p P) (bn (o127 p P) (bl (o0 p P)) (bl (o286 p P))) (bn (o168 p P) (bl (o0 p P)) (bl (o327 p P))))) (bn (o1 p P) (bn (o61 p P) (bn (o113 p P) (bl (o199 p P)) (bl (o272 p P))) (bn (o159 p P) (bl (o1 p P)) (bl (o0 p P)))) (bn (o82 p P) (bn (o1 p P) (bl (o217 p P)) (bl (o300 p P))) (bn (o180 p P) (bl (o254 p P)) .nil)))))) (bn (PySem.W.boot_o_6 P) (bn (PySem.W.boot_o_10 P) (bn (o0 p P) (bn (o22 p P) (bn (o0 p P) (bn (o88 p P) (bl (o184 p P)) (bl (o257 p P))) (bn (o0 p P) (bl (o0 p P)) (bl (o303 p P)))) (bn (o64 p P) (bn (o118 p P) (bl (o202 p P)) (bl (o277 p P))) (bn (o163 p P) (bl (o0 p P)) (bl (o321 p P))))) (bn (o35 p P) (bn (o55 p P) (bn (o104 p P) (bl (o193 p P)) (bl (o267 p P))) (bn (o152 p P) (bl (o230 p P)) (bl (o0 p P)))) (bn (o0 p P) (bn (o130 p P) (bl (o212 p P)) (bl (o0 p P))) (bn (o1 p P) (bl (o248 p P)) (bl (o332 p P)))))) (bn (o14 p P) (bn (o30 p P) (bn (o1 p P) (bn (o96 p P) (bl (o189 p P)) (bl (o262 p P))) (bn (o1 p P) (bl (o225 p P)) (bl (o308 p P)))) (bn (o70 p P) (bn (o125 p P) (bl (o207 p P)) (bl (o285 p P))) (bn (o0 p P) (bl (o1 p P)) (bl (o0 p P))))) (bn (o40 p P) (bn (o0 p P) (bn (o0 p P) (bl (o0 p P)) (bl (o0 p P))) (bn (o0 p P) (bl (o235 p P)) (bl (o1 p P)))) (bn (o0 p P) (bn (o135 p P) (bl (o216 p P)) (bl (o298 p P))) (bn (o179 p P) (bl (o0 p P)) .nil))))) (bn (o3 p P) (bn (o0 p P) (bn (o25 p P) (bn (o46 p P) (bn (o92 p P) (bl (o186 p P)) (bl (o1 p P))) (bn (o143 p P) (bl (o0 p P)) (bl (o305 p P)))) (bn (o68 p P) (bn (o0 p P) (bl (o1 p P)) (bl (o281 p P))) (bn (o0 p P) (bl (o241 p P)) (bl (o324 p P))))) (bn (o37 p P) (bn (o58 p P) (bn (o108 p P) (bl (o196 p P)) (bl (o0 p P))) (bn (o156 p P) (bl (o232 p P)) (bl (o314 p P)))) (bn (o77 p P) (bn (o132 p P) (bl (o214 p P)) (bl (o296 p P))) (bn (o174 p P) (bl (o251 p P)) .nil)))) (bn (o20 p P) (bn (o32 p P) (bn (o51 p P) (bn (o100 p P) (bl (o191 p P)) (bl (o264 p P))) (bn (o148 p P) (bl (o1 p P)) (bl (o0 p P)))) (bn (o1 p P) (bn (o1 p P) (bl (o209 p P)) (bl (o288 p P))) (bn (o169 p P) (bl (o246 p P)) (bl (o0 p P))))) (bn (o0 p P) (bn (o0 p P) (bn (o115 p P) (bl (o0 p P)) (bl (o273 p P))) (bn (o0 p P) (bl (o0 p P)) (bl (o319 p P)))) (bn (o84 p P) (bn (o0 p P) (bl (o219 p P)) (bl (o1 p P))) (bn (o182 p P) (bl (o0 p P)) .nil))))))))
def u136:TF:=fun p P=>(bn (o42 p P) (bn (o85 p P) (bn (o0 p P) (bl (o341 p P)) .nil) (bl (o1 p P))) (bn (o137 p P) (bn (o0 p P) (bl (o378 p P)) .nil) (bl (o301 p P))))
def u137:TF:=fun p P=>(bn (o1 p P) (bn (o0 p P) (bn (o1 p P) (bl (o359 p P)) .nil) (bl (o274 p P))) (bn (o1 p P) (bl (o237 p P)) (bl (o320 p P))))
def u138:TF:=fun p P=>(bn (o0 p P) (u136 p P) (u137 p P))
def u139:TF:=fun p P=>(bn (o52 p P) (bn (o101 p P) (bn (o192 p P) (bl (o0 p P)) .nil) (bl (o0 p P))) (bn (o149 p P) (bl (o228 p P)) (bl (o310 p P))))
def u140:TF:=fun p P=>(bn (o73 p P) (bn (o128 p P) (bn (o0 p P) (bl (o369 p P)) .nil) (bl (o0 p P))) (bn (o170 p P) (bl (o247 p P)) (bl (o329 p P))))
def u141:TF:=fun p P=>(bn (o0 p P) (u139 p P) (u140 p P))
def u142:TF:=fun p P=>(bn (o6 p P) (u138 p P) (u141 p P))
def u143:TF:=fun p P=>(bn (o47 p P) (bn (o93 p P) (bn (o0 p P) (bl (o346 p P)) .nil) (bl (o260 p P))) (bn (o144 p P) (bl (o1 p P)) (bl (o0 p P))))
def u144:TF:=fun p P=>(bn (o69 p P) (bn (o1 p P) (bn (o205 p P) (bl (o0 p P)) .nil) (bl (o282 p P))) (bn (o165 p P) (bl (o242 p P)) (bl (o0 p P))))
def u145:TF:=fun p P=>(bn (o26 p P) (u143 p P) (u144 p P))
def u146:TF:=fun p P=>(bn (o0 p P) (bn (o109 p P) (bn (o0 p P) (bl (o1 p P)) .nil) (bl (o269 p P))) (bn (o0 p P) (bl (o0 p P)) (bl (o315 p P))))
def u147:TF:=fun p P=>(bn (o78 p P) (bn (o0 p P) (bn (o215 p P) (bl (o0 p P)) .nil) (bl (o7 p P))) (bn (o175 p P) (bl (o0 p P)) (bl (o336 p P))))
def u148:TF:=fun p P=>(bn (o0 p P) (u146 p P) (u147 p P))
def u149:TF:=fun p P=>(bn (o11 p P) (u145 p P) (u148 p P))
def u150:TF:=fun p P=>(bn (PySem.W.boot_o_7 P) (u142 p P) (u149 p P))
def u151:TF:=fun p P=>(bn (o65 p P) (bn (o119 p P) (bn (o203 p P) (bl (o362 p P)) .nil) (bl (o295 p P))) (bn (o0 p P) (bl (o1 p P)) (bl (o0 p P))))
def u152:TF:=fun p P=>(bn (o0 p P) (bn (o105 p P) (bn (o0 p P) (bl (o352 p P)) .nil) (bl (o0 p P))) (bn (o153 p P) (bl (o231 p P)) (bl (o1 p P))))
def u153:TF:=fun p P=>(bn (o1 p P) (bn (o131 p P) (bn (o0 p P) (bl (o0 p P)) .nil) (bl (o290 p P))) (bn (o172 p P) (bl (o0 p P)) (bl (o0 p P))))
def u154:TF:=fun p P=>(bn (o36 p P) (u152 p P) (u153 p P))
def u155:TF:=fun p P=>(bn (o49 p P) (bn (o97 p P) (bn (o0 p P) (bl (o0 p P)) .nil) (bl (o263 p P))) (bn (o146 p P) (bl (o226 p P)) (bl (o0 p P))))
def u156:TF:=fun p P=>(bn (o71 p P) (bn (o126 p P) (bn (o208 p P) (bl (o0 p P)) .nil) (bl (o0 p P))) (bn (o1 p P) (bl (o244 p P)) (bl (o326 p P))))
def u157:TF:=fun p P=>(bn (o0 p P) (u155 p P) (u156 p P))
def u158:TF:=fun p P=>(bn (o60 p P) (bn (o112 p P) (bn (o198 p P) (bl (o357 p P)) .nil) (bl (o1 p P))) (bn (o158 p P) (bl (o0 p P)) (bl (o317 p P))))
def u159:TF:=fun p P=>(bn (o0 p P) (bn (o0 p P) (bn (o0 p P) (bl (o376 p P)) .nil) (bl (o299 p P))) (bn (o0 p P) (bl (o253 p P)) (bl (o1 p P))))
def u160:TF:=fun p P=>(bn (o0 p P) (u158 p P) (u159 p P))
def u161:TF:=fun p P=>(bn (o15 p P) (u157 p P) (u160 p P))
def u162:TF:=fun p P=>(bn (o0 p P) (bn (o117 p P) (bn (o0 p P) (bl (o360 p P)) .nil) (bl (o276 p P))) (bn (o162 p P) (bl (o239 p P)) (bl (o1 p P))))
def u163:TF:=fun p P=>(bn (o1 p P) (bn (o103 p P) (bn (o1 p P) (bl (o351 p P)) .nil) (bl (o266 p P))) (bn (o151 p P) (bl (o229 p P)) (bl (o312 p P))))
def u164:TF:=fun p P=>(bn (o75 p P) (bn (o129 p P) (bn (o211 p P) (bl (o1 p P)) .nil) (bl (o289 p P))) (bn (o0 p P) (bl (o1 p P)) (bl (o331 p P))))
def u165:TF:=fun p P=>(bn (o34 p P) (u163 p P) (u164 p P))
def u166:TF:=fun p P=>(bn (o0 p P) (bn (o95 p P) (bn (o188 p P) (bl (o1 p P)) .nil) (bl (o261 p P))) (bn (o0 p P) (bl (o0 p P)) (bl (o307 p P))))
def u167:TF:=fun p P=>(bn (o1 p P) (bn (o0 p P) (bn (o206 p P) (bl (o365 p P)) .nil) (bl (o1 p P))) (bn (o167 p P) (bl (o0 p P)) (bl (o325 p P))))
def u168:TF:=fun p P=>(bn (o7 p P) (u166 p P) (u167 p P))
def u169:TF:=fun p P=>(bn (o59 p P) (bn (o111 p P) (bn (o197 p P) (bl (o0 p P)) .nil) (bl (o271 p P))) (bn (o157 p P) (bl (o234 p P)) (bl (o0 p P))))
def u170:TF:=fun p P=>(bn (o81 p P) (bn (o134 p P) (bn (o1 p P) (bl (o374 p P)) .nil) (bl (o0 p P))) (bn (o7 p P) (bl (o252 p P)) (bl (o338 p P))))
def u171:TF:=fun p P=>(bn (o39 p P) (u169 p P) (u170 p P))
def u172:TF:=fun p P=>(bn (o13 p P) (u168 p P) (u171 p P))
def u173:TF:=fun p P=>(bn (o67 p P) (bn (o123 p P) (bn (o0 p P) (bl (o1 p P)) .nil) (bl (o280 p P))) (bn (o164 p P) (bl (o0 p P)) (bl (o323 p P))))
def u174:TF:=fun p P=>(bn (o57 p P) (bn (o107 p P) (bn (o195 p P) (bl (o354 p P)) .nil) (bl (o268 p P))) (bn (o155 p P) (bl (o1 p P)) (bl (o0 p P))))
def u175:TF:=fun p P=>(bn (o0 p P) (bn (o1 p P) (bn (o213 p P) (bl (o372 p P)) .nil) (bl (o292 p P))) (bn (o173 p P) (bl (o250 p P)) (bl (o335 p P))))
def u176:TF:=fun p P=>(bn (o1 p P) (u174 p P) (u175 p P))
def u177:TF:=fun p P=>(bn (o50 p P) (bn (o99 p P) (bn (o190 p P) (bl (o349 p P)) .nil) (bl (o1 p P))) (bn (o147 p P) (bl (o0 p P)) (bl (o309 p P))))
def u178:TF:=fun p P=>(bn (o0 p P) (bn (o0 p P) (bn (o1 p P) (bl (o367 p P)) .nil) (bl (o287 p P))) (bn (o0 p P) (bl (o245 p P)) (bl (o328 p P))))
def u179:TF:=fun p P=>(bn (o31 p P) (u177 p P) (u178 p P))
def u180:TF:=fun p P=>(bn (o62 p P) (bn (o114 p P) (bn (o200 p P) (bl (o0 p P)) .nil) (bl (o0 p P))) (bn (o160 p P) (bl (o236 p P)) (bl (o318 p P))))
def u181:TF:=fun p P=>(bn (o83 p P) (bn (o136 p P) (bn (o218 p P) (bl (o1 p P)) .nil) (bl (o0 p P))) (bn (o181 p P) (bl (o255 p P)) (bl (o0 p P))))
def u182:TF:=fun p P=>(bn (o41 p P) (u180 p P) (u181 p P))
def u183:TF:=fun p P=>(bn (o7 p P) (u179 p P) (u182 p P))
def u184:TF:=fun p P=>(bn (o43 p P) (bn (o86 p P) (bn (o1 p P) (bl (o342 p P)) .nil) (bl (o256 p P))) (bn (o138 p P) (bn (o1 p P) (bl (o379 p P)) .nil) (bl (o0 p P))))
def u185:TF:=fun p P=>(bn (o63 p P) (bn (o116 p P) (bn (o201 p P) (bl (o0 p P)) .nil) (bl (o275 p P))) (bn (o161 p P) (bl (o238 p P)) (bl (o0 p P))))
def u186:TF:=fun p P=>(bn (o1 p P) (u184 p P) (u185 p P))
def u187:TF:=fun p P=>(bn (o0 p P) (bn (o102 p P) (bn (o0 p P) (bl (o1 p P)) .nil) (bl (o265 p P))) (bn (o150 p P) (bl (o0 p P)) (bl (o311 p P))))
def u188:TF:=fun p P=>(bn (o74 p P) (bn (o0 p P) (bn (o210 p P) (bl (o0 p P)) .nil) (bl (o1 p P))) (bn (o171 p P) (bl (o0 p P)) (bl (o330 p P))))
def u189:TF:=fun p P=>(bn (o33 p P) (u187 p P) (u188 p P))
def u190:TF:=fun p P=>(bn (o7 p P) (u186 p P) (u189 p P))
def u191:TF:=fun p P=>(bn (o48 p P) (bn (o94 p P) (bn (o187 p P) (bl (o0 p P)) .nil) (bl (o0 p P))) (bn (o145 p P) (bl (o224 p P)) (bl (o306 p P))))
def u192:TF:=fun p P=>(bn (o0 p P) (bn (o124 p P) (bn (o0 p P) (bl (o364 p P)) .nil) (bl (o0 p P))) (bn (o166 p P) (bl (o243 p P)) (bl (o1 p P))))
def u193:TF:=fun p P=>(bn (o19 p P) (u191 p P) (u192 p P))
def u194:TF:=fun p P=>(bn (o1 p P) (bn (o110 p P) (bn (o1 p P) (bl (o355 p P)) .nil) (bl (o270 p P))) (bn (o1 p P) (bl (o233 p P)) (bl (o316 p P))))
def u195:TF:=fun p P=>(bn (o79 p P) (bn (o133 p P) (bn (o0 p P) (bl (o1 p P)) .nil) (bl (o297 p P))) (bn (o0 p P) (bl (o1 p P)) (bl (o337 p P))))
def u196:TF:=fun p P=>(bn (o38 p P) (u194 p P) (u195 p P))
def u197:TF:=fun p P=>(bn (o29 p P) (u193 p P) (u196 p P))
def u198:TF:=fun p P=>(bn (PySem.W.boot_o_8 P) (u190 p P) (u197 p P))
def u199:TF:=fun p P=>(bn (o66 p P) (bn (o120 p P) (bn (o204 p P) (bl (o0 p P)) .nil) (bl (o279 p P))) (bn (o1 p P) (bl (o240 p P)) (bl (o322 p P))))
def u200:TF:=fun p P=>(bn (o56 p P) (bn (o106 p P) (bn (o194 p P) (bl (o353 p P)) .nil) (bl (o1 p P))) (bn (o154 p P) (bl (o0 p P)) (bl (o313 p P))))
def u201:TF:=fun p P=>(bn (o76 p P) (bn (o0 p P) (bn (o1 p P) (bl (o371 p P)) .nil) (bl (o291 p P))) (bn (o0 p P) (bl (o249 p P)) (bl (o1 p P))))
def u202:TF:=fun p P=>(bn (o0 p P) (u200 p P) (u201 p P))
def u203:TF:=fun p P=>(bn (o0 p P) (bn (o98 p P) (bn (o1 p P) (bl (o348 p P)) .nil) (bl (o0 p P))) (bn (o0 p P) (bl (o227 p P)) (bl (o1 p P))))
def u204:TF:=fun p P=>(bn (o72 p P) (bn (o127 p P) (bn (o0 p P) (bl (o1 p P)) .nil) (bl (o286 p P))) (bn (o168 p P) (bl (o0 p P)) (bl (o327 p P))))
def u205:TF:=fun p P=>(bn (o1 p P) (u203 p P) (u204 p P))
def u206:TF:=fun p P=>(bn (o61 p P) (bn (o113 p P) (bn (o199 p P) (bl (o358 p P)) .nil) (bl (o272 p P))) (bn (o159 p P) (bl (o1 p P)) (bl (o0 p P))))
def u207:TF:=fun p P=>(bn (o82 p P) (bn (o1 p P) (bn (o217 p P) (bl (o0 p P)) .nil) (bl (o300 p P))) (bn (o180 p P) (bl (o254 p P)) (bl (o339 p P))))
def u208:TF:=fun p P=>(bn (o1 p P) (u206 p P) (u207 p P))
def u209:TF:=fun p P=>(bn (o19 p P) (u205 p P) (u208 p P))
def u210:TF:=fun p P=>(bn (o64 p P) (bn (o118 p P) (bn (o202 p P) (bl (o361 p P)) .nil) (bl (o277 p P))) (bn (o163 p P) (bl (o0 p P)) (bl (o321 p P))))
def u211:TF:=fun p P=>(bn (o55 p P) (bn (o104 p P) (bn (o193 p P) (bl (o0 p P)) .nil) (bl (o267 p P))) (bn (o152 p P) (bl (o230 p P)) (bl (o0 p P))))
def u212:TF:=fun p P=>(bn (o0 p P) (bn (o130 p P) (bn (o212 p P) (bl (o370 p P)) .nil) (bl (o0 p P))) (bn (o1 p P) (bl (o248 p P)) (bl (o332 p P))))
def u213:TF:=fun p P=>(bn (o35 p P) (u211 p P) (u212 p P))
def u214:TF:=fun p P=>(bn (o1 p P) (bn (o96 p P) (bn (o189 p P) (bl (o347 p P)) .nil) (bl (o262 p P))) (bn (o1 p P) (bl (o225 p P)) (bl (o308 p P))))
def u215:TF:=fun p P=>(bn (o70 p P) (bn (o125 p P) (bn (o207 p P) (bl (o366 p P)) .nil) (bl (o285 p P))) (bn (o0 p P) (bl (o1 p P)) (bl (o0 p P))))
def u216:TF:=fun p P=>(bn (o30 p P) (u214 p P) (u215 p P))
def u217:TF:=fun p P=>(bn (o0 p P) (bn (o0 p P) (bn (o0 p P) (bl (o356 p P)) .nil) (bl (o0 p P))) (bn (o0 p P) (bl (o235 p P)) (bl (o1 p P))))
def u218:TF:=fun p P=>(bn (o0 p P) (bn (o135 p P) (bn (o216 p P) (bl (o375 p P)) .nil) (bl (o298 p P))) (bn (o179 p P) (bl (o0 p P)) (bl (o0 p P))))
def u219:TF:=fun p P=>(bn (o40 p P) (u217 p P) (u218 p P))
def u220:TF:=fun p P=>(bn (o14 p P) (u216 p P) (u219 p P))
def u221:TF:=fun p P=>(bn (o46 p P) (bn (o92 p P) (bn (o186 p P) (bl (o345 p P)) .nil) (bl (o1 p P))) (bn (o143 p P) (bl (o0 p P)) (bl (o305 p P))))
def u222:TF:=fun p P=>(bn (o68 p P) (bn (o0 p P) (bn (o1 p P) (bl (o363 p P)) .nil) (bl (o281 p P))) (bn (o0 p P) (bl (o241 p P)) (bl (o324 p P))))
def u223:TF:=fun p P=>(bn (o25 p P) (u221 p P) (u222 p P))
def u224:TF:=fun p P=>(bn (o58 p P) (bn (o108 p P) (bn (o196 p P) (bl (o0 p P)) .nil) (bl (o0 p P))) (bn (o156 p P) (bl (o232 p P)) (bl (o314 p P))))
def u225:TF:=fun p P=>(bn (o77 p P) (bn (o132 p P) (bn (o214 p P) (bl (o373 p P)) .nil) (bl (o296 p P))) (bn (o174 p P) (bl (o251 p P)) (bl (o0 p P))))
def u226:TF:=fun p P=>(bn (o37 p P) (u224 p P) (u225 p P))
def u227:TF:=fun p P=>(bn (o0 p P) (u223 p P) (u226 p P))
def u228:TF:=fun p P=>(bn (o51 p P) (bn (o100 p P) (bn (o191 p P) (bl (o350 p P)) .nil) (bl (o264 p P))) (bn (o148 p P) (bl (o1 p P)) (bl (o0 p P))))
def u229:TF:=fun p P=>(bn (o1 p P) (bn (o1 p P) (bn (o209 p P) (bl (o368 p P)) .nil) (bl (o288 p P))) (bn (o169 p P) (bl (o246 p P)) (bl (o0 p P))))
def u230:TF:=fun p P=>(bn (o32 p P) (u228 p P) (u229 p P))
def u231:TF:=fun p P=>(bn (o0 p P) (bn (o115 p P) (bn (o0 p P) (bl (o1 p P)) .nil) (bl (o273 p P))) (bn (o0 p P) (bl (o0 p P)) (bl (o319 p P))))
def u232:TF:=fun p P=>(bn (o84 p P) (bn (o0 p P) (bn (o219 p P) (bl (o377 p P)) .nil) (bl (o1 p P))) (bn (o182 p P) (bl (o0 p P)) (bl (o340 p P))))
def u233:TF:=fun p P=>(bn (o0 p P) (u231 p P) (u232 p P))
def u234:TF:=fun p P=>(bn (o20 p P) (u230 p P) (u233 p P))
def u235:TF:=fun p P=>(bn (o3 p P) (u227 p P) (u234 p P))
def T12:TF:=fun p P=>(bn (PySem.W.boot_o_0 P) (bn (PySem.W.boot_o_1 P) (bn (o333 p P) (u150 p P) (bn (o0 p P) (bn (o1 p P) (bn (o0 p P) (bn (o1 p P) (bn (o89 p P) (bn (o185 p P) (bl (o343 p P)) .nil) (bl (o258 p P))) (bn (o7 p P) (bl (o221 p P)) (bl (o304 p P)))) (u151 p P)) (u154 p P)) (u161 p P))) (bn (PySem.W.boot_o_5 P) (bn (PySem.W.boot_o_9 P) (bn (o8 p P) (bn (o21 p P) (bn (o44 p P) (bn (o87 p P) (bn (o183 p P) (bl (o0 p P)) .nil) (bl (o0 p P))) (bn (o139 p P) (bl (o220 p P)) (bl (o302 p P)))) (u162 p P)) (u165 p P)) (u172 p P)) (bn (o2 p P) (bn (o10 p P) (bn (o24 p P) (bn (o0 p P) (bn (o91 p P) (bn (o1 p P) (bl (o344 p P)) .nil) (bl (o0 p P))) (bn (o0 p P) (bl (o223 p P)) (bl (o1 p P)))) (u173 p P)) (u176 p P)) (u183 p P)))) (bn (PySem.W.boot_o_2 P) (bn (PySem.W.boot_o_4 P) (u198 p P) (bn (o334 p P) (bn (o9 p P) (bn (o23 p P) (bn (o45 p P) (bn (o90 p P) (bn (o0 p P) (bl (o0 p P)) .nil) (bl (o259 p P))) (bn (o142 p P) (bl (o222 p P)) (bl (o0 p P)))) (u199 p P)) (u202 p P)) (u209 p P))) (bn (PySem.W.boot_o_6 P) (bn (PySem.W.boot_o_10 P) (bn (o0 p P) (bn (o22 p P) (bn (o0 p P) (bn (o88 p P) (bn (o184 p P) (bl (o1 p P)) .nil) (bl (o257 p P))) (bn (o0 p P) (bl (o0 p P)) (bl (o303 p P)))) (u210 p P)) (u213 p P)) (u220 p P)) (u235 p P))))
def T13:TF:=fun p P=>(bn (PySem.W.boot_o_0 P) (bn (PySem.W.boot_o_1 P) (bn (o380 p P) (u150 p P) (bn (o0 p P) (bn (o1 p P) (bn (o0 p P) (bn (o1 p P) (bn (o89 p P) (bn (o185 p P) (bl (o343 p P)) .nil) (bl (o258 p P))) (bn (o7 p P) (bn (o221 p P) (bl (o382 p P)) .nil) (bl (o304 p P)))) (u151 p P)) (u154 p P)) (u161 p P))) (bn (PySem.W.boot_o_5 P) (bn (PySem.W.boot_o_9 P) (bn (o8 p P) (bn (o21 p P) (bn (o44 p P) (bn (o87 p P) (bn (o183 p P) (bl (o0 p P)) .nil) (bl (o0 p P))) (bn (o139 p P) (bn (o220 p P) (bl (o0 p P)) .nil) (bl (o302 p P)))) (u162 p P)) (u165 p P)) (u172 p P)) (bn (o2 p P) (bn (o10 p P) (bn (o24 p P) (bn (o0 p P) (bn (o91 p P) (bn (o1 p P) (bl (o344 p P)) .nil) (bl (o0 p P))) (bn (o0 p P) (bn (o223 p P) (bl (o384 p P)) .nil) (bl (o1 p P)))) (u173 p P)) (u176 p P)) (u183 p P)))) (bn (PySem.W.boot_o_2 P) (bn (PySem.W.boot_o_4 P) (u198 p P) (bn (o381 p P) (bn (o9 p P) (bn (o23 p P) (bn (o45 p P) (bn (o90 p P) (bn (o0 p P) (bl (o0 p P)) .nil) (bl (o259 p P))) (bn (o142 p P) (bn (o222 p P) (bl (o383 p P)) .nil) (bl (o0 p P)))) (u199 p P)) (u202 p P)) (u209 p P))) (bn (PySem.W.boot_o_6 P) (bn (PySem.W.boot_o_10 P) (bn (o0 p P) (bn (o22 p P) (bn (o0 p P) (bn (o88 p P) (bn (o184 p P) (bl (o1 p P)) .nil) (bl (o257 p P))) (bn (o0 p P) (bn (o0 p P) (bl (o1 p P)) .nil) (bl (o303 p P)))) (u210 p P)) (u213 p P)) (u220 p P)) (u235 p P))))
def HF(p:Program)(P:Params):Heap:=⟨Array.mk [(PySem.W.boot_o_0 P),(PySem.W.boot_o_1 P),(PySem.W.boot_o_2 P),(o380 p P),(PySem.W.boot_o_4 P),(PySem.W.boot_o_5 P),(PySem.W.boot_o_6 P),(PySem.W.boot_o_7 P),(PySem.W.boot_o_8 P),(PySem.W.boot_o_9 P),(PySem.W.boot_o_10 P),(o0 p P),(o381 p P),(o2 p P),(o3 p P),(o6 p P),(o7 p P),(o8 p P),(o0 p P),(o1 p P),(o9 p P),(o10 p P),(o0 p P),(o11 p P),(o29 p P),(o13 p P),(o14 p P),(o15 p P),(o19 p P),(o7 p P),(o20 p P),(o0 p P),(o1 p P),(o21 p P),(o22 p P),(o0 p P),(o23 p P),(o24 p P),(o25 p P),(o26 p P),(o19 p P),(o7 p P),(o30 p P),(o0 p P),(o1 p P),(o31 p P),(o32 p P),(o0 p P),(o33 p P),(o34 p P),(o35 p P),(o36 p P),(o0 p P),(o1 p P),(o37 p P),(o0 p P),(o38 p P),(o39 p P),(o40 p P),(o0 p P),(o1 p P),(o41 p P),(o0 p P),(o42 p P),(o43 p P),(o44 p P),(o0 p P),(o1 p P),(o45 p P),(o0 p P),(o46 p P),(o47 p P),(o48 p P),(o0 p P),(o1 p P),(o49 p P),(o0 p P),(o50 p P),(o51 p P),(o52 p P),(o0 p P),(o1 p P),(o55 p P),(o0 p P),(o56 p P),(o57 p P),(o58 p P),(o0 p P),(o1 p P),(o59 p P),(o0 p P),(o60 p P),(o61 p P),(o62 p P),(o0 p P),(o1 p P),(o63 p P),(o0 p P),(o64 p P),(o65 p P),(o66 p P),(o67 p P),(o68 p P),(o69 p P),(o0 p P),(o1 p P),(o70 p P),(o71 p P),(o72 p P),(o0 p P),(o1 p P),(o73 p P),(o74 p P),(o75 p P),(o0 p P),(o1 p P),(o76 p P),(o0 p P),(o77 p P),(o78 p P),(o79 p P),(o81 p P),(o0 p P),(o0 p P),(o82 p P),(o83 p P),(o84 p P),(o85 p P),(o86 p P),(o87 p P),(o88 p P),(o89 p P),(o90 p P),(o91 p P),(o92 p P),(o93 p P),(o94 p P),(o95 p P),(o96 p P),(o97 p P),(o98 p P),(o99 p P),(o100 p P),(o101 p P),(o102 p P),(o103 p P),(o104 p P),(o105 p P),(o106 p P),(o107 p P),(o108 p P),(o109 p P),(o110 p P),(o111 p P),(o0 p P),(o112 p P),(o113 p P),(o114 p P),(o115 p P),(o0 p P),(o116 p P),(o117 p P),(o118 p P),(o119 p P),(o120 p P),(o123 p P),(o0 p P),(o1 p P),(o124 p P),(o0 p P),(o125 p P),(o126 p P),(o127 p P),(o0 p P),(o1 p P),(o128 p P),(o0 p P),(o129 p P),(o130 p P),(o131 p P),(o0 p P),(o1 p P),(o132 p P),(o0 p P),(o133 p P),(o134 p P),(o135 p P),(o0 p P),(o1 p P),(o136 p P),(o0 p P),(o137 p P),(o138 p P),(o139 p P),(o0 p P),(o7 p P),(o142 p P),(o0 p P),(o143 p P),(o144 p P),(o145 p P),(o0 p P),(o1 p P),(o146 p P),(o0 p P),(o147 p P),(o148 p P),(o149 p P),(o150 p P),(o151 p P),(o152 p P),(o153 p P),(o154 p P),(o155 p P),(o156 p P),(o0 p P),(o1 p P),(o157 p P),(o0 p P),(o158 p P),(o159 p P),(o160 p P),(o0 p P),(o1 p P),(o161 p P),(o162 p P),(o163 p P),(o0 p P),(o1 p P),(o164 p P),(o0 p P),(o165 p P),(o166 p P),(o167 p P),(o0 p P),(o1 p P),(o168 p P),(o0 p P),(o169 p P),(o170 p P),(o171 p P),(o0 p P),(o1 p P),(o172 p P),(o0 p P),(o173 p P),(o174 p P),(o175 p P),(o0 p P),(o7 p P),(o179 p P),(o0 p P),(o180 p P),(o181 p P),(o182 p P),(o0 p P),(o1 p P),(o183 p P),(o184 p P),(o185 p P),(o0 p P),(o1 p P),(o186 p P),(o0 p P),(o187 p P),(o188 p P),(o189 p P),(o0 p P),(o1 p P),(o190 p P),(o191 p P),(o192 p P),(o0 p P),(o1 p P),(o193 p P),(o0 p P),(o194 p P),(o195 p P),(o196 p P),(o0 p P),(o1 p P),(o197 p P),(o0 p P),(o198 p P),(o199 p P),(o200 p P),(o0 p P),(o1 p P),(o201 p P),(o0 p P),(o202 p P),(o203 p P),(o204 p P),(o0 p P),(o1 p P),(o205 p P),(o0 p P),(o206 p P),(o207 p P),(o208 p P),(o0 p P),(o1 p P),(o209 p P),(o0 p P),(o210 p P),(o211 p P),(o212 p P),(o0 p P),(o1 p P),(o213 p P),(o214 p P),(o215 p P),(o0 p P),(o1 p P),(o216 p P),(o0 p P),(o217 p P),(o218 p P),(o219 p P),(o0 p P),(o1 p P),(o220 p P),(o0 p P),(o221 p P),(o222 p P),(o223 p P),(o0 p P),(o1 p P),(o224 p P),(o0 p P),(o225 p P),(o226 p P),(o227 p P),(o0 p P),(o1 p P),(o228 p P),(o0 p P),(o229 p P),(o230 p P),(o231 p P),(o0 p P),(o1 p P),(o232 p P),(o0 p P),(o233 p P),(o234 p P),(o235 p P),(o0 p P),(o1 p P),(o236 p P),(o0 p P),(o237 p P),(o238 p P),(o239 p P),(o0 p P),(o1 p P),(o240 p P),(o0 p P),(o241 p P),(o242 p P),(o243 p P),(o0 p P),(o1 p P),(o244 p P),(o0 p P),(o245 p P),(o246 p P),(o247 p P),(o0 p P),(o1 p P),(o248 p P),(o0 p P),(o249 p P),(o250 p P),(o251 p P),(o0 p P),(o1 p P),(o252 p P),(o0 p P),(o253 p P),(o254 p P),(o255 p P),(o0 p P),(o1 p P),(o256 p P),(o0 p P),(o257 p P),(o258 p P),(o259 p P),(o0 p P),(o1 p P),(o260 p P),(o0 p P),(o261 p P),(o262 p P),(o263 p P),(o0 p P),(o1 p P),(o264 p P),(o0 p P),(o265 p P),(o266 p P),(o267 p P),(o0 p P),(o1 p P),(o268 p P),(o0 p P),(o269 p P),(o270 p P),(o271 p P),(o0 p P),(o1 p P),(o272 p P),(o0 p P),(o273 p P),(o274 p P),(o275 p P),(o276 p P),(o277 p P),(o295 p P),(o279 p P),(o280 p P),(o281 p P),(o282 p P),(o0 p P),(o1 p P),(o285 p P),(o0 p P),(o286 p P),(o287 p P),(o288 p P),(o0 p P),(o1 p P),(o289 p P),(o0 p P),(o290 p P),(o291 p P),(o292 p P),(o296 p P),(o7 p P),(o297 p P),(o0 p P),(o298 p P),(o299 p P),(o300 p P),(o0 p P),(o1 p P),(o301 p P),(o0 p P),(o302 p P),(o303 p P),(o304 p P),(o0 p P),(o1 p P),(o305 p P),(o0 p P),(o306 p P),(o307 p P),(o308 p P),(o0 p P),(o1 p P),(o309 p P),(o0 p P),(o310 p P),(o311 p P),(o312 p P),(o0 p P),(o1 p P),(o313 p P),(o0 p P),(o314 p P),(o315 p P),(o316 p P),(o0 p P),(o1 p P),(o317 p P),(o0 p P),(o318 p P),(o319 p P),(o320 p P),(o0 p P),(o1 p P),(o321 p P),(o0 p P),(o322 p P),(o323 p P),(o324 p P),(o0 p P),(o1 p P),(o325 p P),(o0 p P),(o326 p P),(o327 p P),(o328 p P),(o0 p P),(o329 p P),(o330 p P),(o331 p P),(o332 p P),(o0 p P),(o1 p P),(o335 p P),(o0 p P),(o336 p P),(o337 p P),(o338 p P),(o0 p P),(o1 p P),(o339 p P),(o0 p P),(o340 p P),(o341 p P),(o342 p P),(o0 p P),(o1 p P),(o343 p P),(o0 p P),(o344 p P),(o345 p P),(o346 p P),(o0 p P),(o1 p P),(o347 p P),(o0 p P),(o348 p P),(o349 p P),(o350 p P),(o0 p P),(o1 p P),(o351 p P),(o0 p P),(o352 p P),(o353 p P),(o354 p P),(o0 p P),(o1 p P),(o355 p P),(o0 p P),(o356 p P),(o357 p P),(o358 p P),(o0 p P),(o1 p P),(o359 p P),(o0 p P),(o360 p P),(o361 p P),(o362 p P),(o0 p P),(o1 p P),(o363 p P),(o0 p P),(o364 p P),(o365 p P),(o366 p P),(o0 p P),(o1 p P),(o367 p P),(o368 p P),(o369 p P),(o0 p P),(o1 p P),(o370 p P),(o0 p P),(o371 p P),(o372 p P),(o373 p P),(o0 p P),(o1 p P),(o374 p P),(o375 p P),(o376 p P),(o0 p P),(o1 p P),(o377 p P),(o378 p P),(o379 p P),(o0 p P),(o1 p P),(o382 p P),(o383 p P),(o384 p P)],{}⟩
def K(P:Params):PySem.W.Frag:=(nat_lit 2,(PySem.W.boot_o_2 P))::(nat_lit 3,(o380 pw P))::(nat_lit 15,(o6 pw P))::(nat_lit 22,(o0 pw P))::(nat_lit 23,(o11 pw P))::(nat_lit 24,(o29 pw P))::(nat_lit 25,(o13 pw P))::(nat_lit 28,(o19 pw P))::(nat_lit 35,(o0 pw P))::(nat_lit 36,(o23 pw P))::(nat_lit 37,(o24 pw P))::(nat_lit 40,(o19 pw P))::(nat_lit 47,(o0 pw P))::(nat_lit 48,(o33 pw P))::(nat_lit 49,(o34 pw P))::(nat_lit 52,(o0 pw P))::(nat_lit 54,(o37 pw P))::(nat_lit 55,(o0 pw P))::(nat_lit 57,(o39 pw P))::(nat_lit 58,(o40 pw P))::(nat_lit 59,(o0 pw P))::(nat_lit 61,(o41 pw P))::(nat_lit 62,(o0 pw P))::(nat_lit 64,(o43 pw P))::(nat_lit 65,(o44 pw P))::(nat_lit 66,(o0 pw P))::(nat_lit 68,(o45 pw P))::(nat_lit 69,(o0 pw P))::(nat_lit 71,(o47 pw P))::(nat_lit 72,(o48 pw P))::(nat_lit 73,(o0 pw P))::(nat_lit 75,(o49 pw P))::(nat_lit 76,(o0 pw P))::(nat_lit 78,(o51 pw P))::(nat_lit 79,(o52 pw P))::(nat_lit 80,(o0 pw P))::(nat_lit 82,(o55 pw P))::(nat_lit 83,(o0 pw P))::(nat_lit 85,(o57 pw P))::(nat_lit 86,(o58 pw P))::(nat_lit 87,(o0 pw P))::(nat_lit 89,(o59 pw P))::(nat_lit 90,(o0 pw P))::(nat_lit 92,(o61 pw P))::(nat_lit 93,(o62 pw P))::(nat_lit 94,(o0 pw P))::(nat_lit 96,(o63 pw P))::(nat_lit 97,(o0 pw P))::(nat_lit 99,(o65 pw P))::(nat_lit 100,(o66 pw P))::(nat_lit 101,(o67 pw P))::(nat_lit 102,(o68 pw P))::(nat_lit 103,(o69 pw P))::(nat_lit 104,(o0 pw P))::(nat_lit 107,(o71 pw P))::(nat_lit 108,(o72 pw P))::(nat_lit 109,(o0 pw P))::(nat_lit 112,(o74 pw P))::(nat_lit 113,(o75 pw P))::(nat_lit 114,(o0 pw P))::(nat_lit 116,(o76 pw P))::(nat_lit 117,(o0 pw P))::(nat_lit 119,(o78 pw P))::(nat_lit 120,(o79 pw P))::(nat_lit 121,(o81 pw P))::(nat_lit 122,(o0 pw P))::(nat_lit 123,(o0 pw P))::(nat_lit 124,(o82 pw P))::(nat_lit 125,(o83 pw P))::(nat_lit 126,(o84 pw P))::(nat_lit 127,(o85 pw P))::(nat_lit 128,(o86 pw P))::(nat_lit 129,(o87 pw P))::(nat_lit 130,(o88 pw P))::(nat_lit 131,(o89 pw P))::(nat_lit 132,(o90 pw P))::(nat_lit 133,(o91 pw P))::(nat_lit 134,(o92 pw P))::(nat_lit 135,(o93 pw P))::(nat_lit 136,(o94 pw P))::(nat_lit 137,(o95 pw P))::(nat_lit 138,(o96 pw P))::(nat_lit 139,(o97 pw P))::(nat_lit 140,(o98 pw P))::(nat_lit 141,(o99 pw P))::(nat_lit 142,(o100 pw P))::(nat_lit 143,(o101 pw P))::(nat_lit 144,(o102 pw P))::(nat_lit 145,(o103 pw P))::(nat_lit 146,(o104 pw P))::(nat_lit 147,(o105 pw P))::(nat_lit 148,(o106 pw P))::(nat_lit 149,(o107 pw P))::(nat_lit 150,(o108 pw P))::(nat_lit 151,(o109 pw P))::(nat_lit 152,(o110 pw P))::(nat_lit 153,(o111 pw P))::(nat_lit 154,(o0 pw P))::(nat_lit 155,(o112 pw P))::(nat_lit 156,(o113 pw P))::(nat_lit 157,(o114 pw P))::(nat_lit 158,(o115 pw P))::(nat_lit 159,(o0 pw P))::(nat_lit 161,(o117 pw P))::(nat_lit 162,(o118 pw P))::(nat_lit 163,(o119 pw P))::(nat_lit 164,(o120 pw P))::(nat_lit 165,(o123 pw P))::(nat_lit 166,(o0 pw P))::(nat_lit 168,(o124 pw P))::(nat_lit 169,(o0 pw P))::(nat_lit 171,(o126 pw P))::(nat_lit 172,(o127 pw P))::(nat_lit 173,(o0 pw P))::(nat_lit 175,(o128 pw P))::(nat_lit 176,(o0 pw P))::(nat_lit 178,(o130 pw P))::(nat_lit 179,(o131 pw P))::(nat_lit 180,(o0 pw P))::(nat_lit 182,(o132 pw P))::(nat_lit 183,(o0 pw P))::(nat_lit 185,(o134 pw P))::(nat_lit 186,(o135 pw P))::(nat_lit 187,(o0 pw P))::(nat_lit 189,(o136 pw P))::(nat_lit 190,(o0 pw P))::(nat_lit 192,(o138 pw P))::(nat_lit 193,(o139 pw P))::(nat_lit 201,(o0 pw P))::(nat_lit 203,(o146 pw P))::(nat_lit 204,(o0 pw P))::(nat_lit 206,(o148 pw P))::(nat_lit 207,(o149 pw P))::(nat_lit 208,(o150 pw P))::(nat_lit 209,(o151 pw P))::(nat_lit 210,(o152 pw P))::(nat_lit 211,(o153 pw P))::(nat_lit 212,(o154 pw P))::(nat_lit 215,(o0 pw P))::(nat_lit 217,(o157 pw P))::(nat_lit 218,(o0 pw P))::(nat_lit 220,(o159 pw P))::(nat_lit 221,(o160 pw P))::(nat_lit 222,(o0 pw P))::(nat_lit 225,(o162 pw P))::(nat_lit 226,(o163 pw P))::(nat_lit 227,(o0 pw P))::(nat_lit 229,(o164 pw P))::(nat_lit 230,(o0 pw P))::(nat_lit 232,(o166 pw P))::(nat_lit 233,(o167 pw P))::(nat_lit 234,(o0 pw P))::(nat_lit 236,(o168 pw P))::(nat_lit 237,(o0 pw P))::(nat_lit 239,(o170 pw P))::(nat_lit 240,(o171 pw P))::(nat_lit 241,(o0 pw P))::(nat_lit 243,(o172 pw P))::(nat_lit 244,(o0 pw P))::(nat_lit 246,(o174 pw P))::(nat_lit 247,(o175 pw P))::(nat_lit 255,(o0 pw P))::(nat_lit 258,(o184 pw P))::(nat_lit 259,(o185 pw P))::(nat_lit 260,(o0 pw P))::(nat_lit 262,(o186 pw P))::(nat_lit 263,(o0 pw P))::(nat_lit 265,(o188 pw P))::(nat_lit 266,(o189 pw P))::(nat_lit 267,(o0 pw P))::(nat_lit 270,(o191 pw P))::(nat_lit 271,(o192 pw P))::(nat_lit 272,(o0 pw P))::(nat_lit 274,(o193 pw P))::(nat_lit 275,(o0 pw P))::(nat_lit 277,(o195 pw P))::(nat_lit 278,(o196 pw P))::(nat_lit 279,(o0 pw P))::(nat_lit 281,(o197 pw P))::(nat_lit 282,(o0 pw P))::(nat_lit 284,(o199 pw P))::(nat_lit 285,(o200 pw P))::(nat_lit 286,(o0 pw P))::(nat_lit 288,(o201 pw P))::(nat_lit 289,(o0 pw P))::(nat_lit 291,(o203 pw P))::(nat_lit 292,(o204 pw P))::(nat_lit 293,(o0 pw P))::(nat_lit 295,(o205 pw P))::(nat_lit 296,(o0 pw P))::(nat_lit 298,(o207 pw P))::(nat_lit 299,(o208 pw P))::(nat_lit 300,(o0 pw P))::(nat_lit 302,(o209 pw P))::(nat_lit 303,(o0 pw P))::(nat_lit 305,(o211 pw P))::(nat_lit 306,(o212 pw P))::(nat_lit 307,(o0 pw P))::(nat_lit 310,(o214 pw P))::(nat_lit 311,(o215 pw P))::(nat_lit 312,(o0 pw P))::(nat_lit 314,(o216 pw P))::(nat_lit 315,(o0 pw P))::(nat_lit 317,(o218 pw P))::(nat_lit 318,(o219 pw P))::(nat_lit 319,(o0 pw P))::(nat_lit 321,(o220 pw P))::(nat_lit 322,(o0 pw P))::(nat_lit 324,(o222 pw P))::(nat_lit 325,(o223 pw P))::(nat_lit 326,(o0 pw P))::(nat_lit 328,(o224 pw P))::(nat_lit 329,(o0 pw P))::(nat_lit 331,(o226 pw P))::(nat_lit 332,(o227 pw P))::(nat_lit 333,(o0 pw P))::(nat_lit 335,(o228 pw P))::(nat_lit 336,(o0 pw P))::(nat_lit 338,(o230 pw P))::(nat_lit 339,(o231 pw P))::(nat_lit 340,(o0 pw P))::(nat_lit 342,(o232 pw P))::(nat_lit 343,(o0 pw P))::(nat_lit 345,(o234 pw P))::(nat_lit 346,(o235 pw P))::(nat_lit 347,(o0 pw P))::(nat_lit 349,(o236 pw P))::(nat_lit 350,(o0 pw P))::(nat_lit 352,(o238 pw P))::(nat_lit 353,(o239 pw P))::(nat_lit 354,(o0 pw P))::(nat_lit 356,(o240 pw P))::(nat_lit 357,(o0 pw P))::(nat_lit 359,(o242 pw P))::(nat_lit 360,(o243 pw P))::(nat_lit 361,(o0 pw P))::(nat_lit 363,(o244 pw P))::(nat_lit 364,(o0 pw P))::(nat_lit 366,(o246 pw P))::(nat_lit 367,(o247 pw P))::(nat_lit 368,(o0 pw P))::(nat_lit 370,(o248 pw P))::(nat_lit 371,(o0 pw P))::(nat_lit 373,(o250 pw P))::(nat_lit 374,(o251 pw P))::(nat_lit 375,(o0 pw P))::(nat_lit 377,(o252 pw P))::(nat_lit 378,(o0 pw P))::(nat_lit 380,(o254 pw P))::(nat_lit 381,(o255 pw P))::(nat_lit 382,(o0 pw P))::(nat_lit 384,(o256 pw P))::(nat_lit 385,(o0 pw P))::(nat_lit 387,(o258 pw P))::(nat_lit 388,(o259 pw P))::(nat_lit 389,(o0 pw P))::(nat_lit 391,(o260 pw P))::(nat_lit 392,(o0 pw P))::(nat_lit 394,(o262 pw P))::(nat_lit 395,(o263 pw P))::(nat_lit 396,(o0 pw P))::(nat_lit 398,(o264 pw P))::(nat_lit 399,(o0 pw P))::(nat_lit 401,(o266 pw P))::(nat_lit 402,(o267 pw P))::(nat_lit 403,(o0 pw P))::(nat_lit 405,(o268 pw P))::(nat_lit 406,(o0 pw P))::(nat_lit 408,(o270 pw P))::(nat_lit 409,(o271 pw P))::(nat_lit 410,(o0 pw P))::(nat_lit 412,(o272 pw P))::(nat_lit 413,(o0 pw P))::(nat_lit 415,(o274 pw P))::(nat_lit 416,(o275 pw P))::(nat_lit 417,(o276 pw P))::(nat_lit 418,(o277 pw P))::(nat_lit 419,(o295 pw P))::(nat_lit 420,(o279 pw P))::(nat_lit 421,(o280 pw P))::(nat_lit 424,(o0 pw P))::(nat_lit 426,(o285 pw P))::(nat_lit 427,(o0 pw P))::(nat_lit 429,(o287 pw P))::(nat_lit 430,(o288 pw P))::(nat_lit 431,(o0 pw P))::(nat_lit 433,(o289 pw P))::(nat_lit 434,(o0 pw P))::(nat_lit 436,(o291 pw P))::(nat_lit 437,(o292 pw P))::(nat_lit 438,(o296 pw P))::(nat_lit 445,(o0 pw P))::(nat_lit 447,(o301 pw P))::(nat_lit 448,(o0 pw P))::(nat_lit 450,(o303 pw P))::(nat_lit 451,(o304 pw P))::(nat_lit 452,(o0 pw P))::(nat_lit 454,(o305 pw P))::(nat_lit 455,(o0 pw P))::(nat_lit 457,(o307 pw P))::(nat_lit 458,(o308 pw P))::(nat_lit 459,(o0 pw P))::(nat_lit 461,(o309 pw P))::(nat_lit 462,(o0 pw P))::(nat_lit 464,(o311 pw P))::(nat_lit 465,(o312 pw P))::(nat_lit 466,(o0 pw P))::(nat_lit 468,(o313 pw P))::(nat_lit 469,(o0 pw P))::(nat_lit 471,(o315 pw P))::(nat_lit 472,(o316 pw P))::(nat_lit 473,(o0 pw P))::(nat_lit 475,(o317 pw P))::(nat_lit 476,(o0 pw P))::(nat_lit 478,(o319 pw P))::(nat_lit 479,(o320 pw P))::(nat_lit 480,(o0 pw P))::(nat_lit 482,(o321 pw P))::(nat_lit 483,(o0 pw P))::(nat_lit 485,(o323 pw P))::(nat_lit 486,(o324 pw P))::(nat_lit 487,(o0 pw P))::(nat_lit 489,(o325 pw P))::(nat_lit 490,(o0 pw P))::(nat_lit 492,(o327 pw P))::(nat_lit 493,(o328 pw P))::(nat_lit 494,(o0 pw P))::(nat_lit 495,(o329 pw P))::(nat_lit 496,(o330 pw P))::(nat_lit 499,(o0 pw P))::(nat_lit 501,(o335 pw P))::(nat_lit 502,(o0 pw P))::(nat_lit 504,(o337 pw P))::(nat_lit 505,(o338 pw P))::(nat_lit 506,(o0 pw P))::(nat_lit 508,(o339 pw P))::(nat_lit 509,(o0 pw P))::(nat_lit 511,(o341 pw P))::(nat_lit 512,(o342 pw P))::(nat_lit 513,(o0 pw P))::(nat_lit 515,(o343 pw P))::(nat_lit 516,(o0 pw P))::(nat_lit 518,(o345 pw P))::(nat_lit 519,(o346 pw P))::(nat_lit 520,(o0 pw P))::(nat_lit 522,(o347 pw P))::(nat_lit 523,(o0 pw P))::(nat_lit 525,(o349 pw P))::(nat_lit 526,(o350 pw P))::(nat_lit 527,(o0 pw P))::(nat_lit 529,(o351 pw P))::(nat_lit 530,(o0 pw P))::(nat_lit 532,(o353 pw P))::(nat_lit 533,(o354 pw P))::(nat_lit 534,(o0 pw P))::(nat_lit 536,(o355 pw P))::(nat_lit 537,(o0 pw P))::(nat_lit 539,(o357 pw P))::(nat_lit 540,(o358 pw P))::(nat_lit 541,(o0 pw P))::(nat_lit 543,(o359 pw P))::(nat_lit 544,(o0 pw P))::(nat_lit 546,(o361 pw P))::(nat_lit 547,(o362 pw P))::(nat_lit 548,(o0 pw P))::(nat_lit 550,(o363 pw P))::(nat_lit 551,(o0 pw P))::(nat_lit 553,(o365 pw P))::(nat_lit 554,(o366 pw P))::(nat_lit 555,(o0 pw P))::(nat_lit 558,(o368 pw P))::(nat_lit 559,(o369 pw P))::(nat_lit 560,(o0 pw P))::(nat_lit 562,(o370 pw P))::(nat_lit 563,(o0 pw P))::(nat_lit 565,(o372 pw P))::(nat_lit 566,(o373 pw P))::(nat_lit 567,(o0 pw P))::(nat_lit 570,(o375 pw P))::(nat_lit 571,(o376 pw P))::(nat_lit 572,(o0 pw P))::(nat_lit 575,(o378 pw P))::(nat_lit 576,(o379 pw P))::(nat_lit 577,(o0 pw P))::(nat_lit 580,(o383 pw P))::(nat_lit 581,(o384 pw P))::[]
abbrev asK:List Addr:=[2,3,15,22,23,24,25,28,35,36,37,40,47,48,49,52,54,55,57,58,59,61,62,64,65,66,68,69,71,72,73,75,76,78,79,80,82,83,85,86,87,89,90,92,93,94,96,97,99,100,101,102,103,104,107,108,109,112,113,114,116,117,119,120,121,122,123,124,125,126,127,128,129,130,131,132,133,134,135,136,137,138,139,140,141,142,143,144,145,146,147,148,149,150,151,152,153,154,155,156,157,158,159,161,162,163,164,165,166,168,169,171,172,173,175,176,178,179,180,182,183,185,186,187,189,190,192,193,201,203,204,206,207,208,209,210,211,212,215,217,218,220,221,222,225,226,227,229,230,232,233,234,236,237,239,240,241,243,244,246,247,255,258,259,260,262,263,265,266,267,270,271,272,274,275,277,278,279,281,282,284,285,286,288,289,291,292,293,295,296,298,299,300,302,303,305,306,307,310,311,312,314,315,317,318,319,321,322,324,325,326,328,329,331,332,333,335,336,338,339,340,342,343,345,346,347,349,350,352,353,354,356,357,359,360,361,363,364,366,367,368,370,371,373,374,375,377,378,380,381,382,384,385,387,388,389,391,392,394,395,396,398,399,401,402,403,405,406,408,409,410,412,413,415,416,417,418,419,420,421,424,426,427,429,430,431,433,434,436,437,438,445,447,448,450,451,452,454,455,457,458,459,461,462,464,465,466,468,469,471,472,473,475,476,478,479,480,482,483,485,486,487,489,490,492,493,494,495,496,499,501,502,504,505,506,508,509,511,512,513,515,516,518,519,520,522,523,525,526,527,529,530,532,533,534,536,537,539,540,541,543,544,546,547,548,550,551,553,554,555,558,559,560,562,563,565,566,567,570,571,572,575,576,577,580,581]
theorem asK_eq:∀P,asK=(K P).map (·.1):=fun _=>by kernel_rfl
abbrev hK:Hook:=kHook K asK asK_eq
theorem pre_(w:World):(fun os=>topGo treeTable pw w 11 (some (.ref 6)) 12 ⟨boot_heap w.params,Array.mk [],boot_drawn,boot_toks,os⟩ (topStub pw))=fun os=>some (SH (H0 pw w.params) 187 os,(⟨denote treeTable (codeF pw),codeF pw,⟨0,0,0,0⟩,BF⟩:Thread)):=by
 walk_at "qk"
theorem block_(w:World):(fun os=>segRun treeTable pw w 11 (some (.ref 6)) 1 1 (SH (H0 pw w.params) 187 os) (blockOf (behindTheImports pw) (envF pw) (codeF pw) ⟨0,0,0,0⟩ BF))=fun os=>some (.next,(ST (T0 pw w.params) 15 187 os).abs,codeF pw,⟨0,0,0,0⟩):=by
 walk_at "qk"
theorem seg1(w:World):(fun os=>segRunT treeTable pw w 11 (some (.ref 6)) 1 196 (ST (T0 pw w.params) 15 187 os) (piecesOf (stsF pw 0 2) (envF pw) (codeF pw) ⟨0,0,0,0⟩ BF))=fun os=>some (.next,ST (T1 pw w.params) 28 207 os,codeF pw,⟨2,0,3,8⟩):=by
 walk_at "qk"
theorem seg2(w:World):(fun os=>segRunT treeTable pw w 11 (some (.ref 6)) 1 214 (ST (T1 pw w.params) 28 207 os) (piecesOf (stsF pw 2 1) (envF pw) (codeF pw) ⟨2,0,3,8⟩ BF))=fun os=>some (.next,ST (T2 pw w.params) 40 223 os,codeF pw,⟨4,0,5,8⟩):=by
 walk_at "qk"
theorem seg3(w:World):(fun os=>segRunT treeTable pw w 11 (some (.ref 6)) 1 374 (ST (T2 pw w.params) 40 223 os) (piecesOf (stsF pw 3 9) (envF pw) (codeF pw) ⟨4,0,5,8⟩ BF))=fun os=>some (.next,ST (T3 pw w.params) 80 283 os,codeF pw,⟨26,0,26,4⟩):=by
 walk_at "qk"
theorem seg4(w:World):(fun os=>segRunT treeTable pw w 11 (some (.ref 6)) 1 248 (ST (T3 pw w.params) 80 283 os) (piecesOf (stsF pw 12 12) (envF pw) (codeF pw) ⟨26,0,26,4⟩ BF))=fun os=>some (.next,ST (T4 pw w.params) 121 354 os,codeF pw,⟨64,0,64,8⟩):=by
 walk_at "qk"
theorem seg5(w:World):(fun os=>segRunT treeTable pw w 11 (some (.ref 6)) 1 404 (ST (T4 pw w.params) 121 354 os) (piecesOf (stsF pw 24 1) (envF pw) (codeF pw) ⟨64,0,64,8⟩ BF))=fun os=>some (.next,ST (T5 pw w.params) 165 417 os,codeF pw,⟨65,0,65,6⟩):=by
 refine byRow2 "special-get-raises" (P:=fun w=>(fun os=>segRunT treeTable pw w 11 (some (.ref 6)) 1 404 (ST (T4 pw w.params) 121 354 os) (piecesOf (stsF pw 24 1) (envF pw) (codeF pw) ⟨64,0,64,8⟩ BF))=fun os=>some (.next,ST (T5 pw w.params) 165 417 os,codeF pw,⟨65,0,65,6⟩)) (fun w=>?_) (fun w=>?_) w <;> (show _=_; walk_at "qk")
theorem seg6(w:World):(fun os=>segRunT treeTable pw w 11 (some (.ref 6)) 1 305 (ST (T5 pw w.params) 165 417 os) (piecesOf (stsF pw 25 7) (envF pw) (codeF pw) ⟨65,0,65,6⟩ BF))=fun os=>some (.next,ST (T6 pw w.params) 194 490 os,codeF pw,⟨96,0,96,11⟩):=by
 refine byRow2 "special-get-raises" (P:=fun w=>(fun os=>segRunT treeTable pw w 11 (some (.ref 6)) 1 305 (ST (T5 pw w.params) 165 417 os) (piecesOf (stsF pw 25 7) (envF pw) (codeF pw) ⟨65,0,65,6⟩ BF))=fun os=>some (.next,ST (T6 pw w.params) 194 490 os,codeF pw,⟨96,0,96,11⟩)) (fun w=>?_) (fun w=>?_) w <;> (show _=_; walk_at "qk")
theorem seg7(w:World):(fun os=>segRunT treeTable pw w 11 (some (.ref 6)) 1 394 (ST (T6 pw w.params) 194 490 os) (piecesOf (stsF pw 32 8) (envF pw) (codeF pw) ⟨96,0,96,11⟩ BF))=fun os=>some (.next,ST (T7 pw w.params) 248 568 os,codeF pw,⟨122,0,122,8⟩):=by
 walk_at "qk"
theorem seg8(w:World):(fun os=>segRunT treeTable pw w 11 (some (.ref 6)) 1 19 (ST (T7 pw w.params) 248 568 os) (piecesOf (stsF pw 40 2) (envF pw) (codeF pw) ⟨122,0,122,8⟩ BF))=fun os=>some (.next,ST (T8 pw w.params) 248 572 os,codeF pw,⟨124,0,124,8⟩):=by
 walk_at "qk"
theorem seg9(w:World):(fun os=>segRunT treeTable pw w 11 (some (.ref 6)) 1 975 (ST (T8 pw w.params) 248 572 os) (piecesOf (stsF pw 42 1) (envF pw) (codeF pw) ⟨124,0,124,8⟩ BF))=fun os=>some (.next,ST (T9 pw w.params) 424 807 os,codeF pw,⟨125,0,297,19⟩):=by
 walk_at "qk"
theorem seg10(w:World):(fun os=>segRunT treeTable pw w 11 (some (.ref 6)) 1 82 (ST (T9 pw w.params) 424 807 os) (piecesOf (stsF pw 43 4) (envF pw) (codeF pw) ⟨125,0,297,19⟩ BF))=fun os=>some (.next,ST (T10 pw w.params) 438 830 os,codeF pw,⟨311,0,311,8⟩):=by
 walk_at "qk"
theorem seg11(w:World):(fun os=>segRunT treeTable pw w 11 (some (.ref 6)) 1 444 (ST (T10 pw w.params) 438 830 os) (piecesOf (stsF pw 47 1) (envF pw) (codeF pw) ⟨311,0,311,8⟩ BF))=fun os=>some (.next,ST (T11 pw w.params) 499 909 os,codeF pw,⟨312,0,342,19⟩):=by
 walk_at "qk"
theorem seg12(w:World):(fun os=>segRunT treeTable pw w 11 (some (.ref 6)) 1 376 (ST (T11 pw w.params) 499 909 os) (piecesOf (stsF pw 48 13) (envF pw) (codeF pw) ⟨312,0,342,19⟩ BF))=fun os=>some (.next,ST (T12 pw w.params) 577 1019 os,codeF pw,⟨449,0,468,43⟩):=by
 walk_at "qk"
theorem seg13(w:World):(fun os=>segRunT treeTable pw w 11 (some (.ref 6)) 1 27 (ST (T12 pw w.params) 577 1019 os) (piecesOf (stsF pw 61 1) (envF pw) (codeF pw) ⟨449,0,468,43⟩ BF))=fun os=>some (.next,ST (T13 pw w.params) 582 1025 os,codeF pw,⟨469,0,495,95⟩):=by
 walk_at "qk"
theorem fin_(w:World):(fun os=>topRun treeTable pw w 11 (some (.ref 6)) 2 (ST (T13 pw w.params) 582 1025 os).abs ⟨doneF .next,codeF pw,⟨469,0,495,95⟩,BF⟩)=fun os=>some (SH (HF pw w.params) 1025 os):=by
 walk_at "qk"
theorem body_:behindTheImports pw=stsF pw 0 2++(stsF pw 2 1++(stsF pw 3 9++(stsF pw 12 12++(stsF pw 24 1++(stsF pw 25 7++(stsF pw 32 8++(stsF pw 40 2++(stsF pw 42 1++(stsF pw 43 4++(stsF pw 47 1++(stsF pw 48 13++(stsF pw 61 1++([]))))))))))))):=by
 kernel_rfl
theorem run_(w:World)(os:OsState):topRun treeTable pw w 11 (some (.ref 6)) (12 + (1 + (196 + (214 + (374 + (248 + (404 + (305 + (394 + (19 + (975 + (82 + (444 + (376 + (27 + 2))))))))))))))) ⟨boot_heap w.params,Array.mk [],boot_drawn,boot_toks,os⟩ (topStub pw)=some (SH (HF pw w.params) 1025 os):=by
 have k:topRun treeTable pw w 11 (some (.ref 6)) (196 + (214 + (374 + (248 + (404 + (305 + (394 + (19 + (975 + (82 + (444 + (376 + (27 + 2))))))))))))) (ST (T0 pw w.params) 15 187 os).abs (restOf (stsF pw 0 2++(stsF pw 2 1++(stsF pw 3 9++(stsF pw 12 12++(stsF pw 24 1++(stsF pw 25 7++(stsF pw 32 8++(stsF pw 40 2++(stsF pw 42 1++(stsF pw 43 4++(stsF pw 47 1++(stsF pw 48 13++(stsF pw 61 1++([])))))))))))))) (envF pw) (codeF pw) ⟨0,0,0,0⟩ BF)=some (SH (HF pw w.params) 1025 os):=piece_app (segRun_of (congrFun (seg1 w) os)) (piece_app (segRun_of (congrFun (seg2 w) os)) (piece_app (segRun_of (congrFun (seg3 w) os)) (piece_app (segRun_of (congrFun (seg4 w) os)) (piece_app (segRun_of (congrFun (seg5 w) os)) (piece_app (segRun_of (congrFun (seg6 w) os)) (piece_app (segRun_of (congrFun (seg7 w) os)) (piece_app (segRun_of (congrFun (seg8 w) os)) (piece_app (segRun_of (congrFun (seg9 w) os)) (piece_app (segRun_of (congrFun (seg10 w) os)) (piece_app (segRun_of (congrFun (seg11 w) os)) (piece_app (segRun_of (congrFun (seg12 w) os)) (piece_app (segRun_of (congrFun (seg13 w) os)) (congrFun (fin_ w) os)))))))))))))
 rw [← body_] at k
 exact go_top (congrFun (pre_ w) os) (piece_block (congrFun (block_ w) os) k)
theorem l0(w:World):(fun os=>staticsOk (importedModules pw.main.body) (boot_heap w.params) (HF pw w.params)&&namesBound pw (HF pw w.params)&&gensDone (SH (HF pw w.params) 1025 os)&&laidKept (boot_heap w.params) (HF pw w.params))=fun _=>true:=by
 walk_at "qk"
theorem l1(w:World):(fun os=>PyProof.Rows.seen ((PyProof.Rows.recsOf (viewF pw)).map (·.name)) (PyProof.Rows.ownsOf (viewF pw)) [] {(SH (HF pw w.params) 1025 os) with gens:=#[]})=fun _=>PyProof.Rows.expectedOf (viewF pw):=by
 walk_at "qk"
theorem l2(w:World):(fun os=>(SH (HF pw w.params) 1025 os).heap.bltView)=fun _=>bltViewBooted:=by
 walk_at "qk"
theorem l3(w:World):(fun os=>(SH (HF pw w.params) 1025 os).heap.keysOk (looseW (viewF pw) ["ALWAYS","LEFT"]) ((PyProof.Rows.recsOf (viewF pw)).map (·.name)) ((PyProof.Rows.litsOf (viewF pw)).map (·.1)) ((PyProof.Rows.clssOf (viewF pw) (looseW (viewF pw) ["ALWAYS","LEFT"])).map (·.name))&&(SH (HF pw w.params) 1025 os).heap.accountedOkI (importedModules pw.main.body)&&(SH (HF pw w.params) 1025 os).heap.isNs mainGlobals&&(SH (HF pw w.params) 1025 os).heap.isNs builtinsNs&&PyProof.Rows.tablesOk (viewF pw) (SH (HF pw w.params) 1025 os).heap&&(fun s=>xlAt (viewF pw) [] s&&recOk (RowW.records (OpenRow.toRowW PySem.Challenge.rw_stackwarden_k33_straight_code.row)) s) (SH (HF pw w.params) 1025 os)&&(if true then (SH (HF pw w.params) 1025 os).gens.size == 0 else !leftWithCleanup (SH (HF pw w.params) 1025 os).gens))=fun _=>true:=by
 walk_at "qk"
theorem l4(w:World):(fun os=>PyProof.Rows.tabsOk (viewF pw) (SH (HF pw w.params) 1025 os))=fun _=>true:=by
 walk_at "qk"
theorem l5(w:World):(fun os=>pinSeenD (viewF pw) (PyProof.Rows.drecsOf (viewF pw)) (SH (HF pw w.params) 1025 os))=fun _=>pinGoodD (PyProof.Rows.drecsOf (viewF pw)):=by
 walk_at "qk"
theorem l6(w:World):(fun os=>PyProof.Rows.plainSeenE (viewF pw) (looseW (viewF pw) ["ALWAYS","LEFT"]) (SH (HF pw w.params) 1025 os))=fun _=>PyProof.Rows.plainGoodE (viewF pw) (looseW (viewF pw) ["ALWAYS","LEFT"]):=by
 walk_at "qk"
theorem l7(w:World):(fun os=>PyProof.Rows.plainSeenD (viewF pw) ["ALWAYS","LEFT"] (SH (HF pw w.params) 1025 os))=fun _=>PyProof.Rows.plainGoodD (viewF pw) ["ALWAYS","LEFT"]:=by
 walk_at "qk"
theorem l8(w:World):(fun os=>wideSeen (viewF pw) (SH (HF pw w.params) 1025 os))=fun _=>wideGood (viewF pw):=by
 walk_at "qk"
theorem l9(w:World):(fun os=>clsSeenW (viewF pw) ["ALWAYS","LEFT"] (SH (HF pw w.params) 1025 os))=fun _=>clsGoodW (viewF pw) ["ALWAYS","LEFT"]:=by
 walk_at "qk"
theorem lY(w:World):(fun os=>hK.obs (SH (HF pw w.params) 1025 os))=fun _=>hK.val w:=by
 show (fun os=>asK.map (SH (HF pw w.params) 1025 os).heap.get?)=fun _=>(K w.params).map fun p=>some p.2
 unfold K
 walk_at "qk"
theorem hl:LeftO pw (viewF pw) ["ALWAYS","LEFT"] (fun s=>xlAt (viewF pw) [] s&&recOk (RowW.records (OpenRow.toRowW PySem.Challenge.rw_stackwarden_k33_straight_code.row)) s) hK.obs hK.val 8216:=by
 refine LeftO.of_pieces (m₀:=11) (ann:=(some (.ref 6))) (M:=(12 + (1 + (196 + (214 + (374 + (248 + (404 + (305 + (394 + (19 + (975 + (82 + (444 + (376 + (27 + 2)))))))))))))))) (boot_open (by kernel_rfl) (by decide) (fun s=>by kernel_rfl)) (fun w=>?_) run_ (by decide) (fun w=>?_)
 ·walk_at "qk"
 ·funext os
  exact looks_pair (congrFun (l0 w) os) (looks_pair (looks_pair (congrFun (l1 w) os) (looks_pair (congrFun (l2 w) os) (looks_pair (congrFun (l3 w) os) (looks_pair (congrFun (l4 w) os) (looks_pair (congrFun (l5 w) os) (looks_pair (congrFun (l6 w) os) (looks_pair (congrFun (l7 w) os) (looks_pair (congrFun (l8 w) os) (congrFun (l9 w) os))))))))) (congrFun (lY w) os))
end MH
end
open PySem PySem.W PyProof.Rows
local macro_rules | `(tactic| walk_at "dk") => `(tactic| (refine' ⟨_, _, ?w, L2.fun_mk ?x ?y ?z⟩; (case w => k_is); (case x => k_is); (case y => k_is); (case z => k_is)))
local macro_rules | `(tactic| walk_at "mk") => `(tactic| (refine' ⟨⟨_, L2.fun_mk ?x ?y ?z⟩, ?w⟩; (case x => k_is); (case y => k_is); (case z => k_is); (case w => k_is)))
set_option maxRecDepth 100000 in
set_option maxHeartbeats 0 in
theorem PySem.Challenge.cw_stackwarden_k33_straight_code_holds : PySem.Challenge.rw_stackwarden_k33_straight_code.Holds := by
  w_on; o_law
  refine PySem.W.holds_open (q := (MH.viewF PySem.Challenge.pw_stackwarden_k33_straight_code)) (loose := ["ALWAYS", "LEFT"]) (Xt := (fun s => xlAt (MH.viewF PySem.Challenge.pw_stackwarden_k33_straight_code) [] s && recOk (RowW.records (OpenRow.toRowW PySem.Challenge.rw_stackwarden_k33_straight_code.row)) s)) (XP := XL (MH.viewF PySem.Challenge.pw_stackwarden_k33_straight_code) []) (Yf := Hook.obs (kHook MH.K MH.asK MH.asK_eq)) (Ya := Hook.val (kHook MH.K MH.asK MH.asK_eq)) (YP := Hook.says (kHook MH.K MH.asK MH.asK_eq)) (N := 8216) MH.hl (Hook.of (kHook MH.K MH.asK MH.asK_eq)) (Hook.keeps (kHook MH.K MH.asK MH.asK_eq)) (fun s e => xl_of s (Bool.and_eq_true_iff.mp e).1) XL.keeps (by rfl) (by rfl) (by rfl) (fun s e => recFacts_of (Bool.and_eq_true_iff.mp e).2) (by rfl) (by first | assumption | decide +kernel) (by decide +kernel) ⟨rfl, rfl, rfl, rfl, rfl, by decide +kernel⟩ ?hw ?hc
  case hw => w_witness2
  k_fill
  refine Mine.walk (l := PySem.Challenge.rw_stackwarden_k33_straight_code) rfl rfl (fun w h Y => PySem.W.kIn_of Y) ?F
  case F =>
    intro w mg fa h KX G hmg
    refine' Mine.all_mk KX G hmg ?gp_Frame ?pg_Frame ?hd_Frame ?po_Frame ?sa_Frame ?mk_Frame ?kc_Frame ?na_part_Frame ?na_at_Frame ?na_boxes_Frame ?na_stack_Frame ?fm_Frame___init__ ?gp_Plain ?pg_Plain ?hd_Plain ?po_Plain ?sa_Plain ?mk_Plain ?kc_Plain ?na_book_Plain ?na_live_Plain ?na_records_Plain ?na_said_Plain ?na_left_Plain ?na_end_Plain ?fm_Plain_frames ?fm_Plain_heap ?fm_Plain_bare ?fm_Plain_do_give ?fm_Plain_tagged ?fm_Plain_do_reckoning ?fm_Plain_do_straight ?fm_Plain_fault ?fm_Plain_do_row ?fm_Plain_looked ?fm_Plain_step ?fm_Plain_told ?fm_Plain_nothing ?fm_Plain_add_frame ?fm_Plain___init__ ?gp_Watched ?pg_Watched ?hd_Watched ?po_Watched ?sa_Watched ?mk_Watched ?kc_Watched ?na_book_Watched ?na_live_Watched ?na_records_Watched ?na_said_Watched ?na_left_Watched ?na_end_Watched ?fm_Watched_frames ?fm_Watched_heap ?fm_Watched_bare ?fm_Watched_do_give ?fm_Watched_tagged ?fm_Watched_do_reckoning ?fm_Watched_do_straight ?fm_Watched_fault ?fm_Watched_do_row ?fm_Watched_looked ?fm_Watched_step ?fm_Watched_told ?fm_Watched_nothing ?fm_Watched_add_frame ?fm_Watched___init__ ?d0 ?d1 ?d2 ?d3 ?d4 ?d5 ?d6 ?d7 ?d8 ?d9 ?d10 ?d11 ?l12 ?l13 ?l14 ?l15 ?l16 ?d17 ?d18 ?d19 ?d20 ?l21 ?l22 ?l23 ?l24 ?d25 ?d26 ?l27 ?l28 ?l29 ?d30 ?d31 ?d32 ?d33 ?d34 ?d35 ?d36 ?d37 ?d38 ?l39 ?l40 ?l41 ?d42 ?d43 ?d44 ?d45 ?l46 ?d47 ?l48 ?l49 ?l50 ?l51 ?a52 ?l52 ?c52 ?k52 ?g_HALF ?g_TURN ?i_WP ?iw_cl ?iw_sp ?iw_tk ?iw_mo ?g_ALWAYS ?n_ALWAYS_129 ?q_ALWAYS_128 ?q_ALWAYS_127 ?q_ALWAYS_125 ?q_ALWAYS_121 ?q_ALWAYS_119 ?q_ALWAYS_115 ?q_ALWAYS_112 ?q_ALWAYS_110 ?q_ALWAYS_105 ?q_ALWAYS_103 ?q_ALWAYS_99 ?q_ALWAYS_96 ?q_ALWAYS_94 ?q_ALWAYS_91 ?q_ALWAYS_87 ?q_ALWAYS_85 ?q_ALWAYS_82 ?q_ALWAYS_78 ?q_ALWAYS_76 ?q_ALWAYS_73 ?q_ALWAYS_69 ?q_ALWAYS_67 ?q_ALWAYS_64 ?q_ALWAYS_60 ?q_ALWAYS_58 ?q_ALWAYS_55 ?q_ALWAYS_51 ?q_ALWAYS_49 ?q_ALWAYS_46 ?q_ALWAYS_42 ?q_ALWAYS_40 ?q_ALWAYS_37 ?q_ALWAYS_33 ?q_ALWAYS_31 ?q_ALWAYS_27 ?q_ALWAYS_25 ?q_ALWAYS_22 ?q_ALWAYS_18 ?q_ALWAYS_16 ?q_ALWAYS_12 ?q_ALWAYS_10 ?q_ALWAYS_6 ?q_ALWAYS_3 ?g_GOING ?q_GOING_5 ?g_LEFT ?n_LEFT_22 ?q_LEFT_21 ?g_OF_RECORDS ?q_OF_RECORDS_7 ?g_RECKONING ?q_RECKONING_9 ?z_all ?z_bool ?z_enumerate ?z_int ?z_isinstance ?z_len ?z_list ?z_max ?z_min ?z_range ?z_tuple ?z_zip
    (case gp_Frame => k_is)
    (case pg_Frame => k_is)
    (case hd_Frame => k_is)
    (case po_Frame => k_is)
    (case sa_Frame => k_is)
    (case mk_Frame => k_is)
    (case kc_Frame => k_is)
    (case na_part_Frame => k_is)
    (case na_at_Frame => k_is)
    (case na_boxes_Frame => k_is)
    (case na_stack_Frame => k_is)
    (case fm_Frame___init__ => k_is)
    (case gp_Plain => k_is)
    (case pg_Plain => k_is)
    (case hd_Plain => k_is)
    (case po_Plain => k_is)
    (case sa_Plain => k_is)
    (case mk_Plain => k_is)
    (case kc_Plain => k_is)
    (case na_book_Plain => k_is)
    (case na_live_Plain => k_is)
    (case na_records_Plain => k_is)
    (case na_said_Plain => k_is)
    (case na_left_Plain => k_is)
    (case na_end_Plain => k_is)
    (case fm_Plain_frames => k_is)
    (case fm_Plain_heap => k_is)
    (case fm_Plain_bare => k_is)
    (case fm_Plain_do_give => k_is)
    (case fm_Plain_tagged => k_is)
    (case fm_Plain_do_reckoning => k_is)
    (case fm_Plain_do_straight => k_is)
    (case fm_Plain_fault => k_is)
    (case fm_Plain_do_row => k_is)
    (case fm_Plain_looked => k_is)
    (case fm_Plain_step => k_is)
    (case fm_Plain_told => k_is)
    (case fm_Plain_nothing => k_is)
    (case fm_Plain_add_frame => k_is)
    (case fm_Plain___init__ => k_is)
    (case gp_Watched => k_is)
    (case pg_Watched => k_is)
    (case hd_Watched => k_is)
    (case po_Watched => k_is)
    (case sa_Watched => k_is)
    (case mk_Watched => k_is)
    (case kc_Watched => k_is)
    (case na_book_Watched => k_is)
    (case na_live_Watched => k_is)
    (case na_records_Watched => k_is)
    (case na_said_Watched => k_is)
    (case na_left_Watched => k_is)
    (case na_end_Watched => k_is)
    (case fm_Watched_frames => k_is)
    (case fm_Watched_heap => k_is)
    (case fm_Watched_bare => k_is)
    (case fm_Watched_do_give => k_is)
    (case fm_Watched_tagged => k_is)
    (case fm_Watched_do_reckoning => k_is)
    (case fm_Watched_do_straight => k_is)
    (case fm_Watched_fault => k_is)
    (case fm_Watched_do_row => k_is)
    (case fm_Watched_looked => k_is)
    (case fm_Watched_step => k_is)
    (case fm_Watched_told => k_is)
    (case fm_Watched_nothing => k_is)
    (case fm_Watched_add_frame => k_is)
    (case fm_Watched___init__ => k_is)
    (case d0 => walk_at "dk")
    (case d1 => walk_at "dk")
    (case d2 => walk_at "dk")
    (case d3 => walk_at "dk")
    (case d4 => walk_at "dk")
    (case d5 => walk_at "dk")
    (case d6 => walk_at "dk")
    (case d7 => walk_at "dk")
    (case d8 => walk_at "dk")
    (case d9 => walk_at "dk")
    (case d10 => walk_at "dk")
    (case d11 => walk_at "dk")
    (case l12 => walk_at "mk")
    (case l13 => walk_at "mk")
    (case l14 => walk_at "mk")
    (case l15 => walk_at "mk")
    (case l16 => walk_at "mk")
    (case d17 => walk_at "dk")
    (case d18 => walk_at "dk")
    (case d19 => walk_at "dk")
    (case d20 => walk_at "dk")
    (case l21 => walk_at "mk")
    (case l22 => walk_at "mk")
    (case l23 => walk_at "mk")
    (case l24 => walk_at "mk")
    (case d25 => walk_at "dk")
    (case d26 => walk_at "dk")
    (case l27 => walk_at "mk")
    (case l28 => walk_at "mk")
    (case l29 => walk_at "mk")
    (case d30 => walk_at "dk")
    (case d31 => walk_at "dk")
    (case d32 => walk_at "dk")
    (case d33 => walk_at "dk")
    (case d34 => walk_at "dk")
    (case d35 => walk_at "dk")
    (case d36 => walk_at "dk")
    (case d37 => walk_at "dk")
    (case d38 => walk_at "dk")
    (case l39 => walk_at "mk")
    (case l40 => walk_at "mk")
    (case l41 => walk_at "mk")
    (case d42 => walk_at "dk")
    (case d43 => walk_at "dk")
    (case d44 => walk_at "dk")
    (case d45 => walk_at "dk")
    (case l46 => walk_at "mk")
    (case d47 => walk_at "dk")
    (case l48 => walk_at "mk")
    (case l49 => walk_at "mk")
    (case l50 => walk_at "mk")
    (case l51 => walk_at "mk")
    (case a52 => k_is)
    (case l52 => k_is)
    (case c52 => k_is)
    (case k52 => k_is)
    (case g_HALF => k_is)
    (case g_TURN => k_is)
    (case i_WP => kit_is)
    (case iw_cl => k_is)
    (case iw_sp => k_is)
    (case iw_tk => k_is)
    (case iw_mo => k_is)
    (case g_ALWAYS => k_is)
    (case n_ALWAYS_129 => first | rfl | decide | k_is)
    (case q_ALWAYS_128 => k_is)
    (case q_ALWAYS_127 => k_is)
    (case q_ALWAYS_125 => k_is)
    (case q_ALWAYS_121 => k_is)
    (case q_ALWAYS_119 => k_is)
    (case q_ALWAYS_115 => k_is)
    (case q_ALWAYS_112 => k_is)
    (case q_ALWAYS_110 => k_is)
    (case q_ALWAYS_105 => k_is)
    (case q_ALWAYS_103 => k_is)
    (case q_ALWAYS_99 => k_is)
    (case q_ALWAYS_96 => k_is)
    (case q_ALWAYS_94 => k_is)
    (case q_ALWAYS_91 => k_is)
    (case q_ALWAYS_87 => k_is)
    (case q_ALWAYS_85 => k_is)
    (case q_ALWAYS_82 => k_is)
    (case q_ALWAYS_78 => k_is)
    (case q_ALWAYS_76 => k_is)
    (case q_ALWAYS_73 => k_is)
    (case q_ALWAYS_69 => k_is)
    (case q_ALWAYS_67 => k_is)
    (case q_ALWAYS_64 => k_is)
    (case q_ALWAYS_60 => k_is)
    (case q_ALWAYS_58 => k_is)
    (case q_ALWAYS_55 => k_is)
    (case q_ALWAYS_51 => k_is)
    (case q_ALWAYS_49 => k_is)
    (case q_ALWAYS_46 => k_is)
    (case q_ALWAYS_42 => k_is)
    (case q_ALWAYS_40 => k_is)
    (case q_ALWAYS_37 => k_is)
    (case q_ALWAYS_33 => k_is)
    (case q_ALWAYS_31 => k_is)
    (case q_ALWAYS_27 => k_is)
    (case q_ALWAYS_25 => k_is)
    (case q_ALWAYS_22 => k_is)
    (case q_ALWAYS_18 => k_is)
    (case q_ALWAYS_16 => k_is)
    (case q_ALWAYS_12 => k_is)
    (case q_ALWAYS_10 => k_is)
    (case q_ALWAYS_6 => k_is)
    (case q_ALWAYS_3 => k_is)
    (case g_GOING => k_is)
    (case q_GOING_5 => k_is)
    (case g_LEFT => k_is)
    (case n_LEFT_22 => first | rfl | decide | k_is)
    (case q_LEFT_21 => k_is)
    (case g_OF_RECORDS => k_is)
    (case q_OF_RECORDS_7 => k_is)
    (case g_RECKONING => k_is)
    (case q_RECKONING_9 => k_is)
    (case z_all => k_is)
    (case z_bool => k_is)
    (case z_enumerate => k_is)
    (case z_int => k_is)
    (case z_isinstance => k_is)
    (case z_len => k_is)
    (case z_list => k_is)
    (case z_max => k_is)
    (case z_min => k_is)
    (case z_range => k_is)
    (case z_tuple => k_is)
    (case z_zip => k_is)
#print axioms PySem.Challenge.cw_stackwarden_k33_straight_code_holds
