import PyProof.Rows.All
import Wide.All
import OpenK.AllK
import Wide.FinOn
import Lean
import PyProof.EqAt
import PyProof.EqKinds
import PyProof.TupleCall
import PyProof.ZipIter
import KE.KTryDeep
import KE.KIsAll
import KE.KIntText
import PyProof.ExcArgsOwn
import PySem.Challenge.RW_stackwarden_k60_doors
def M4:=@PySem.Heap.get?_push_of_some
def M5:=@PySem.Heap.lt_size
def M6:=@Nat.lt_of_lt_of_le
def M7:=@PySem.wpAny_bind
def M8:=@List.length_map
def M9:=@PySem.wpAny_pure
def Na:=@Nat.ne_of_lt
def Nb:=@Or.inl
def Nd:=@Bool.false_ne_true
def Nf:=@Nat.le_refl
def Ng:=@PySem.Heap.get?_push_size
def Nh:=@List.getElem?_set_self
def Ni:=@List.getElem?_set_ne
def Nj:=@List.getElem?_append_left
def Nk:=@List.getElem?_map
def Nl:=@List.mem_of_getElem?
def Nm:=@List.getElem?_append_right
def Nn:=@PySem.W.mg_of
def Np:=@Option.some.inj
def Nq:=@PySem.W.mg_none_of
def Nr:=@Nat.le_trans
def Nt:=@List.mem_append_right
def Nu:=@if_neg
def Nv:=@if_pos
def Nw:=@Nat.ne_of_gt
def Ny:=@PySem.wpAny_mono
def Nz:=@List.mem_cons_self
def NA:=@Nat.lt_of_le_of_lt
def NB:=@PyProof.Rows.callWith_type1
def NC:=@Nat.lt_irrefl
def ND:=@List.mem_cons
def NF:=@Nat.le_add_right
def NG:=@List.mem_singleton
def NH:=@decide_eq_false
def NI:=@PySem.W.kia_one
def NJ:=@PySem.wpAny_truthy_bool
def NK:=@List.length_take
def NL:=@List.length_set
def NM:=@List.map_append
def NN:=@List.size_toArray
def NO:=@List.mem_cons_of_mem
def NP:=@Nat.zero_le
def NQ:=@decide_eq_true
def NR:=@PySem.mem_of_lookup
def NS:=@PyProof.Rows.slot_tuple_getitem
def NT:=@Nat.lt_add_of_pos_right
def NU:=@List.mem_append
def NV:=@PySem.wpAny_Call_Name_kw
def NW:=@List.getElem?_drop
def NX:=@PySem.PassesOwn.never
def NY:=@PySem.wpAny_newObj_type
def NZ:=@PySem.wpAny_loadPart_at
def N0:=@List.length_cons
def N1:=@Nat.succ_ne_zero
def N2:=@Nat.add_lt_add_left
def N3:=@PySem.wpAny_execs_nil
def N4:=@PySem.wpAny_passesOwn
def N5:=@List.append_nil
def N6:=@Nat.le_of_lt
def N7:=@PySem.W.callWith_K
def N8:=@PyProof.Rows.subscriptTail_builtinR
def N9:=@PySem.wpAny_nextOf_list_item
def Oa:=@List.map_cons
def Oc:=@Bool.not_eq_true
def Od:=@List.mem_flatten
def Oe:=@List.mem_iff_getElem
def Of:=@Nat.sub_self
def Og:=@Int.emod_nonneg
def Oh:=@PySem.W.plainGet_of
def Oi:=@Ne.symm
def Oj:=@congrArg
def Ol:=@List.mem_filterMap
def Om:=@Or.inr
def Oo:=@Int.emod_lt_of_pos
def Oq:=@PySem.Calls.Name_function_global
def Ot:=@PySem.wpAny_holding
def Ou:=@PySem.wpAny_pyIter_list
def Ov:=@Bool.eq_false_iff
def Ow:=@of_decide_eq_true
def Ox:=@List.take_add_one
def Oy:=@True.intro
def Oz:=@List.mem_or_eq_of_mem_set
def OA:=@PySem.wpAny_execs_cons
def OB:=@PySem.codeAny_mono
def OC:=@List.getElem?_take_of_lt
def OD:=@PySem.F.args_tuple_add_2
def OE:=@List.length_drop
def OG:=@PySem.wpAny_call_entry
def OH:=@List.lookup_cons
def OI:=@List.all_eq_true
def OJ:=@PySem.wpAny_comprehension_free
def OK:=@Nat.succ.inj
def OL:=@List.take_length
def OM:=@PySem.F.entry_tuple_add
def ON:=@PyProof.Rows.intBits_le
def OO:=@PySem.W.cellsFrom_some
def OP:=@PySem.F.slot_tuple_add
def OQ:=@PySem.Heap.get?_update_other
def OR:=@List.flatten_singleton
def OS:=@PySem.Heap.size_push
def OT:=@PySem.F.typeOf_object_class
def OU:=@PySem.builtinLookup_eq_fast
def OV:=@PySem.concat_meets
def OW:=@List.length_append
def OY:=@List.map_map
def OZ:=@Int.toNat_natCast
def O3:=@Bool.and_eq_true
def O6:=@beq_iff_eq
def O7:=@Bool.eq_iff_iff
def O9:=@List.length_zip
abbrev aC:=PySem.W.Frag
theorem Ks:0<=PySem.sizeLine:=by decide
theorem IT:1<=PySem.sizeLine:=by decide
theorem Kt:2<=PySem.sizeLine:=by decide
theorem Ku:3<=PySem.sizeLine:=by decide
theorem lL{α:Type}{a b:α}(h:a∈[b]):a=b:=NG.mp h
theorem cV{α:Type}{l:List α}{i:Nat}{a:α}(h:l[i]?=some a):∃h:i < l.length,l[i]=a:=List.getElem?_eq_some_iff.mp h
theorem gR{α:Type}{l:List α}{i:Nat}(h:i < l.length):l[i]?=some l[i]:=List.getElem?_eq_getElem h
set_option Elab.async false
set_option compiler.extract_closed false
set_option linter.all false
set_option maxRecDepth 100000
namespace L2
open PySem PySem.Spec PyProof.Rows
abbrev Key:=Sum Int Str
def qp:Key->Value->Bool
 | .inl k,v=>Value.isInt k v
 | .inr x,v=>Value.isStrOf x v
def Gz(w:World):Key->Int
 | .inl k=>hashInt k
 | .inr x=>hashStr w x
theorem ba:∀{k:Key} {v:Value},qp k v=true->(∃i t,k=Sum.inl i/\v=Value.int i t)∨(∃x t,k=Sum.inr x/\v=Value.str x t)
 | .inl i,v,h=>by
  obtain⟨t,e⟩:=Value.isInt_shape (k:=i) (v:=v) h;exact .inl ⟨i,t,rfl,e⟩
 | .inr x,v,h=>by
  obtain⟨t,e⟩:=Value.isStrOf_shape (x:=x) (v:=v) h;exact .inr ⟨x,t,rfl,e⟩
theorem rL(x:Str)(t:Tok):qp (.inr x) (.str x t)=true:=by simp[qp,Value.isStrOf]
theorem Bf(a b:Int):decide ((Sum.inl a:Key)=Sum.inl b)=(a == b):=by
 by_cases e:a=b
 ·subst e;simp
 ·have h:¬ (Sum.inl a:Key)=Sum.inl b:=λq=>e (Sum.inl.inj q)
  rw[NH h];exact(beq_eq_false_iff_ne.mpr e).symm
theorem Bg(a b:Str):decide ((Sum.inr a:Key)=Sum.inr b)=decide (a=b):=by
 by_cases e:a=b
 ·subst e;simp
 ·have h:¬ (Sum.inr a:Key)=Sum.inr b:=λq=>e (Sum.inr.inj q)
  rw[NH h,NH e]
theorem Bh(a:Int)(b:Str):decide ((Sum.inl a:Key)=Sum.inr b)=false:=NH (λq=>nomatch q)
theorem Bi(a:Str)(b:Int):decide ((Sum.inr a:Key)=Sum.inl b)=false:=NH (λq=>nomatch q)
def gX(prog:Program)(w:World):PySem.KeyKind prog w Key where
 is:=qp
 hash:=Gz w
 inj:=λv a b ha hb=>by
  rcases ba ha with⟨i,t,rfl,rfl⟩ | ⟨x,t,rfl,rfl⟩
  ·rcases ba hb with⟨j,u,rfl,e⟩ | ⟨y,u,rfl,e⟩
   ·injection e with e1 _;rw[e1]
   ·exact nomatch e
  ·rcases ba hb with⟨j,u,rfl,e⟩ | ⟨y,u,rfl,e⟩
   ·exact nomatch e
   ·injection e with e1 _;rw[e1]
 byValue:=λk v h=>by
  rcases ba h with⟨i,t,rfl,rfl⟩ | ⟨x,t,rfl,rfl⟩<;>rfl
 pyHash:=λhv h=>by
  rcases ba hv with⟨i,t,rfl,rfl⟩ | ⟨x,t,rfl,rfl⟩
  ·exact wpAny_pyHash_int h
  ·exact wpAny_pyHash_str h
 eqBool:=λhu hv h=>by
  rcases ba hu with⟨i,t,rfl,rfl⟩ | ⟨x,t,rfl,rfl⟩
  ·rcases ba hv with⟨j,u,rfl,rfl⟩ | ⟨y,u,rfl,rfl⟩
   ·rw[Bf]at h;exact wpAny_eqBool_int h
   ·rw[Bh]at h;exact SeqAt.EqAt.int_str i t y u _ _ _ _ h
  ·rcases ba hv with⟨j,u,rfl,rfl⟩ | ⟨y,u,rfl,rfl⟩
   ·rw[Bi]at h;exact SeqAt.EqAt.str_int x t j u _ _ _ _ h
   ·rw[Bg]at h;exact wpAny_eqBool_str h
 «strs»:=λk x t v h=>by
  rcases ba h with⟨i,u,rfl,e⟩ | ⟨y,u,rfl,e⟩
  ·exact nomatch e
  ·injection e with e1 _
   subst e1;cases v<;>rfl
theorem i5(prog:Program)(w:World)(x:Str)(t:Tok):(gX prog w).is (.inr x) (.str x t)=true:=rL x t
inductive V where
 | non | bl (b:Bool) | int (i:Int) | str (x:Str) | byt (b:Array UInt8) | flt (b:UInt64) | ref (a:Addr) | ty (n:String)
 deriving DecidableEq
def RelV:V->Value->Prop
 | .non,u=>u=Value.none
 | .bl b,u=>u=Value.bool b
 | .int i,u=>∃t,u=Value.int i t
 | .str x,u=>∃t,u=Value.str x t
 | .byt b,u=>∃t,u=Value.bytes b t
 | .flt b,u=>∃t,u=Value.float b t
 | .ref a,u=>u=Value.ref a
 | .ty n,u=>u=Value.type n
abbrev Vals:List V->List Value->Prop:=Paired RelV
theorem Vals.length{xs:List V}{us:List Value}(r:Vals xs us):xs.length=us.length:=Paired.length r
theorem Vals.get:∀{xs:List V} {us:List Value} {i:Nat} {x:V},Vals xs us->xs[i]?=some x->∃u,us[i]?=some u/\RelV x u
 | _,_,_,_,.nil,e=>by simp at e
 | _,_,0,_,.cons r _,e=>by simp at e;subst e;exact⟨_,rfl,r⟩
 | _,_,i + 1,x,.cons _ t,e=>by
  obtain⟨u,h1,h2⟩:=Vals.get (i:=i) (x:=x) t (by simpa using e);exact⟨u,by simpa using h1,h2⟩
theorem Vals.append:∀{xs ys:List V} {us ws:List Value},Vals xs us->Vals ys ws->Vals (xs++ys) (us++ws)
 | _,_,_,_,.nil,s=>s
 | _,_,_,_,.cons r t,s=>.cons r (Vals.append t s)
theorem Vals.take:∀{xs:List V} {us:List Value} (n:Nat),Vals xs us->Vals (xs.take n) (us.take n)
 | _,_,0,_=>.nil
 | _,_,_ + 1,.nil=>.nil
 | _,_,n + 1,.cons r t=>.cons r (Vals.take n t)
theorem Vals.drop:∀{xs:List V} {us:List Value} (n:Nat),Vals xs us->Vals (xs.drop n) (us.drop n)
 | _,_,0,r=>r
 | _,_,_ + 1,.nil=>.nil
 | _,_,n + 1,.cons _ t=>Vals.drop n t
def jw:Option V->Option Value->Prop
 | some v,some u=>RelV v u
 | none,none=>True
 | _,_=>False
def KV{κ:Type}:List (κ×V)->List (κ×Value)->Prop:=Paired λ(p:κ×V) (q:κ×Value)=>p.1=q.1/\RelV p.2 q.2
def kV:Key->V
 | .inl i=>.int i
 | .inr x=>.str x
inductive HO where
 | lst (xs:List V)
 | tup (xs:List V)
 | dK (kvs:List (Key×V)) | dT (kvs:List (List Key×V))
 | set (S:Int->Bool) (n:Nat)
 | ins (C dx:Addr) (fs:List (Str×V))
 | own (x:Addr)
 | xd (fs:List (Str×V))
 | met (f x:Addr)
 | rng (lo hi:Int)
 | gS (o:Obj) (u:HO)
 | tbl (ps:Array Value)
 | ext (φ:Heap->Prop)
abbrev Hp:=Addr->Option HO
def upd(H:Hp)(a:Addr)(o:HO):Hp:=λb=>if b=a then some o else H b
theorem uS{H:Hp}{a:Addr}{o:HO}:upd H a o a=some o:=by unfold upd;rw[if_pos rfl]
theorem uN{H:Hp}{a b:Addr}{o:HO}(h:b≠a):upd H a o b=H b:=by unfold upd;rw[if_neg h]
theorem nN{H:Hp}{a b:Addr}{o:HO}(h:H a=some o)(h':H b=none):a≠b:=by
 intro e;subst e;rw[h]at h';cases h'
section
variable (P:Program) (w:World)
def cM(H:Hp)(h:Heap)(a:Addr):HO->Prop
 | .lst xs=>xs.length<=sizeLine/\∃(its:List Value) (n:Nat),Vals xs its/\h.get? a=some {cls:=.type "list",data:=.seq its.toArray n}
 | .tup xs=>xs.length<=sizeLine/\∃its:List Value,Vals xs its/\IsTup h a its.toArray
 | .dK kvs=>kvs.length<=sizeLine/\(a == sysModules)=false/\∃vs,KV kvs vs/\h.DictOf (gX P w) a vs
 | .dT kvs=>kvs.length<=sizeLine/\(a == sysModules)=false/\∃xs:List (List Key×Addr×Value),
   Paired (λ(p:List Key×V) (q:List Key×Addr×Value)=>p.1=q.1/\H q.2.1=some (.tup (p.1.map kV))/\RelV p.2 q.2.2) kvs xs /\
   ∃o es ep,h.get? a=some o/\o.ExactDict/\o.data=.dict es ep/\es.toList=xs.map (entryOfKey (tupleKind (gX P w)))/\(xs.map (·.1)).Nodup
 | .set S n=>h.SetOf (intKind P w) a S n
 | .ins C dx fs=>H dx=some (.own a)/\fs.length<=1000/\dx≠a/\h.get? a=some (PySem.W.instObj C dx) /\
   ∃mA,h.Ns1 dx mA/\(∀f,jw (fs.lookup f) (mA f))/\PySem.Within mA (fs.map (·.1))
 | .own _=>∃o,h.get? a=some o
 | .xd fs=>∃mA,h.Ns1 a mA/\∀f,jw (fs.lookup f) (mA f)
 | .rng lo hi=>∃t u v,h.get? a=some {cls:=.type "range",data:=.fields #[.int lo t,.int hi u,.int 1 v]}
 | .gS o u=>h.get? a=some o/\cM H h a u
 | .tbl ps=>h.get? a=some {cls:=.none,data:=.fields ps}
 | .met f x=>h.get? a=some (PySem.W.methodObj (.ref f) (.ref x))
 | .ext φ=>φ h/\(∃o,h.get? a=some o)/\∀h1 h2:Heap,φ h1->(∀o,h1.get? a=some o->h2.get? a=some o)->φ h2
def i6(H:Hp)(h:Heap):Prop:=∀a o,H a=some o->cM P w H h a o
end
section
variable {P:Program} {w:World} {H H':Hp} {h h':Heap} {a:Addr} {o:HO}
theorem cM.lt(x:cM P w H h a o):a < h.objs.size:=by
 cases o with
 | lst xs=>obtain⟨_,_,_,_,e⟩:=x;exact M5 e
 | tup xs=>obtain⟨_,_,_,p⟩:=x;exact p.lt
 | dK kvs=>obtain⟨_,_,_,_,o,_,_,e,_⟩:=x;exact M5 e
 | dT kvs=>obtain⟨_,_,_,_,o,_,_,e,_⟩:=x;exact M5 e
 | set S n=>obtain⟨o,_,_,_,e,_⟩:=x;exact M5 e
 | ins C dx fs=>obtain⟨_,_,_,e,_⟩:=x;exact M5 e
 | own y=>obtain⟨_,e⟩:=x;exact M5 e
 | xd fs=>obtain⟨_,⟨_,_,_,e,_⟩,_⟩:=x;exact M5 e
 | rng lo hi=>obtain⟨_,_,_,e⟩:=x;exact M5 e
 | gS ob u=>obtain⟨e,_⟩:=x;exact M5 e
 | tbl ps=>exact M5 (show h.get? a=some _ from x)
 | met f y=>exact M5 (show h.get? a=some _ from x)
 | ext φ=>obtain⟨_,⟨_,e⟩,_⟩:=x;exact M5 e
theorem Paired.DU{α β:Type}{F G:α->β->Prop}:∀{l₁:List α} {l₂:List β},Paired F l₁ l₂->(∀a b,F a b->G a b)->Paired G l₁ l₂
 | _,_,.nil,_=>.nil
 | _,_,.cons r t,f=>.cons (f _ _ r) (Paired.DU t f)
theorem cM.kD(x:cM P w H h a o)(k:∀b u,(b=a∨H b=some (.own a))->h.get? b=some u->h'.get? b=some u)
  (ho:∀b,H b=some (.own a)->H' b=some (.own a)) (ht:∀b xs,H b=some (.tup xs)->H' b=some (.tup xs)):cM P w H' h' a o:=by
 induction o with
 | lst xs=>obtain⟨z,its,n,r,e⟩:=x;exact⟨z,its,n,r,k _ _ (.inl rfl) e⟩
 | tup xs=>obtain⟨z,its,r,ob,e,c⟩:=x;exact⟨z,its,r,ob,k _ _ (.inl rfl) e,c⟩
 | dK kvs=>obtain⟨z,y,vs,r,ob,es,ep,e,c⟩:=x;exact⟨z,y,vs,r,ob,es,ep,k _ _ (.inl rfl) e,c⟩
 | dT kvs =>
  obtain⟨z,y,xs,r,ob,es,ep,e,c⟩:=x;exact⟨z,y,xs,Paired.DU r λp q z=>⟨z.1,ht _ _ z.2.1,z.2.2⟩,ob,es,ep,k _ _ (.inl rfl) e,c⟩
 | set S n=>obtain⟨ob,es,ep,t,e,c⟩:=x;exact⟨ob,es,ep,t,k _ _ (.inl rfl) e,c⟩
 | ins C dx fs =>
  obtain⟨d,z,ne,e,mA,⟨od,es,ep,e2,c⟩,r⟩:=x;exact⟨ho _ d,z,ne,k _ _ (.inl rfl) e,mA,⟨od,es,ep,k _ _ (.inr d) e2,c⟩,r⟩
 | own y=>obtain⟨ob,e⟩:=x;exact⟨ob,k _ _ (.inl rfl) e⟩
 | xd fs=>obtain⟨mA,⟨od,es,ep,e,c⟩,r⟩:=x;exact⟨mA,⟨od,es,ep,k _ _ (.inl rfl) e,c⟩,r⟩
 | rng lo hi=>obtain⟨t,u,v,e⟩:=x;exact⟨t,u,v,k _ _ (.inl rfl) e⟩
 | gS ob u ih=>obtain⟨e,q⟩:=x;exact⟨k _ _ (.inl rfl) e,ih q⟩
 | tbl ps =>
  have e:h.get? a=some {cls:=.none,data:=.fields ps}:=x;show h'.get? a=some {cls:=.none,data:=.fields ps};exact k a _ (.inl rfl) e
 | met f y =>
  have e:h.get? a=some (PySem.W.methodObj (.ref f) (.ref y)):=x;show h'.get? a=some (PySem.W.methodObj (.ref f) (.ref y));exact k a _ (.inl rfl) e
 | ext φ=>obtain⟨p,⟨o,e⟩,st⟩:=x;exact⟨st _ _ p λo q=>k _ _ (.inl rfl) q,⟨o,k _ _ (.inl rfl) e⟩,st⟩
theorem i6.lt(x:i6 P w H h)(e:H a=some o):a < h.objs.size:=(x a o e).lt
theorem i6.fresh(x:i6 P w H h)(e:h.objs.size<=a):H a=none:=by
 cases q:H a with
 | none=>rfl
 | some u=>exact absurd (M6 (x.lt q) e) (NC _)
theorem i6.kept(x:i6 P w H h)(k:∀b u,h.get? b=some u->h'.get? b=some u):i6 P w H h':=λa o e =>
 (x a o e).kD (λb u _ q=>k b u q) (λ_ q=>q) λ_ _ q=>q
theorem i6.laid(x:i6 P w H h)(k:∀b u,h.get? b=some u->h'.get? b=some u)(hp:h.objs.size<=a)(new:cM P w (upd H a o) h' a o):i6 P w (upd H a o) h':=λb u e=>by
 have hn:=x.fresh hp;by_cases hb:b=a
 ·subst hb;rw[uS]at e;cases e;exact new
 ·rw[uN hb]at e;exact(x b u e).kD (λc v _ q=>k c v q) (λc q=>by rw[uN (nN q hn)];exact q) λc xs q=>by rw[uN (nN q hn)];exact q
end
def Rd(H:Hp)(a:Addr)(u:HO):Prop:=H a=some u∨∃o,H a=some (.gS o u)
theorem Rd.ok{P:Program}{w:World}{H:Hp}{h:Heap}{a:Addr}{u:HO}(r:Rd H a u)(x:i6 P w H h):cM P w H h a u:=by
 rcases r with r | ⟨o,r⟩
 ·exact x a u r
 ·obtain⟨_,q⟩:=x a _ r;exact q
def Ga:Option HO->Prop
 | some (.lst _)=>True
 | some (.dK _)=>True
 | some (.dT _)=>True
 | some (.set _ _)=>True
 | some (.ins _ _ _)=>True
 | some (.ext _)=>True
 | _=>False
section
variable {P:Program} {w:World} {H:Hp} {h h':Heap} {x e:Addr} {o':HO}
theorem i6.write(ok:i6 P w H h)(mu:Ga (H x))(he:e=x∨H e=some (.own x))(k:∀b u,b≠e->h.get? b=some u->h'.get? b=some u)(heo:∃u,h'.get? e=some u)
  (new:cM P w (upd H x o') h' x o'):i6 P w (upd H x o') h':=λb u q=>by
 have nown:∀c y,H c=some (.own y)->c≠x:=λc y r z=>by subst z;rw[r]at mu;exact mu
 have ntup:∀c xs,H c=some (.tup xs)->c≠x:=λc xs r z=>by subst z;rw[r]at mu;exact mu
 by_cases hb:b=x
 ·subst hb;rw[uS]at q;cases q;exact new
 ·rw[uN hb]at q;by_cases hbe:b=e
  ·have q':H b=some (.own x):=by
    rcases he with z | z
    ·exact absurd (hbe.trans z) hb
    ·rw[hbe];exact z
   rw[q]at q';cases q';obtain⟨v,hv⟩:=heo;exact⟨v,by rw[hbe];exact hv⟩
  ·refine(ok b u q).kD (λc v hc r=>k c v ?_ r) (λc r=>by rw[uN (nown c b r)];exact r) λc xs r=>by rw[uN (ntup c xs r)];exact r
   rcases hc with rfl | hc
   ·exact hbe
   ·rintro rfl;rcases he with z | z
    ·exact nown c b hc z
    ·rw[hc]at z;cases z;exact hb rfl
end
structure Un(fs ex:List Addr)(H H':Hp)(h h':Heap):Prop where
 keep:∀b o,h.get? b=some o->H b=none->b∉fs->b∉ex->h'.get? b=some o
 slot:∀b o,h.get? b=some o->H b=none->b∈fs->b∉ex->∃sl,h'.get? b=some {o with slots:=sl}
 free:∀b o,h.get? b=some o->H b=none->b∉ex->H' b=none
 there:∀b o,h.get? b=some o->b∉ex->∃o',h'.get? b=some o'
 tups:∀b xs,H b=some (.tup xs)->H' b=some (.tup xs)
 cb:∀b o u,H b=some (.gS o u)->H' b=some (.gS o u)
 tbls:∀b ps,H b=some (.tbl ps)->∃more,H' b=some (.tbl (ps++more))
section
variable {fs fs' ex ex':List Addr} {H H1 H2:Hp} {h h1 h2 h':Heap} {a x e:Addr} {o:HO}
theorem Un.any(u:Un fs ex H H1 h h1){b:Addr}{ob:Obj}(q:h.get? b=some ob)(n:H b=none)(hx:b∉ex):∃sl,h1.get? b=some {ob with slots:=sl}:=by
 by_cases hb:b∈fs
 ·exact u.slot b ob q n hb hx
 ·exact⟨ob.slots,u.keep b ob q n hb hx⟩
theorem Un.kept(k:∀b u,h.get? b=some u->h'.get? b=some u):Un fs ex H H h h' :=
 ⟨λb ob q _ _ _=>k b ob q,λb ob q _ _ _=>⟨ob.slots,k b ob q⟩,λ_ _ _ n _=>n,λb ob q _=>⟨ob,k b ob q⟩,λ_ _ q=>q,λ_ _ _ q=>q,λ_ ps q=>⟨#[],by rw[q];simp⟩⟩
theorem Un.refl:Un fs ex H H h h:=Un.kept λ_ _ q=>q
theorem Un.laid(k:∀b u,h.get? b=some u->h'.get? b=some u)(hp:h.objs.size<=a)(hn:H a=none):Un fs ex H (upd H a o) h h' where
 keep:=λb u q _ _ _=>k b u q
 slot:=λb u q _ _ _=>⟨u.slots,k b u q⟩
 free:=λb u q n _=>by rw[uN (Na (M6 (M5 q) hp))];exact n
 there:=λb u q _=>⟨u,k b u q⟩
 tups:=λb xs q=>by rw[uN (nN q hn)];exact q
 cb:=λb u xs q=>by rw[uN (nN q hn)];exact q
 tbls:=λb ps q=>⟨#[],by rw[uN (nN q hn),q];simp⟩
theorem Un.write(mu:Ga (H x))(he:e=x∨H e=some (.own x))(k:∀b u,b≠e->h.get? b=some u->h'.get? b=some u)(heo:∃u,h'.get? e=some u):Un fs ex H (upd H x o) h h':=by
 have hx:∀b,H b=none->b≠x:=λb n z=>by subst z;rw[n]at mu;exact mu
 have hb:∀b,H b=none->b≠e:=λb n z=>by
  subst z;rcases he with r | r
  ·exact hx b n r
  ·rw[n]at r;cases r
 have hm:∀b u,H b=some u->¬ Ga (some u)->b≠x:=λb u q nm z=>by subst z;rw[q]at mu;exact nm mu
 refine⟨λb u q n _ _=>k b u (hb b n) q,λb u q n _ _=>⟨u.slots,k b u (hb b n) q⟩,λb u q n _=>by rw[uN (hx b n)];exact n,λb u q _=>?_,
  λb xs q=>by rw[uN (hm b _ q λz=>z)];exact q,λb u xs q=>by rw[uN (hm b _ q λz=>z)];exact q,λb ps q=>⟨#[],by rw[uN (hm b _ q λz=>z),q];simp⟩⟩
 by_cases hbe:b=e
 ·subst hbe;exact heo
 ·exact⟨u,k b u hbe q⟩
end
def Gb(h:Heap)(H:Hp):List Addr:=(List.range h.objs.size).filter λa=>(H a).isSome
def lM(h:Heap)(H:Hp):Heap:=PySem.W.hideAll h (Gb h H)
theorem rM(h:Heap)(H:Hp):(lM h H).objs.size=h.objs.size:=PySem.W.hideAll_size _ _
theorem tX{h:Heap}{H:Hp}{b:Addr}{o:Obj}(e:h.get? b=some o)(n:H b=none):(lM h H).get? b=some o :=
 PySem.W.hideAll_get _ e λhm=>by
  have q:(H b).isSome=true:=(List.mem_filter.mp hm).2;rw[n]at q;simp at q
theorem xp{h:Heap}{H:Hp}{b:Addr}{o:Obj}(e:(lM h H).get? b=some o):h.get? b=some o/\H b=none:=by
 have e':h.get? b=some o:=PySem.W.of_hideAll (Gb h H) e;refine⟨e',?_⟩
 cases q:H b with
 | none=>rfl
 | some x =>
  have hm:b∈Gb h H:=List.mem_filter.mpr ⟨List.mem_range.mpr (Heap.lt_size e'),by simp[q]⟩;have z:(lM h H).get? b=none:=PySem.W.hideAll_none (Gb h H) hm;rw[z]at e;cases e
def xq(g h:Heap)(L:Addr):List (Addr×Obj):=(List.range h.objs.size).filterMap λa=>if a=L∨(g.get? a).isSome=true then none else(h.get? a).map λo=>(a,o)
def rest(g h:Heap)(L d:Addr):List (Addr×Obj):=(xq g h L).filter λp=>decide (p.1≠d)
structure Mod(K:aC)(mg:Str->Option Value)(base:Heap):Prop where
 kin:K.In base
 glob:base.Ns mainGlobals mg
 blt:∃mb,base.Ns builtinsNs mb/\∀x:Str,x≠"__name__"->mb x=bootBuiltins x
 nolimit:base.NoLimit
structure Cx where
 prog:Program
 w:World
 K:aC
 mg:Str->Option Value
 base:Heap
 A:Around
 N:List Str
 s₀:Shared
 H₀:Hp
 env:Env
 outer:List Env
 stack:List Env
 ex:List Addr
 fn:Str->Bool
 calm:Bool
 pn:List (Addr×Obj)
 xe:Value->Shared->Prop
def gU(l:List Env):List Addr:=l.filterMap (·.frame)
abbrev Cx.fs(X:Cx):List Addr:=gU X.outer
def Gd(sc:Scope)(x:Str):Prop:=sc.names.lookup x=some .local∨sc.names.lookup x=some .cell∨sc.names.lookup x=some .free
def Loc(sc:Scope)(x:Str):Prop:=sc.names.lookup x=some .local∨sc.names.lookup x=some .cell
def Look(env:Env)(h:Heap)(m:Str->Option Value)(x:Str)(u:Value):Prop :=
 (env.kindOf x=some .local/\m x=some u)∨((env.kindOf x=some .cell∨env.kindOf x=some .free)/\∃c,env.cells.lookup x=some c/\h.IsCell c (some u))
structure Cx.Ok(X:Cx):Prop where
 mod:Mod X.K X.mg X.base
 kind:X.env.scope.kind=.function
 glob:X.env.globals=mainGlobals
 blt:X.env.builtins=builtinsNs
 above:X.s₀.heap.objs.size<=X.env.locals
 inj:∀x y c,X.env.cells.lookup x=some c->X.env.cells.lookup y=some c->x=y
 has:∀x,(X.env.kindOf x=some .cell∨X.env.kindOf x=some .free)->∃c,X.env.cells.lookup x=some c
 cab:∀x c,X.fn x=true->X.env.cells.lookup x=some c->X.s₀.heap.objs.size<=c
 hd:X.calm=true->X.A.handled=none
 frames:X.A.frames=some X.stack
 stk:X.stack=X.outer∨(X.stack=X.env::X.outer/\X.env.frame=some X.env.locals)
 exf:∀b∈X.ex,b≠X.env.locals/\∀x c,X.env.cells.lookup x=some c->c≠b
 bs:∀b o,X.base.get? b=some o->X.s₀.heap.get? b=some o/\X.H₀ b=none
 bsz:X.base.objs.size<=X.s₀.heap.objs.size
 noex:∀b o,X.base.get? b=some o->b∉X.ex
 exfs:∀b∈X.ex,b∉X.fs
 iJ:X.s₀.heap.FunFrames X.base X.outer
 frf:∀b∈X.fs,X.H₀ b=none
structure Inv(X:Cx)(pins:List (Addr×Obj))(σ:List (Option V))(H:Hp)(s:Shared):Prop where
 ok:X.Ok
 os:s.os=X.s₀.os
 bare:AllBare s.gens
 base:Un X.fs X.ex X.H₀ H X.s₀.heap s.heap
 loc:∃m,s.heap.Ns X.env.locals m/\∀(i:Nat) (x:Str) (v:V),X.N[i]?=some x->σ[i]?=some (some v)->Gd X.env.scope x->∃u,RelV v u/\Look X.env s.heap m x u
 cell:∀x c,X.env.cells.lookup x=some c->∃v,s.heap.IsCell c v
 free:H X.env.locals=none
 freeC:∀x c,X.env.cells.lookup x=some c->H c=none
 pin:∀p∈X.pn++pins,s.heap.get? p.1=some p.2/\H p.1=none/\p.1≠X.env.locals/\p.1∉X.fs/\∀v,p.2.data≠.cell v
 hok:i6 X.prog X.w H s.heap
 len:σ.length=X.N.length
section
variable {X:Cx} {pins:List (Addr×Obj)} {σ:List (Option V)} {H H':Hp} {s:Shared} {h':Heap}
theorem Cx.Ok.GA(ok:X.Ok){b:Addr}{o:Obj}(e:X.base.get? b=some o):b∉X.fs:=λhb=>by
 have:=(ok.iJ.mem hb).1;rw[e]at this;cases this
theorem Inv.bs(I:Inv X pins σ H s):∀b o,X.base.get? b=some o->s.heap.get? b=some o/\H b=none:=λb o e =>
 ⟨I.base.keep b o (I.ok.bs b o e).1 (I.ok.bs b o e).2 (I.ok.GA e) (I.ok.noex b o e),I.base.free b o (I.ok.bs b o e).1 (I.ok.bs b o e).2 (I.ok.noex b o e)⟩
theorem Inv.bk(I:Inv X pins σ H s):∀b o,X.base.get? b=some o->s.heap.get? b=some o:=λb o e=>(I.bs b o e).1
theorem Inv.mod(I:Inv X pins σ H s):Mod X.K X.mg X.base:=I.ok.mod
theorem Inv.jj(I:Inv X pins σ H s):X.K.In s.heap:=I.ok.mod.kin.keeps I.bk
theorem Inv.lt(I:Inv X pins σ H s):X.env.locals < s.heap.objs.size:=let ⟨_,hn,_⟩:=I.loc;hn.lt
theorem Inv.sz(I:Inv X pins σ H s):X.s₀.heap.objs.size<=s.heap.objs.size:=Nr I.ok.above (N6 I.lt)
theorem Inv.GC(I:Inv X pins σ H s){a:Addr}(h:s.heap.objs.size<=a):a∉X.fs:=λhb=>by
 obtain⟨_,o,ho,_⟩:=I.ok.iJ.mem hb;exact absurd (M6 (M5 ho) (Nr I.sz h)) (NC _)
theorem Inv.xr(I:Inv X pins σ H s):∀x c,X.env.cells.lookup x=some c->c≠X.env.locals:=λx c e z=>by
 obtain⟨v,o,ho,hd⟩:=I.cell x c e;obtain⟨m,⟨o',es,ep,ho',hd',_⟩,_⟩:=I.loc;rw[z,ho']at ho;cases ho;rw[hd']at hd;cases hd
theorem Inv.iJ(I:Inv X pins σ H s):s.heap.FunFrames X.base X.outer:=by
 have all:∀(l:List Env),(∀b∈gU l,b∈X.fs)->X.s₀.heap.FunFrames X.base l->s.heap.FunFrames X.base l:=by
  intro l
  induction l with
  | nil=>intro _ _;trivial
  | cons env r ih =>
   intro hs hl;obtain⟨hk,⟨L,o,hf,hn,ho,hd⟩,hr⟩:=hl;have hL:L∈X.fs:=hs L (by unfold gU;rw[List.filterMap_cons,hf];exact List.mem_cons_self);obtain⟨sl,e⟩:=I.base.slot L o ho (I.ok.frf L hL) hL λz=>I.ok.exfs L z hL
   exact⟨hk,⟨L,_,hf,hn,e,hd⟩,ih (λb hb=>hs b (by unfold gU;rw[List.filterMap_cons,hf];exact List.mem_cons_of_mem _ hb)) hr⟩
 exact all X.outer (λ_ hb=>hb) I.ok.iJ
theorem Inv.stack(I:Inv X pins σ H s):s.heap.FunFrames X.base X.stack:=by
 rcases I.ok.stk with e | ⟨e,hf⟩
 ·rw[e];exact I.iJ
 ·rw[e];obtain⟨m,hn,_⟩:=I.loc;refine .cons (by rw[I.ok.kind];decide) hf hn ?_ I.iJ;exact Heap.get?_none_of_le (Nr I.ok.bsz I.ok.above)
theorem Inv.oU(I:Inv X pins σ H s):∀b∈gU X.stack,b∈X.env.locals::X.fs:=λb hb=>by
 rcases I.ok.stk with e | ⟨e,hf⟩
 ·rw[e]at hb;exact NO _ hb
 ·rw[e]at hb;unfold gU at hb;rw[List.filterMap_cons,hf]at hb;exact hb
theorem Inv.lN(I:Inv X pins σ H s):∀b∈gU X.stack,H b=none:=λb hb=>by
 rcases ND.mp (I.oU b hb)with e | hb
 ·rw[e];exact I.free
 ·obtain⟨_,o,ho,_⟩:=I.ok.iJ.mem hb;exact I.base.free b o ho (I.ok.frf b hb) λz=>I.ok.exfs b z hb
theorem Inv.step{g':Array GenState}{t':Nat}{d':Drawn}{ch:List Addr}(I:Inv X pins σ H s)
  (hch:∀b∈ch,(b∈X.ex∨X.s₀.heap.objs.size<=b)/\b≠X.env.locals/\(∀x c,X.env.cells.lookup x=some c->c≠b)/\∀p∈X.pn++pins,p.1≠b)
  (keep:∀b o,b≠X.env.locals->b∉X.fs->b∉ch->s.heap.get? b=some o->H b=none->h'.get? b=some o)
  (slot:∀b o,b≠X.env.locals->b∈X.fs->b∉ch->s.heap.get? b=some o->H b=none->∃sl,h'.get? b=some {o with slots:=sl}) (free:∀b o,b∉ch->s.heap.get? b=some o->H b=none->H' b=none)
  (there:∀b o,b∉ch->s.heap.get? b=some o->∃o',h'.get? b=some o')
  (tups:∀b xs,H b=some (.tup xs)->H' b=some (.tup xs)) (cb:∀b o u,H b=some (.gS o u)->H' b=some (.gS o u)) (tbls:∀b ps,H b=some (.tbl ps)->∃more,H' b=some (.tbl (ps++more)))
  (ns:∀m,s.heap.Ns X.env.locals m->h'.Ns X.env.locals m) (hok:i6 X.prog X.w H' h') (hg:AllBare g') :
  Inv X pins σ H' {s with heap:=h',gens:=g',drawn:=d',toks:=t'}:=by
 have neL:∀b o,X.s₀.heap.get? b=some o->b≠X.env.locals:=λb o e=>Na (M6 (M5 e) I.ok.above)
 have neC:∀b o,X.s₀.heap.get? b=some o->b∉X.ex->b∉ch:=λb o e hx hb=>by
  rcases (hch b hb).1 with z | z
  ·exact hx z
  ·exact absurd (M6 (M5 e) z) (NC _)
 have cellK:∀x c,X.env.cells.lookup x=some c->∀v,s.heap.IsCell c v->h'.IsCell c v:=λx c e v ⟨o,ho,hd⟩=>by
  have nch:c∉ch:=λz=>(hch c z).2.2.1 x c e rfl
  by_cases hc:c∈X.fs
  ·obtain⟨sl,q⟩:=slot c o (I.xr x c e) hc nch ho (I.freeC x c e);exact⟨_,q,hd⟩
  ·exact⟨o,keep c o (I.xr x c e) hc nch ho (I.freeC x c e),hd⟩
 refine⟨I.ok,I.os,hg,⟨λb o e n hb hx=>?_,λb o e n hb hx=>?_,λb o e n hx=>?_,λb o e hx=>?_,λb xs e=>tups b xs (I.base.tups b xs e),λb o xs e=>cb b o xs (I.base.cb b o xs e),λb ps e=>?_⟩,?_,λx c e=>?_,?_,λx c e=>?_,λp hp=>?_,hok,I.len⟩
 ·exact keep b o (neL b o e) hb (neC b o e hx) (I.base.keep b o e n hb hx) (I.base.free b o e n hx)
 ·obtain⟨sl,e1⟩:=I.base.slot b o e n hb hx;obtain⟨sl',e2⟩:=slot b _ (neL b o e) hb (neC b o e hx) e1 (I.base.free b o e n hx);exact⟨sl',e2⟩
 ·obtain⟨o',e1⟩:=I.base.there b o e hx;exact free b o' (neC b o e hx) e1 (I.base.free b o e n hx)
 ·obtain⟨o',e1⟩:=I.base.there b o e hx;exact there b o' (neC b o e hx) e1
 ·obtain⟨m1,e1⟩:=I.base.tbls b ps e;obtain⟨m2,e2⟩:=tbls b _ e1;exact⟨m1++m2,by rw[e2,Array.append_assoc]⟩
 ·obtain⟨m,hn,hl⟩:=I.loc;refine⟨m,ns m hn,λi x v e1 e2 e3=>?_⟩;obtain⟨u,r,l⟩:=hl i x v e1 e2 e3;refine⟨u,r,?_⟩;rcases l with l | ⟨k,c,e,z⟩
  ·exact .inl l
  ·exact .inr ⟨k,c,e,cellK x c e _ z⟩
 ·obtain⟨v,z⟩:=I.cell x c e;exact⟨v,cellK x c e v z⟩
 ·obtain⟨m,⟨o,_,_,ho,_⟩,_⟩:=I.loc;exact free _ o (λz=>(hch _ z).2.1 rfl) ho I.free
 ·obtain⟨v,o,ho,hd⟩:=I.cell x c e;exact free c o (λz=>(hch c z).2.2.1 x c e rfl) ho (I.freeC x c e)
 ·obtain⟨e,n,ne,nf,d⟩:=I.pin p hp;have nch:p.1∉ch:=λz=>(hch p.1 z).2.2.2 p hp rfl
  exact⟨keep p.1 p.2 ne nf nch e n,free p.1 p.2 nch e n,ne,nf,d⟩
theorem Inv.un{t':Nat}(I:Inv X pins σ H s)(u:Un X.fs [] H H' s.heap h')(hok:i6 X.prog X.w H' h'):Inv X pins σ H' {s with heap:=h',toks:=t'}:=by
 obtain⟨m,⟨o,es,ep,ho,r⟩,_⟩:=id I.loc;obtain⟨sl,hL⟩:=u.any ho I.free (by simp)
 exact I.step (g':=s.gens) (d':=s.drawn) (ch:=[]) (λ_ z=>nomatch z) (λb o _ hb _ e n=>u.keep b o e n hb (by simp)) (λb o _ hb _ e n=>u.slot b o e n hb (by simp)) (λb o _ e n=>u.free b o e n (by simp)) (λb o _ e=>u.there b o e (by simp)) u.tups u.cb u.tbls (λm' hm=>by
  obtain⟨o',es',ep',ho',r'⟩:=hm;rw[ho]at ho';cases ho';exact⟨_,es',ep',hL,r'⟩) hok I.bare
theorem Inv.call{g':Array GenState}{t':Nat}{d':Drawn}{ch:List Addr}(I:Inv X pins σ H s)(u:Un (gU X.stack) ch H H' s.heap h')(hok:i6 X.prog X.w H' h')(hg:AllBare g')
  (hch:∀b∈ch,(b∈X.ex∨X.s₀.heap.objs.size<=b)/\b≠X.env.locals/\(∀x c,X.env.cells.lookup x=some c->c≠b)/\∀p∈X.pn++pins,p.1≠b) :
  Inv X pins σ H' {s with heap:=h',gens:=g',drawn:=d',toks:=t'}:=by
 obtain⟨m,⟨o,es,ep,ho,r⟩,_⟩:=id I.loc;obtain⟨sl,hL⟩:=u.any ho I.free λz=>(hch _ z).2.1 rfl
 exact I.step (ch:=ch) hch (λb o hL hb hc e n=>u.keep b o e n (λz=>(ND.mp (I.oU b z)).elim hL hb) hc) (λb o _ _ hc e n=>u.any e n hc) (λb o hc e n=>u.free b o e n hc) (λb o hc e=>u.there b o e hc) u.tups u.cb u.tbls (λm' hm=>by
  obtain⟨o',es',ep',ho',r'⟩:=hm;rw[ho]at ho';cases ho';exact⟨_,es',ep',hL,r'⟩) hok hg
theorem Inv.turned{t':Nat}{it:Addr}(I:Inv X pins σ H s)(k:∀b o,b≠it->s.heap.get? b=some o->h'.get? b=some o)(hn:H it=none)(hL:it≠X.env.locals)
  (h1:it∈X.ex∨X.s₀.heap.objs.size<=it) (h2:∀x c,X.env.cells.lookup x=some c->c≠it) (h3:∀p∈X.pn++pins,p.1≠it):Inv X pins σ H {s with heap:=h',toks:=t'}:=by
 have nit:∀b u,H b=some u->b≠it:=λb u e z=>by rw[z,hn]at e;cases e
 refine I.step (g':=s.gens) (d':=s.drawn) (ch:=[it]) (λb hb=>?_) (λb o _ _ hc e _=>k b o (λz=>hc (by simp[z])) e) (λb o _ _ hc e _=>⟨o.slots,k b o (λz=>hc (by simp[z])) e⟩) (λ_ _ _ _ n=>n)
  (λb o hc e=>⟨o,k b o (λz=>hc (by simp[z])) e⟩) (λ_ _ e=>e) (λ_ _ _ e=>e) (λb ps e=>⟨#[],by rw[e];simp⟩) (λm hm=>?_) (λb u e=>?_) I.bare
 ·have e:b=it:=by simpa using hb
  subst e;exact⟨h1,hL,h2,h3⟩
 ·obtain⟨o,es,ep,ho,r⟩:=hm;exact⟨o,es,ep,k _ o (Oi hL) ho,r⟩
 ·refine(I.hok b u e).kD (λc v hc q=>k c v ?_ q) (λ_ q=>q) λ_ _ q=>q
  rcases hc with z | z
  ·rw[z];exact nit b u e
  ·exact nit c _ z
theorem Inv.tok(I:Inv X pins σ H s)(t:Nat):Inv X pins σ H {s with toks:=t}:=I.un (h':=s.heap) (t':=t) Un.refl I.hok
theorem Inv.kept{t':Nat}(I:Inv X pins σ H s)(k:∀b u,s.heap.get? b=some u->h'.get? b=some u):Inv X pins σ H {s with heap:=h',toks:=t'}:=I.un (Un.kept k) (I.hok.kept k)
theorem Inv.laid{a:Addr}{o:HO}{t':Nat}(I:Inv X pins σ H s)(k:∀b u,s.heap.get? b=some u->h'.get? b=some u)(hp:s.heap.objs.size<=a)(new:cM X.prog X.w (upd H a o) h' a o):
  Inv X pins σ (upd H a o) {s with heap:=h',toks:=t'}:=I.un (Un.laid k hp (I.hok.fresh hp)) (I.hok.laid k hp new)
theorem Inv.write{x e:Addr}{o:HO}{t':Nat}(I:Inv X pins σ H s)(mu:Ga (H x))(he:e=x∨H e=some (.own x))(k:∀b u,b≠e->s.heap.get? b=some u->h'.get? b=some u)(heo:∃u,h'.get? e=some u)
  (new:cM X.prog X.w (upd H x o) h' x o):Inv X pins σ (upd H x o) {s with heap:=h',toks:=t'}:=I.un (Un.write mu he k heo) (I.hok.write mu he k heo new)
theorem Inv.weak{σ':List (Option V)}(I:Inv X pins σ H s)(hl:σ'.length=σ.length)(w:∀(i:Nat) v,σ'[i]?=some (some v)->σ[i]?=some (some v)):Inv X pins σ' H s :=
 ⟨I.ok,I.os,I.bare,I.base,let ⟨m,hn,hl'⟩:=I.loc;⟨m,hn,λi x v e1 e2 e3=>hl' i x v e1 (w i v e2) e3⟩,I.cell,I.free,I.freeC,I.pin,I.hok,hl.trans I.len⟩
theorem Inv.qq{pins':List (Addr×Obj)}(I:Inv X pins σ H s)(h:∀p∈pins',s.heap.get? p.1=some p.2/\H p.1=none/\p.1≠X.env.locals/\p.1∉X.fs/\∀v,p.2.data≠.cell v):Inv X pins' σ H s :=
 ⟨I.ok,I.os,I.bare,I.base,I.loc,I.cell,I.free,I.freeC,λp hp=>(NU.mp hp).elim (λz=>I.pin p (List.mem_append_left _ z)) (h p),I.hok,I.len⟩
theorem jx{N:List Str}(hN:N.Nodup){i j:Nat}{x:Str}(a:N[i]?=some x)(b:N[j]?=some x):i=j:=by
 obtain⟨h1,e1⟩:=cV a;obtain⟨h2,e2⟩:=cV b;exact(List.getElem_inj hN).mp (e1.trans e2.symm)
theorem iK{M:Model}{A:Around}{E:Value->Shared->Prop}{i:Nat}{x:Str}{v:V}{u:Value}{Q:Unit->Shared->Prop}(I:Inv X pins σ H s)(hN:X.N.Nodup)(hi:X.N[i]?=some x)(hx:Loc X.env.scope x)(r:RelV v u)
  (h:∀s',Inv X pins (σ.set i (some v)) H s'->(∃a,Heap.SameBut a s.heap s'.heap/\(a=X.env.locals∨X.env.cells.lookup x=some a))->Q () s') (hf:X.fn x=true∨X.env.scope.names.lookup x=some .local:=by first | exact .inl rfl | exact .inr rfl | assumption):wpAny M A (storeName X.env x u) Q E s:=by
 obtain⟨m,hn,hl⟩:=id I.loc;have hcls:(X.env.scope.kind == .class||(X.env.scope.kind == .module&&X.env.locals != X.env.globals))=false:=by rw[I.ok.kind];rfl
 have hiσ:i < σ.length:=by rw[I.len];exact(cV hi).1
 have xr:=I.xr
 have tracked:∀{a:Addr} {h':Heap},(∃o,s.heap.get? a=some o/\H a=none)->Heap.SameBut a s.heap h'->i6 X.prog X.w H h':=λ{a h'} ha hs b ob e=>by
  obtain⟨_,_,hfree⟩:=ha;refine(I.hok b ob e).kD (λc w' hc q=>(hs.2 c ?_).trans q) (λ_ q=>q) λ_ _ q=>q
  rintro rfl;rcases hc with rfl | hc
  ·rw[hfree]at e;cases e
  ·rw[hfree]at hc;cases hc
 rcases hx with hk | hk
 ·refine wpAny_storeName_local hk hn (λh' hn' hs=>?_) hcls;obtain⟨oL,_,_,hoL,_⟩:=id hn;refine h _ ⟨I.ok,I.os,I.bare,⟨λb o e n hb hx=>?_,λb o e n hb hx=>?_,I.base.free,λb o e hx=>?_,I.base.tups,I.base.cb,I.base.tbls⟩,⟨_,hn',λj y v' e1 e2 e3=>?_⟩,λy c e=>?_,I.free,I.freeC,λp hp=>?_,tracked ⟨oL,hoL,I.free⟩ hs,by simpa using I.len⟩ ⟨_,hs,.inl rfl⟩
  ·exact(hs.2 b (Na (M6 (M5 e) I.ok.above))).trans (I.base.keep b o e n hb hx)
  ·obtain⟨sl,e1⟩:=I.base.slot b o e n hb hx;exact⟨sl,(hs.2 b (Na (M6 (M5 e) I.ok.above))).trans e1⟩
  ·obtain⟨o',e1⟩:=I.base.there b o e hx;exact⟨o',(hs.2 b (Na (M6 (M5 e) I.ok.above))).trans e1⟩
  ·by_cases hj:j=i
   ·subst hj;rw[hi]at e1;cases e1;rw[List.getElem?_set_self hiσ]at e2;cases e2;exact⟨u,r,.inl ⟨hk,by simp⟩⟩
   ·rw[Ni (Oi hj)]at e2;obtain⟨u',r',q⟩:=hl j y v' e1 e2 e3;refine⟨u',r',?_⟩;rcases q with⟨k,e⟩ | ⟨k,c,e,z⟩
    ·refine .inl ⟨k,?_⟩;have:y≠x:=λe=>hj (jx hN e1 (e ▸ hi))
     simp[this,e]
    ·exact .inr ⟨k,c,e,z.sameBut hs (xr y c e)⟩
  ·obtain⟨w',z⟩:=I.cell y c e;exact⟨w',z.sameBut hs (xr y c e)⟩
  ·obtain⟨e,n,ne,nf,d⟩:=I.pin p hp;exact⟨(hs.2 p.1 ne).trans e,n,ne,nf,d⟩
 ·have hfn:X.fn x=true:=by
   rcases hf with z | z
   ·exact z
   ·rw[z]at hk;cases hk
  obtain⟨c,hc⟩:=I.ok.has x (.inl hk);obtain⟨w',z⟩:=I.cell x c hc;refine wpAny_storeName_cell I.ok.kind hk hc z (λh' hc' hs=>?_);obtain⟨oc,hoc,hocd⟩:=id z;refine h {s with heap:=h'} ⟨I.ok,I.os,I.bare,⟨λb o e n hb hx=>?_,λb o e n hb hx=>?_,I.base.free,λb o e hx=>?_,I.base.tups,I.base.cb,I.base.tbls⟩,⟨m,hn.sameBut hs (Ne.symm (xr x c hc)),λj y v' e1 e2 e3=>?_⟩,λy c' e=>?_,I.free,I.freeC,λp hp=>?_,tracked ⟨oc,hoc,I.freeC x c hc⟩ hs,by simpa using I.len⟩ ⟨c,hs,.inr hc⟩
  ·exact(hs.2 b (Na (M6 (M5 e) (I.ok.cab x c hfn hc)))).trans (I.base.keep b o e n hb hx)
  ·obtain⟨sl,e1⟩:=I.base.slot b o e n hb hx;exact⟨sl,(hs.2 b (Na (M6 (M5 e) (I.ok.cab x c hfn hc)))).trans e1⟩
  ·obtain⟨o',e1⟩:=I.base.there b o e hx;exact⟨o',(hs.2 b (Na (M6 (M5 e) (I.ok.cab x c hfn hc)))).trans e1⟩
  ·by_cases hj:j=i
   ·subst hj;rw[hi]at e1;cases e1;rw[Nh hiσ]at e2;cases e2;exact⟨u,r,.inr ⟨.inl hk,c,hc,hc'⟩⟩
   ·rw[Ni (Oi hj)]at e2;obtain⟨u',r',q⟩:=hl j y v' e1 e2 e3;refine⟨u',r',?_⟩;rcases q with q | ⟨k,c',e,z'⟩
    ·exact .inl q
    ·refine .inr ⟨k,c',e,z'.sameBut hs ?_⟩;rintro rfl;exact hj (jx hN e1 (I.ok.inj _ _ _ e hc ▸ hi))
  ·by_cases hcc:c'=c
   ·subst hcc;exact⟨_,hc'⟩
   ·obtain⟨w2,z2⟩:=I.cell y c' e;exact⟨w2,z2.sameBut hs hcc⟩
  ·obtain⟨e,n,ne,nf,d⟩:=I.pin p hp;refine⟨(hs.2 p.1 ?_).trans e,n,ne,nf,d⟩;intro q;rw[q,hoc]at e;have q':oc=p.2:=Np e;exact d w' (by rw[← q'];exact hocd)
theorem jy{M:Model}{A:Around}{E:Value->Shared->Prop}{i:Nat}{x:Str}{v:V}{u:Value}{Q:Unit->Shared->Prop}(I:Inv X pins σ H s)(hN:X.N.Nodup)(hi:X.N[i]?=some x)(hx:Loc X.env.scope x)(r:RelV v u)
  (h:∀s',Inv X pins (σ.set i (some v)) H s'->Q () s') (hf:X.fn x=true∨X.env.scope.names.lookup x=some .local:=by first | exact .inl rfl | exact .inr rfl | assumption):wpAny M A (storeName X.env x u) Q E s :=
 iK I hN hi hx r (λs' I' _=>h s' I') hf
theorem Inv.Ah{s':Shared}{ch:List Addr}(I:Inv X pins σ H s)(ho:s'.os=s.os)(u:Un (gU X.stack) ch H H' s.heap s'.heap)(hok:i6 X.prog X.w H' s'.heap)(hg:AllBare s'.gens)
  (hch:∀b∈ch,(b∈X.ex∨X.s₀.heap.objs.size<=b)/\b≠X.env.locals/\(∀x c,X.env.cells.lookup x=some c->c≠b)/\∀p∈X.pn++pins,p.1≠b):Inv X pins σ H' s':=by
 obtain⟨h',g',d',t',o'⟩:=s';have e:o'=s.os:=ho;subst e;exact I.call (g':=g') (t':=t') (d':=d') u hok hg hch
end
abbrev XK:=Value->Option Addr->Hp->Prop
abbrev St:=List (Option V)
abbrev VK:=V->Hp->Prop
abbrev TE:=St->Hp->VK->Prop
abbrev TT:=St->Hp->(Bool->Hp->Prop)->Prop
abbrev TA:=St->Hp->(List V->Hp->Prop)->Prop
structure Ends where
 nx:St->Hp->Prop
 rt:VK
 bk:St->Hp->Prop:=λ_ _=>False
 ct:St->Hp->Prop:=λ_ _=>False
abbrev TS:=Ends->St->Hp->Prop
def EP(X:Cx)(pins:List (Addr×Obj))(σ:St)(Q:VK)(u:Value)(s':Shared):Prop:=∃v H',Inv X pins σ H' s'/\RelV v u/\Q v H'
def TP(X:Cx)(pins:List (Addr×Obj))(σ:St)(Q:Bool->Hp->Prop)(b:Bool)(s':Shared):Prop:=∃H',Inv X pins σ H' s'/\Q b H'
def AP(X:Cx)(pins:List (Addr×Obj))(σ:St)(Q:List V->Hp->Prop)(us:List Value)(s':Shared):Prop:=∃vs H',Inv X pins σ H' s'/\Vals vs us/\Q vs H'
def SP(X:Cx)(pins:List (Addr×Obj))(D:Ends)(f:Flow)(s':Shared):Prop :=
 match f with
 | .next=>∃σ' H',Inv X pins σ' H' s'/\D.nx σ' H'
 | .brk=>∃σ' H',Inv X pins σ' H' s'/\D.bk σ' H'
 | .cont=>∃σ' H',Inv X pins σ' H' s'/\D.ct σ' H'
 | .ret u=>∃v σ' H',Inv X pins σ' H' s'/\RelV v u/\D.rt v H'
def PE(X:Cx)(e:Expr)(t:TE):Prop :=
 ∀(pins:List (Addr×Obj)) (s:Shared) (σ:St) (H:Hp) (Q:VK),Inv X pins σ H s->t σ H Q->wpAny (model X.prog X.w) X.A (eval e X.env) (EP X pins σ Q) X.xe s
def PT(X:Cx)(e:Expr)(t:TT):Prop :=
 ∀(pins:List (Addr×Obj)) (s:Shared) (σ:St) (H:Hp) (Q:Bool->Hp->Prop),Inv X pins σ H s->t σ H Q->wpAny (model X.prog X.w) X.A (isTrue e X.env (eval e X.env)) (TP X pins σ Q) X.xe s
def PW(X:Cx)(e:Expr)(t:TT):Prop :=
 ∀(whole:Sem Value) (pins:List (Addr×Obj)) (s:Shared) (σ:St) (H:Hp) (Q:Bool->Hp->Prop),Inv X pins σ H s->t σ H Q->wpAny (model X.prog X.w) X.A (isTrue e X.env whole) (TP X pins σ Q) X.xe s
theorem PW.pt{X:Cx}{e:Expr}{t:TT}(h:PW X e t):PT X e t:=h _
def PA(X:Cx)(es:List Expr)(t:TA):Prop :=
 ∀(pos:Pos) (pins:List (Addr×Obj)) (s:Shared) (σ:St) (H:Hp) (Q:List V->Hp->Prop),Inv X pins σ H s->t σ H Q->wpAny (model X.prog X.w) X.A (spliced (backTo pos (starEach es X.env))) (AP X pins σ Q) X.xe s
def PS(X:Cx)(st:Stmt)(t:TS):Prop :=
 ∀(pins:List (Addr×Obj)) (s:Shared) (σ:St) (H:Hp) (D:Ends),Inv X pins σ H s->t D σ H->wpAny (model X.prog X.w) X.A (exec st X.env) (SP X pins D) X.xe s
def jk(X:Cx)(st:List Stmt)(t:TS):Prop :=
 ∀(pins:List (Addr×Obj)) (s:Shared) (σ:St) (H:Hp) (D:Ends),Inv X pins σ H s->t D σ H->wpAny (model X.prog X.w) X.A (execs st X.env) (SP X pins D) X.xe s
theorem bA{α:Type}{t:Sem α}{Q Q':α->Shared->Prop}{M:Model}{A:Around}{E:Value->Shared->Prop}{s:Shared}(h:wpAny M A t Q E s)(hQ:∀a s,Q a s->Q' a s):wpAny M A t Q' E s:=Ny h hQ λ_ _ x=>x
section
variable {X:Cx}
def Bj(i:Nat):TE:=λσ H Q=>∃v,σ[i]?=some (some v)/\Q v H
def tC(v:V):TE:=λ_ H Q=>Q v H
theorem tY{i:Nat}{x:Str}{pos:Pos}(hN:X.N[i]?=some x)(hv:Gd X.env.scope x)(hd:(x == ("__debug__" : Str))=false:=by decide)(hcd:(x == ("__classdict__" : Str))=false:=by decide):PE X (.Name x pos) (Bj i):=by
 intro pins s σ H Q I h;obtain⟨v,e,h⟩:=h;obtain⟨m,hn,hl⟩:=I.loc;obtain⟨u,r,l⟩:=hl i x v hN e hv;have fin:EP X pins σ Q u s:=⟨v,H,I,r,h⟩;rcases l with⟨hk,hm⟩ | ⟨hk,c,hc,hcell⟩
 ·exact wpAny_Name (wpAny_loadName_local I.ok.kind hk hn hm fin) hd
 ·rcases hk with hk | hk
  ·exact wpAny_Name (wpAny_loadName_cell I.ok.kind hk hc hcell fin) hd
  ·exact wpAny_Name (wpAny_loadName_free I.ok.kind hk hc hcell fin hcd) hd
theorem pI{i j pos}:PE X (.Constant (.int i) j pos) (tC (.int i)):=λ_ _ _ H _ I h=>wpAny_Constant_int ⟨.int i,H,I.tok _,⟨_,rfl⟩,h⟩
theorem DW{b j pos}:PE X (.Constant (.bool b) j pos) (tC (.bl b)):=λ_ _ _ H _ I h=>Constant_bool ⟨.bl b,H,I,rfl,h⟩
theorem Bk{j pos}:PE X (.Constant .none j pos) (tC .non):=λ_ _ _ H _ I h=>Constant_none ⟨.non,H,I,rfl,h⟩
theorem jz{x j pos}:PE X (.Constant (.str x) j pos) (tC (.str x)):=λ_ _ _ H _ I h=>Calls.Constant_str ⟨.str x,H,I.tok _,⟨_,rfl⟩,h⟩
def Gl(X:Cx)(x:Str):Prop:=X.env.kindOf x=some .globalImplicit
theorem fQ{E:Value->Shared->Prop}{pins:List (Addr×Obj)}{s:Shared}{σ:St}{H:Hp}{x:Str}{u:Value}{pos:Pos}{Q:Value->Shared->Prop}(I:Inv X pins σ H s)(hg:Gl X x)(hm:X.mg x=some u)(h:Q u s)
  (hd:(x == ("__debug__" : Str))=false:=by decide):wpAny (model X.prog X.w) X.A (eval (.Name x pos) X.env) Q E s :=
 Oq I.ok.kind hg (Calls.loadGlobal_global (by rw[I.ok.glob];exact I.mod.glob.keeps I.bk) hm h) hd
theorem gp{E:Value->Shared->Prop}{pins:List (Addr×Obj)}{s:Shared}{σ:St}{H:Hp}{x:Str}{u:Value}{pos:Pos}{Q:Value->Shared->Prop}(I:Inv X pins σ H s)(hg:Gl X x)(hm:X.mg x=none)(hv:bootBuiltins x=some u)(h:Q u s)
  (hn:x≠"__name__":=by decide) (hd:(x == ("__debug__" : Str))=false:=by decide):wpAny (model X.prog X.w) X.A (eval (.Name x pos) X.env) Q E s:=by
 obtain⟨mb,h1,h2⟩:=I.mod.blt;exact Oq I.ok.kind hg (Calls.loadGlobal_builtin (by rw[I.ok.glob];exact I.mod.glob.keeps I.bk) hm (by rw[I.ok.blt];exact h1.keeps I.bk) ((h2 x hn).trans hv) h) hd
theorem xt{x:Str}{v:V}{u:Value}{pos:Pos}(hg:Gl X x)(hm:X.mg x=some u)(r:RelV v u)(hd:(x == ("__debug__" : Str))=false:=by decide):PE X (.Name x pos) (tC v) :=
 λ_ _ _ H _ I h=>fQ I hg hm ⟨v,H,I,r,h⟩ hd
theorem qr{x:Str}{v:V}{u:Value}{pos:Pos}(hg:Gl X x)(hm:X.mg x=none)(hv:bootBuiltins x=some u)(r:RelV v u)(hn:x≠"__name__":=by decide)(hd:(x == ("__debug__" : Str))=false:=by decide):PE X (.Name x pos) (tC v) :=
 λ_ _ _ H _ I h=>gp I hg hm hv ⟨v,H,I,r,h⟩ hn hd
variable {a b:Expr} {ta tb:TE} {pos:Pos}
def tB(t:TE):TT:=λσ H Q=>t σ H λx H1=>∃c,x=.bl c/\Q c H1
theorem Bl{e:Expr}{t:TE}(h:PE X e t)(he:∀whole,isTrue e X.env whole=(do let v ← whole;standAt e.pos;holding [v] (truthy v)):=by intro _;rfl):PT X e (tB t):=by
 intro pins s σ H Q I hw;refine isTrue_plain (bA (h pins s σ H _ I hw) λv s1 ⟨x,H1,I1,r1,q1⟩=>?_) (he _);obtain⟨d,rfl,q⟩:=q1;cases r1;exact NJ ⟨H1,I1,q⟩
variable {tA tB':TT} {rest:List Expr}
def DY(t u:TT):TT:=λσ H Q=>t σ H λc H1=>if c=true then u σ H1 Q else Q false H1
def IU(t u:TT):TT:=λσ H Q=>t σ H λc H1=>if c=true then Q true H1 else u σ H1 Q
def GD(t:TT):TT:=λσ H Q=>t σ H λc H1=>Q (!c) H1
theorem pw_and1(ha:PT X a tA):PW X (.BoolOp .And [a] pos) tA:=by
 intro wh pins s σ H Q I h;refine isTrue_and (bA (ha pins s σ H Q I h) λc s1 e=>?_)
 cases c with
 | true=>exact isTrue_and_nil e
 | false=>exact e
theorem pw_or1(ha:PT X a tA):PW X (.BoolOp .Or [a] pos) tA:=by
 intro wh pins s σ H Q I h;refine isTrue_or (bA (ha pins s σ H Q I h) λc s1 e=>?_)
 cases c with
 | false=>exact isTrue_or_nil e
 | true=>exact e
theorem pw_and(ha:PT X a tA)(hb:PW X (.BoolOp .And (b::rest) pos) tB'):PW X (.BoolOp .And (a::b::rest) pos) (DY tA tB'):=by
 intro wh pins s σ H Q I h;refine isTrue_and (bA (ha pins s σ H _ I h) λc s1 ⟨H1,I1,q1⟩=>?_)
 cases c with
 | true=>exact hb wh pins s1 σ H1 Q I1 q1
 | false=>exact⟨H1,I1,q1⟩
theorem pw_or(ha:PT X a tA)(hb:PW X (.BoolOp .Or (b::rest) pos) tB'):PW X (.BoolOp .Or (a::b::rest) pos) (IU tA tB'):=by
 intro wh pins s σ H Q I h;refine isTrue_or (bA (ha pins s σ H _ I h) λc s1 ⟨H1,I1,q1⟩=>?_)
 cases c with
 | true=>exact⟨H1,I1,q1⟩
 | false=>exact hb wh pins s1 σ H1 Q I1 q1
theorem Bm(ha:PT X a tA):PT X (.UnaryOp .Not a pos) (GD tA):=by
 intro pins s σ H Q I h;exact isTrue_not (ha pins s σ H (λc H1=>Q (!c) H1) I h)
def DZ(ta tb:TE):TE:=λσ H Q=>ta σ H λx H1=>∃c,x=.bl c/\if c=true then tb σ H1 Q else Q (.bl false) H1
def D1(ta:TE):TE:=λσ H Q=>ta σ H λx H1=>∃c,x=.bl c/\Q (.bl (!c)) H1
theorem Bo{op}{t:TE}(h:PE X a t):PE X (.BoolOp op [a] pos) t:=λpins s σ H Q I hw=>BoolOp_one (h pins s σ H Q I hw)
theorem Bp(ha:PE X a ta)(hb:PE X (.BoolOp .And (b::rest) pos) tb):PE X (.BoolOp .And (a::b::rest) pos) (DZ ta tb):=by
 intro pins s σ H Q I h;refine BoolOp_and (bA (ha pins s σ H _ I h) λv s1 ⟨x,H1,I1,r1,q1⟩=>?_);obtain⟨c,rfl,q1⟩:=q1;cases r1;refine NJ ?_
 cases c with
 | true=>exact hb pins s1 σ H1 Q I1 q1
 | false=>exact⟨.bl false,H1,I1,rfl,q1⟩
theorem Bq(ha:PE X a ta):PE X (.UnaryOp .Not a pos) (D1 ta):=by
 intro pins s σ H Q I h;refine UnaryOp_ (bA (ha pins s σ H _ I h) λv s1 ⟨x,H1,I1,r1,q1⟩=>?_);obtain⟨c,rfl,q1⟩:=q1;cases r1;exact not_of (NJ ⟨.bl (!c),H1,I1,rfl,q1⟩)
end
def cy(K:aC)(H:Hp)(a:Addr)(xs:List V):Prop :=
 Rd H a (.lst xs) ∨
  ∃(o:Obj) (its:Array Value) (n:Nat),K.lookup a=some o/\o.cls=.type "list"/\o.dict=none/\o.data=.seq its n/\its.size<=sizeLine/\Vals xs its.toList
def dY(K:aC)(H:Hp)(a:Addr)(xs:List V):Prop :=
 Rd H a (.tup xs) ∨
  ∃(o:Obj) (its:Array Value) (n:Nat),K.lookup a=some o/\o.cls=.type "tuple"/\o.data=.seq its n/\its.size<=sizeLine/\Vals xs its.toList
def GF:Value->Option V
 | .none=>some .non
 | .bool b=>some (.bl b)
 | .int i _=>some (.int i)
 | .str x _=>some (.str x)
 | .bytes b _=>some (.byt b)
 | .float b _=>some (.flt b)
 | .ref a=>some (.ref a)
 | .type n=>some (.ty n)
 | _=>none
theorem RelV.abs{x:V}{u:Value}(r:RelV x u):GF u=some x:=by
 cases x with
 | non=>cases r;rfl
 | bl _=>cases r;rfl
 | int _=>obtain⟨t,rfl⟩:=r;rfl
 | str _=>obtain⟨t,rfl⟩:=r;rfl
 | byt _=>obtain⟨t,rfl⟩:=r;rfl
 | flt _=>obtain⟨t,rfl⟩:=r;rfl
 | ref _=>cases r;rfl
 | ty _=>cases r;rfl
theorem RelV.inj{x y:V}{u:Value}(r:RelV x u)(q:RelV y u):x=y:=Np (r.abs.symm.trans q.abs)
theorem Vals.inj:∀{xs ys:List V} {us:List Value},Vals xs us->Vals ys us->xs=ys
 | _,_,_,.nil,.nil=>rfl
 | _,_,_,.cons r t,.cons r' t'=>by rw[r.inj r',Vals.inj t t']
section
variable {X:Cx} {pins:List (Addr×Obj)} {σ:St} {H:Hp} {s:Shared} {a:Addr} {xs ys:List V}
theorem cy.of{K:aC}(h:H a=some (.lst xs)):cy K H a xs:=.inl (.inl h)
theorem dY.of{K:aC}(h:H a=some (.tup xs)):dY K H a xs:=.inl (.inl h)
theorem Inv.list(I:Inv X pins σ H s)(h:cy X.K H a xs):∃its:List Value,Vals xs its/\PlainL s.heap a its.toArray/\xs.length<=sizeLine:=by
 rcases h with h | ⟨o,its,n,hk,hc,hd,hs,hz,r⟩
 ·obtain⟨z,its,n,r,e⟩:=h.ok I.hok;exact⟨its,r,⟨_,n,e,rfl,rfl,rfl⟩,z⟩
 ·refine⟨its.toList,r,⟨o,n,I.jj a o hk,hc,hd,by simpa using hs⟩,?_⟩;have e:=r.length;simp only[Array.length_toList]at e;omega
theorem Inv.tuple(I:Inv X pins σ H s)(h:dY X.K H a xs):∃its:List Value,Vals xs its/\IsTup s.heap a its.toArray/\xs.length<=sizeLine:=by
 rcases h with h | ⟨o,its,n,hk,hc,hs,hz,r⟩
 ·obtain⟨z,its,r,p⟩:=h.ok I.hok;exact⟨its,r,p,z⟩
 ·refine⟨its.toList,r,⟨o,I.jj a o hk,hc,n,by simpa using hs⟩,?_⟩;have e:=r.length;simp only[Array.length_toList]at e;omega
theorem Inv.tZ(I:Inv X pins σ H s)(h:cy X.K H a xs)(h':cy X.K H a ys):xs=ys:=by
 obtain⟨its,r,⟨o,n,e,_,_,d⟩,_⟩:=I.list h;obtain⟨its',r',⟨o',n',e',_,_,d'⟩,_⟩:=I.list h';rw[e]at e';cases e';rw[d]at d'
 injection d' with d1 _
 have:its=its':=by simpa using congrArg Array.toList d1
 subst this;exact r.inj r'
theorem Inv.rN(I:Inv X pins σ H s)(h:dY X.K H a xs)(h':dY X.K H a ys):xs=ys:=by
 obtain⟨its,r,⟨o,e,_,n,d⟩,_⟩:=I.tuple h;obtain⟨its',r',⟨o',e',_,n',d'⟩,_⟩:=I.tuple h';rw[e]at e';cases e';rw[d]at d'
 injection d' with d1 _
 have:its=its':=by simpa using congrArg Array.toList d1
 subst this;exact r.inj r'
end
abbrev Cx.fy(X:Cx)(E:Value->Shared->Prop):Cx:={X with xe:=E}
abbrev Cx.Ge(X:Cx):Cx:=X.fy λ_ _=>False
theorem Cx.Ok.fy{X:Cx}(ok:X.Ok)(E:Value->Shared->Prop):(X.fy E).Ok :=
 ⟨ok.mod,ok.kind,ok.glob,ok.blt,ok.above,ok.inj,ok.has,ok.cab,ok.hd,ok.frames,ok.stk,ok.exf,ok.bs,ok.bsz,ok.noex,ok.exfs,ok.iJ,ok.frf⟩
theorem Cx.Ok.cB{X:Cx}{E:Value->Shared->Prop}(ok:(X.fy E).Ok):X.Ok :=
 ⟨ok.mod,ok.kind,ok.glob,ok.blt,ok.above,ok.inj,ok.has,ok.cab,ok.hd,ok.frames,ok.stk,ok.exf,ok.bs,ok.bsz,ok.noex,ok.exfs,ok.iJ,ok.frf⟩
section
variable {X:Cx} {pins:List (Addr×Obj)} {σ:St} {H:Hp} {s:Shared} {E:Value->Shared->Prop}
theorem Inv.fy(I:Inv X pins σ H s)(E:Value->Shared->Prop):Inv (X.fy E) pins σ H s:=⟨I.ok.fy E,I.os,I.bare,I.base,I.loc,I.cell,I.free,I.freeC,I.pin,I.hok,I.len⟩
theorem Inv.cB(I:Inv (X.fy E) pins σ H s):Inv X pins σ H s:=⟨I.ok.cB,I.os,I.bare,I.base,I.loc,I.cell,I.free,I.freeC,I.pin,I.hok,I.len⟩
theorem SP.cB{D:Ends}{f:Flow}{s':Shared}(h:SP (X.fy E) pins D f s'):SP X pins D f s':=by
 cases f with
 | next=>obtain⟨σ',H',I,q⟩:=h;exact⟨σ',H',I.cB,q⟩
 | brk=>obtain⟨σ',H',I,q⟩:=h;exact⟨σ',H',I.cB,q⟩
 | cont=>obtain⟨σ',H',I,q⟩:=h;exact⟨σ',H',I.cB,q⟩
 | ret u=>obtain⟨v,σ',H',I,r,q⟩:=h;exact⟨v,σ',H',I.cB,r,q⟩
theorem jk.Ge{st:List Stmt}{t:TS}(h:jk X.Ge st t):jk X st t:=λpins s σ H D I hw =>
 Ny (h pins s σ H D (I.fy _) hw) (λ_ _ q=>q.cB) λ_ _ z=>False.elim z
end
section
variable {X:Cx} {st:Stmt} {rest:List Stmt} {t u:TS} {e:Expr} {te:TE} {pos:Pos}
def Ai:TS:=λD σ H=>D.nx σ H
def Br(t u:TS):TS:=λD σ H=>t {D with nx:=u D} σ H
theorem js:jk X [] Ai:=λ_ _ σ H _ I h=>N3 ⟨σ,H,I,h⟩
theorem qK(h1:PS X st t)(h2:jk X rest u):jk X (st::rest) (Br t u):=by
 intro pins s σ H D I h;refine OA (bA (h1 pins s σ H {D with nx:=u D} I h) λf s1 q=>?_)
 cases f with
 | next =>
  obtain⟨σ',H',I',q⟩:=q;exact h2 pins s1 σ' H' D I' q
 | ret v=>exact q
 | brk=>exact q
 | cont=>exact q
theorem qO(h1:PS X st t):jk X [st] t:=by
 intro pins s σ H D I h;refine OA (bA (h1 pins s σ H D I h) λf s1 q=>?_)
 cases f with
 | next=>exact N3 q
 | ret v=>exact q
 | brk=>exact q
 | cont=>exact q
theorem Inv.quiet{pins:List (Addr×Obj)}{σ:St}{H:Hp}{s:Shared}(I:Inv X pins σ H s):interactive X.env=false:=by simp[interactive,I.ok.kind]
def D2(te:TE):TS:=λD σ H=>te σ H λ_ H1=>D.nx σ H1
theorem lO(he:PE X e te)(hs:swapsWith e none pos.line X.env=pure false:=by rfl):PS X (.Expr e pos) (D2 te):=by
 intro pins s σ H D I h;exact wpAny_Expr_any (bA (he pins s σ H _ I h) λv s1 ⟨x,H1,I1,r1,q1⟩=>⟨σ,H1,I1,q1⟩) I.quiet hs
def GG(te:TE):TS:=λD σ H=>te σ H D.rt
theorem eM(he:PE X e te):PS X (.Return (some e) pos) (GG te):=by
 intro pins s σ H D I h;exact wpAny_Return_some (bA (he pins s σ H _ I h) λv s1 ⟨x,H1,I1,r1,q1⟩=>⟨x,σ,H1,I1,r1,q1⟩)
def GH(c:TT)(t u:TS):TS:=λD σ H=>c σ H λb H1=>if b=true then t D σ H1 else u D σ H1
theorem qs{c:Expr}{a b:List Stmt}{tc:TT}(hc:PT X c tc)(ha:jk X a t)(hb:jk X b u):PS X (.If c a b pos) (GH tc t u):=by
 intro pins s σ H D I h;refine wpAny_If (bA (hc pins s σ H _ I h) λd s1 ⟨H1,I1,q1⟩=>?_)
 cases d with
 | true=>exact ha pins s1 σ H1 D I1 q1
 | false=>exact hb pins s1 σ H1 D I1 q1
def Bs:TS:=λ_ _ _=>False
theorem eG:PS X st Bs:=λ_ _ _ _ _ _ h=>h.elim
end
abbrev TG:=V->St->Hp->(St->Hp->Prop)->Prop
abbrev rO:=List V->St->Hp->(St->Hp->Prop)->Prop
def PG(X:Cx)(target:Expr)(t:TG):Prop :=
 ∀(pins:List (Addr×Obj)) (s:Shared) (σ:St) (H:Hp) (v:V) (u:Value) (Q:St->Hp->Prop),Inv X pins σ H s->RelV v u->t v σ H Q ->
  wpAny (model X.prog X.w) X.A (assign target X.env u) (λ_ s'=>∃σ' H',Inv X pins σ' H' s'/\Q σ' H') X.xe s
def D3(X:Cx)(ts:List Expr)(t:rO):Prop :=
 ∀(pins:List (Addr×Obj)) (s:Shared) (σ:St) (H:Hp) (vs:List V) (us:List Value) (Q:St->Hp->Prop),Inv X pins σ H s->Vals vs us->t vs σ H Q ->
  wpAny (model X.prog X.w) X.A (assignInOrder ((assignEach ts X.env).map (·.2)) us) (λ_ s'=>∃σ' H',Inv X pins σ' H' s'/\Q σ' H') X.xe s
section
variable {X:Cx} {pos:Pos}
def kX(i:Nat):TG:=λv σ H Q=>Q (σ.set i (some v)) H
theorem bO{i:Nat}{x:Str}(hN:X.N.Nodup)(hi:X.N[i]?=some x)(hx:Loc X.env.scope x)(hf:X.fn x=true∨X.env.scope.names.lookup x=some .local:=by first | exact .inl rfl | exact .inr rfl | assumption):PG X (.Name x pos) (kX i):=by
 intro pins s σ H v u Q I r h;exact wpAny_assign_Name (jy I hN hi hx r (λs' I'=>⟨_,H,I',h⟩) hf)
def Bt:rO:=λvs σ H Q=>vs=[]/\Q σ H
def t6(t:TG)(u:rO):rO:=λvs σ H Q=>∃v r,vs=v::r/\t v σ H λσ' H'=>u r σ' H' Q
theorem qt:D3 X [] Bt:=by
 intro pins s σ H vs us Q I r h;obtain⟨e,h⟩:=h;subst e;cases r;exact assignInOrder_nil ⟨σ,H,I,h⟩
theorem jA{e:Expr}{es:List Expr}{t:TG}{u:rO}(h1:PG X e t)(h2:D3 X es u)
  (hs:(assignEach (e::es) X.env).map (·.2)=assign e X.env::(assignEach es X.env).map (·.2):=by rfl):D3 X (e::es) (t6 t u):=by
 intro pins s σ H vs us Q I r h;obtain⟨v,vr,e1,h⟩:=h;subst e1
 cases r with
 | cons r rr =>
  rw[hs];refine assignInOrder_cons (bA (h1 pins s σ H _ _ _ I r h) λ_ s1 ⟨σ1,H1,I1,q1⟩=>?_);exact h2 pins s1 σ1 H1 _ _ Q I1 rr q1
def Bu(K:aC)(n:Nat)(t:rO):TG:=λv σ H Q=>∃a xs,v=.ref a/\dY K H a xs/\xs.length=n/\t xs σ H Q
theorem t7{es:List Expr}{k:Nat}{t:rO}{n:Nat}(hc:X.calm=true)(h:D3 X es t)
  (hn:(assignEach es X.env).length=n:=by rfl) (hst:(assignEach es X.env).findIdx? (·.1)=none:=by rfl):PG X (.Tuple es k pos) (Bu X.K n t):=by
 intro pins s σ H v u Q I r hw;obtain⟨a,xs,e1,hq,hl,hw⟩:=hw;subst e1;cases r;obtain⟨its,rv,ht,hz⟩:=I.tuple hq;refine assign_Tuple_tuple (I.ok.hd hc) ht (by simp[hn,← hl,rv.length]) hst λh' hx=>?_
 have I1:Inv X pins σ H {s with heap:=h'}:=I.kept (t':=s.toks) λb o e=>hx b o (Na (M5 e)) e
 exact h pins _ σ H xs _ Q I1 (by simpa using rv) hw
def xu(te:TE)(g:TG):TS:=λD σ H=>te σ H λx H1=>g x σ H1 D.nx
theorem Bv{tg e:Expr}{te:TE}{g:TG}(he:PE X e te)(hg:PG X tg g)(hs:swapsWithSole [tg] e pos.line X.env=pure false:=by rfl)(hw:swappedStores [tg] e X.env=pure none:=by rfl)
  (h1:(assignEach [tg] X.env).map (·.2)=[assign tg X.env]:=by rfl):PS X (.Assign [tg] e pos) (xu te g):=by
 intro pins s σ H D I h;refine wpAny_Assign_stores (bA (he pins s σ H _ I h) λv s1 ⟨x,H1,I1,r1,q1⟩=>?_) hs hw;rw[h1];exact bA (hg pins s1 σ H1 x v _ I1 r1 q1) λ_ s2 q=>q
theorem fz{i:Nat}{x:Str}{e:Expr}{te:TE}{pos':Pos}(hN:X.N.Nodup)(hi:X.N[i]?=some x)(hx:Loc X.env.scope x)(he:PE X e te)(hs:swapsWith e (some (.Name x pos')) pos.line X.env=pure false:=by rfl)(hf:X.fn x=true∨X.env.scope.names.lookup x=some .local:=by first | exact .inl rfl | exact .inr rfl | assumption):
  PS X (.Assign [.Name x pos'] e pos) (xu te (kX i)):=by
 intro pins s σ H D I h;refine wpAny_Assign_Name (bA (he pins s σ H _ I h) λv s1 ⟨y,H1,I1,r1,q1⟩=>?_) hs;exact jy I1 hN hi hx r1 (λs2 I2=>⟨_,H1,I2,q1⟩) hf
end
section
variable {X:Cx} {pos:Pos}
end
structure It where
 go:Nat->Hp->Prop
 yld:Nat->Hp->V->Hp->Prop
 stop:Nat->Hp->Prop
def gY(X:Cx)(pins:List (Addr×Obj))(H:Hp)(b:Addr):Prop :=
 H b=none/\b≠X.env.locals/\b∉X.fs/\(b∈X.ex∨X.s₀.heap.objs.size<=b)/\(∀x c,X.env.cells.lookup x=some c->c≠b)/\∀p∈X.pn++pins,p.1≠b
theorem Inv.xv{X:Cx}{pins:List (Addr×Obj)}{σ:St}{H H':Hp}{s:Shared}{b:Addr}(I:Inv X pins σ H s)(hb:s.heap.objs.size<=b)(hn:H' b=none):gY X pins H' b:=by
 refine⟨hn,Nw (M6 I.lt hb),I.GC hb,.inr (Nr I.sz hb),λx c e z=>?_,λp hp z=>?_⟩
 ·obtain⟨v,q⟩:=I.cell x c e;exact absurd (M6 q.lt (by rw[z];exact hb)) (NC _)
 ·exact absurd (M6 (M5 (I.pin p hp).1) (by rw[z];exact hb)) (NC _)
structure Turn(P:Program)(w:World)(K:aC)(tg:Expr)(J:It)(fp:List Addr)(it:Addr)(tn:Nat->Heap->Prop):Prop where
 mem:it∈fp
 obj:∀i h,tn i h->∀b∈fp,∃o,h.get? b=some o/\∀v,o.data≠.cell v
 keep:∀i h h',tn i h->(∀b∈fp,∀o,h.get? b=some o->h'.get? b=some o)->tn i h'
 item:∀(X:Cx),X.prog=P->X.w=w->X.K=K->X.calm=true->∀(i:Nat) (pins:List (Addr×Obj)) (s:Shared) (σ:St) (H:Hp) (E:Value->Shared->Prop),Inv X pins σ H s->(∀b∈fp,gY X pins H b)->tn i s.heap->J.go i H ->
  wpAny (model P w) X.A (pyNext (.ref it)) (λr s1=>∃u,r=some u /\
   wpAny (model P w) X.A (letOwnedTupleGo tg (.ref it) u) (λ_ s2=>∃x H',Inv X pins σ H' s2/\RelV x u/\J.yld i H x H'/\tn (i + 1) s2.heap/\∀b∈fp,H' b=none) E s1) E s
 done:∀(X:Cx),X.prog=P->X.w=w->X.K=K->X.calm=true->∀(i:Nat) (pins:List (Addr×Obj)) (s:Shared) (σ:St) (H:Hp) (E:Value->Shared->Prop),Inv X pins σ H s->(∀b∈fp,gY X pins H b)->tn i s.heap->J.stop i H ->
  wpAny (model P w) X.A (pyNext (.ref it)) (λr s1=>r=none/\Inv X pins σ H s1) E s
 self:∀(A:Around) (i:Nat) (s:Shared) (Q:Value->Shared->Prop) (E:Value->Shared->Prop),tn i s.heap->Q (.ref it) s->wpAny (model P w) A (pyIter (.ref it)) Q E s
abbrev TI:=St->Hp->(It->Hp->Prop)->Prop
def IV(X:Cx)(pins:List (Addr×Obj))(σ:St)(tg:Expr)(R:It->Hp->Prop)(itv:Value)(s2:Shared):Prop :=
 ∃(it:Addr) (fp:List Addr) (tn:Nat->Heap->Prop) (J:It) (H':Hp),itv=.ref it/\Inv X pins σ H' s2/\Turn X.prog X.w X.K tg J fp it tn/\tn 0 s2.heap/\(∀b∈fp,gY X pins H' b)/\R J H'
def PI(X:Cx)(tg iter:Expr)(wi:TI):Prop :=
 ∀(pins:List (Addr×Obj)) (s:Shared) (σ:St) (H:Hp) (R:It->Hp->Prop),Inv X pins σ H s->wi σ H R ->
  wpAny (model X.prog X.w) X.A (eval iter X.env) (λv s1=>wpAny (model X.prog X.w) X.A (pyIter v) (IV X pins σ tg R) X.xe s1) X.xe s
theorem t8{M:Model}{A:Around}{E:Value->Shared->Prop}{s:Shared}{tg:Expr}{it:Addr}{u:Value}{o:Obj}{n:String}{vs:Array Value}{Q:Unit->Shared->Prop}(ho:s.heap.get? it=some o)(hc:o.cls=.type n)(hd:o.data=.fields vs)
  (hn:["enumerate","zip","dict_itemiterator","dict_reverseitemiterator","odict_iterator","itertools.zip_longest","itertools.pairwise"].contains n=false) (hQ:Q () s):wpAny M A (letOwnedTupleGo tg (.ref it) u) Q E s:=by
 unfold letOwnedTupleGo;cases tg<;>first
  | exact M9 hQ
  | (cases u<;>first
    | exact M9 hQ
    | (refine M7 (wpAny_load ho ?_)
       rw[hc,hd];show wpAny M A (if (["enumerate","zip","dict_itemiterator","dict_reverseitemiterator","odict_iterator","itertools.zip_longest","itertools.pairwise"].contains n&&vs[0]? == some (rawInt _))=true then _ else _) Q E s;rw[Nu (by intro h;rw[hn,Bool.false_and]at h;cases h)];exact M9 hQ))
def Aj(K:aC)(a:Addr):It :=
 ⟨λi H=>∃xs x,cy K H a xs/\xs[i]?=some x,λi H x H'=>H'=H/\∀xs,cy K H a xs->xs[i]?=some x,λi H=>∃xs,cy K H a xs/\xs.length<=i⟩
def GI(K:aC)(a:Addr):It :=
 ⟨λi H=>∃xs x,dY K H a xs/\xs[i]?=some x,λi H x H'=>H'=H/\∀xs,dY K H a xs->xs[i]?=some x,λi H=>∃xs,dY K H a xs/\xs.length<=i⟩
def Gf(lo:Int)(n:Nat):It:=⟨λi _=>i < n,λi H x H'=>H'=H/\x=.int (lo + i),λi _=>n<=i⟩
theorem kY{P:Program}{w:World}{K:aC}{tg:Expr}(a it:Addr):Turn P w K tg (Aj K a) [it] it (λi h=>h.IsListIter it a i) where
 mem:=by simp
 obj:=λi h st b hb=>by
  have e:b=it:=by simpa using hb
  subst e;obtain⟨o,e,c,d⟩:=st;exact⟨o,e,λv z=>by rw[d]at z;cases z⟩
 keep:=λi h h' st k=>st.at λo e=>k it (by simp) o e
 item:=by
  intro X hP hw hK hc i pins s σ H E I hf st hg;subst hP hw hK;obtain⟨xs,x,hq,hx⟩:=hg;obtain⟨its,rv,p,hz⟩:=I.list hq;obtain⟨u,hu,ru⟩:=rv.get hx;obtain⟨f0,f1,f2,f3,f4,f5⟩:=hf it (by simp);refine wpAny_pyNext_list_item st p.isList (x:=u) (by simpa using hu) λh' st' sb=>?_
  have I1:Inv X pins σ H {s with heap:=h'}:=I.turned (t':=s.toks) (λb o hb e=>(sb.2 b hb).trans e) f0 f1 f3 f4 f5;obtain⟨o,e,c,d⟩:=id st';exact⟨u,rfl,t8 (s:={s with heap:=h'}) e c d (by decide) ⟨x,H,I1,ru,⟨rfl,λys hy=>by rw[I.tZ hy hq];exact hx⟩,st',λb hb=>(hf b hb).1⟩⟩
 done:=by
  intro X hP hw hK hc i pins s σ H E I hf st hg;subst hP hw hK;obtain⟨xs,hq,hx⟩:=hg;obtain⟨its,rv,p,hz⟩:=I.list hq;obtain⟨f0,f1,f2,f3,f4,f5⟩:=hf it (by simp);have hl:=rv.length;exact wpAny_pyNext_list_end (I.ok.hd hc) st p.isList (by simp;omega) λh' eb=>⟨rfl,I.turned (t':=s.toks) (λb o hb e=>eb b o hb e) f0 f1 f3 f4 f5⟩
 self:=λ_ _ _ _ _ st h=>wpAny_pyIter_listiter st h
theorem oV{P:Program}{w:World}{K:aC}{tg:Expr}(a it:Addr):Turn P w K tg (GI K a) [it] it (λi h=>h.IsTupleIter it a i) where
 mem:=by simp
 obj:=λi h st b hb=>by
  have e:b=it:=by simpa using hb
  subst e;obtain⟨o,e,c,d⟩:=st;exact⟨o,e,λv z=>by rw[d]at z;cases z⟩
 keep:=λi h h' st k=>st.at λo e=>k it (by simp) o e
 item:=by
  intro X hP hw hK hc i pins s σ H E I hf st hg;subst hP hw hK;obtain⟨xs,x,hq,hx⟩:=hg;obtain⟨its,rv,p,hz⟩:=I.tuple hq;obtain⟨u,hu,ru⟩:=rv.get hx;obtain⟨f0,f1,f2,f3,f4,f5⟩:=hf it (by simp);refine wpAny_pyNext_tuple_item st (show s.heap.IsTuple a its.toArray from p) (x:=u) (by simpa using hu) λh' st' sb=>?_
  have I1:Inv X pins σ H {s with heap:=h'}:=I.turned (t':=s.toks) (λb o hb e=>(sb.2 b hb).trans e) f0 f1 f3 f4 f5;obtain⟨o,e,c,d⟩:=id st';exact⟨u,rfl,t8 (s:={s with heap:=h'}) e c d (by decide) ⟨x,H,I1,ru,⟨rfl,λys hy=>by rw[I.rN hy hq];exact hx⟩,st',λb hb=>(hf b hb).1⟩⟩
 done:=by
  intro X hP hw hK hc i pins s σ H E I hf st hg;subst hP hw hK;obtain⟨xs,hq,hx⟩:=hg;obtain⟨its,rv,p,hz⟩:=I.tuple hq;obtain⟨f0,f1,f2,f3,f4,f5⟩:=hf it (by simp);have hl:=rv.length;exact wpAny_pyNext_tuple_end (I.ok.hd hc) st (show s.heap.IsTuple a its.toArray from p) (by simp;omega) λh' eb=>⟨rfl,I.turned (t':=s.toks) (λb o hb e=>eb b o hb e) f0 f1 f3 f4 f5⟩
 self:=λ_ _ _ _ _ st h=>wpAny_pyIter_tupleiter st h
theorem oW{P:Program}{w:World}{K:aC}{tg:Expr}(it:Addr)(lo:Int)(n:Nat):Turn P w K tg (Gf lo n) [it] it (λi h=>IsRangeIter h it (lo + (i:Nat) * 1) ((n:Int) - (i:Nat)) 1) where
 mem:=by simp
 obj:=λi h st b hb=>by
  have e:b=it:=by simpa using hb
  subst e
  exact⟨_,st,λv z=>by
   have z':Data.fields _=Data.cell v:=z;cases z'⟩
 keep:=λi h h' st k=>k it (by simp) _ st
 item:=by
  intro X hP hw hK hc i pins s σ H E I hf st hg;subst hP hw hK;obtain⟨f0,f1,f2,f3,f4,f5⟩:=hf it (by simp);have W:=Walks.range (prog:=X.prog) (w:=X.w) (I.ok.hd hc) it lo 1 n;refine W.item i s _ _ hg st λv h' tk hv st' kk=>?_
  obtain⟨t,rfl⟩:=hv;have I1:Inv X pins σ H {s with heap:=h',toks:=tk}:=I.turned (λb o hb e=>kk b o (by simpa using hb) e) f0 f1 f3 f4 f5;refine⟨_,rfl,t8 (s:={s with heap:=h',toks:=tk}) (n:="range_iterator") st' rfl rfl (by decide) ⟨.int (lo + i),H,I1,⟨t,?_⟩,⟨rfl,rfl⟩,st',λb hb=>(hf b hb).1⟩⟩;rw[Int.mul_one]
 done:=by
  intro X hP hw hK hc i pins s σ H E I hf st hg;subst hP hw hK;obtain⟨f0,f1,f2,f3,f4,f5⟩:=hf it (by simp);exact wpAny_pyNext_range_end (I.ok.hd hc) st (by have:n<=i:=hg;omega) λh' eb=>⟨rfl,I.turned (t':=s.toks) (λb o hb e=>eb b o hb e) f0 f1 f3 f4 f5⟩
 self:=λ_ _ _ _ _ st h=>wpAny_pyIter_rangeiter st h
section
variable {X:Cx} {tg:Expr}
def D4(K:aC)(tl:TE):TI:=λσ H R=>tl σ H λx H1=>∃a,x=.ref a/\(∃xs,cy K H1 a xs)/\R (Aj K a) H1
theorem jt{l:Expr}{tl:TE}(hl:PE X l tl):PI X tg l (D4 X.K tl):=by
 intro pins s σ H R I h;refine bA (hl pins s σ H _ I h) λv s1 ⟨x,H1,I1,r1,q1⟩=>?_
 obtain⟨a,e,⟨xs,hq⟩,q⟩:=q1;subst e;cases r1;obtain⟨its,rv,p,hz⟩:=I1.list hq;refine wpAny_pyIter_list p.isList ?_;refine⟨s1.heap.objs.size,[s1.heap.objs.size],_,_,H1,rfl,I1.kept (t':=s1.toks) λb o e=>Heap.get?_push_of_some _ e,kY a _,⟨_,Heap.get?_push_size _ rfl,rfl,rfl⟩,λb hb=>?_,q⟩;have e:b=s1.heap.objs.size:=by simpa using hb
 subst e;exact I1.xv (Nf _) (I1.hok.fresh (Nf _))
theorem t9{pins:List (Addr×Obj)}{σ:St}{H:Hp}{s:Shared}{R:It->Hp->Prop}{E:Value->Shared->Prop}{lo hi:Int}{t u v:Tok}{tk:Nat}(I:Inv X pins σ H s)(h1:-(2 ^ 62)<=lo)(h2:lo < 2 ^ 62)(h3:-(2 ^ 62)<=hi)(h4:hi < 2 ^ 62)
  (q:R (Gf lo (hi - lo).toNat) H):wpAny (model X.prog X.w) X.A (pyIter (.ref s.heap.objs.size)) (IV X pins σ tg R) E {s with heap:=s.heap.push {cls:=.type "range",data:=.fields #[.int lo t,.int hi u,.int 1 v]},toks:=tk}:=by
 refine wpAny_pyIter_range (IsRange.new ..) (small_one h1 h2 h3 h4) ?_;have I1:Inv X pins σ H {s with heap:=s.heap.push {cls:=.type "range",data:=.fields #[.int lo t,.int hi u,.int 1 v]},toks:=tk}:=I.kept λb o e=>M4 _ e
 refine⟨(s.heap.push {cls:=.type "range",data:=.fields #[.int lo t,.int hi u,.int 1 v]}).objs.size,[(s.heap.push {cls:=.type "range",data:=.fields #[.int lo t,.int hi u,.int 1 v]}).objs.size],_,_,H,rfl,
  I1.kept (t':=tk) λb o e=>M4 _ e,oW _ lo (hi - lo).toNat,?_,λb hb=>?_,q⟩
 ·have e1:lo + ((0:Nat):Int) * 1=lo:=by simp
  have e2:(((hi - lo).toNat:Nat):Int) - ((0:Nat):Int)=Builtin.Range.rangeSize lo hi 1:=by rw[rangeSize_one];split<;>omega
  show IsRangeIter _ _ (lo + ((0:Nat):Int) * 1) ((((hi - lo).toNat:Nat):Int) - ((0:Nat):Int)) 1;rw[e1,e2];exact Ng _ rfl
 ·have e:b=(s.heap.push {cls:=.type "range",data:=.fields #[.int lo t,.int hi u,.int 1 v]}).objs.size:=by simpa using hb
  subst e;exact I1.xv (Nf _) (I1.hok.fresh (Nf _))
def D5(ta:TA):TI:=λσ H R=>ta σ H λvs H1=>∃j:Int,vs=[.int j]/\-(2 ^ 62)<=j/\j < 2 ^ 62/\R (Gf 0 j.toNat) H1
theorem rP{a:Expr}{ta:TA}{p pos:Pos}(hg:Gl X "range")(hm:X.mg "range"=none)(ha:PA X [a] ta)(hs:starEach [a] X.env=[(false,eval a X.env)]:=by rfl):PI X tg (.Call (.Name "range" p) [a] [] pos) (D5 ta):=by
 intro pins s σ H R I h;refine Call_ (gp I hg hm boot_range (NB (bA (ha pos pins s σ H _ I h) λus s1 ⟨vs,H1,I1,r1,q1⟩=>?_) hs rfl));obtain⟨j,e,q1,q2,q⟩:=q1;subst e
 cases r1 with
 | cons r rr =>
  cases rr;obtain⟨t,rfl⟩:=r;exact call_range_1 (t9 I1 (by omega) (by omega) q1 q2 (by simpa using q))
def GJ(wi:TI)(g:TG)(tb:TS):TS:=λD σ H=>wi σ H λJ H1=>∃W:Nat->Nat->St->Hp->Prop,(∃m,W 0 m σ H1)/\∀i m σ H,W i m σ H ->
 (J.stop i H/\D.nx σ H)∨(J.go i H/\∃N:St->Hp->Prop,(∀σ' H',N σ' H'->∃m',m' < m/\W (i + 1) m' σ' H')/\∀x H',J.yld i H x H'->g x σ H' λσ2 H2=>tb {D with nx:=N,ct:=N,bk:=D.nx} σ2 H2)
def jB(fp:List Addr)(h:Heap):List (Addr×Obj):=fp.filterMap λb=>(h.get? b).map λo=>(b,o)
theorem eN{fp:List Addr}{h:Heap}{b:Addr}{o:Obj}(hb:b∈fp)(e:h.get? b=some o):(b,o)∈jB fp h:=Ol.mpr ⟨b,hb,by rw[e];rfl⟩
theorem rQ{fp:List Addr}{h:Heap}{p:Addr×Obj}(hp:p∈jB fp h):p.1∈fp/\h.get? p.1=some p.2:=by
 obtain⟨b,hb,e⟩:=Ol.mp hp
 cases q:h.get? b with
 | none=>rw[q]at e;cases e
 | some o =>
  rw[q]at e;have e':(b,o)=p:=Np e;subst e';exact⟨hb,q⟩
theorem Inv.pinned{pins:List (Addr×Obj)}{σ:St}{H:Hp}{s:Shared}{fp:List Addr}(I:Inv X pins σ H s)(hf:∀b∈fp,gY X pins H b)(ho:∀b∈fp,∃o,s.heap.get? b=some o/\∀v,o.data≠.cell v):Inv X (pins++jB fp s.heap) σ H s :=
 I.qq λp hp=>(NU.mp hp).elim (λz=>I.pin p (Nt _ z)) λz=>by
  obtain⟨hb,e⟩:=rQ z;obtain⟨f0,f1,f2,_⟩:=hf p.1 hb;obtain⟨o,e',d⟩:=ho p.1 hb;rw[e]at e';cases e';exact⟨e,f0,f1,f2,d⟩
theorem Inv.gZ{pins pl:List (Addr×Obj)}{σ:St}{H:Hp}{s:Shared}(I:Inv X (pins++pl) σ H s):Inv X pins σ H s:=I.qq λp hp=>I.pin p (Nt _ (List.mem_append_left _ hp))
theorem oX{iter:Expr}{body:List Stmt}{wi:TI}{g:TG}{tb:TS}{pos:Pos}(hp:PassesOwn (model X.prog X.w) X.A X.env X.xe)(hc:X.calm=true)(hi:PI X tg iter wi)(hg:PG X tg g)(hb:jk X body tb)
  (hs:∀x,foldedSetIterable iter X.env x=pure x:=by intro _;rfl):PS X (.For tg iter body [] pos) (GJ wi g tb):=by
 intro pins s σ H D I h;refine wpAny_For (bA (hi pins s σ H _ I h) λv s1 h1=>bA h1 λitv s2 h2=>?_) hs;obtain⟨it,fp,tn,J,H2,e,I2,T,bo,f2,W,⟨m0,w0⟩,turn⟩:=h2;subst e;have stat:∀{H':Hp},(∀b∈fp,H' b=none)->∀b∈fp,gY X pins H' b:=λhn b hb=>⟨hn b hb,(f2 b hb).2⟩
 refine codeAny_forLoop_any (λn s'=>∃i σ' H',Inv X pins σ' H' s'/\tn i s'.heap/\(∀b∈fp,H' b=none)/\W i n σ' H') ?_ m0 ⟨0,σ,H2,I2,bo,λb hb=>(f2 b hb).1,w0⟩;rintro n s3 ⟨i,σ3,H3,I3,gf,IW,w3⟩;rcases turn i n σ3 H3 w3 with⟨stop,qn⟩ | ⟨go,N,hN,step⟩
 ·refine N4 hp (bA (T.done X rfl rfl rfl hc i pins s3 σ3 H3 X.xe I3 (stat IW) gf stop) λr s4 ⟨hr,I4⟩=>?_);subst hr;exact N3 ⟨σ3,H3,I4,qn⟩
 ·refine N4 hp (bA (T.item X rfl rfl rfl hc i pins s3 σ3 H3 X.xe I3 (stat IW) gf go) λr s4 ⟨u,hr,h4⟩=>?_);subst hr;refine N4 hp (bA h4 λ_ s5 ⟨x,H5,I5,r5,y5,oY,Gg⟩=>?_);have I5':=I5.pinned (stat Gg) (T.obj _ _ oY);refine N4 hp (bA (hg _ s5 σ3 H5 x u _ I5' r5 (step x H5 y5)) λ_ s6 ⟨σ6,H6,I6,q6⟩=>?_);refine N4 hp (bA (hb _ s6 σ6 H6 _ I6 q6) λf s7 q7=>?_)
  have again:∀{σ7:St} {H7:Hp},Inv X (pins++jB fp s5.heap) σ7 H7 s7->N σ7 H7->∃m,m < n/\∃i σ' H',Inv X pins σ' H' s7/\tn i s7.heap/\(∀b∈fp,H' b=none)/\W i m σ' H':=λ{σ7 H7} I7 n7=>by
   obtain⟨m',hm,w7⟩:=hN σ7 H7 n7;refine⟨m',hm,i + 1,σ7,H7,I7.gZ,T.keep _ _ _ oY λb hb o e=>(I7.pin (b,o) (Nt _ (Nt _ (eN hb e)))).1,λb hb=>?_,w7⟩;obtain⟨o,e,d⟩:=T.obj _ _ oY b hb;exact(I7.pin (b,o) (Nt _ (Nt _ (eN hb e)))).2.1
  cases f with
  | next=>obtain⟨σ7,H7,I7,n7⟩:=q7;exact again I7 n7
  | cont=>obtain⟨σ7,H7,I7,n7⟩:=q7;exact again I7 n7
  | brk=>obtain⟨σ7,H7,I7,q7⟩:=q7;exact⟨σ7,H7,I7.gZ,q7⟩
  | ret v=>obtain⟨x7,σ7,H7,I7,r7,q7⟩:=q7;exact⟨x7,σ7,H7,I7.gZ,r7,q7⟩
end
theorem nA{K:aC}{a:Addr}{xs:List V}{g:TG}{tb:TS}{D:Ends}{σ:St}{H:Hp}(Pv:Nat->St->Hp->Prop)(h0:Pv 0 σ H)(hl:∀i σ H,i<=xs.length->Pv i σ H->cy K H a xs)
  (hs:∀i x σ H,xs[i]?=some x->Pv i σ H->g x σ H λσ2 H2=>tb {D with nx:=Pv (i + 1),ct:=Pv (i + 1),bk:=D.nx} σ2 H2) (hd:∀σ H,Pv xs.length σ H->D.nx σ H) :
  ∃W:Nat->Nat->St->Hp->Prop,(∃m,W 0 m σ H)/\∀i m σ H,W i m σ H ->
   ((Aj K a).stop i H/\D.nx σ H)∨((Aj K a).go i H/\∃N:St->Hp->Prop,(∀σ' H',N σ' H'->∃m',m' < m/\W (i + 1) m' σ' H')/\∀x H',(Aj K a).yld i H x H'->g x σ H' λσ2 H2=>tb {D with nx:=N,ct:=N,bk:=D.nx} σ2 H2):=by
 refine⟨λi m σ H=>m=xs.length - i/\i<=xs.length/\Pv i σ H,⟨xs.length,by simp,Nat.zero_le _,h0⟩,?_⟩;rintro i m σ H ⟨rfl,hi,p⟩;have q:=hl i σ H hi p;by_cases hlt:i < xs.length
 ·refine .inr ⟨⟨xs,xs[i],q,by simp[hlt]⟩,Pv (i + 1),λσ' H' p'=>⟨xs.length - (i + 1),by omega,rfl,hlt,p'⟩,λx H' y=>?_⟩;obtain⟨e,y⟩:=y;subst e;exact hs i x σ _ (y xs q) p
 ·have e:i=xs.length:=by omega
  subst e;exact .inl ⟨⟨xs,q,Nf _⟩,hd σ H p⟩
abbrev R2:=V->V->Hp->VK->Prop
def fq(X:Cx)(f:Value->Value->Sem Value)(r:R2):Prop :=
 ∀(pins:List (Addr×Obj)) (s:Shared) (σ:St) (H:Hp) (x y:V) (v u:Value) (Q:VK),Inv X pins σ H s->RelV x v->RelV y u->r x y H Q ->
  wpAny (model X.prog X.w) X.A (f v u) (EP X pins σ Q) X.xe s
def GK(X:Cx)(f:Value->Sem Value)(r:V->Hp->VK->Prop):Prop :=
 ∀(pins:List (Addr×Obj)) (s:Shared) (σ:St) (H:Hp) (x:V) (v:Value) (Q:VK),Inv X pins σ H s->RelV x v->r x H Q ->
  wpAny (model X.prog X.w) X.A (f v) (EP X pins σ Q) X.xe s
def c9(X:Cx)(f:Value)(r:List V->Hp->VK->Prop):Prop :=
 ∀(pins:List (Addr×Obj)) (s:Shared) (σ:St) (H:Hp) (xs:List V) (us:List Value) (Q:VK),Inv X pins σ H s->Vals xs us->r xs H Q ->
  wpAny (model X.prog X.w) X.A (call f us) (EP X pins σ Q) X.xe s
def D6(r:R2)(ta tb:TE):TE:=λσ H Q=>ta σ H λx H1=>tb σ H1 λy H2=>r x y H2 Q
def Kv(r:V->Hp->VK->Prop)(ta:TE):TE:=λσ H Q=>ta σ H λx H1=>r x H1 Q
def rI(C:Int->Int->Prop)(g:Int->Int->V):R2:=λx y H Q=>∃i j,x=.int i/\y=.int j/\C i j/\Q (g i j) H
def xw(g:Int->Int->V):R2:=λx y H Q=>∃i j,x=.int i/\y=.int j/\Q (g i j) H
def rU(g:Int->V):V->Hp->VK->Prop:=λx H Q=>∃i,x=.int i/\Q (g i) H
section
variable {X:Cx} {a b c:Expr} {ta tb tc:TE} {pos:Pos}
theorem Bw(ha:PE X a ta)(hb:PE X b tb){pins:List (Addr×Obj)}{s:Shared}{σ:St}{H:Hp}{R:V->V->Hp->Prop}(I:Inv X pins σ H s)
  (h:ta σ H λx H1=>tb σ H1 λy H2=>R x y H2) {Q:Value->Shared->Prop} {f:Value->Value->Sem Value}
  (hf:∀v u s2 x y H2,Inv X pins σ H2 s2->RelV x v->RelV y u->R x y H2->wpAny (model X.prog X.w) X.A (f v u) Q X.xe s2) :
  wpAny (model X.prog X.w) X.A (eval a X.env) (λv s₁=>wpAny (model X.prog X.w) X.A (eval b X.env) (λu s₂=>wpAny (model X.prog X.w) X.A (f v u) Q X.xe s₂) X.xe s₁) X.xe s:=by
 refine bA (ha pins s σ H _ I h) λv s1 ⟨x,H1,I1,r1,q1⟩=>?_
 refine bA (hb pins s1 σ H1 _ I1 q1) λu s2 ⟨y,H2,I2,r2,q2⟩=>?_
 exact hf v u s2 x y H2 I2 r1 r2 q2
theorem g7{op:Operator}{r:R2}(ho:fq X (binaryOp op) r)(ha:PE X a ta)(hb:PE X b tb):PE X (.BinOp a op b pos) (D6 r ta tb):=by
 intro pins s σ H Q I h;exact wpAny_BinOp (Bw ha hb I h λv u s2 x y H2 I2 rx ry q=>ho pins s2 σ H2 x y v u Q I2 rx ry q)
theorem D7{op:UnaryOp}{r:V->Hp->VK->Prop}(ho:GK X (unaryOp op) r)(ha:PE X a ta):PE X (.UnaryOp op a pos) (Kv r ta):=by
 intro pins s σ H Q I h;exact UnaryOp_ (bA (ha pins s σ H _ I h) λv s1 ⟨x,H1,I1,r1,q1⟩=>ho pins s1 σ H1 x v Q I1 r1 q1)
theorem DG{f:Value->Value->Sem Value}{C:Int->Int->Prop}{g:Int->Int->Int}
  (rule:∀(i j:Int) (t u:Tok) (s:Shared) (Q:Value->Shared->Prop) (E:Value->Shared->Prop),C i j->Q (.int (g i j) s.toks) {s with toks:=s.toks + 1}->wpAny (model X.prog X.w) X.A (f (.int i t) (.int j u)) Q E s) :
  fq X f (rI C λi j=>.int (g i j)):=by
 intro pins s σ H x y v u Q I rx ry h;obtain⟨i,j,rfl,rfl,hc,q⟩:=h;obtain⟨t,rfl⟩:=rx;obtain⟨t',rfl⟩:=ry;exact rule i j t t' s _ _ hc ⟨.int (g i j),H,I.tok _,⟨_,rfl⟩,q⟩
theorem D8{f:Value->Value->Sem Value}{g:Int->Int->Int}
  (rule:∀(i j:Int) (t u:Tok) (s:Shared) (Q:Value->Shared->Prop) (E:Value->Shared->Prop),Q (.int (g i j) s.toks) {s with toks:=s.toks + 1}->wpAny (model X.prog X.w) X.A (f (.int i t) (.int j u)) Q E s) :
  fq X f (xw λi j=>.int (g i j)):=by
 intro pins s σ H x y v u Q I rx ry h;obtain⟨i,j,rfl,rfl,q⟩:=h;obtain⟨t,rfl⟩:=rx;obtain⟨t',rfl⟩:=ry;exact rule i j t t' s _ _ ⟨.int (g i j),H,I.tok _,⟨_,rfl⟩,q⟩
theorem Bx{f:Value->Value->Sem Value}{g:Int->Int->Bool}
  (rule:∀(i j:Int) (t u:Tok) (s:Shared) (Q:Value->Shared->Prop) (E:Value->Shared->Prop),Q (.bool (g i j)) s->wpAny (model X.prog X.w) X.A (f (.int i t) (.int j u)) Q E s) :
  fq X f (xw λi j=>.bl (g i j)):=by
 intro pins s σ H x y v u Q I rx ry h;obtain⟨i,j,rfl,rfl,q⟩:=h;obtain⟨t,rfl⟩:=rx;obtain⟨t',rfl⟩:=ry;exact rule i j t t' s _ _ ⟨.bl (g i j),H,I,rfl,q⟩
def D9(i j:Int):Prop:=0 < j/\j < 1073741824
def Ea(i j:Int):Prop:=0<=j/\j<=1000000/\i.natAbs < 2 ^ 64
def xy(i j:Int):Prop:=(-(2 ^ 64) < i/\i < 2 ^ 64)∨(-(2 ^ 64) < j/\j < 2 ^ 64)
theorem xy.ok{i j:Int}(h:xy i j):IntMulOk i j:=by
 rcases h with⟨h1,h2⟩ | ⟨h1,h2⟩
 ·exact .of_left (intBits_le_64 h1 h2)
 ·exact .of_right (intBits_le_64 h1 h2)
theorem oZ:fq X (binaryOp .Add) (xw λi j=>.int (i + j)):=D8 λ_ _ _ _ _ _ _ q=>add_int q
theorem By:fq X (binaryOp .Sub) (xw λi j=>.int (i - j)):=D8 λ_ _ _ _ _ _ _ q=>sub_int q
theorem ua:fq X (binaryOp .Mult) (rI xy λi j=>.int (i * j)):=DG λ_ _ _ _ _ _ _ hc q=>mul_int q hc.ok
theorem pb:fq X (binaryOp .Mod) (rI (λ_ j=>0 < j) λi j=>.int (i % j)):=DG λi j _ _ _ _ _ hc q=>by
 have h1:(0:Int) < j:=hc;exact mod_int' (by omega) (by rw[Int.fmod_eq_emod_of_nonneg i (by omega)];exact q)
theorem Bz:fq X (binaryOp .Pow) (rI Ea λi j=>.int (i ^ j.toNat)):=DG λ_ _ _ _ _ _ _ hc q=>pow_int_small hc.1 hc.2.1 hc.2.2 q
theorem Kw{f:Value->Sem Value}{g:Int->Int}
  (rule:∀(i:Int) (t:Tok) (s:Shared) (Q:Value->Shared->Prop) (E:Value->Shared->Prop),Q (.int (g i) s.toks) {s with toks:=s.toks + 1}->wpAny (model X.prog X.w) X.A (f (.int i t)) Q E s) :
  GK X f (rU λi=>.int (g i)):=by
 intro pins s σ H x v Q I rx h;obtain⟨i,rfl,q⟩:=h;obtain⟨t,rfl⟩:=rx;exact rule i t s _ _ ⟨.int (g i),H,I.tok _,⟨_,rfl⟩,q⟩
theorem BA:GK X (unaryOp .USub) (rU λi=>.int (-i)):=Kw λ_ _ _ _ _ q=>neg_int q
end
def Eb:V->V->Bool
 | .non,.non=>true | .non,.int _=>true | .int _,.non=>true | .non,.bl _=>true | .bl _,.non=>true | .non,.str _=>true | .str _,.non=>true
 | .int _,.int _=>true | .bl _,.bl _=>true | .str _,.str _=>true | .byt _,.byt _=>true
 | .int _,.str _=>true | .str _,.int _=>true | .bl _,.str _=>true | .str _,.bl _=>true
 | _,_=>false
def IX:R2:=λx y H Q=>Eb x y=true/\Q (.bl (decide (x=y))) H
def IY:R2:=λx y H Q=>Eb x y=true/\Q (.bl (!decide (x=y))) H
theorem qu{i j:Int}:decide (V.int i=V.int j)=(i == j):=by
 rw[Bool.eq_iff_iff];simp
theorem ub{i j:Bool}:decide (V.bl i=V.bl j)=(i == j):=by
 rw[Bool.eq_iff_iff];simp
theorem qv{i j:Str}:decide (V.str i=V.str j)=(i == j):=by
 rw[Bool.eq_iff_iff];simp
theorem qw{i j:Array UInt8}:decide (V.byt i=V.byt j)=(i.toList == j.toList):=by
 rw[Bool.eq_iff_iff];cases i;cases j;simp
section
variable {X:Cx} {a b c:Expr} {ta tb tc:TE} {pos:Pos}
theorem aI{pins:List (Addr×Obj)}{σ:St}{H:Hp}{s:Shared}{Q:VK}{k k':Bool}(I:Inv X pins σ H s)(q:Q (.bl k) H)(e:k=k'):EP X pins σ Q (.bool k') s:=by
 subst e;exact⟨.bl k,H,I,rfl,q⟩
theorem qx:fq X (compareOp .Eq) IX:=by
 intro pins s σ H x y v u Q I rx ry h;obtain⟨hs,q⟩:=h
 cases x with
 | non =>
  cases rx
  cases y with
  | non=>cases ry;exact PySem.EqNone.eq_none_none (aI I q (by simp))
  | bl j=>cases ry;exact PySem.EqNone.eq_none_bool (aI I q (by simp))
  | int j=>obtain⟨t',rfl⟩:=ry;exact PySem.EqNone.eq_none_int (aI I q (by simp))
  | str j=>obtain⟨t',rfl⟩:=ry;exact PySem.EqNone.eq_none_str (aI I q (by simp))
  | _=>exact absurd (show false=true from hs) Nd
 | bl i =>
  cases rx
  cases y with
  | non=>cases ry;exact PySem.EqNone.eq_bool_none (aI I q (by simp))
  | bl j=>cases ry;exact eq_bool (aI I q ub)
  | str j=>obtain⟨t',rfl⟩:=ry;exact PySem.EqMixed.eq_bool_str (aI I q (by simp))
  | _=>exact absurd (show false=true from hs) Nd
 | int i =>
  obtain⟨t,rfl⟩:=rx
  cases y with
  | non=>cases ry;exact PySem.EqNone.eq_int_none (aI I q (by simp))
  | int j=>obtain⟨t',rfl⟩:=ry;exact eq_int (aI I q qu)
  | str j=>obtain⟨t',rfl⟩:=ry;exact PySem.EqMixed.eq_int_str (aI I q (by simp))
  | _=>exact absurd (show false=true from hs) Nd
 | str i =>
  obtain⟨t,rfl⟩:=rx
  cases y with
  | non=>cases ry;exact PySem.EqNone.eq_str_none (aI I q (by simp))
  | bl j=>cases ry;exact PySem.EqMixed.eq_str_bool (aI I q (by simp))
  | int j=>obtain⟨t',rfl⟩:=ry;exact PySem.EqMixed.eq_str_int (aI I q (by simp))
  | str j=>obtain⟨t',rfl⟩:=ry;exact eq_str (aI I q qv)
  | _=>exact absurd (show false=true from hs) Nd
 | byt i =>
  obtain⟨t,rfl⟩:=rx
  cases y with
  | byt j=>obtain⟨t',rfl⟩:=ry;exact PySem.W.eq_bytes (aI I q qw)
  | _=>exact absurd (show false=true from hs) Nd
 | _=>cases y<;>exact absurd (show false=true from hs) Nd
theorem Ec:fq X (compareOp .NotEq) IY:=by
 intro pins s σ H x y v u Q I rx ry h;obtain⟨hs,q⟩:=h
 cases x with
 | non =>
  cases rx
  cases y with
  | non=>cases ry;exact PySem.EqNone.ne_none_none (aI I q (by simp))
  | bl j=>cases ry;exact PySem.EqNone.ne_none_bool (aI I q (by simp))
  | int j=>obtain⟨t',rfl⟩:=ry;exact PySem.EqNone.ne_none_int (aI I q (by simp))
  | str j=>obtain⟨t',rfl⟩:=ry;exact PySem.EqNone.ne_none_str (aI I q (by simp))
  | _=>exact absurd (show false=true from hs) Nd
 | bl i =>
  cases rx
  cases y with
  | non=>cases ry;exact PySem.EqNone.ne_bool_none (aI I q (by simp))
  | bl j=>cases ry;exact ne_bool (aI I q (Oj not ub))
  | str j=>obtain⟨t',rfl⟩:=ry;exact PySem.EqMixed.ne_bool_str (aI I q (by simp))
  | _=>exact absurd (show false=true from hs) Nd
 | int i =>
  obtain⟨t,rfl⟩:=rx
  cases y with
  | non=>cases ry;exact PySem.EqNone.ne_int_none (aI I q (by simp))
  | int j=>obtain⟨t',rfl⟩:=ry;exact ne_int (aI I q (Oj not qu))
  | str j=>obtain⟨t',rfl⟩:=ry;exact PySem.EqMixed.ne_int_str (aI I q (by simp))
  | _=>exact absurd (show false=true from hs) Nd
 | str i =>
  obtain⟨t,rfl⟩:=rx
  cases y with
  | non=>cases ry;exact PySem.EqNone.ne_str_none (aI I q (by simp))
  | bl j=>cases ry;exact PySem.EqMixed.ne_str_bool (aI I q (by simp))
  | int j=>obtain⟨t',rfl⟩:=ry;exact PySem.EqMixed.ne_str_int (aI I q (by simp))
  | str j=>obtain⟨t',rfl⟩:=ry;exact ne_str (aI I q (Oj not qv))
  | _=>exact absurd (show false=true from hs) Nd
 | byt i =>
  obtain⟨t,rfl⟩:=rx
  cases y with
  | byt j=>obtain⟨t',rfl⟩:=ry;exact PySem.W.ne_bytes (aI I q (Oj not qw))
  | _=>exact absurd (show false=true from hs) Nd
 | _=>cases y<;>exact absurd (show false=true from hs) Nd
theorem qy:fq X (compareOp .Lt) (xw λi j=>.bl (decide (i < j))):=Bx λ_ _ _ _ _ _ _ q=>lt_int q
theorem uc:fq X (compareOp .LtE) (xw λi j=>.bl (decide (i<=j))):=Bx λ_ _ _ _ _ _ _ q=>le_int q
theorem Ed:fq X (compareOp .Gt) (xw λi j=>.bl (decide (j < i))):=Bx λ_ _ _ _ _ _ _ q=>gt_int q
theorem BB:fq X (compareOp .Is) (λx y H Q=>y=.non/\Q (.bl (decide (x=.non))) H):=by
 intro pins s σ H x y v u Q I rx ry h;obtain⟨rfl,q⟩:=h;cases ry;refine is_none_gen (aI I q ?_);cases x<;>first
  | (cases rx;rfl)
  | (obtain⟨t,rfl⟩:=rx;rfl)
theorem eO(b:Expr){op:CmpOp}(h:op≠.In:=by decide)(h2:op≠.NotIn:=by decide):behindInMarks op b=false:=by
 have e1:(op == CmpOp.In)=false:=by cases op<;>first | rfl | exact absurd rfl h
 have e2:(op == CmpOp.NotIn)=false:=by cases op<;>first | rfl | exact absurd rfl h2
 cases b<;>simp[behindInMarks,e1,e2]
theorem qz{op:CmpOp}{r:R2}(ho:fq X (compareOp op) r)(ha:PE X a ta)(hb:PE X b tb)(hm:behindInMarks op b=false):PE X (.Compare a [op] [b] pos) (D6 r ta tb):=by
 intro pins s σ H Q I h;exact wpAny_Compare1 (Bw ha hb I h λv u s2 x y H2 I2 rx ry q=>ho pins s2 σ H2 x y v u Q I2 rx ry q) hm
def ud(t:TE):TT:=λσ H Q=>t σ H λx H'=>∃k,x=.bl k/\Q k H'
theorem tR{op:CmpOp}{r:R2}(ho:fq X (compareOp op) r)(ha:PE X a ta)(hb:PE X b tb)(hm:behindInMarks op b=false):PT X (.Compare a [op] [b] pos) (ud (D6 r ta tb)):=by
 intro pins s σ H Q I h
 refine wpAny_isTrue_Compare1 (bA (ha pins s σ H _ I h) λv s1 ⟨x,H1,I1,r1,q1⟩=>bA (hb pins s1 σ H1 _ I1 q1) λu s2 ⟨y,H2,I2,r2,q2⟩ =>
  bA (ho pins s2 σ H2 x y v u _ I2 r1 r2 q2) λc s3 ⟨z,H3,I3,r3,k,e,q3⟩=>?_) hm
 subst e;cases r3;exact NJ ⟨H3,I3,q3⟩
def ue(r r':R2)(ta tb tc:TE):TE:=λσ H Q=>ta σ H λx H1=>tb σ H1 λy H2=>r x y H2 λz H3=>∃k,z=.bl k /\
 (if k=true then tc σ H3 λw' H4=>r' y w' H4 Q else Q (.bl false) H3)
theorem uf{op op':CmpOp}{r r':R2}(ho:fq X (compareOp op) r)(ho':fq X (compareOp op') r')(ha:PE X a ta)(hb:PE X b tb)(hc:PE X c tc)
  (hm:lastMarks [op,op'] [b,c]=false:=by with_unfolding_all rfl):PT X (.Compare a [op,op'] [b,c] pos) (ud (ue r r' ta tb tc)):=by
 intro pins s σ H Q I h
 refine isTrue_chain (bA (ha pins s σ H _ I h) λv s1 ⟨x,H1,I1,r1,q1⟩=>test_link (bA (hb pins s1 σ H1 _ I1 q1) λu s2 ⟨y,H2,I2,r2,q2⟩ =>
  bA (ho pins s2 σ H2 x y v u _ I2 r1 r2 q2) λd s3 ⟨z,H3,I3,r3,k,e,q3⟩=>?_)) hm
 subst e;cases r3;refine NJ ?_
 cases k with
 | false =>
  obtain⟨k',e',q'⟩:=q3;cases e';exact ite_ff ⟨H3,I3,q'⟩
 | true =>
  refine ite_tt (test_last (bA (hc pins s3 σ H3 _ I3 q3) λw' s4 ⟨z',H4,I4,r4,q4⟩=>bA (ho' pins s4 σ H4 y z' u w' _ I4 r2 r4 q4) λd' s5 ⟨z2,H5,I5,r5,k2,e2,q5⟩=>?_));subst e2;cases r5;exact NJ ⟨H5,I5,q5⟩
theorem jC:(sizeLine:Nat) < 2 ^ 63:=by rw[sizeLine_eq];decide
theorem pd:fq X (binaryOp .Add) (λx y H Q=>∃i j,x=.str i/\y=.str j/\i.length + j.length<=sizeLine/\Q (.str (i++j)) H):=by
 intro pins s σ H x y v u Q I rx ry h;obtain⟨i,j,rfl,rfl,hz,q⟩:=h;obtain⟨t,rfl⟩:=rx;obtain⟨t',rfl⟩:=ry;exact add_str (λt' tk=>⟨.str (i++j),H,I.tok _,⟨_,rfl⟩,q⟩) hz
theorem vals1{x:V}{us:List Value}(r:Vals [x] us):∃u,us=[u]/\RelV x u:=by
 cases r with
 | cons r1 r2=>cases r2;exact⟨_,rfl,r1⟩
theorem vals2{x y:V}{us:List Value}(r:Vals [x,y] us):∃u w',us=[u,w']/\RelV x u/\RelV y w':=by
 cases r with
 | cons r1 r2 =>
  cases r2 with
  | cons r3 r4=>cases r4;exact⟨_,_,rfl,r1,r3⟩
theorem rR(hc:X.calm=true):c9 X (.builtin "max") (λxs H Q=>∃i j,xs=[.int i,.int j]/\Q (.int (if j > i then j else i)) H):=by
 intro pins s σ H xs us Q I r h;obtain⟨i,j,rfl,q⟩:=h;obtain⟨u,w',rfl,⟨t,rfl⟩,⟨t',rfl⟩⟩:=vals2 r;refine max_two_ints (I.ok.hd hc) λh' tk k=>⟨_,H,I.kept k,?_,q⟩
 by_cases hj:j > i
 ·rw[Nv hj,Nv hj];exact⟨_,rfl⟩
 ·rw[Nu hj,Nu hj];exact⟨_,rfl⟩
theorem nC:c9 X (.builtin "divmod") (λxs H Q=>∃i j,xs=[.int i,.int j]/\D9 i j/\∀p,H p=none->Q (.ref p) (upd H p (.tup [.int (i / j),.int (i % j)]))):=by
 intro pins s σ H xs us Q I r h;obtain⟨i,j,rfl,⟨h1,h2⟩,q⟩:=h;obtain⟨u,w',rfl,⟨t,rfl⟩,⟨t',rfl⟩⟩:=vals2 r;refine divmod_int (by omega) ?_ (.inl (PyProof.noPylong_small (by omega)));rw[Int.fdiv_eq_ediv_of_nonneg i (by omega),Int.fmod_eq_emod_of_nonneg i (by omega)];have hn:H s.heap.objs.size=none:=I.hok.fresh (Nat.le_refl _);refine⟨.ref s.heap.objs.size,_,?_,rfl,q _ hn⟩;refine I.laid (λb o e=>Heap.get?_push_of_some _ e) (Nat.le_refl _) ⟨by simp only[List.length_cons,List.length_nil];rw[sizeLine_eq];decide,[.int (i / j) s.toks,.int (i % j) (s.toks + 1)],.cons ⟨_,rfl⟩ (.cons ⟨_,rfl⟩ .nil),?_⟩;exact⟨_,Heap.get?_push_size s.heap rfl,rfl,0,rfl⟩
end
structure pf(h:Heap)(x dx C:Addr)(mA:Str->Option Value):Prop where
 obj:h.get? x=some (PySem.W.instObj C dx)
 ns:h.Ns1 dx mA
 ne:dx≠x
theorem rS{h:Heap}{dx:Addr}{mA:Str->Option Value}(n:h.Ns1 dx mA):∃od,h.get? dx=some od/\∀name,PySem.W.lookIn name od=some (mA name):=by
 obtain⟨o,es,ep,ho,hd,hk,_,hm⟩:=n;refine⟨o,ho,λname=>?_⟩;have e:=hm name;unfold nsFind findBy at e;rw[← Array.find?_toList]at e;unfold PySem.W.lookIn;rw[hd];dsimp only;split
 ·rename_i y q;rw[q]at e;exact Oj some e
 ·rename_i q;rw[q]at e
  have a:es.toList.any (·.refKey)=false:=by
   rw[List.any_eq_false];intro y hy;obtain⟨z,t,hkey⟩:=hk y (Array.mem_toList_iff.mp hy);simp[DictEntry.refKey,hkey]
  have a':¬ es.toList.any (·.refKey)=true:=by rw[a];exact Nd
  rw[Nu a'];exact Oj some e
theorem pf.look{h:Heap}{x dx C:Addr}{mA:Str->Option Value}(I:pf h x dx C mA):∃od,PySem.W.InstAt h x (PySem.W.instObj C dx) C (some od)/\∀name,PySem.W.lookIn name od=some (mA name) :=
 let ⟨od,ho,hl⟩:=rS I.ns
 ⟨od,⟨I.obj,rfl,rfl,ho⟩,hl⟩
section
variable {prog:Program} {w:World} {A:Around} {E:Value->Shared->Prop} {s:Shared} {K:aC} {x dx C f:Addr} {mA:Str->Option Value} {name:Str} {v:Value}
theorem get_map{expr:Bool}{Q:Value->Shared->Prop}(X:K.In s.heap)(I:pf s.heap x dx C mA)(hg:PySem.W.plainGet K C name=true)(hh:PySem.W.hasDictIn K C=true)
  (ha:PySem.W.findIn K (.ref C) name=some none) (hv:mA name=some v) (hv':PySem.W.handedIn v=true) (h:Q v {s with toks:=s.toks + 1}) :
  wpAny (model prog w) A (getAttr (.ref x) name expr) Q E s:=by
 obtain⟨od,J,hl⟩:=I.look;exact PySem.W.get_value X J (Oh hg).1 (PySem.W.findObj_own hh ha rfl (by rw[hl,hv])) hv' h
theorem ug{pl:Sem Bool}{Q:Value×List Value->Shared->Prop}(X:K.In s.heap)(I:pf s.heap x dx C mA)(hg:PySem.W.plainGet K C name=true)
  (hf:PySem.W.findIn K (.ref C) name=some (some (.ref f))) (ht:PySem.W.isFn K (.ref f)=true) (hv:mA name=none) (h:Q (.ref f,[.ref x]) s) :
  wpAny (model prog w) A (getMethod (.ref x) name pl) Q E s:=by
 obtain⟨od,J,hl⟩:=I.look;exact PySem.W.method_fn X J (Oh hg).1 (Oh hg).2 hf (O6.mp ht) (by show(PySem.W.lookIn name od).map (·.isSome)=some false;rw[hl,hv];rfl) h
theorem xA{ns:List Str}{Q:Unit->Shared->Prop}(X:K.In s.heap)(I:pf s.heap x dx C mA)
  (hs:PySem.W.findIn K (.ref C) "__setattr__"=some (some (.builtin "object.__setattr__"))) (hp:PySem.W.plainOver K C=true) (ht:PySem.W.takerIn K C name=some none) (hh:PySem.W.hasDictIn K C=true)
  (hw:PySem.Within mA ns) (hsz:ns.length<=sizeLine)
  (h:∀h',pf h' x dx C (λy=>if y=name then some v else mA y)->Heap.SameBut dx s.heap h'->Q () {s with heap:=h',toks:=s.toks + 2}) :
  wpAny (model prog w) A (setAttr (.ref x) name v) Q E s:=by
 obtain⟨od,J,hl⟩:=I.look;refine PySem.W.set_plain X J hs (PySem.W.osa_open (s:={s with toks:=s.toks + 1}) (r:=none) X J hp ht λb=>?_);obtain⟨cd,hc,hd'⟩:=PySem.W.any_some hh;have hx:s.heap.get? x=some ⟨.ref C,some dx,.plain,#[]⟩:=I.obj;refine M7 (M9 (M7 (M7 (wpAny_loadPart hx (M7 (PySem.W.Looks.here (s:={s with toks:=s.toks + 1}) (PySem.W.looks_clsIn X hc) ?_))))));rw[hd'];refine M9 (a:=some dx) (M7 (M9 (M7 ?_)));refine wpAny_nsSet1 (s:={s with toks:=s.toks + 1}) I.ns λh' Gh tO=>?_
 obtain⟨oD,esD,epD,hoD,wY,hcD⟩:=Gh.count (PySem.Within.cons name v hw);refine M7 (wpAny_lookBehind hoD (by rw[wY];exact pastItsLine_dict (Nr hcD (by rw[N0];omega))) ?_);exact M9 (h _ ⟨(tO.2 _ (Oi I.ne)).trans I.obj,Gh,I.ne⟩ tO)
theorem uh{R:Result->Shared->Prop}{vs:List Value}{kw:List (Str×Value)}(X:K.In s.heap)(hm:PySem.W.makesIn K C=true)
  (hi:PySem.W.findIn K (.ref C) "__init__"=some (some (.ref f))) (hf:PySem.W.typeIn K (.ref f)=some (.type "function"))
  (h:codeAny (model prog w) (A.under (.builtin "type.__call__" ⟨.ref C::vs,kw⟩)) (.call (.ref f) ⟨.ref (s.heap.objs.size + 1)::vs,kw⟩) (PySem.W.InitBack (s.heap.objs.size + 1) R)
   {s with heap:=(s.heap.push PySem.W.emptyDict).push (PySem.W.instObj C s.heap.objs.size)}) :
  codeAny (model prog w) A (.call (.ref C) ⟨vs,kw⟩) R s:=by
 obtain⟨hh,g,d,t,os⟩:=s;exact PySem.W.make_core (PySem.W.makes_of X hm) (PySem.W.looks_findIn X hi) (λself=>PySem.W.bind_fn X self hf) (.inl rfl) h
end
def cc(f:Str)(v:V):List (Str×V)->List (Str×V)
 | []=>[(f,v)]
 | (g,x)::r=>if g=f then(g,v)::r else(g,x)::cc f v r
theorem i7(f g:Str)(v:V):∀fs:List (Str×V),(cc f v fs).lookup g=if g=f then some v else fs.lookup g
 | []=>by
  show List.lookup g [(f,v)]=_;by_cases h:g=f
  ·have hb:(g == f)=true:=beq_iff_eq.mpr h;simp only[List.lookup,hb,if_pos h]
  ·have hb:(g == f)=false:=beq_eq_false_iff_ne.mpr h;simp only[List.lookup,hb,if_neg h]
 | (k,x)::r=>by
  have ih:=i7 f g v r;rw[show cc f v ((k,x)::r)=(if k=f then(k,v)::r else(k,x)::cc f v r)from rfl];by_cases hk:k=f
  ·rw[Nv hk];by_cases h:g=k
   ·have hb:(g == k)=true:=beq_iff_eq.mpr h;simp only[List.lookup,hb,if_pos (h.trans hk)]
   ·have hb:(g == k)=false:=beq_eq_false_iff_ne.mpr h;simp only[List.lookup,hb,if_neg (λe:g=f=>h (e.trans hk.symm))]
  ·rw[Nu hk];by_cases h:g=k
   ·have hb:(g == k)=true:=beq_iff_eq.mpr h;simp only[List.lookup,hb,if_neg (λe:g=f=>hk (h.symm.trans e))]
   ·have hb:(g == k)=false:=beq_eq_false_iff_ne.mpr h;simp only[List.lookup,hb];exact ih
theorem iL(f:Str)(v:V):∀fs:List (Str×V),f∈(cc f v fs).map (·.1)/\∀g,g∈fs.map (·.1)->g∈(cc f v fs).map (·.1)
 | []=>⟨by simp[cc],λg h=>by simp at h⟩
 | (k,x)::r=>by
  obtain⟨i1,i2⟩:=iL f v r;rw[show cc f v ((k,x)::r)=(if k=f then(k,v)::r else(k,x)::cc f v r)from rfl];by_cases hk:k=f
  ·rw[if_pos hk];subst hk;exact⟨by simp,λg h=>by simpa using h⟩
  ·rw[Nu hk];refine⟨?_,λg h=>?_⟩
   ·rw[Oa];exact NO _ i1
   ·rw[Oa]at h ⊢;rcases ND.mp h with e | e
    ·exact ND.mpr (.inl e)
    ·exact NO _ (i2 g e)
theorem bX(f:Str)(v:V):∀fs:List (Str×V),(cc f v fs).length<=fs.length + 1
 | []=>by simp[cc]
 | (k,x)::r=>by
  have ih:=bX f v r;rw[show cc f v ((k,x)::r)=(if k=f then(k,v)::r else(k,x)::cc f v r)from rfl];by_cases hk:k=f
  ·rw[Nv hk,N0,N0];omega
  ·rw[Nu hk,N0,N0];omega
theorem jw.some_of{v:V}{o:Option Value}(r:jw (some v) o):∃u,o=some u/\RelV v u:=by
 cases o with
 | none=>exact(show False from r).elim
 | some u=>exact⟨u,rfl,r⟩
theorem jw.none_of{o:Option Value}(r:jw none o):o=none:=by
 cases o with
 | none=>rfl
 | some u=>exact(show False from r).elim
theorem rT{v:V}{u:Value}(r:RelV v u):PySem.W.handedIn u=true:=by
 cases v with
 | non=>cases (show u=Value.none from r);rfl
 | bl b=>cases (show u=Value.bool b from r);rfl
 | int i=>obtain⟨t,e⟩:=(show ∃t,u=Value.int i t from r);cases e;rfl
 | str x=>obtain⟨t,e⟩:=(show ∃t,u=Value.str x t from r);cases e;rfl
 | byt b=>obtain⟨t,e⟩:=(show ∃t,u=Value.bytes b t from r);cases e;rfl
 | flt b=>obtain⟨t,e⟩:=(show ∃t,u=Value.float b t from r);cases e;rfl
 | ref a=>cases (show u=Value.ref a from r);rfl
 | ty n=>cases (show u=Value.type n from r);rfl
section
variable {P:Program} {w:World} {H H':Hp} {h h':Heap} {a C dx:Addr} {fs fs':List (Str×V)}
theorem lP(hok:i6 P w H h)(e:H a=some (.ins C dx fs)):∃mA,pf h a dx C mA/\(∀f,jw (fs.lookup f) (mA f))/\PySem.Within mA (fs.map (·.1))/\fs.length<=1000/\H dx=some (.own a):=by
 obtain⟨d,z,ne,ob,mA,n,r,q⟩:=(show cM P w H h a (.ins C dx fs)from hok a _ e);exact⟨mA,⟨ob,n,ne⟩,r,q,z,d⟩
end
structure rV(K:aC)(C:Addr):Prop where
 pg:PySem.W.plainGet K C Str.empty=true
 hd:PySem.W.hasDictIn K C=true
 po:PySem.W.plainOver K C=true
 sa:PySem.W.findIn K (.ref C) "__setattr__"=some (some (.builtin "object.__setattr__"))
theorem rV.get{K:aC}{C:Addr}(c:rV K C)(f:Str):PySem.W.plainGet K C f=true:=c.pg
def bQ(K:aC)(C:Addr)(f:Str):Prop:=PySem.W.findIn K (.ref C) f=some none
theorem bQ.Ee{K:aC}{C:Addr}{f:Str}(n:bQ K C f):PySem.W.takerIn K C f=some none:=by
 unfold PySem.W.takerIn;rw[show PySem.W.findIn K (.ref C) f=some none from n];rfl
structure MB(K:aC)(C:Addr)(f:Str)(v:V)(u:Value):Prop where
 at_:PySem.W.findIn K (.ref C) f=some (some u)
 rel:RelV v u
 get:PySem.W.specialIn K u "__get__"=some none
 cp:PySem.W.copiedNames.contains f=false
structure Meth(K:aC)(C:Addr)(m:Str)(f:Addr):Prop where
 at_:PySem.W.findIn K (.ref C) m=some (some (.ref f))
 fn:PySem.W.isFn K (.ref f)=true
 kp:PySem.W.keepIn K (.ref f)=true
section
variable {X:Cx} {pins:List (Addr×Obj)} {σ:St} {H:Hp} {s:Shared} {a C dx:Addr} {fs:List (Str×V)} {f:Str} {v:V} {A:Around} {E:Value->Shared->Prop}
theorem ph{b:Bool}{Q:Value->Shared->Prop}(I:Inv X pins σ H s)(e:H a=some (.ins C dx fs))(c:rV X.K C)(n:bQ X.K C f)(l:fs.lookup f=some v)
  (h:∀u s',Inv X pins σ H s'->RelV v u->Q u s'):wpAny (model X.prog X.w) A (getAttr (.ref a) f b) Q E s:=by
 obtain⟨mA,O,r,_,_,_⟩:=lP I.hok e;obtain⟨u,hu,ru⟩:=jw.some_of (v:=v) (o:=mA f) (by rw[← l];exact r f);exact get_map I.jj O (c.get f) c.hd n hu (rT ru) (h u _ (I.tok _) ru)
theorem pj{m:Str}{g:Addr}{pl:Sem Bool}{Q:Value×List Value->Shared->Prop}(I:Inv X pins σ H s)(e:H a=some (.ins C dx fs))(c:rV X.K C)(k:Meth X.K C m g)(l:fs.lookup m=none)
  (h:Q (.ref g,[.ref a]) s):wpAny (model X.prog X.w) A (getMethod (.ref a) m pl) Q E s:=by
 obtain⟨mA,O,r,_,_,_⟩:=lP I.hok e;have hn:mA m=none:=jw.none_of (by rw[← l];exact r m);exact ug I.jj O (c.get m) k.at_ k.fn hn h
theorem pk{y:V}{u:Value}{Q:Unit->Shared->Prop}(I:Inv X pins σ H s)(e:H a=some (.ins C dx fs))(c:rV X.K C)(n:bQ X.K C f)(hl:fs.length < 1000)(ry:RelV y u)
  (h:∀s',Inv X pins σ (upd H a (.ins C dx (cc f y fs))) s'->Q () s'):wpAny (model X.prog X.w) A (setAttr (.ref a) f u) Q E s:=by
 obtain⟨mA,O,r,wi,_,ho⟩:=lP I.hok e;have hz:(fs.map (·.1)).length<=sizeLine:=by rw[M8,sizeLine_eq];omega
 refine xA I.jj O c.sa c.po n.Ee c.hd wi hz λh' O' sb=>h _ ?_
 have hd:∃o,h'.get? dx=some o:=let ⟨o,_,_,e',_⟩:=O'.ns;⟨o,e'⟩
 refine I.write (x:=a) (e:=dx) (by rw[e];exact Oy) (.inr ho) (λb q hb z=>(sb.2 b hb).trans z) hd ?_;refine⟨by rw[uN O.ne];exact ho,?_,O.ne,O'.obj,_,O'.ns,λg=>?_,λg hg=>?_⟩
 ·have:=bX f y fs;omega
 ·show jw ((cc f y fs).lookup g) (if g=f then some u else mA g);rw[i7];by_cases q:g=f
  ·rw[Nv q,Nv q];exact ry
  ·rw[Nu q,Nu q];exact r g
 ·by_cases q:g=f
  ·rw[q];exact(iL f y fs).1
  ·refine(iL f y fs).2 g (wi g λz=>hg ?_);show(if g=f then some u else mA g)=none;rw[Nu q];exact z
theorem Inv.made(I:Inv X pins σ H s):Inv X pins σ (upd (upd H s.heap.objs.size (.own (s.heap.objs.size + 1))) (s.heap.objs.size + 1) (.ins C s.heap.objs.size []))
  {s with heap:=(s.heap.push PySem.W.emptyDict).push (PySem.W.instObj C s.heap.objs.size)}:=by
 have e1:(s.heap.push PySem.W.emptyDict).get? s.heap.objs.size=some PySem.W.emptyDict:=Ng s.heap rfl
 have e2:((s.heap.push PySem.W.emptyDict).push (PySem.W.instObj C s.heap.objs.size)).get? (s.heap.objs.size + 1)=some (PySem.W.instObj C s.heap.objs.size):=by
  have:=Ng (s.heap.push PySem.W.emptyDict) (o:=PySem.W.instObj C s.heap.objs.size) rfl
  rwa [OS]at this
 have e3:(s.heap.push PySem.W.emptyDict).Ns s.heap.objs.size (λ_=>none):=⟨PySem.W.emptyDict,#[],_,e1,rfl,(λe he=>absurd he (by simp)),λ_=>rfl⟩;have I1:=I.laid (a:=s.heap.objs.size) (o:=.own (s.heap.objs.size + 1)) (h':=s.heap.push PySem.W.emptyDict) (t':=s.toks) (λb u q=>Heap.get?_push_of_some _ q) (Nat.le_refl _) ⟨_,e1⟩;refine I1.laid (a:=s.heap.objs.size + 1) (o:=.ins C s.heap.objs.size []) (t':=s.toks) (λb u q=>Heap.get?_push_of_some _ q) (Nat.le_of_eq (Heap.size_push _ _)) ?_;have ne:s.heap.objs.size≠s.heap.objs.size + 1:=Nat.ne_of_lt (Nat.lt_succ_self _);refine⟨by rw[uN ne,uS],Nat.zero_le _,ne,e2,λ_=>none,(Heap.Ns1.of_empty e3).at λo q=>Heap.get?_push_of_some _ q,λ_=>True.intro,λy hy=>absurd rfl hy⟩
theorem xB{prog:Program}{w:World}{env:Env}{e:Expr}{f:Str}{pos:Pos}{s:Shared}{Q:Value->Shared->Prop}(hb:attributeBase e f env (eval e env)=eval e env)
  (h:wpAny (model prog w) A (eval e env) (λo s₁=>wpAny (model prog w) A (getAttr o f true) Q E s₁) E s):wpAny (model prog w) A (eval (.Attribute e f pos) env) Q E s :=
 Attribute_any_ h (by rw[arm_eval_Attribute,hb])
end
def GL(K:aC)(ta:TE)(f:Str):TE:=λσ H Q=>ta σ H λx H1=>∃a C dx fs v,x=.ref a/\H1 a=some (.ins C dx fs)/\rV K C/\bQ K C f/\fs.lookup f=some v/\Q v H1
def GN(K:aC)(ta tv:TE)(f:Str):TS:=λD σ H=>tv σ H λy H1=>ta σ H1 λx H2=>∃a C dx fs,x=.ref a/\H2 a=some (.ins C dx fs)/\rV K C/\bQ K C f/\fs.length < 1000 /\
 D.nx σ (upd H2 a (.ins C dx (cc f y fs)))
section
variable {X:Cx} {o e value:Expr} {f:Str} {pos pos' tpos:Pos} {ta tv:TE}
theorem lQ(he:PE X e ta)(hb:attributeBase e f X.env (eval e X.env)=eval e X.env):PE X (.Attribute e f pos) (GL X.K ta f):=by
 intro pins s σ H Q I h;refine xB hb (bA (he pins s σ H _ I h) λu s1 ⟨x,H1,I1,rx,a,C,dx,fs,v,ex,ea,c,n,l,q⟩=>?_);subst ex;obtain rfl:u=Value.ref a:=rx;exact ph I1 ea c n l λu' s2 I2 ru=>⟨v,H1,I2,ru,q⟩
theorem jD(ha:PE X o ta)(hv:PE X value tv)(hs:swapsWith value (some (.Attribute o f pos')) pos.line X.env=pure false):PS X (.Assign [.Attribute o f pos'] value pos) (GN X.K ta tv f):=by
 intro pins s σ H D I h;refine plainObj_wpAny_Assign_Attribute (bA (hv pins s σ H _ I h) λu s1 ⟨y,H1,I1,ry,q⟩=>bA (ha pins s1 σ H1 _ I1 q) λov s2 ⟨x,H2,I2,rx,a,C,dx,fs,ex,ea,c,n,l,q2⟩=>?_) hs;subst ex;obtain rfl:ov=Value.ref a:=rx;exact pk I2 ea c n l ry λs3 I3=>⟨σ,_,I3,q2⟩
end
section
variable {X:Cx} {pins:List (Addr×Obj)} {σ:St} {H:Hp} {s:Shared} {A:Around} {E:Value->Shared->Prop} {Q:Value->Shared->Prop} {c:Value} {b:Bool}
inductive jE(K:aC)(H:Hp):V->Value->Prop where
 | non:jE K H .non (.type "NoneType")
 | bl (x:Bool):jE K H (.bl x) (.type "bool")
 | int (i:Int):jE K H (.int i) (.type "int")
 | str (x:Str):jE K H (.str x) (.type "str")
 | flt (x:UInt64):jE K H (.flt x) (.type "float")
 | lst {a:Addr} {xs:List V} (e:H a=some (.lst xs)):jE K H (.ref a) (.type "list")
 | gS {a:Addr} {o:Obj} {xs:List V} (e:H a=some (.gS o (.lst xs))):jE K H (.ref a) (.type "list")
 | tup {a:Addr} {xs:List V} (e:H a=some (.tup xs)):jE K H (.ref a) (.type "tuple")
 | dK {a:Addr} {kvs:List (Key×V)} (e:H a=some (.dK kvs)):jE K H (.ref a) (.type "dict")
 | dT {a:Addr} {kvs:List (List Key×V)} (e:H a=some (.dT kvs)):jE K H (.ref a) (.type "dict")
 | ins {a C dx:Addr} {fs:List (Str×V)} (e:H a=some (.ins C dx fs)) (cl:rV K C) (ha:PySem.W.findIn K (.ref C) "__class__"=some (some (.builtin "object.__class__")))
   (hn:PySem.W.specialIn K (.builtin "object.__class__") "__get__"=some (some (.builtin "getset_descriptor.__get__"))) (htk:PySem.W.takesIn K (.builtin "object.__class__")=some true)
   (hm:PySem.W.mroIn K C (.type "object")=some true):jE K H (.ref a) (.ref C)
end
structure bR(k:Nat)(A:Around):Prop where
 hd:A.handled=none
 dp:A.depth + 3 * k + 5 < recursionLimit
 un:A.units + 16 * k + 200 < cLine
 gd:A.guards=some []
theorem bR.mono{j k:Nat}{A:Around}(r:bR k A)(h:j<=k):bR j A:=⟨r.hd,by have:=r.dp;omega,by have:=r.un;omega,r.gd⟩
theorem bR.deeper{k:Nat}{A:Around}(r:bR (k + 1) A)(env:Env):bR k (A.deeper env) :=
 ⟨r.hd,by have:=r.dp;show A.depth + 1 + 3 * k + 5 < _;omega,by have:=r.un;show A.units + 3 + 16 * k + 200 < _;omega,r.gd⟩
theorem pq{A:Around}{C:Addr}{us:List Value}{kw:List (Str×Value)}:(A.under (.builtin "type.__call__" ⟨.ref C::us,kw⟩)).depth=A.depth + 1:=by
 first | rfl | simp[Around.under,Code.weight,Code.isCreation,Code.isGuard,Code.isCaller,Code.frames,Code.isFrame,guardIds]
theorem px{A:Around}{C:Addr}{us:List Value}{kw:List (Str×Value)}:(A.under (.builtin "type.__call__" ⟨.ref C::us,kw⟩)).units=A.units + 1:=by
 first | rfl | simp[Around.under,Code.cUnits,Code.frames,Code.isFrame]
theorem bR.make{k:Nat}{A:Around}(r:bR (k + 1) A)(C:Addr)(us:List Value)(kw:List (Str×Value)):bR k (A.under (.builtin "type.__call__" ⟨.ref C::us,kw⟩)) :=
 ⟨r.hd,by have:=r.dp;rw[pq];omega,by have:=r.un;rw[px];omega,r.gd⟩
theorem bR.depth{k:Nat}{A:Around}(r:bR k A):A.depth < recursionLimit:=by have:=r.dp;omega
theorem bR.units{k:Nat}{A:Around}(r:bR k A):A.units + 64 < cLine:=by have:=r.un;omega
def Ef:TA:=λ_ H Q=>Q [] H
def Ak(ta:TE)(tr:TA):TA:=λσ H Q=>ta σ H λx H1=>tr σ H1 λxs H2=>Q (x::xs) H2
section
variable {X:Cx} {e:Expr} {es:List Expr} {te:TE} {t:TA} {pos:Pos}
theorem pN:PA X [] Ef:=λ_ _ _ _ H Q I h=>Calls.spliced_nil ⟨[],H,I,.nil,h⟩
theorem pK(ha:PE X e te)(hr:PA X es t)(hs:starEach (e::es) X.env=(false,eval e X.env)::starEach es X.env:=by rfl):PA X (e::es) (Ak te t):=by
 intro pos pins s σ H Q I h;rw[hs];show wpAny _ _ (spliced ((false,eval e X.env)::backTo pos (starEach es X.env))) _ _ s;refine Calls.spliced_cons (bA (ha pins s σ H _ I h) λu s1 ⟨x,H1,I1,r1,q1⟩=>?_);exact bA (hr pos pins s1 σ H1 _ I1 q1) λus s2 ⟨xs,H2,I2,r2,q2⟩=>⟨x::xs,H2,I2,.cons r1 r2,q2⟩
def Eg(t:TA):TE:=λσ H Q=>t σ H λxs H1=>xs.length<=sizeLine/\∀p,H1 p=none->Q (.ref p) (upd H1 p (.tup xs))
def BC(t:TA):TE:=λσ H Q=>t σ H λxs H1=>xs.length<=sizeLine/\∀p,H1 p=none->Q (.ref p) (upd H1 p (.lst xs))
theorem lR{x1}(h:PA X es t):PE X (.Tuple es x1 pos) (Eg t):=by
 intro pins s σ H Q I hq;refine wpAny_Tuple_spliced (bA (h pos pins s σ H _ I hq) λus s1 ⟨xs,H1,I1,r,z,q⟩=>⟨by rw[← r.length];exact z,?_⟩);have hf:H1 s1.heap.objs.size=none:=I1.hok.fresh (Nf _);refine⟨.ref s1.heap.objs.size,upd H1 s1.heap.objs.size (.tup xs),I1.laid (t':=s1.toks) (λb u e=>M4 _ e) (Nf _) ?_,rfl,q _ hf⟩;exact⟨z,us,r,⟨_,Ng _ rfl,rfl,_,rfl⟩⟩
theorem lS(h:PA X es t):PE X (.List es pos) (BC t):=by
 intro pins s σ H Q I hq;refine wpAny_List_spliced (bA (h pos pins s σ H _ I hq) λus s1 ⟨xs,H1,I1,r,z,q⟩=>⟨by rw[← r.length];exact z,?_⟩);have hf:H1 s1.heap.objs.size=none:=I1.hok.fresh (Nf _);refine⟨.ref s1.heap.objs.size,upd H1 s1.heap.objs.size (.lst xs),I1.laid (t':=s1.toks) (λb u e=>M4 _ e) (Nf _) ?_,rfl,q _ hf⟩;exact⟨z,us,0,r,Ng _ rfl⟩
end
abbrev Sp:=List V->Hp->VK->XK->Prop
abbrev nu:=List Env->Hp->Shared->XK->Value->Shared->Prop
structure pz(P:Program)(w:World)(K:aC)(mg:Str->Option Value)(base:Heap)(A:Around)(outer:List Env)(s:Shared)(H:Hp):Prop where
 frames:A.frames=some outer
 mod:Mod K mg base
 bs:∀b o,base.get? b=some o->s.heap.get? b=some o/\H b=none
 bsz:base.objs.size<=s.heap.objs.size
 iJ:s.heap.FunFrames base outer
 frf:∀b∈gU outer,H b=none
 hok:i6 P w H s.heap
 bare:AllBare s.gens
def CE(outer:List Env)(P:Program)(w:World)(H:Hp)(s:Shared)(Q:VK)(u:Value)(s':Shared):Prop :=
 ∃v H',s'.os=s.os/\AllBare s'.gens/\Un (gU outer) [] H H' s.heap s'.heap/\i6 P w H' s'.heap/\RelV v u/\Q v H'
def CR(CX:nu)(outer:List Env)(P:Program)(w:World)(H:Hp)(s:Shared)(Q:VK)(E:XK)(r:Result)(s':Shared):Prop :=
 match r with
 | .ok (.ret u)=>CE outer P w H s Q u s'
 | .ok _=>False
 | .error e=>CX outer H s E e s'
structure bB(P:Program)(w:World)(K:aC)(mg:Str->Option Value)(base:Heap)(CX:nu)(k:Nat)(f:Addr)(fd:FuncData)(ps:List Str)(sp:Sp):Prop where
 len:∀vs H Q E,sp vs H Q E->vs.length=ps.length
 run:∀(A:Around) (outer:List Env) (s:Shared) (H:Hp) (args:Args) (us:List Value) (vs:List V) (Q:VK) (E:XK),bR k A->pz P w K mg base A outer s H->BindsTo s fd args (ps.zip us)->Vals vs us->sp vs H Q E ->
  codeAny (model P w) A (.call (.ref f) args) (CR CX outer P w H s Q E) s
theorem pz.make{P:Program}{w:World}{K:aC}{mg:Str->Option Value}{base:Heap}{A:Around}{outer:List Env}{s:Shared}{H:Hp}(e:pz P w K mg base A outer s H)(C:Addr)(us:List Value)(kw:List (Str×Value)):
  pz P w K mg base (A.under (.builtin "type.__call__" ⟨.ref C::us,kw⟩)) outer s H:=⟨by first | exact e.frames | (simpa [Around.under,Code.envs,Code.isFrame,pushEnvs]using e.frames),e.mod,e.bs,e.bsz,e.iJ,e.frf,e.hok,e.bare⟩
section
variable {X:Cx} {pins:List (Addr×Obj)} {σ:St} {H:Hp} {s s':Shared}
theorem Inv.BD(I:Inv X pins σ H s):pz X.prog X.w X.K X.mg X.base X.A X.stack s H :=
 ⟨I.ok.frames,I.ok.mod,I.bs,Nr I.ok.bsz I.sz,I.stack,I.lN,I.hok,I.bare⟩
theorem Inv.after{Q:VK}{u:Value}(I:Inv X pins σ H s)(h:CE X.stack X.prog X.w H s Q u s'):EP X pins σ Q u s':=by
 obtain⟨v,H',os,bare,un,hok,r,q⟩:=h;obtain⟨hh,g,d,t,os'⟩:=s';obtain rfl:os'=s.os:=os;exact⟨v,H',I.call (h':=hh) (g':=g) (d':=d) (t':=t) (ch:=[]) un hok bare (λb z=>absurd z (by simp)),r,q⟩
end
def qA(sp:Sp)(dvs:List V)(E:XK)(t:TA):TE:=λσ H Q=>t σ H λvs H1=>sp (vs++dvs) H1 Q E
def qB(C:Addr)(m:Str)(sp:Sp)(dvs:List V)(E:XK)(ta:TE)(t:TA):TE:=λσ H Q=>ta σ H λx H1=>∃a dx fs,x=.ref a/\H1 a=some (.ins C dx fs)/\fs.lookup m=none /\
 t σ H1 λvs H2=>sp (x::(vs++dvs)) H2 Q E
def Al(C:Addr)(sp:Sp)(dvs:List V)(E:XK)(t:TA):TE:=λσ H Q=>t σ H λvs H1=>∀x dx,H1 x=none->H1 dx=none->dx≠x ->
 sp (.ref x::(vs++dvs)) (upd (upd H1 dx (.own x)) x (.ins C dx [])) (λv H2=>v=.non/\Q (.ref x) H2) E
def Binds(K:aC)(fd:FuncData)(ps:List Str)(ds:List Value):Prop :=
 ∀(s:Shared) (us:List Value),K.In s.heap->(us++ds).length=ps.length->BindsTo s fd ⟨us,[]⟩ (ps.zip (us++ds))
theorem Binds.all{K:aC}{fd:FuncData}{ps:List Str}(h:∀us:List Value,us.length=ps.length->bindArgs fd ⟨us,[]⟩=pure (ps.zip us)):Binds K fd ps []:=λs us _ hl=>by
 rw[N5]at hl ⊢;exact .of_eq (h us hl)
def Passes(CX:nu)(X:Cx)(E:XK):Prop:=∀(pins:List (Addr×Obj)) (σ:St) (H:Hp) (s:Shared) (e:Value) (s':Shared),Inv X pins σ H s->CX X.stack H s E e s'->X.xe e s'
section
variable {X:Cx} {CX:nu} {k:Nat} {f C:Addr} {fd:FuncData} {ps:List Str} {sp:Sp} {dvs:List V} {ds:List Value} {E:XK} {x m:Str} {p pos apos:Pos} {e o:Expr} {es:List Expr} {ta:TE} {t:TA}
theorem ui{pins:List (Addr×Obj)}{σ:St}{H:Hp}{s:Shared}{Q:VK}{us:List Value}{vs:List V}(F:bB X.prog X.w X.K X.mg X.base CX k f fd ps sp)(hr:bR k X.A)(hb:Binds X.K fd ps ds)(hd:Vals dvs ds)(hx:Passes CX X E)
  (I:Inv X pins σ H s) (r:Vals vs us) (h:sp (vs++dvs) H Q E):wpAny (model X.prog X.w) X.A (call (.ref f) us) (EP X pins σ Q) X.xe s:=by
 have r2:Vals (vs++dvs) (us++ds):=r.append hd;have hl:(us++ds).length=ps.length:=by rw[← r2.length];exact F.len _ _ _ _ h
 refine wpAny_call (OB (F.run X.A X.stack s H ⟨us,[]⟩ (us++ds) (vs++dvs) Q E hr I.BD (hb s us I.jj hl) r2 h) λr s' hq=>?_)
 cases r with
 | error e=>exact hx pins σ H s e s' I hq
 | ok fl =>
  cases fl with
  | ret u=>exact I.after hq
  | next=>exact False.elim hq
  | brk=>exact False.elim hq
  | cont=>exact False.elim hq
theorem qC(F:bB X.prog X.w X.K X.mg X.base CX k f fd ps sp)(hr:bR k X.A)(hg:Gl X x)(hm:X.mg x=some (.ref f))(hk:PySem.W.keepIn X.K (.ref f)=true)(hb:Binds X.K fd ps ds)(hd:Vals dvs ds)(hx:Passes CX X E)
  (ha:PA X (e::es) t) (hdb:(x == ("__debug__" : Str))=false:=by decide) (he:starEach (e::es) X.env=(false,eval e X.env)::starEach es X.env:=by rfl) (hpl:(backTo pos (starEach es X.env)).any (·.1)=false:=by rfl) :
  PE X (.Call (.Name x p) (e::es) [] pos) (qA sp dvs E t):=by
 intro pins s σ H Q I h;refine NV (fQ I hg hm ?_ hdb);refine N7 (h₀:=X.base) I.ok.mod.kin hk (bA (ha pos pins s σ H _ I h) λus s1 ⟨vs,H1,I1,r,q⟩=>⟨I1.jj,?_⟩) he hpl;exact ui F hr hb hd hx I1 r q
theorem xC{pl:Sem Bool}(he:PE X o ta)(c:rV X.K C)(hm:Meth X.K C m f)(F:bB X.prog X.w X.K X.mg X.base CX k f fd ps sp)(hr:bR k X.A)(hb:Binds X.K fd ps ds)(hd:Vals dvs ds)(hx:Passes CX X E)(ha:PA X (e::es) t)
  (hst:starEach (e::es) X.env=(false,eval e X.env)::starEach es X.env:=by rfl) (hpl:(backTo pos (starEach es X.env)).any (·.1)=false:=by rfl)
  (ht:eval (.Call (.Attribute o m apos) (e::es) [] pos) X.env=(do
   let ov ← eval o X.env
   standAt apos.atName
   let (f,first) ← holding [ov] (getMethod ov m pl)
   callWith pos f first (backTo pos (starEach (e::es) X.env)) (backToKw pos (keywordEach [] X.env))):=by rfl) :
  PE X (.Call (.Attribute o m apos) (e::es) [] pos) (qB C m sp dvs E ta t):=by
 intro pins s σ H Q I h;refine PySem.W.methodCall_KW (pl:=pl) (bA (he pins s σ H _ I h) λu s1 ⟨x,H1,I1,rx,a,dx,fs,ex,ea,l,q⟩=>?_) ht;subst ex;obtain rfl:u=Value.ref a:=rx;refine pj I1 ea c hm l ?_;refine N7 (first:=[.ref a]) (h₀:=X.base) I.ok.mod.kin hm.kp (bA (ha pos pins s1 σ H1 _ I1 q) λus s2 ⟨vs,H2,I2,r,q2⟩=>⟨I2.jj,?_⟩) hst hpl;exact ui (us:=.ref a::us) (vs:=.ref a::vs) F hr hb hd hx I2 (.cons rfl r) q2
structure Mk(K:aC)(C f:Addr):Prop where
 makes:PySem.W.makesIn K C=true
 init:PySem.W.findIn K (.ref C) "__init__"=some (some (.ref f))
 fn:PySem.W.isFn K (.ref f)=true
 kp:PySem.W.keepIn K (.ref C)=true
theorem uj{pins:List (Addr×Obj)}{σ:St}{H:Hp}{s:Shared}{Q:VK}{us:List Value}{vs:List V}(M:Mk X.K C f)(F:bB X.prog X.w X.K X.mg X.base CX k f fd ps sp)(hr:bR (k + 1) X.A)(hb:Binds X.K fd ps ds)(hd:Vals dvs ds)
  (hx:Passes CX X E) (I:Inv X pins σ H s) (r:Vals vs us)
  (h:∀x dx,H x=none->H dx=none->dx≠x->sp (.ref x::(vs++dvs)) (upd (upd H dx (.own x)) x (.ins C dx [])) (λv H2=>v=.non/\Q (.ref x) H2) E) :
  wpAny (model X.prog X.w) X.A (call (.ref C) us) (EP X pins σ Q) X.xe s:=by
 have hq:=h (s.heap.objs.size + 1) s.heap.objs.size (I.hok.fresh (Nat.le_succ _)) (I.hok.fresh (Nf _)) (Na (Nat.lt_succ_self _));have I2:=Inv.made (C:=C) I;have r2:Vals (V.ref (s.heap.objs.size + 1)::(vs++dvs)) (Value.ref (s.heap.objs.size + 1)::(us++ds)):=.cons rfl (r.append hd)
 have hl:(Value.ref (s.heap.objs.size + 1)::us++ds).length=ps.length:=by
  have e:=r2.length;rw[F.len _ _ _ _ hq]at e;exact e.symm
 refine wpAny_call (uh (f:=f) I.jj M.makes M.init (O6.mp M.fn) (OB (F.run _ X.stack _ _ ⟨Value.ref (s.heap.objs.size + 1)::us,[]⟩ (Value.ref (s.heap.objs.size + 1)::(us++ds)) _ _ E (hr.make C us [])
  (I2.BD.make C us []) (hb _ (Value.ref (s.heap.objs.size + 1)::us) I2.jj hl) r2 hq) λr s' hq'=>?_))
 cases r with
 | error e=>exact hx pins σ _ _ e s' I2 hq'
 | ok fl =>
  cases fl with
  | ret u =>
   obtain⟨v,H',I3,rv,ev,q3⟩:=I2.after hq';subst ev;exact⟨rv,⟨V.ref (s.heap.objs.size + 1),H',I3,rfl,q3⟩⟩
  | next=>exact False.elim hq'
  | brk=>exact False.elim hq'
  | cont=>exact False.elim hq'
theorem xD(M:Mk X.K C f)(F:bB X.prog X.w X.K X.mg X.base CX k f fd ps sp)(hr:bR (k + 1) X.A)(hg:Gl X x)(hm:X.mg x=some (.ref C))(hb:Binds X.K fd ps ds)(hd:Vals dvs ds)(hx:Passes CX X E)
  (ha:PA X (e::es) t) (hdb:(x == ("__debug__" : Str))=false:=by decide) (he:starEach (e::es) X.env=(false,eval e X.env)::starEach es X.env:=by rfl) (hpl:(backTo pos (starEach es X.env)).any (·.1)=false:=by rfl) :
  PE X (.Call (.Name x p) (e::es) [] pos) (Al C sp dvs E t):=by
 intro pins s σ H Q I h;refine NV (fQ I hg hm ?_ hdb);refine N7 (h₀:=X.base) I.ok.mod.kin M.kp (bA (ha pos pins s σ H _ I h) λus s1 ⟨vs,H1,I1,r,q⟩=>⟨I1.jj,?_⟩) he hpl;exact uj M F hr hb hd hx I1 r q
end
section
variable {X:Cx} {CX:nu} {k:Nat} {f C:Addr} {fd:FuncData} {ps ks:List Str} {sp:Sp} {E:XK} {x m:Str} {p pos apos kpos:Pos} {e o:Expr} {es:List Expr} {kws:List Keyword} {te ta:TE} {t tk:TA} {nm:Option Str}
structure GO(K:aC)(fd:FuncData)(ps ks:List Str)(g:List Value->List Value->List Value)(gV:List V->List V->List V):Prop where
 to:∀(s:Shared) (us ws:List Value),K.In s.heap->(g us ws).length=ps.length->BindsTo s fd ⟨us,ks.zip ws⟩ (ps.zip (g us ws))
 rel:∀{vs:List V} {us:List Value} {zs:List V} {ws:List Value},Vals vs us->Vals zs ws->Vals (gV vs zs) (g us ws)
variable {g:List Value->List Value->List Value} {gV:List V->List V->List V}
end
structure aL(N P:List Str)(sc:Scope):Prop where
 kind:sc.kind=.function
 co:sc.isCoroutine=false
 gen:sc.isGenerator=false
 nd:N.Nodup
 pre:N.take P.length=P
 par:∀x∈P,sc.names.lookup x=some .local∨sc.names.lookup x=some .cell
 nofree:∀y∈sc.names,y.2≠.free
theorem kZ{kindOf:Str->Option NameKind}{x:Str}:∀{binds:List (Str×Value)} {m:Str->Option Value},(∀v,(x,v)∉binds)->bindL kindOf binds m x=m x
 | [],_,_=>rfl
 | (n,v)::r,m,h=>by
  unfold bindL;rw[kZ λw hw=>h w (List.mem_cons_of_mem _ hw)];split
  ·have:x≠n:=by rintro rfl;exact h v Nz
   simp[this]
  ·rfl
theorem la{kindOf:Str->Option NameKind}{x:Str}:∀{binds:List (Str×Value)} {m:Str->Option Value},(∀v,(x,v)∉binds)->bindC kindOf binds m x=m x
 | [],_,_=>rfl
 | (n,v)::r,m,h=>by
  unfold bindC;rw[la λw hw=>h w (List.mem_cons_of_mem _ hw)];split
  ·rfl
  ·have:x≠n:=by rintro rfl;exact h v Nz
   simp[this]
theorem lb{kindOf:Str->Option NameKind}{x:Str}{v:Value}:∀{P:List Str} {vs:List Value} {i:Nat} {m:Str->Option Value},P.Nodup->P[i]?=some x->vs[i]?=some v->kindOf x=some .local ->
  bindL kindOf (P.zip vs) m x=some v
 | [],_,_,_,_,h,_,_=>by simp at h
 | _::_,[],_,_,_,_,h,_=>by simp at h
 | p::P,w::vs,0,m,nd,h1,h2,hk=>by
  simp at h1 h2;subst h1;subst h2;show bindL kindOf ((p,w)::P.zip vs) m p=_;unfold bindL;rw[kZ λv hv=>(List.nodup_cons.mp nd).1 (List.of_mem_zip hv).1,if_pos hk];simp
 | p::P,w::vs,i + 1,m,nd,h1,h2,hk=>by
  show bindL kindOf ((p,w)::P.zip vs) m x=_;unfold bindL;exact lb (i:=i) (List.nodup_cons.mp nd).2 (by simpa using h1) (by simpa using h2) hk
theorem lg{kindOf:Str->Option NameKind}{x:Str}{v:Value}:∀{P:List Str} {vs:List Value} {i:Nat} {m:Str->Option Value},P.Nodup->P[i]?=some x->vs[i]?=some v->kindOf x≠some .local ->
  bindC kindOf (P.zip vs) m x=some v
 | [],_,_,_,_,h,_,_=>by simp at h
 | _::_,[],_,_,_,_,h,_=>by simp at h
 | p::P,w::vs,0,m,nd,h1,h2,hk=>by
  simp at h1 h2;subst h1;subst h2;show bindC kindOf ((p,w)::P.zip vs) m p=_;unfold bindC;rw[la λv hv=>(List.nodup_cons.mp nd).1 (List.of_mem_zip hv).1,if_neg hk];simp
 | p::P,w::vs,i + 1,m,nd,h1,h2,hk=>by
  show bindC kindOf ((p,w)::P.zip vs) m x=_;unfold bindC;exact lg (i:=i) (List.nodup_cons.mp nd).2 (by simpa using h1) (by simpa using h2) hk
def start(N:List Str)(vs:List V):St:=vs.map some++List.replicate (N.length - vs.length) none
def jF(CX:nu)(P:Program)(w:World)(K:aC)(mg:Str->Option Value)(base:Heap)(N:List Str)(qual:Str)(scope:Scope)(f:Addr)(cd:Value)(A:Around)(outer:List Env)(s:Shared)(H:Hp)(E:XK):Cx where
 prog:=P
 w:=w
 K:=K
 mg:=mg
 base:=base
 A:=A.deeper (envOfC qual scope s.heap.objs.size f cd)
 N:=N
 s₀:=s
 H₀:=H
 env:=envOfC qual scope s.heap.objs.size f cd
 outer:=outer
 stack:=envOfC qual scope s.heap.objs.size f cd::outer
 ex:=[]
 calm:=true
 fn:=λ_=>true
 pn:=[]
 xe:=λe s'=>wpAny (model P w) (A.deeper (envOfC qual scope s.heap.objs.size f cd)) (leaving (envOfC qual scope s.heap.objs.size f cd) e) (λ_ s''=>CX outer H s E e s'') (λe' s''=>CX outer H s E e' s'') s'
theorem nE{sc:Scope}{n:Nat}{x:Str}(h:sc.names.lookup x=some .cell):∃c,(cellsFrom n sc.names []).lookup x=some c:=by
 have q:=OO sc.names n [] (.inl h);exact Option.isSome_iff_exists.mp q
theorem rW{CX:nu}{P:Program}{w:World}{K:aC}{mg:Str->Option Value}{base:Heap}{N ps:List Str}{qual:Str}{scope:Scope}{f:Addr}{cd:Value}{A:Around}{outer:List Env}{s s1:Shared}{H:Hp}{E:XK}{us:List Value}{vs:List V}
  (S:aL N ps scope) (hd:A.handled=none) (e0:pz P w K mg base A outer s H) (hl:vs.length=ps.length) (r:Vals vs us)
  (x:InCallC s s.heap.objs.size (bindL (envOfC qual scope s.heap.objs.size f cd).kindOf (ps.zip us) λ_=>none) (cellsFrom (s.heap.objs.size + 1) scope.names []) (bindC (envOfC qual scope s.heap.objs.size f cd).kindOf (ps.zip us) λ_=>none) s1) :
  Inv (jF CX P w K mg base N qual scope f cd A outer s H E) [] (start N vs) H s1:=by
 have hpl:ps.length<=N.length:=by have:=Oj List.length S.pre;rw[NK]at this;omega
 obtain⟨h1,tk,rfl,hk⟩:=x.done;have noA:∀b:Addr,b∉(jF CX P w K mg base N qual scope f cd A outer s H E).ex:=λb z=>absurd (show b∈([]:List Addr)from z) (by simp)
 refine⟨⟨e0.mod,S.kind,rfl,rfl,Nf _,λy z c h1 h2=>?_,λy hy=>?_,λy c _ h=>?_,λ_=>hd,Around.frames_deeper e0.frames,.inr ⟨rfl,rfl⟩,λb z=>absurd z (noA b),e0.bs,e0.bsz,λb _ _=>noA b,λb z=>absurd z (noA b),e0.iJ,e0.frf⟩,
  rfl,e0.bare,Un.kept hk,⟨_,x.toInCall.ns,λi y v h1 h2 h3=>?_⟩,λy c h=>⟨_,x.cell y c h⟩,e0.hok.fresh (Nat.le_refl _),λy c h=>?_,λp hp=>absurd (show p∈([]:List (Addr×Obj))from hp) (by simp),e0.hok.kept hk,?_⟩
 ·exact name_of_addr x.apart (NR h1) (NR h2)
 ·have hy:scope.names.lookup y=some .cell∨scope.names.lookup y=some .free:=hy;rcases hy with hy | hy
  ·exact nE hy
  ·exact absurd rfl (S.nofree _ (NR hy))
 ·exact N6 (x.above y c (NR h))
 ·have hi:i < vs.length:=by
   unfold start at h2;by_cases hi:i < vs.length
   ·exact hi
   ·rw[List.getElem?_append_right (by simpa using hi)]at h2;rw[List.getElem?_replicate]at h2;split at h2<;>cases h2
  have ha:vs[i]?=some v:=by
   unfold start at h2;rw[List.getElem?_append_left (by simpa using hi),List.getElem?_map]at h2
   cases e:vs[i]? with
   | none=>rw[e]at h2;cases h2
   | some a=>rw[e]at h2;cases h2;rfl
  obtain⟨u,hu,rv⟩:=r.get ha
  have hp:ps[i]?=some y:=by
   rw[← S.pre,OC (by omega)];exact h1
  have ndP:ps.Nodup:=by rw[← S.pre];exact S.nd.sublist (List.take_sublist _ _)
  refine⟨u,rv,?_⟩;rcases S.par y (Nl hp)with k | k
  ·exact .inl ⟨k,lb ndP hp hu k⟩
  ·obtain⟨c,e⟩:=nE (n:=s.heap.objs.size + 1) k;refine .inr ⟨.inl k,c,e,?_⟩;have q:=x.cell y c e;rw[lg ndP hp hu (by show scope.names.lookup y≠_;rw[k];decide)]at q;exact q
 ·exact e0.hok.fresh (N6 (x.above y c (NR h)))
 ·unfold start;show _=N.length;rw[List.length_append,List.length_map,List.length_replicate];omega
theorem Am{CX:nu}{P:Program}{w:World}{K:aC}{mg:Str->Option Value}{base:Heap}{k:Nat}{f:Addr}{name qual:Str}{params:Arguments}{body:List Stmt}{scope:Scope}{dV kV doc pm cdv ct oc:Value}{an od:Option Addr}
  {osl:Array (Option Value)} {N ps:List Str} {sp:Sp} (lk:K.lookup f=some ⟨oc,od,.func (PySem.W.fnOf name qual params body scope dV kV doc pm an cdv ct),osl⟩) (hcd:PySem.W.codeIn K cdv qual=true) (S:aL N ps scope)
  (len:∀vs H Q E,sp vs H Q E->vs.length=ps.length)
  (hbody:∀(A:Around) (outer:List Env) (s:Shared) (H:Hp) (vs:List V) (Q:VK) (E:XK),bR k (A.deeper (envOfC qual scope s.heap.objs.size f cdv))->sp vs H Q E ->
   ∃t,jk (jF CX P w K mg base N qual scope f cdv A outer s H E) body t/\t {nx:=λ_ H'=>Q .non H',rt:=Q} (start N vs) H) :
  bB P w K mg base CX (k + 1) f (PySem.W.fnOf name qual params body scope dV kV doc pm an cdv ct) ps sp:=by
 refine⟨len,λA outer s H args us vs Q E hr e0 hb r hsp=>?_⟩;have hl:=len _ _ _ _ hsp;have KX:K.In s.heap:=e0.mod.kin.keeps λb o e=>(e0.bs b o e).1
 have lim:s.heap.NoLimit:=e0.mod.nolimit.keeps λb o e=>(e0.bs b o e).1
 have hkind:∀y∈ps.zip us,scope.names.lookup y.1=some .local∨(scope.names.lookup y.1=some .cell/\((cellsFrom (s.heap.objs.size + 1) scope.names []).lookup y.1).isSome=true):=λ⟨n,v⟩ hy=>by
  rcases S.par n (List.of_mem_zip hy).1 with q | q
  ·exact .inl q
  ·exact .inr ⟨q,OO _ _ _ (.inl q)⟩
 refine codeAny_call_function hr.depth (KX _ _ lk) rfl S.co S.gen rfl (PySem.W.codeRec_of KX hcd) (hb _ _ _ _ ?_);refine wpAny_newFunctionEnv_cells S.kind hkind λenv he s1 x=>?_
 subst he;refine⟨lim.keeps x.toInCall.keep,codeAny_func ?_⟩;obtain⟨t,ht,hq⟩:=hbody A outer s H vs Q E (hr.deeper _) hsp;have I:Inv (jF CX P w K mg base N qual scope f cdv A outer s H E) [] (start N vs) H s1:=rW S hr.hd e0 hl r x;refine Ny (ht [] s1 (start N vs) H _ I hq) (λfl s' hs=>?_) λe s' hs=>hs
 have fin:∀{σ':St} {H':Hp} {v:V} {u:Value},Inv (jF CX P w K mg base N qual scope f cdv A outer s H E) [] σ' H' s'->RelV v u->Q v H'->CE outer P w H s Q u s' :=
  λ{σ' H' v u} J rv q=>⟨v,H',J.os,J.bare,J.base,J.hok,rv,q⟩
 cases fl with
 | ret u =>
  obtain⟨v,σ',H',J,rv,q⟩:=hs;exact fin J rv q
 | next =>
  obtain⟨σ',H',J,q⟩:=hs;exact fin (v:=V.non) (u:=Value.none) J rfl q
 | brk =>
  obtain⟨_,_,_,q⟩:=hs;exact False.elim q
 | cont =>
  obtain⟨_,_,_,q⟩:=hs;exact False.elim q
section
variable {X:Cx} {x:Str} {p pos:Pos} {e:Expr} {es:List Expr} {t:TA} {id T:String} {r:List V->Hp->VK->Prop}
def GP(r:List V->Hp->VK->Prop)(t:TA):TE:=λσ H Q=>t σ H λvs H1=>r vs H1 Q
theorem eI(hc:c9 X (.builtin id) r)(hg:Gl X x)(hm:X.mg x=none)(hv:bootBuiltins x=some (.builtin id))(ha:PA X (e::es) t)(hn:x≠"__name__":=by decide)(hdb:(x == ("__debug__" : Str))=false:=by decide)
  (he:starEach (e::es) X.env=(false,eval e X.env)::starEach es X.env:=by rfl) (hpl:(backTo pos (starEach es X.env)).any (·.1)=false:=by rfl):PE X (.Call (.Name x p) (e::es) [] pos) (GP r t):=by
 intro pins s σ H Q I h;refine NV (gp I hg hm hv ?_ hn hdb);exact PyProof.Rows.callWith_builtin1 (bA (ha pos pins s σ H _ I h) λus s1 ⟨vs,H1,I1,r1,q1⟩=>hc pins s1 σ H1 vs us Q I1 r1 q1) he hpl
theorem rX(hc:c9 X (.type T) r)(hg:Gl X x)(hm:X.mg x=none)(hv:bootBuiltins x=some (.type T))(ha:PA X (e::es) t)(hn:x≠"__name__":=by decide)(hdb:(x == ("__debug__" : Str))=false:=by decide)
  (he:starEach (e::es) X.env=(false,eval e X.env)::starEach es X.env:=by rfl) (hpl:(backTo pos (starEach es X.env)).any (·.1)=false:=by rfl):PE X (.Call (.Name x p) (e::es) [] pos) (GP r t):=by
 intro pins s σ H Q I h;refine NV (gp I hg hm hv ?_ hn hdb);exact NB (bA (ha pos pins s σ H _ I h) λus s1 ⟨vs,H1,I1,r1,q1⟩=>hc pins s1 σ H1 vs us Q I1 r1 q1) he hpl
end
end L2
namespace HT
open PySem PyProof.Rows
section
open PySem.SeqAt
open PySem.AutoSeq1 (wpAny_loadPart')
open PySem.MeetsSeq PySem.MeetsSeq2 PySem.MeetsSeq3
end
section
variable {prog:Program} {w:World} {A:Around} {E:Value->Shared->Prop} {s:Shared}
theorem xE{t b:Addr}{vs ws:List Value}{Q:Value->Shared->Prop}(ht:IsTup s.heap t vs.toArray)(hb:IsTup s.heap b ws.toArray)(hv:vs≠[])
  (h1:ws=[]->Q (.ref t) s) (h2:ws≠[]->Q (.ref s.heap.objs.size) {s with heap:=s.heap.push {cls:=.type "tuple",data:=.seq (vs++ws).toArray}})
  (hsz:vs.length + ws.length<=sizeLine):wpAny (model prog w) A (binaryOp .Add (.ref t) (.ref b)) Q E s:=by
 obtain⟨⟨cls,dd,data,sl⟩,ho,hc,n,hd⟩:=id ht;obtain⟨⟨Kx,IZ,data2,BE⟩,wZ,An,n2,hd2⟩:=id hb;simp only at hc hd An hd2;subst hc hd An hd2;have e:vs.toArray++ws.toArray=(vs++ws).toArray:=by simp
 by_cases hw:ws=[]
 ·exact OV ⟨_,ho,rfl⟩ ⟨_,wZ,rfl⟩ noFill_tuple_add seq_tuple_add OP OM (OD _ _)
   (tuple_addW1 t b vs.toArray ws.toArray n n2 dd IZ sl BE (by simpa using hv) (by simp[hw])) ⟨ho,wZ,h1 hw⟩
 ·refine OV ⟨_,ho,rfl⟩ ⟨_,wZ,rfl⟩ noFill_tuple_add seq_tuple_add OP OM (OD _ _)
   (tuple_addW2 t b vs.toArray ws.toArray n n2 dd IZ sl BE (by simpa using hv) (by simpa using hw) (by rw[List.size_toArray,List.size_toArray];exact hsz)) ⟨ho,wZ,?_⟩
  rw[e];exact h2 hw
def bS(n d:Nat):Option Int->Nat
 | none=>d
 | some v=>if v < 0 then(v + (n:Int)).toNat else min v.toNat n
theorem uk(n d:Nat):bS n d none=d:=rfl
theorem xF(n d k:Nat):bS n d (some (k:Int))=min k n:=by
 show(if (k:Int) < 0 then((k:Int) + (n:Int)).toNat else min (k:Int).toNat n)=min k n;rw[Nu (by omega),OZ]
theorem BG(n d:Nat)(hd:d<=n)(o:Option Int):bS n d o<=n:=by
 cases o with
 | none=>exact hd
 | some v =>
  show(if v < 0 then(v + (n:Int)).toNat else min v.toNat n)<=n;by_cases hv:v < 0
  ·rw[Nv hv];omega
  ·rw[Nu hv];exact Nat.min_le_right _ _
theorem qD(v:Int)(n d:Nat):(if v < 0 then max (v + (n:Int)) 0 else min v (n:Int))=((bS n d (some v):Nat):Int):=by
 show(if v < 0 then max (v + (n:Int)) 0 else min v (n:Int))=(((if v < 0 then(v + (n:Int)).toNat else min v.toNat n):Nat):Int);by_cases hv:v < 0
 ·simp only[if_pos hv];omega
 ·simp only[if_neg hv];omega
theorem pA(lo hi:Option Int)(n:Nat):Builtin.Slice.sliceAdjust lo hi 1 (n:Int)=(((bS n 0 lo:Nat):Int),((bS n n hi:Nat):Int)):=by
 have h1:¬ ((1:Int) < 0):=by omega
 unfold Builtin.Slice.sliceAdjust;simp only[h1,if_false];refine Prod.ext ?_ ?_
 ·cases lo with
  | none=>rfl
  | some v=>exact qD v n 0
 ·cases hi with
  | none=>rfl
  | some v=>exact qD v n n
theorem pB(i j:Nat):Builtin.Slice.slicePlaces (i:Int) (j:Int) 1=j - i:=by
 unfold Builtin.Slice.slicePlaces;have h1:(1:Int) > 0:=by omega
 simp only[h1,if_true,Int.ediv_one];split<;>omega
theorem jG{v:Value}{o:Option Int}{Q:Option Int->Shared->Prop}(p:IsPart v o)(h:Q o s):wpAny (model prog w) A (Builtin.Slice.slicePartIndex v) Q E s:=by
 cases p with
 | none=>exact slicePart_none h
 | int i t=>exact slicePart_int h
theorem eJ{sl:Addr}{vl vu:Value}{lo hi:Option Int}{n:Nat}{Q:Int×Int×Nat->Shared->Prop}(hs:s.heap.IsSliceOf sl vl vu .none)(pl:IsPart vl lo)(pu:IsPart vu hi)
  (h:Q (((bS n 0 lo:Nat):Int),1,bS n n hi - bS n 0 lo) s):wpAny (model prog w) A (Builtin.Slice.sliceApplied (.ref sl) (pure (n:Int))) Q E s:=by
 obtain⟨os,hos,hcs,hds⟩:=id hs;unfold Builtin.Slice.sliceApplied Builtin.Slice.sliceFields;refine wpAny_bind (wpAny_bind (wpAny_field hos hds (x:=vl) rfl (wpAny_bind (wpAny_field hos hds (x:=vu) rfl (wpAny_bind (wpAny_field hos hds (x:=.none) rfl (wpAny_pure ?_)))))));refine wpAny_bind (slicePart_none ?_);show wpAny _ _ (if ((1:Int) == 0)=true then _ else _) _ _ s;rw[if_neg (by decide)];refine wpAny_bind (jG pl (wpAny_bind (jG pu (wpAny_bind (wpAny_pure ?_)))));show wpAny _ _ (match Builtin.Slice.sliceAdjust lo hi 1 (n:Int)with | (lo,hi)=>pure (lo,(1:Int),Builtin.Slice.slicePlaces lo hi 1)) _ _ s;rw[pA lo hi n];show wpAny _ _ (pure (((bS n 0 lo:Nat):Int),(1:Int),Builtin.Slice.slicePlaces ((bS n 0 lo:Nat):Int) ((bS n n hi:Nat):Int) 1)) _ _ s;rw[pB];exact wpAny_pure h
theorem um(xs:Array Value)(i k:Nat):((List.range k).filterMap λ(m:Nat)=>xs[((i:Int) + (m:Int) * 1).toNat]?).toArray=((xs.toList.drop i).take k).toArray:=by
 have e:(λ(m:Nat)=>xs[((i:Int) + (m:Int) * 1).toNat]?)=λm=>xs[i + m]?:=by
  funext m
  have:((i:Int) + (m:Int) * 1).toNat=i + m:=by omega
  rw[this]
 rw[e];have:=pick_run xs i k;rw[List.filterMap_map]at this;have e2:((λx=>xs[x]?) ∘ λx=>i + x)=λm=>xs[i + m]?:=rfl
 rw[e2]at this;rw[this]
theorem g8{t sl:Addr}{items:Array Value}{vl vu:Value}{lo hi:Option Int}{Q:Value->Shared->Prop}(ht:IsTup s.heap t items)(hs:s.heap.IsSliceOf sl vl vu .none)(pl:IsPart vl lo)(pu:IsPart vu hi)
  (hw:¬ (bS items.size 0 lo=0/\bS items.size items.size hi=items.size))
  (h:Q (.ref s.heap.objs.size) {s with heap:=s.heap.push {cls:=.type "tuple",data:=.seq ((items.toList.drop (bS items.size 0 lo)).take (bS items.size items.size hi - bS items.size 0 lo)).toArray}})
  (hsz:items.size<=sizeLine):wpAny (model prog w) A (getItem (.ref t) (.ref sl)) Q E s:=by
 have htake:sizeOk (.seq ((items.toList.drop (bS items.size 0 lo)).take (bS items.size items.size hi - bS items.size 0 lo)).toArray):=by
  show((items.toList.drop (bS items.size 0 lo)).take (bS items.size items.size hi - bS items.size 0 lo)).toArray.size<=sizeLine;rw[NN,NK,OE,Array.length_toList];omega
 have hj:bS items.size items.size hi<=items.size:=BG _ _ (Nat.le_refl _) hi;obtain⟨os,hos,hcs,hds⟩:=id hs;have hTs:s.TypeIs (.ref sl) "slice":=⟨os,hos,hcs⟩;unfold getItem
 try with_reducible refine Ot ?_
 first | refine M7 (M9 ?_) | skip
 refine M7 (wpAny_sequenceKey ht.typeIs (by decide) ?_);refine M7 (wpAny_callSpecial?_slot (name:=Str.ofString "__getitem__") ht.typeIs NS
  (OG NS ht.typeIs entry_tuple_getitem ?_ (args_tuple_getitem _ _)))
 show wpAny _ _ (Builtin.Tuple.tupleItemsOf (.ref t) >>= _) _ _ s;refine M7 (tupleItemsOf_ ht ?_);refine M7 (wpAny_typeOf hTs ?_);rw[Nv (by decide)];refine M7 (eJ hs pl pu ?_)
 have hno:¬ ((((bS items.size 0 lo:Nat):Int) == 0&&(1:Int) == 1&&(bS items.size items.size hi - bS items.size 0 lo) == items.size)=true):=by
  intro q;rw[O3,O3]at q;have q1:((bS items.size 0 lo:Nat):Int)=0:=eq_of_beq q.1.1;have q2:bS items.size items.size hi - bS items.size 0 lo=items.size:=eq_of_beq q.2;exact hw ⟨by omega,by omega⟩
 show wpAny _ _ (if (((bS items.size 0 lo:Nat):Int) == 0&&(1:Int) == 1&&(bS items.size items.size hi - bS items.size 0 lo) == items.size)=true then _ else _) _ _ s;rw[Nu hno,um]
 first
  | exact M7 (m:=Builtin.Tuple.tupleExact _) (NY (M9 ⟨_,rfl,M9 h⟩) htake)
  | exact M7 (m:=Builtin.Tuple.tupleExact _) (NY (M7 (M9 (M9 ⟨_,rfl,M9 h⟩))) htake)
  | exact M7 (M7 (m:=Builtin.Tuple.tupleExact _) (NY (M9 (M9 ⟨_,rfl,M9 h⟩)) htake))
  | exact M7 (M7 (m:=Builtin.Tuple.tupleExact _) (NY (M9 ⟨_,rfl,M9 h⟩) htake))
end
end HT
namespace L2
open PySem PySem.Spec PyProof.Rows
abbrev TO:=St->Hp->(Option Int->Hp->Prop)->Prop
def PO(X:Cx)(e:Option Expr)(t:TO):Prop :=
 ∀(pins:List (Addr×Obj)) (s:Shared) (σ:St) (H:Hp) (Q:Option Int->Hp->Prop),Inv X pins σ H s->t σ H Q ->
  wpAny (model X.prog X.w) X.A (evalPart e X.env) (λu s'=>∃o H',Inv X pins σ H' s'/\IsPart u o/\Q o H') X.xe s
def xG:TO:=λ_ H Q=>Q none H
def Eh(t:TE):TO:=λσ H Q=>t σ H λx H1=>∃i,x=.int i/\Q (some i) H1
theorem intsAre_of{ns:List Int}:∀{us:List Value},Vals (ns.map V.int) us->IntsAre us ns:=by
 induction ns with
 | nil=>intro us r;rw[List.map_nil]at r;cases r;exact .nil
 | cons n ns ih =>
  intro us r;rw[Oa]at r
  cases r with
  | cons r1 r2 =>
   obtain⟨t,e⟩:=r1;subst e;exact .cons n t (ih r2)
section
variable {X:Cx} {e:Expr} {te:TE} {lo hi:Option Expr} {tl th:TO} {pos p2:Pos}
theorem qE:PO X none xG:=by
 intro pins s σ H Q I h;rw[evalPart_none];exact M9 ⟨none,H,I,.none,h⟩
theorem qF(h:PE X e te):PO X (some e) (Eh te):=by
 intro pins s σ H Q I hw;rw[evalPart_some];refine bA (h pins s σ H _ I hw) λu s1 ⟨x,H1,I1,r1,q1⟩=>?_
 obtain⟨i,rfl,q⟩:=q1;obtain⟨t,rfl⟩:=r1;exact⟨some i,H1,I1,.int i t,q⟩
def w4(X:Cx)(r:V->Option Int->Option Int->Hp->VK->Prop):Prop :=
 ∀(pins:List (Addr×Obj)) (s:Shared) (σ:St) (H:Hp) (x:V) (v vl vu:Value) (lo hi:Option Int) (sl:Addr) (Q:VK),Inv X pins σ H s->RelV x v->s.heap.IsSliceOf sl vl vu .none->IsPart vl lo->IsPart vu hi->r x lo hi H Q ->
  ∃T id,typeLookup (.type T) "__getitem__"=pure (some (.builtin id))/\s.TypeIs v T/\wpAny (model X.prog X.w) X.A (getItem v (.ref sl)) (EP X pins σ Q) X.xe s
def Ky(r:V->Option Int->Option Int->Hp->VK->Prop)(te:TE)(tl th:TO):TE:=λσ H Q=>te σ H λx H1=>tl σ H1 λl H2=>th σ H2 λu H3=>r x l u H3 Q
theorem nF{r:V->Option Int->Option Int->Hp->VK->Prop}(hr:w4 X r)(he:PE X e te)(hl:PO X lo tl)(hu:PO X hi th):PE X (.Subscript e (.Slice lo hi none p2) pos) (Ky r te tl th):=by
 intro pins s σ H Q I h;refine Subscript_ (bA (he pins s σ H _ I h) λv s1 ⟨x,H1,I1,r1,q1⟩=>?_);refine wpAny_Slice (bA (hl pins s1 σ H1 _ I1 q1) λvl s2 ⟨l,H2,I2,pl,q2⟩=>bA (hu pins s2 σ H2 _ I2 q2) λvu s3 ⟨u,H3,I3,pu,q3⟩=>?_);rw[evalPart_none];refine M9 ?_;have I4:Inv X pins σ H3 {s3 with heap:=s3.heap.push {cls:=.type "slice",data:=.fields #[vl,vu,.none]}}:=I3.kept (t':=s3.toks) λb ob q=>M4 _ q
 obtain⟨T,id,hT,ht,hg⟩:=hr pins {s3 with heap:=s3.heap.push {cls:=.type "slice",data:=.fields #[vl,vu,.none]}} σ H3 x v vl vu l u s3.heap.objs.size Q I4 r1 (Heap.IsSliceOf.new ..) pl pu q3;show wpAny (model X.prog X.w) X.A (subscriptTail e (.Slice lo hi none p2) v (.ref s3.heap.objs.size)) (EP X pins σ Q) X.xe {s3 with heap:=s3.heap.push {cls:=.type "slice",data:=.fields #[vl,vu,.none]}};exact tail_any (ops:=[.ref s3.heap.objs.size,v]) ht hT hg (by with_unfolding_all rfl)
def g9(xs:List V)(lo hi:Option Int):List V:=(xs.drop (HT.bS xs.length 0 lo)).take (HT.bS xs.length xs.length hi - HT.bS xs.length 0 lo)
theorem i8(xs:List V)(lo hi:Option Int):(g9 xs lo hi).length<=xs.length:=by
 unfold g9;rw[List.length_take,List.length_drop];omega
def GQ(K:aC):V->Option Int->Option Int->Hp->VK->Prop:=λx lo hi H Q=>∃a xs,x=.ref a/\dY K H a xs /\
 ¬ (HT.bS xs.length 0 lo=0/\HT.bS xs.length xs.length hi=xs.length)/\∀p,H p=none->Q (.ref p) (upd H p (.tup (g9 xs lo hi)))
theorem BH:w4 X (GQ X.K):=by
 intro pins s σ H x v vl vu lo hi sl Q I rx hs pl pu h;obtain⟨a,xs,rfl,hx,hw,q⟩:=h;cases rx;obtain⟨its,r,ht,hz⟩:=I.tuple hx;have hlen:its.toArray.size=xs.length:=by rw[NN];exact r.length.symm
 refine⟨"tuple",_,NS.lookup,ht.typeIs,?_⟩;refine HT.g8 ht hs pl pu (by rw[hlen];exact hw) ?_ (by rw[hlen];exact hz);rw[hlen];refine⟨.ref s.heap.objs.size,_,I.laid (t':=s.toks) (o:=.tup (g9 xs lo hi)) (λb ob q=>M4 _ q) (Nf _) ?_,rfl,q _ (I.hok.fresh (Nf _))⟩;exact⟨Nr (i8 xs lo hi) hz,_,(r.drop (HT.bS xs.length 0 lo)).take (HT.bS xs.length xs.length hi - HT.bS xs.length 0 lo),IsTup.new _ _⟩
def Ei(K:aC):R2:=λx y H Q=>∃a b xs ys,x=.ref a/\y=.ref b/\dY K H a xs/\dY K H b ys/\xs≠[]/\xs.length + ys.length<=sizeLine /\
 (ys=[]->Q (.ref a) H)/\(ys≠[]->∀p,H p=none->Q (.ref p) (upd H p (.tup (xs++ys))))
theorem Vals.lT{xs:List V}{us:List Value}(r:Vals xs us):us=[]↔xs=[]:=by
 cases r with
 | nil=>simp
 | cons _ _=>simp
theorem xH:fq X (binaryOp .Add) (Ei X.K):=by
 intro pins s σ H x y v u Q I rx ry h;obtain⟨a,b,xs,ys,rfl,rfl,ha,hb,hx,hz,q1,q2⟩:=h;cases rx;cases ry;obtain⟨its,r1,p1,_⟩:=I.tuple ha;obtain⟨rY,r2,p2,_⟩:=I.tuple hb;refine HT.xE p1 p2 (λz=>hx (r1.lT.mp z)) (λz=>⟨.ref a,H,I,rfl,q1 (r2.lT.mp z)⟩) (λz=>?_) (by rw[← r1.length,← r2.length];exact hz);refine⟨.ref s.heap.objs.size,_,I.laid (t':=s.toks) (o:=.tup (xs++ys)) (λb ob q=>M4 _ q) (Nf _) ?_,rfl,q2 (λw=>z (r2.lT.mpr w)) _ (I.hok.fresh (Nf _))⟩;exact⟨by rw[OW];exact hz,_,r1.append r2,IsTup.new _ _⟩
end
def Ao(n:Nat)(i:Int):Option Nat:=if 0<=i then(if i < n then some i.toNat else none)else if -(n:Int)<=i then some (i + n).toNat else none
def i9{α:Type}(xs:List α)(i:Int):Option α:=(Ao xs.length i).bind λj=>xs[j]?
theorem xI{n:Nat}{i:Int}{j:Nat}(h:Ao n i=some j):seqIndex? i n=some j/\j < n/\-(n:Int)<=i/\i < n:=by
 unfold Ao at h;by_cases h0:0<=i
 ·rw[Nv h0]at h;by_cases h1:i < n
  ·rw[Nv h1]at h;have e:i.toNat=j:=Np h;exact⟨by rw[seqIndex_of h0 h1,e],by omega,by omega,h1⟩
  ·rw[Nu h1]at h;cases h
 ·rw[Nu h0]at h;by_cases h1:-(n:Int)<=i
  ·rw[Nv h1]at h;have e:(i + n).toNat=j:=Np h;exact⟨by rw[seqIndex_neg (by omega) h1,e],by omega,h1,by omega⟩
  ·rw[Nu h1]at h;cases h
theorem lU{α:Type}{xs:List α}{i:Int}{v:α}(h:i9 xs i=some v):∃j,seqIndex? i xs.length=some j/\xs[j]?=some v/\j < xs.length/\-(xs.length:Int)<=i/\i < xs.length:=by
 unfold i9 at h
 cases e:Ao xs.length i with
 | none=>rw[e]at h;cases h
 | some j =>
  rw[e]at h;obtain⟨h1,h2,h3,h4⟩:=xI e;exact⟨j,h1,h,h2,h3,h4⟩
theorem aN{α:Type}{xs:List α}{j:Nat}{v:α}(h:xs[j]?=some v):i9 xs (j:Int)=some v:=by
 have hj:j < xs.length:=(cV h).1
 have e:Ao xs.length (j:Int)=some j:=by
  unfold Ao;rw[if_pos (by omega),if_pos (by omega)];simp
 unfold i9;rw[e];exact h
def lV(b:Expr):Prop:=∀o i,subscripted b false o i=operate [o,i] (getItem o i)
def w6(X:Cx)(r:R2):Prop :=
 ∀(value slice:Expr) (pins:List (Addr×Obj)) (s:Shared) (σ:St) (H:Hp) (x y:V) (v u:Value) (Q:VK),Inv X pins σ H s->RelV x v->RelV y u->r x y H Q ->
  subscripted slice false v u=operate [v,u] (getItem v u)->wpAny (model X.prog X.w) X.A (subscriptTail value slice v u) (EP X pins σ Q) X.xe s
def Kz(X:Cx)(id:String)(r:V->List V->Hp->VK->Prop):Prop :=
 ∀(pins:List (Addr×Obj)) (s:Shared) (σ:St) (H:Hp) (x:V) (xs:List V) (v:Value) (us:List Value) (Q:VK),Inv X pins σ H s->RelV x v->Vals xs us->r x xs H Q ->
  wpAny (model X.prog X.w) X.A (call (.builtin id) (v::us)) (EP X pins σ Q) X.xe s
section
variable {X:Cx} {a b:Expr} {ta tb:TE} {pos:Pos}
theorem w6.or{r r':R2}(h:w6 X r)(h':w6 X r'):w6 X (λx y H Q=>r x y H Q∨r' x y H Q):=by
 intro value slice pins s σ H x y v u Q I rx ry q hs;rcases q with q | q
 ·exact h value slice pins s σ H x y v u Q I rx ry q hs
 ·exact h' value slice pins s σ H x y v u Q I rx ry q hs
theorem eK{r:R2}(hr:w6 X r)(ha:PE X a ta)(hb:PE X b tb)(hs:lV b):PE X (.Subscript a b pos) (D6 r ta tb):=by
 intro pins s σ H Q I h;exact Subscript_ (Bw ha hb I h λv u s2 x y H2 I2 rx ry q=>hr a b pins s2 σ H2 x y v u Q I2 rx ry q (hs _ _))
def Ej(K:aC):R2:=λx y H Q=>∃p xs i v,x=.ref p/\y=.int i/\cy K H p xs/\i9 xs i=some v/\Q v H
def xJ(K:aC):R2:=λx y H Q=>∃p xs i v,x=.ref p/\y=.int i/\dY K H p xs/\i9 xs i=some v/\Q v H
def Ek:R2:=λx y H Q=>∃z i c,x=.str z/\y=.int i/\z.length<=sizeLine/\i9 z.cps.toList i=some c/\Q (.str ⟨#[c]⟩) H
theorem lW:w6 X (Ej X.K):=by
 intro value slice pins s σ H x y v u Q I rx ry h hs;obtain⟨p,xs,i,z,rfl,rfl,hq,he,q⟩:=h;cases rx;obtain⟨t,rfl⟩:=ry;obtain⟨its,r,pl,hz⟩:=I.list hq;obtain⟨j,h1,h2,h3,h4,h5⟩:=lU he;obtain⟨w,ew,rw'⟩:=r.get h2;have hl:=r.length;have hn:=jC;have fin:EP X pins σ Q w s:=⟨z,H,I,rw',q⟩;by_cases h0:0<=i
 ·have hj:i.toNat=j:=by
   rw[seqIndex_of h0 h5]at h1;exact Np h1
  exact item_listR pl.isList h0 (by omega) (by rw[hj];simpa using ew) fin hs
 ·have hj:(i + (its.toArray.size:Int)).toNat=j:=by
   rw[seqIndex_neg (by omega) h4]at h1;rw[NN,← hl];exact Np h1
  exact N8 (x:=w) pl.isList.typeIs slot_list_getitem.lookup
   (wpAny_getItem_list_neg (Q:=λr s'=>r=w/\EP X pins σ Q r s') pl.isList (by omega) (by rw[List.size_toArray]<;>omega) (by omega) (by rw[hj];simpa using ew) ⟨rfl,fin⟩) hs
theorem eP:w6 X (xJ X.K):=by
 intro value slice pins s σ H x y v u Q I rx ry h hs;obtain⟨p,xs,i,z,rfl,rfl,hq,he,q⟩:=h;cases rx;obtain⟨t,rfl⟩:=ry;obtain⟨its,r,pl,hz⟩:=I.tuple hq;obtain⟨j,h1,h2,h3,h4,h5⟩:=lU he;obtain⟨w,ew,rw'⟩:=r.get h2;have hl:=r.length;have hn:=jC;have fin:EP X pins σ Q w s:=⟨z,H,I,rw',q⟩;exact N8 (x:=w) pl.typeIs slot_tuple_getitem.lookup
  (getItem_tuple (j:=j) (Q:=λr s'=>r=w/\EP X pins σ Q r s') pl (by omega) (by omega) (by rw[List.size_toArray,← hl];exact h1) (by simpa using ew) ⟨rfl,fin⟩) hs
theorem BI:w6 X Ek:=by
 intro value slice pins s σ H x y v u Q I rx ry h hs;obtain⟨z,i,c,rfl,rfl,hz,he,q⟩:=h;obtain⟨t,rfl⟩:=rx;obtain⟨t',rfl⟩:=ry;obtain⟨j,h1,h2,h3,h4,h5⟩:=lU he;have hl:z.cps.toList.length=z.length:=by simp[Str.length]
 rw[hl]at h1 h4 h5;have hn:=jC
 exact tail_any (typeIs_str s z t) slot_str_getitem.lookup (getItem_str (c:=c) (by
  have e1:decide (i < -(2 ^ 63:Int))=false:=decide_eq_false (by omega);have e2:decide (i ≥ 2 ^ 63)=false:=decide_eq_false (by omega);rw[e1,e2,Bool.or_false]) (by rw[h1];simpa using h2) ⟨.str ⟨#[c]⟩,H,I.tok _,⟨_,rfl⟩,q⟩) hs
def I0(K:aC):R2:=λx y H Q=>Ej K x y H Q∨xJ K x y H Q∨Ek x y H Q
theorem uo:w6 X (I0 X.K):=lW.or (eP.or BI)
theorem lX(lo hi:Option Int)(n:Nat):(sliceBounds lo hi none n).1=((HT.bS n 0 lo:Nat):Int)/\(sliceBounds lo hi none n).2.1=((HT.bS n n hi:Nat):Int)/\(sliceBounds lo hi none n).2.2=1:=by
 refine⟨?_,?_,rfl⟩
 ·cases lo with
  | none=>simp[sliceBounds,HT.bS]
  | some i =>
   simp only[sliceBounds,HT.bS,Option.getD_none,show(1:Int) > 0 by decide,if_true];by_cases h:i < 0
   ·simp only[h,if_true]<;>omega
   ·simp only[h,if_false]<;>omega
 ·cases hi with
  | none=>simp[sliceBounds,HT.bS]
  | some i =>
   simp only[sliceBounds,HT.bS,Option.getD_none,show(1:Int) > 0 by decide,if_true];by_cases h:i < 0
   ·simp only[h,if_true]<;>omega
   ·simp only[h,if_false]<;>omega
theorem kE(its:List Value)(lo hi:Option Int):slicePick its.toArray lo hi none=((its.drop (HT.bS its.length 0 lo)).take (HT.bS its.length its.length hi - HT.bS its.length 0 lo)).toArray:=by
 obtain⟨h1,h2,h3⟩:=lX lo hi its.toArray.size;unfold slicePick;rw[h1,h2,h3];simp only[sliceRange_one,pick_run,List.size_toArray]<;>rfl
def El(K:aC):V->Option Int->Option Int->Hp->VK->Prop:=λx lo hi H Q=>∃a xs,x=.ref a/\cy K H a xs/\∀p,H p=none->Q (.ref p) (upd H p (.lst (g9 xs lo hi)))
theorem qG:w4 X (El X.K):=by
 intro pins s σ H x v vl vu lo hi sl Q I rx hs pl pu h;obtain⟨a,xs,rfl,hx,q⟩:=h;cases rx;obtain⟨its,r,ht,hz⟩:=I.list hx;have hlen:=r.length;refine⟨"list",_,slot_list_getitem.lookup,ht.isList.typeIs,?_⟩;refine wpAny_getItem_list_slice ht.isList hs pl pu .none (by simp) ?_ (by rw[List.size_toArray]<;>omega)
 rw[kE,← hlen];refine⟨.ref s.heap.objs.size,_,I.laid (t':=s.toks) (o:=.lst (g9 xs lo hi)) (λb ob q=>M4 _ q) (Nf _) ?_,rfl,q _ (I.hok.fresh (Nf _))⟩;exact⟨Nr (i8 xs lo hi) hz,_,0,(r.drop (HT.bS xs.length 0 lo)).take (HT.bS xs.length xs.length hi - HT.bS xs.length 0 lo),Ng _ rfl⟩
theorem hJ:c9 X (.builtin "len") (λxs H Q=>∃p ys,xs=[.ref p]/\(cy X.K H p ys∨dY X.K H p ys)/\Q (.int ys.length) H):=by
 intro pins s σ H xs us Q I r h;obtain⟨p,ys,rfl,hq,q⟩:=h;obtain⟨u,rfl,rx⟩:=vals1 r;cases rx;have hn:=jC;rcases hq with hq | hq
 ·obtain⟨its,r',pl,hz⟩:=I.list hq;have hlen:=r'.length;exact Calls.call_len_list pl.isList (by simp only[List.size_toArray]<;>omega) ⟨.int ys.length,H,I.tok _,⟨s.toks + 1,by rw[List.size_toArray,hlen]⟩,q⟩
 ·obtain⟨its,r',pl,hz⟩:=I.tuple hq;have hlen:=r'.length;exact len_tuple pl (by simp only[List.size_toArray]<;>omega) ⟨.int ys.length,H,I.tok _,⟨s.toks + 1,by rw[List.size_toArray,hlen]⟩,q⟩
theorem lZ:c9 X (.builtin "len") (λxs H Q=>∃z,xs=[.str z]/\z.length<=sizeLine/\Q (.int z.length) H):=by
 intro pins s σ H xs us Q I r h;obtain⟨z,rfl,hz,q⟩:=h;obtain⟨u,rfl,t,rfl⟩:=vals1 r;have hn:=jC;exact len_str (by omega) ⟨.int z.length,H,I.tok _,⟨_,rfl⟩,q⟩
theorem ma:c9 X (.type "list") (λxs H Q=>∃p ys,xs=[.ref p]/\(cy X.K H p ys∨dY X.K H p ys)/\∀l,H l=none->Q (.ref l) (upd H l (.lst ys))):=by
 intro pins s σ H xs us Q I r h;obtain⟨p,ys,rfl,hq,q⟩:=h;obtain⟨u,rfl,rx⟩:=vals1 r;cases rx;have fin:∀(its:List Value),Vals ys its->ys.length<=sizeLine->∀(h':Heap) (c':Nat),(∀b o',s.heap.get? b=some o'->h'.get? b=some o') ->
   h'.get? s.heap.objs.size=some {cls:=.type "list",dict:=none,data:=.seq its.toArray c',slots:=#[]}->EP X pins σ Q (.ref s.heap.objs.size) {s with heap:=h'}:=λits r' hz h' c' kp e =>
  ⟨.ref s.heap.objs.size,_,I.laid (t':=s.toks) kp (Nf _) (show cM X.prog X.w _ h' _ (.lst ys)from ⟨hz,its,c',r',e⟩),rfl,q _ (I.hok.fresh (Nf _))⟩
 rcases hq with hq | hq
 ·obtain⟨its,r',pl,hz⟩:=I.list hq;have hlen:=r'.length;obtain⟨o,ho,hc,n,hd⟩:=pl.isList;exact call_list_seq p (.inl rfl) ho hc hd (λh' c' kp e=>fin its r' hz h' c' kp e) (by simp only[List.size_toArray]<;>omega)
 ·obtain⟨its,r',pl,hz⟩:=I.tuple hq;have hlen:=r'.length;obtain⟨o,ho,hc,n,hd⟩:=pl;exact call_list_seq p (.inr rfl) ho hc hd (λh' c' kp e=>fin its r' hz h' c' kp e) (by simp only[List.size_toArray]<;>omega)
def GR(K:aC)(T:String)(x:V)(H:Hp):Prop:=match x with
 | .str _=>T="str"
 | .int _=>T="int"
 | .ref p=>(T="list"/\∃xs,cy K H p xs)∨(T="tuple"/\∃o,K.lookup p=some o/\o.cls=.type "tuple"/\o.dict=none) ∨
   (T="dict"/\((∃kvs,H p=some (.dK kvs))∨∃kvs,H p=some (.dT kvs)))∨(T="set"/\∃S n,H p=some (.set S n))
 | _=>False
theorem BJ{pins:List (Addr×Obj)}{σ:St}{H:Hp}{s:Shared}{T:String}{x:V}{v:Value}(I:Inv X pins σ H s)(r:RelV x v)(ty:GR X.K T x H):
  s.TypeIs v T/\∀a,v=.ref a->∃ob,s.heap.get? a=some ob/\ob.dict=none:=by
 cases x with
 | str z =>
  obtain⟨t,rfl⟩:=r;cases (show T="str" from ty);exact⟨typeIs_str s z t,λ_ e=>nomatch e⟩
 | int i =>
  obtain⟨t,rfl⟩:=r;cases (show T="int" from ty);exact⟨typeIs_int s i t,λ_ e=>nomatch e⟩
 | ref p =>
  cases r;rcases ty with⟨rfl,xs,hq⟩ | ⟨rfl,o,hk,hc,hd⟩ | ⟨rfl,hk⟩ | ⟨rfl,S,n,hk⟩
  ·obtain⟨its,_,pl,_⟩:=I.list hq;refine⟨pl.isList.typeIs,λa e=>?_⟩;cases e;obtain⟨o,n,e,c,hd,_⟩:=pl;exact⟨o,e,hd⟩
  ·refine⟨⟨o,I.jj p o hk,hc⟩,λa e=>?_⟩;cases e;exact⟨o,I.jj _ o hk,hd⟩
  ·have z:∃o,s.heap.get? p=some o/\o.ExactDict:=by
    rcases hk with⟨kvs,hk⟩ | ⟨kvs,hk⟩
    ·obtain⟨_,_,_,_,o,_,_,e,ex,_⟩:=I.hok p _ hk;exact⟨o,e,ex⟩
    ·obtain⟨_,_,_,_,o,_,_,e,ex,_⟩:=I.hok p _ hk;exact⟨o,e,ex⟩
   obtain⟨o,e,ex⟩:=z;refine⟨⟨o,e,ex.1⟩,λa e2=>?_⟩;cases e2;exact⟨o,e,ex.2.1⟩
  ·obtain⟨o,_,_,_,e,ex,_⟩:=I.hok p _ hk;refine⟨⟨o,e,ex.1⟩,λa e2=>?_⟩;cases e2;exact⟨o,e,ex.2.1⟩
 | _=>exact False.elim ty
def KA(K:aC)(T:String)(r:V->List V->Hp->VK->Prop)(to:TE)(t:TA):TE:=λσ H Q=>to σ H λx H1=>GR K T x H1/\t σ H1 λxs H2=>r x xs H2 Q
variable {o e:Expr} {es:List Expr} {to:TE} {t:TA} {name:Str} {apos cpos:Pos} {T id:String} {r:V->List V->Hp->VK->Prop}
theorem Em(pa:PlainAttrs T)(slot:Slot T name id)(hty:typeOf (.builtin id)=pure (.type "method_descriptor"))(hm:Kz X id r)(ho:PE X o to)(ha:PA X (e::es) t)
  (hbase:attributeBase o name X.env (eval o X.env)=eval o X.env:=by rfl)
  (hfew:((backTo cpos (starEach (e::es) X.env)).all (λx=>!x.1)&&(backToKw cpos (keywordEach [] X.env)).all (λx=>x.1.isSome)
   && decide ((e::es).length + ([]:List Keyword).length + (if ([]:List Keyword).isEmpty then 0 else 1) < 30))=true:=by rfl)
  (hline:(apos.endLine == cpos.line)=true:=by rfl) (hs:starEach (e::es) X.env=(false,eval e X.env)::starEach es X.env:=by rfl) (hplain:(backTo cpos (starEach es X.env)).any (·.1)=false:=by rfl) :
  PE X (.Call (.Attribute o name apos) (e::es) [] cpos) (KA X.K T r to t):=by
 intro pins s σ H Q I h;refine wpAny_Call_method_late hbase hfew hline rfl (bA (ho pins s σ H _ I h) λv s1 ⟨x,H1,I1,r1,ty,q1⟩=>?_);obtain⟨h1,h2⟩:=BJ I1 r1 ty;refine⟨T,id,pa,slot,hty,h1,h2,?_⟩;have hA:=ha cpos pins s1 σ H1 _ I1 q1;rw[hs]at hA ⊢;refine Calls.callWith_builtin (by show(false||(backTo cpos (starEach es X.env)).any (·.1))=false;rw[hplain]<;>rfl) (Calls.evalArgs_plain ?_)
 exact bA hA λus s2 ⟨vs,H2,I2,r2,q2⟩=>hm pins s2 σ H2 x vs v us Q I2 r1 r2 q2
end
def KC(X:Cx)(id:String)(r:V->List V->Hp->VK->Prop):Prop :=
 ∀(pins:List (Addr×Obj)) (s:Shared) (σ:St) (H:Hp) (x:V) (xs:List V) (v:Value) (us:List Value) (Q:VK),Inv X pins σ H s->RelV x v->Vals xs us->r x xs H Q ->
  wpAny (model X.prog X.w) X.A (call (.builtin id) (v::us)) (EP X pins σ Q) X.xe s
theorem Vals.one:∀{x:V} {us:List Value},Vals [x] us->∃u,us=[u]/\RelV x u
 | _,_,.cons r .nil=>⟨_,rfl,r⟩
section
variable {X:Cx} {pins:List (Addr×Obj)} {σ:St} {H:Hp} {s:Shared} {l b:Addr} {xs ys zs:List V}
theorem Inv.GS{its its':List Value}{n:Nat}{f:Array Value->Array Value}{t':Nat}(I:Inv X pins σ H s)(hH:H l=some (.lst xs))
  (e:s.heap.get? l=some {cls:=.type "list",data:=.seq its.toArray n}) (hf:f its.toArray=its'.toArray) (hv:Vals ys its') (hz:ys.length<=sizeLine) :
  Inv X pins σ (upd H l (.lst ys)) {s with heap:=s.heap.update l (Obj.mapSeq f),toks:=t'}:=by
 have q:=PySem.IsL.update e f;rw[hf]at q;refine I.write (x:=l) (e:=l) (by rw[hH];exact trivial) (.inl rfl) (λb' u hb hu=>(OQ s.heap (Obj.mapSeq f) (Oi hb)).trans hu) ⟨_,q⟩ ?_;exact⟨hz,its',_,hv,q⟩
theorem Inv.Eo{its:List Value}{t':Nat}(I:Inv X pins σ H s)(hv:Vals ys its)(hz:ys.length<=sizeLine):
  Inv X pins σ (upd H s.heap.objs.size (.lst ys)) {s with heap:=s.heap.push {cls:=.type "list",data:=.seq its.toArray},toks:=t'} :=
 I.laid (λ_ _ q=>M4 _ q) (Nf _) ⟨hz,its,0,hv,Ng _ rfl⟩
theorem Inv.fresh(I:Inv X pins σ H s):H s.heap.objs.size=none:=I.hok.fresh (Nf _)
theorem Inv.GU(I:Inv X pins σ H s)(hH:H l=some (.lst xs)):xs.length<=sizeLine/\∃(its:List Value) (n:Nat),Vals xs its/\xs.length=its.length/\s.heap.get? l=some {cls:=.type "list",data:=.seq its.toArray n}:=by
 obtain⟨z,its,n,r,e⟩:=I.hok l _ hH;exact⟨z,its,n,r,r.length,e⟩
end
section
variable {X:Cx}
def xK:V->List V->Hp->VK->Prop:=λx vs H Q=>∃l xs y,x=.ref l/\vs=[y]/\H l=some (.lst xs)/\xs.length < sizeLine/\Q .non (upd H l (.lst (xs++[y])))
theorem lh:KC X "list.append" xK:=by
 intro pins s σ H x vs v us Q I rx rv h;obtain⟨l,xs,y,rfl,rfl,hH,hz,q⟩:=h;cases rx;obtain⟨u,rfl,ru⟩:=rv.one;obtain⟨z,its,n,r,hl,e⟩:=I.GU hH;refine call_meets F.slot_list_append ⟨_,e,rfl⟩ F.entry_list_append (F.args_list_append_2 _ _) (PySem.list_append l its.toArray n u (by rw[List.size_toArray];omega)) ⟨e,?_⟩;refine⟨.non,_,I.GS (its':=its++[u]) hH e (by simp) (r.append (.cons ru .nil)) ?_,rfl,q⟩;rw[List.length_append,List.length_singleton];omega
end
section
variable {prog:Program} {w:World} {A:Around} {E:Value->Shared->Prop} {s:Shared}
set_option maxRecDepth 100000 in
end
section
variable {X:Cx}
end
end L2
namespace Att
open PySem PySem.W PySem.Calls PyProof.Rows
theorem jl{P:Params}{h:Heap}:∀(ns:List Int) (vs:List Value),WellAll P h vs (ns.map WData.int)->IntsAre vs ns:=by
 intro ns
 induction ns with
 | nil =>
  intro vs w;rw[List.map_nil]at w;cases w;exact .nil
 | cons n ns ih =>
  intro vs w;rw[Oa]at w
  cases w with
  | cons a b =>
   cases a;exact .cons _ _ (ih _ b)
theorem rZ{l:OpenLaw}{n:Nat}(hn:l.most=some n){P:Params}{h:Heap}{args:List WData}{vals:List Value}
  (hpre:l.row.toRowW.claim.pre args=true) (hwl:WellAll P h vals args) :
  ∃a vs ns,vals=[Value.ref a]/\args=[WData.list (ns.map WData.int)]/\h.get? a=some {cls:=.type "list",data:=.seq vs.toArray}/\IntsAre vs ns/\ns.length<=n:=by
 have hsh:WShape.hasAll [] args [.list .int]=true:=(pre_splitW hpre).1;have hc:l.pre.holds [] {args:=args}=true:=(pre_splitW hpre).2;obtain⟨d,r,rfl,h1,h2⟩:=hasAllW_cons hsh;obtain rfl:=hasAllW_nil h2;obtain⟨xs,rfl,h3⟩:=hasW_list h1;obtain⟨ns,rfl⟩:=items_int h3
 have hlen:ns.length<=n:=by
  unfold OpenLaw.pre at hc
  have h4:(WTm.not (.lt (.lit (.int (n:Int))) (.len (.arg 0)))).holds [] {args:=[.list (ns.map .int)]}=true:=by
   have h4:=(holds_andW hc).1;rw[hn]at h4;exact h4
  have h5:=condW_of h4 (w_not (w_lt w_lit (w_len_list (w_arg rfl))));rw[M8]at h5;refine Nat.le_of_not_lt λq=>?_
  have q':(n:Int) < ((ns.length:Nat):Int):=by omega
  first
   | (rw[NQ q']at h5;exact absurd h5 (by decide))
   | (simp at h5;omega)
 cases hwl with
 | cons w1 w2 =>
  cases w2
  cases w1 with
  | list ho hall=>exact⟨_,_,ns,rfl,rfl,ho,jl ns _ hall,hlen⟩
theorem r6(l:OpenLaw)(args:List WData):l.row.toRowW.claim.post args (.bool true) args=true :=
 postW_of (r:=l.row.toRowW) (X:=(true == true))
  (show WShape.has [] (.bool true) .bool=true by first | rfl | decide | simp[WShape.has,WShape.arms,WShape.armsAll])
  (show(WTm.eq .res (.lit (.bool true))).value [] {args:=args,res:=some (.bool true),after:=args}=some (.bool (true == true))from w_eq_bool (w_res rfl) w_lit) rfl
theorem nG{l:OpenLaw}{n:Nat}{q:Program}{loose:List Str}{XP:(Str->Option Value)->Heap->Prop}{YP:World->Heap->Prop}{d:DefRec}
  (hn:l.most=some n) (hdf:d.params.defaults=[])
  (call:∀(w:World) (s₀ s₁:Shared) (mg mb:Str->Option Value) (fa:Addr) (o:Obj) (pm cd doc:Value) (a:Addr) (vs:List Value) (ns:List Int),
   Ground q loose [] XP w s₀ mg mb s₁.heap->YP w s₁.heap ->
   s₁.heap.get? fa=some o->o.data=.func (docDef d.name d.params d.body d.scope pm cd doc)->s₁.heap.CodeRec cd d.name->mg d.name=some (.ref fa) ->
   s₁.heap.get? a=some {cls:=.type "list",data:=.seq vs.toArray}->IntsAre vs ns->ns.length<=n->s₁.gens=#[] ->
   codeAny (model l.prog w) callerA (.call (.ref fa) ⟨[.ref a],[]⟩) (λr s'=>r=.ok (.ret (.bool true))/\OldK s₁.heap s'.heap/\s'.os=s₁.os/\AllBare s'.gens) s₁) :
  WalkO q loose XP YP l.row.toRowW d [] (λf vs=>PySem.call f vs):=by
 intro w s₀ s₁ mg mb G Y fa o pm cd doc dV kV ho hd hcd hD hmg hg args vals as hpre hlay hrd hwl hlo;obtain rfl:dV=.none:=Dflts.none hD hdf;obtain rfl:kV=.none:=Dflts.noKw hD;obtain⟨a,vs,ns,rfl,rfl,hobj,hints,hlen⟩:=rZ hn hpre hwl;refine enter_call (OB (call w s₀ s₁ mg mb fa o pm cd doc a vs ns G Y ho (fd_plain hd) hcd hmg hobj hints hlen hg) λr s' hq=>?_);obtain⟨rfl,h2,h3,h4⟩:=hq;exact⟨.inl ⟨.bool true,.bool true,[],rfl,λ_=>rfl,.bool true,r6 l _,λ_=>⟨List.Pairwise.nil,λ_ hm=>(nomatch hm)⟩⟩,h2,h3,h4⟩
section
variable {prog:Program} {w:World} {A:Around} {E:Value->Shared->Prop} {s:Shared} {K:Frag}
end
end Att
namespace L2
open PySem PySem.Spec PyProof.Rows
theorem lj:∀{vs:List Value} {ns:List Int},IntsAre vs ns->Vals (ns.map V.int) vs
 | _,_,.nil=>.nil
 | _,_,.cons n t h=>.cons ⟨t,rfl⟩ (lj h)
def BK(H:Hp):Prop:=∀b,H b=none∨∃o xs,H b=some (.gS o (.lst xs))
theorem uq{P:Program}{w:World}{K:aC}{mg mb:Str->Option Value}{CX:nu}{k:Nat}{fa a:Addr}{fd:FuncData}{x:Str}{sp:Sp}{s₁:Shared}{vs:List Value}{ns:List Int}
  (KX:K.In s₁.heap) (hns:s₁.heap.Ns mainGlobals mg) (hb:s₁.heap.Ns builtinsNs mb) (hbb:∀x:Str,x≠"__name__"->mb x=bootBuiltins x) (hlim:s₁.heap.NoLimit) (hg:s₁.gens=#[])
  (ha:s₁.heap.get? a=some {cls:=.type "list",data:=.seq vs.toArray}) (hi:IntsAre vs ns) (hl:ns.length<=sizeLine) (hr:bR k callerA)
  (F:∀base:Heap,K.In base->base.Ns mainGlobals mg->bB P w K mg base CX k fa fd [x] sp) (hbind:∀(s:Shared) (u:Value),BindsTo s fd ⟨[u],[]⟩ [(x,u)])
  (hsp:∀H:Hp,BK H->cy K H a (ns.map V.int)->sp [.ref a] H (λv _=>v=.bl true) λ_ _ _=>False)
  (hCX:∀H e s',CX [] H s₁ (λ_ _ _=>False) e s'->False) :
  codeAny (model P w) callerA (.call (.ref fa) ⟨[.ref a],[]⟩) (λr s'=>r=.ok (.ret (.bool true))/\OldK s₁.heap s'.heap/\s'.os=s₁.os/\AllBare s'.gens) s₁:=by
 have rv:=lj hi;have lenV:=hi.length;have core:∀H:Hp,BK H->cy K H a (ns.map V.int)->i6 P w H s₁.heap->(∀b,H b≠none->b=a)->(H a≠none->K.lookup a=none) ->
   codeAny (model P w) callerA (.call (.ref fa) ⟨[.ref a],[]⟩) (λr s'=>r=.ok (.ret (.bool true))/\OldK s₁.heap s'.heap/\s'.os=s₁.os/\AllBare s'.gens) s₁:=by
  intro H hO hS hok hA hK;have base_of:∀{b:Addr} {o:Obj},s₁.heap.get? b=some o->H b=none->(lM s₁.heap H).get? b=some o:=λe n=>tX e n
  have noA:∀{b:Addr} {o:Obj} {es:Array DictEntry} {ep:Nat},s₁.heap.get? b=some o->o.data=.dict es ep->H b=none:=λ{b o es ep} e d=>by
   cases q:H b with
   | none=>rfl
   | some u =>
    have e':b=a:=hA b (by rw[q];simp);subst e';rw[ha]at e;cases e;have d':Data.seq vs.toArray _=Data.dict es ep:=d;cases d'
  have nsK:∀{b:Addr} {m:Str->Option Value},s₁.heap.Ns b m->(lM s₁.heap H).Ns b m:=λ{b m} ⟨o,es,ep,e,d,r⟩=>⟨o,es,ep,base_of e (noA e d),d,r⟩
  have hKb:K.In (lM s₁.heap H):=λb o e=>base_of (KX b o e) (by
   cases q:H b with
   | none=>rfl
   | some u =>
    have e':b=a:=hA b (by rw[q];simp);subst e';rw[hK (by rw[q];simp)]at e;cases e)
  have hM:Mod K mg (lM s₁.heap H):=⟨hKb,nsK hns,⟨mb,nsK hb,hbb⟩,let ⟨mc,h1,h2⟩:=hlim;⟨mc,nsK h1,h2⟩⟩;have e0:pz P w K mg (lM s₁.heap H) callerA [] s₁ H:=⟨rfl,hM,λb o e=>xp e,Nat.le_of_eq (rM _ _),trivial,λb hb=>absurd (show b∈([]:List Addr)from hb) (by simp),hok,.of_eq hg⟩;refine codeAny_mono ((F _ hKb (nsK hns)).run callerA [] s₁ H ⟨[.ref a],[]⟩ [.ref a] [.ref a] _ _ hr e0 (hbind s₁ (.ref a)) (.cons rfl .nil) (hsp H hO hS)) λr s' h=>?_
  cases r with
  | error e=>exact(hCX H e s' h).elim
  | ok fl =>
   cases fl with
   | next=>exact False.elim h
   | brk=>exact False.elim h
   | cont=>exact False.elim h
   | ret u =>
    obtain⟨v,H',os,bare,un,hok',r',q⟩:=h;have q':v=.bl true:=q;subst q';obtain rfl:u=Value.bool true:=r';refine⟨rfl,OldK.of_keep λb o e=>?_,os,bare⟩
    cases q:H b with
    | none=>exact un.keep b o e q (by intro z;exact absurd (show b∈([]:List Addr)from z) (by simp)) (by simp)
    | some u =>
     rcases hO b with z | ⟨ob,xs,z⟩
     ·rw[q]at z;cases z
     ·have z2:=un.cb b ob _ z;obtain⟨e1,_⟩:=hok b _ z;obtain⟨e2,_⟩:=hok' b _ z2;rw[e]at e1;cases e1;exact e2
 cases hk:K.lookup a with
 | some o =>
  have e:=KX a o hk;rw[ha]at e;cases e;refine core (λ_=>none) (λ_=>.inl rfl) (.inr ⟨_,vs.toArray,_,hk,rfl,rfl,rfl,by rw[List.size_toArray,lenV];exact hl,by simpa using rv⟩) (λb u z=>by have z':(none:Option HO)=some u:=z;cases z') (λb z=>absurd rfl z) λz=>absurd rfl z
 | none =>
  refine core (λb=>if b=a then some (.gS {cls:=.type "list",data:=.seq vs.toArray} (.lst (ns.map V.int)))else none) (λb=>?_) (.inl (.inr ⟨{cls:=.type "list",data:=.seq vs.toArray},Nv rfl⟩)) (λb u z=>?_) (λb z=>?_) λ_=>hk
  ·by_cases hb:b=a
   ·exact .inr ⟨_,_,Nv hb⟩
   ·exact .inl (Nu hb)
  ·by_cases hb:b=a
   ·have z':=(Nv hb).symm.trans z;cases z';subst hb;exact⟨ha,by rw[M8];exact hl,vs,_,rv,ha⟩
   ·have z':=(Nu hb).symm.trans z;cases z'
  ·by_cases hb:b=a
   ·exact hb
   ·exact absurd (Nu hb) z
theorem xM{l:PySem.W.OpenLaw}{n k:Nat}{q:Program}{loose:List Str}{XP:(Str->Option Value)->Heap->Prop}{YP:World->Heap->Prop}{d:DefRec}{K:Params->aC}{CX:World->nu}{sp:World->Sp}{x:Str}
  (hn:l.most=some n) (Gh:n<=sizeLine) (hdf:d.params.defaults=[]) (hr:bR k callerA)
  (hY:∀(w:World) (h:Heap),YP w h->(K w.params).In h)
  (F:∀(w:World) (mg:Str->Option Value) (fa:Addr) (h:Heap),(K w.params).In h->h.Ns mainGlobals mg->mg d.name=some (.ref fa) ->
   ∃fd:FuncData,(∀(s:Shared) (u:Value),BindsTo s fd ⟨[u],[]⟩ [(x,u)]) /\
    ∀base:Heap,(K w.params).In base->base.Ns mainGlobals mg->bB l.prog w (K w.params) mg base (CX w) k fa fd [x] (sp w))
  (hsp:∀(w:World) (H:Hp) (a:Addr) (ns:List Int),ns.length<=n->BK H->cy (K w.params) H a (ns.map V.int)->sp w [.ref a] H (λv _=>v=.bl true) λ_ _ _=>False)
  (hCX:∀(w:World) (H:Hp) (s:Shared) (e:Value) (s':Shared),CX w [] H s (λ_ _ _=>False) e s'->False) :
  PySem.W.WalkO q loose XP YP l.row.toRowW d [] (λf vs=>PySem.call f vs):=by
 refine Att.nG hn hdf λw s₀ s₁ mg mb fa o pm cd doc a vs ns G Y ho hd hcd hmg hobj hints hlen hg=>?_
 have KX:=hY w _ Y;obtain⟨fd,hb,hF⟩:=F w mg fa _ KX G.T.g hmg;exact uq KX G.T.g G.T.b G.T.builtins G.T.nolimit hg hobj hints (Nr hlen Gh) hr hF hb (λH hO hS=>hsp w H a ns hlen hO hS) λH e s'=>hCX w H s₁ e s'
def iC(s:Stmt)(j:Nat):Stmt:=match s with
 | .ClassDef _ _ _ body _ _ _ _ _ _ _=>body.getD j (.Pass ⟨0,0,0,0⟩)
 | _=>.Pass ⟨0,0,0,0⟩
def dA(s:Stmt):Arguments:=match s with
 | .FunctionDef _ a _ _ _ _ _ _ _ _=>a
 | _=>{posonlyargs:=[],args:=[],vararg:=none,kwonlyargs:=[],kw_defaults:=[],kwarg:=none,defaults:=[]}
def dB(s:Stmt):List Stmt:=match s with
 | .FunctionDef _ _ b _ _ _ _ _ _ _=>b
 | _=>[]
def dS(s:Stmt):Scope:=match s with
 | .FunctionDef _ _ _ _ _ _ sc _ _ _=>sc
 | _=>{kind:=.function,names:=[],isGenerator:=false,isCoroutine:=false}
abbrev cf:nu:=λ_ _ _ _ _ _=>False
abbrev E0:XK:=λ_ _ _=>False
theorem jH{X:Cx}:Passes cf X E0:=λ_ _ _ _ _ _ _ h=>h.elim
structure iH(K:aC)(x qual:Str)(st:Stmt)(f:Addr)(fd:FuncData):Prop where
 ex:∃(oc:Value) (od:Option Addr) (kV doc pm:Value) (an:Option Addr) (cdv ct:Value) (osl:Array (Option Value)),
  fd=PySem.W.fnOf x qual (dA st) (dB st) (dS st) .none kV doc pm an cdv ct/\K.lookup f=some ⟨oc,od,.func fd,osl⟩/\PySem.W.codeIn K cdv qual=true
 kp:PySem.W.keepIn K (.ref f)=true
section
variable {P:Program} {w:World} {K:aC} {mg:Str->Option Value} {base:Heap}
theorem iH.ok{x qual:Str}{st:Stmt}{f:Addr}{fd:FuncData}{N ps:List Str}{k:Nat}{sp:Sp}(F:iH K x qual st f fd)(S:aL N ps (dS st))(len:∀vs H Q E,sp vs H Q E->vs.length=ps.length)
  (hbody:∀(cdv:Value) (A:Around) (outer:List Env) (s:Shared) (H:Hp) (vs:List V) (Q:VK) (E:XK),bR k (A.deeper (envOfC qual (dS st) s.heap.objs.size f cdv))->sp vs H Q E ->
   ∃t,jk (jF cf P w K mg base N qual (dS st) f cdv A outer s H E).Ge (dB st) t/\t {nx:=λ_ H'=>Q .non H',rt:=Q} (start N vs) H):bB P w K mg base cf (k + 1) f fd ps sp:=by
 obtain⟨oc,od,kV,doc,pm,an,cdv,ct,osl,rfl,lk,hcd⟩:=F.ex;refine Am lk hcd S len λA outer s H vs Q E hr hsp=>?_
 obtain⟨t,h,q⟩:=hbody cdv A outer s H vs Q E hr hsp;exact⟨t,h.Ge,q⟩
theorem iH.binds{x qual:Str}{st:Stmt}{f:Addr}{fd:FuncData}{ps:List Str}(F:iH K x qual st f fd)
  (h:∀(kV doc pm:Value) (an:Option Addr) (cdv ct:Value) (us:List Value),us.length=ps.length->bindArgs (PySem.W.fnOf x qual (dA st) (dB st) (dS st) .none kV doc pm an cdv ct) ⟨us,[]⟩=pure (ps.zip us)):Binds K fd ps []:=by
 obtain⟨oc,od,kV,doc,pm,an,cdv,ct,osl,rfl,lk,hcd⟩:=F.ex;exact .all (h kV doc pm an cdv ct)
theorem pC{x qual:Str}{st:Stmt}{f:Addr}{oc:Value}{od an:Option Addr}{osl:Array (Option Value)}{kV doc pm cdv ct:Value}(l:K.lookup f=some ⟨oc,od,.func (PySem.W.fnOf x qual (dA st) (dB st) (dS st) .none kV doc pm an cdv ct),osl⟩)
  (c:PySem.W.codeIn K cdv qual=true) (k:PySem.W.keepIn K (.ref f)=true):iH K x qual st f (PySem.W.fnOf x qual (dA st) (dB st) (dS st) .none kV doc pm an cdv ct):=⟨⟨oc,od,kV,doc,pm,an,cdv,ct,osl,rfl,l,c⟩,k⟩
end
theorem sK{n:Nat}(h:n<=1000):n < sizeLine:=NA h (by decide)
section
variable {X:Cx}
theorem pv(i:Nat){x:Str}{pos:Pos}(hN:X.N[i]?=some x:=by rfl)(hv:Gd X.env.scope x:=by first | exact Nb rfl | exact Om (Nb rfl) | exact Om (Om rfl))(hd:(x == ("__debug__" : Str))=false:=by decide)
  (hcd:(x == ("__classdict__" : Str))=false:=by decide):PE X (.Name x pos) (Bj i):=tY hN hv hd hcd
end
theorem bI{A B:Prop}(h:B):if false=true then A else B:=by
 rw[Nu Nd];exact h
theorem cz{A B:Prop}(h:A):if true=true then A else B:=by
 rw[Nv rfl];exact h
theorem GV{c A B:Prop}[Decidable c](h1:c->A)(h2:¬ c->B):if c then A else B:=by
 by_cases h:c
 ·rw[Nv h];exact h1 h
 ·rw[Nu h];exact h2 h
def aH(H H':Hp):Prop:=∀b o,H b=some o->H' b=some o
theorem aH.refl(H:Hp):aH H H:=λ_ _ h=>h
theorem aH.trans{H H1 H2:Hp}(a:aH H H1)(b:aH H1 H2):aH H H2:=λc o h=>b c o (a c o h)
theorem aH.free{H H':Hp}(e:aH H H'){l:Addr}(h:H' l=Option.none):H l=Option.none:=by
 cases q:H l with
 | none=>rfl
 | some o =>
  rw[e l o q]at h;cases h
theorem aH.seq{K:aC}{H H':Hp}{a:Addr}{xs:List V}(e:aH H H')(h:cy K H a xs):cy K H' a xs:=by
 rcases h with(h | ⟨o,h⟩) | h
 ·exact .inl (.inl (e _ _ h))
 ·exact .inl (.inr ⟨o,e _ _ h⟩)
 ·exact .inr h
open PySem PySem.Spec
theorem ur:bootBuiltins "len"=some (.builtin "len"):=by decide +kernel
theorem er:bootBuiltins "isinstance"=some (.builtin "isinstance"):=by decide +kernel
theorem BL:bootBuiltins "max"=some (.builtin "max"):=by decide +kernel
theorem BM:bootBuiltins "all"=some (.builtin "all"):=by decide +kernel
theorem BN:bootBuiltins "int"=some (.type "int"):=by decide +kernel
theorem xN:bootBuiltins "bool"=some (.type "bool"):=by decide +kernel
theorem qH:bootBuiltins "list"=some (.type "list"):=by decide +kernel
theorem jI:bootBuiltins "tuple"=some (.type "tuple"):=by decide +kernel
theorem uu:bootBuiltins "zip"=some (.type "zip"):=by decide +kernel
theorem xO:bootBuiltins "dict"=some (.type "dict"):=by decide +kernel
theorem kF:bootBuiltins "ValueError"=some (.type "ValueError"):=by decide +kernel
theorem KG{c A B:Prop}[Decidable c](h:¬ c)(b:B):if decide c=true then A else B:=by rw[NH h];exact bI b
theorem Ja{c A B:Prop}[Decidable c](h:c)(a:A):if decide c=true then A else B:=by rw[NQ h];exact cz a
theorem Ep{c A B:Prop}[Decidable c](h:c)(b:B):if (!decide c)=true then A else B:=by rw[NQ h];exact bI b
theorem Er{c A B:Prop}[Decidable c](h:¬ c)(a:A):if (!decide c)=true then A else B:=by rw[NH h];exact cz a
structure gW(P:Program)(w:World)(K:aC)(mg:Str->Option Value)(base:Heap)(CX:nu)(x:Str)(k:Nat)(ps:List Str)(sp:Sp):Prop where
 ex:∃(f:Addr) (fd:FuncData),bB P w K mg base CX k f fd ps sp/\Binds K fd ps []/\PySem.W.keepIn K (.ref f)=true/\mg x=some (.ref f)
section
variable {X:Cx} {x:Str} {k:Nat} {ps:List Str} {sp:Sp} {e:Expr} {es:List Expr} {t:TA} {p pos:Pos}
theorem Ap(h:gW X.prog X.w X.K X.mg X.base cf x k ps sp)(hr:bR k X.A)(hg:Gl X x)(ha:PA X (e::es) t)(hdb:(x == ("__debug__" : Str))=false:=by decide)
  (he:starEach (e::es) X.env=(false,eval e X.env)::starEach es X.env:=by rfl) (hpl:(backTo pos (starEach es X.env)).any (·.1)=false:=by rfl) :
  PE X (.Call (.Name x p) (e::es) [] pos) (qA sp [] E0 t):=by
 obtain⟨f,fd,F,b,kp,m⟩:=h.ex;exact qC F hr hg m kp b .nil jH ha hdb he hpl
end
theorem aH.tup{K:aC}{H H':Hp}{a:Addr}{xs:List V}(e:aH H H')(h:dY K H a xs):dY K H' a xs:=by
 rcases h with(h | ⟨o,h⟩) | h
 ·exact .inl (.inl (e _ _ h))
 ·exact .inl (.inr ⟨o,e _ _ h⟩)
 ·exact .inr h
inductive bp(K:aC)(H:Hp):V->PyData->Prop
 | non:bp K H .non .none
 | bl (b:Bool):bp K H (.bl b) (.bool b)
 | int (i:Int):bp K H (.int i) (.int i)
 | str (x:Str):bp K H (.str x) (.str x)
 | lst {a:Addr} {xs:List V} {ds:List PyData} (h:cy K H a xs) (hl:xs.length=ds.length) (hi:∀(i:Nat) (x:V) (d:PyData),xs[i]?=some x->ds[i]?=some d->bp K H x d):bp K H (.ref a) (.list ds)
 | tup {a:Addr} {xs:List V} {ds:List PyData} (h:dY K H a xs) (hl:xs.length=ds.length) (hi:∀(i:Nat) (x:V) (d:PyData),xs[i]?=some x->ds[i]?=some d->bp K H x d):bp K H (.ref a) (.tuple ds)
def cN(K:aC)(H:Hp)(xs:List V)(ds:List PyData):Prop:=xs.length=ds.length/\∀(i:Nat) (x:V) (d:PyData),xs[i]?=some x->ds[i]?=some d->bp K H x d
theorem cN.nil{K:aC}{H:Hp}:cN K H [] []:=⟨rfl,λi x d h=>by simp at h⟩
theorem cN.cons{K:aC}{H:Hp}{x:V}{d:PyData}{xs:List V}{ds:List PyData}(h:bp K H x d)(r:cN K H xs ds):cN K H (x::xs) (d::ds) :=
 ⟨by simp[r.1],λi y e h1 h2=>by
  cases i with
  | zero=>simp at h1 h2;subst h1;subst h2;exact h
  | succ i=>exact r.2 i y e (by simpa using h1) (by simpa using h2)⟩
theorem bp.BO{K:aC}{H:Hp}{a:Addr}{xs:List V}{ds:List PyData}(h:dY K H a xs)(r:cN K H xs ds):bp K H (.ref a) (.tuple ds):=.tup h r.1 r.2
theorem bp.same{K:aC}{H H':Hp}(e:aH H H'){v:V}{d:PyData}(h:bp K H v d):bp K H' v d:=by
 induction h with
 | non=>exact .non
 | bl b=>exact .bl b
 | int i=>exact .int i
 | str x=>exact .str x
 | lst h hl hi ih=>exact .lst (e.seq h) hl ih
 | tup h hl hi ih=>exact .tup (e.tup h) hl ih
theorem fA{h:Heap}:∀{xs:List V} {us:List Value} {ds:List PyData},Vals xs us->xs.length=ds.length->(∀(i:Nat) (x:V) (d:PyData) (u:Value),xs[i]?=some x->ds[i]?=some d->RelV x u->∃as,Reads h u d as)->∃as,ReadsAll h us ds as
 | [],_,[],.nil,_,_=>⟨[],.nil⟩
 | [],_,_::_,_,hl,_=>nomatch hl
 | _::_,_,[],_,hl,_=>nomatch hl
 | x::xs,u::us,d::ds,.cons r t,hl,hi=>by
  obtain⟨as,ha⟩:=hi 0 x d u rfl rfl r;obtain⟨bs,hb⟩:=fA t (by simpa using hl) λi y e w h1 h2=>hi (i + 1) y e w (by simpa using h1) (by simpa using h2)
  exact⟨as++bs,.cons ha hb⟩
section
variable {X:Cx} {pins:List (Addr×Obj)} {σ:St} {H:Hp} {s:Shared}
theorem bp.reads(I:Inv X pins σ H s){v:V}{d:PyData}(h:bp X.K H v d):∀{u:Value},RelV v u->∃as,Reads s.heap u d as:=by
 induction h with
 | non=>intro u r;cases r;exact⟨_,.none⟩
 | bl b=>intro u r;cases r;exact⟨_,.bool b⟩
 | int i=>intro u r;obtain⟨t,rfl⟩:=r;exact⟨_,.int i t⟩
 | str x=>intro u r;obtain⟨t,rfl⟩:=r;exact⟨_,.str x t⟩
 | lst h hl hi ih =>
  intro u r;cases r;obtain⟨its,rv,⟨o,n,e,c,_,d⟩,hz⟩:=I.list h;obtain⟨as,ha⟩:=fA (h:=s.heap) rv hl λi x d u h1 h2 r=>ih i x d h1 h2 r
  exact⟨_,.list e c d ha⟩
 | tup h hl hi ih =>
  intro u r;cases r;obtain⟨its,rv,⟨o,e,c,n,d⟩,hz⟩:=I.tuple h;obtain⟨as,ha⟩:=fA (h:=s.heap) rv hl λi x d u h1 h2 r=>ih i x d h1 h2 r
  exact⟨_,.tuple e c d ha⟩
end
section
variable {X:Cx}
def BP(K:aC):R2:=λx y H Q=>∃d d',bp K H x d/\bp K H y d'/\PySem.SeqAt.shaped d=true/\PySem.SeqAt.shaped d'=true/\Q (.bl (PyData.eqv d d')) H
def Es(K:aC):R2:=λx y H Q=>∃d d',bp K H x d/\bp K H y d'/\PySem.SeqAt.shaped d=true/\PySem.SeqAt.shaped d'=true/\Q (.bl (!PyData.eqv d d')) H
theorem pD(hu:X.A.units + 64 < cLine):fq X (compareOp .Eq) (BP X.K):=by
 intro pins s σ H x y v u Q I rx ry h;obtain⟨d,d',h1,h2,s1,s2,q⟩:=h;obtain⟨as,r1⟩:=h1.reads I rx;obtain⟨bs,r2⟩:=h2.reads I ry;exact eq_dataH r1 r2 s1 s2 hu ⟨.bl _,H,I,rfl,q⟩
theorem BQ(hu:X.A.units + 64 < cLine):fq X (compareOp .NotEq) (Es X.K):=by
 intro pins s σ H x y v u Q I rx ry h;obtain⟨d,d',h1,h2,s1,s2,q⟩:=h;obtain⟨as,r1⟩:=h1.reads I rx;obtain⟨bs,r2⟩:=h2.reads I ry;exact ne_dataH r1 r2 s1 s2 hu ⟨.bl _,H,I,rfl,q⟩
def Eu(a:Addr):Heap->Prop:=λh=>∃o,h.get? a=some o/\o.cls=.type "dict"
inductive xP(K:aC)(H:Hp):V->String->Prop
 | non:xP K H .non "NoneType"
 | bl (b:Bool):xP K H (.bl b) "bool"
 | int (i:Int):xP K H (.int i) "int"
 | str (x:Str):xP K H (.str x) "str"
 | lst {a:Addr} {xs:List V} (h:cy K H a xs):xP K H (.ref a) "list"
 | tup {a:Addr} {xs:List V} (h:dY K H a xs):xP K H (.ref a) "tuple"
 | dct {a:Addr} (h:H a=some (.ext (Eu a))):xP K H (.ref a) "dict"
def GW(K:aC):List V->Hp->VK->Prop:=λvs H Q=>∃x n t b,vs=[x,.ty n]/\xP K H x t/\PySem.W.kitOne K (.type t) (.type n)=some b/\Q (.bl b) H
theorem uv:c9 X (.builtin "isinstance") (GW X.K):=by
 intro pins s σ H xs us Q I r h;obtain⟨x,n,t,b,rfl,ty,e,q⟩:=h;obtain⟨u,w',rfl,rx,rw'⟩:=vals2 r;cases rw';have fin:∀tk,EP X pins σ Q (.bool b) {s with toks:=tk}:=λtk=>⟨.bl b,H,I.tok tk,rfl,q⟩
 cases ty with
 | non=>cases rx;exact NI PySem.W.kitx_none I.jj Oy e (λz=>nomatch z) fin
 | bl y=>cases rx;exact NI PySem.W.kitx_bool I.jj Oy e (λz=>nomatch z) fin
 | int i=>obtain⟨t,rfl⟩:=rx;exact NI PySem.W.kitx_int I.jj Oy e (λz=>nomatch z) fin
 | str y=>obtain⟨t,rfl⟩:=rx;exact NI PySem.W.kitx_str I.jj Oy e (λz=>nomatch z) fin
 | lst h =>
  cases rx;obtain⟨its,rv,⟨o,n,e1,c,_,d⟩,hz⟩:=I.list h;exact NI PySem.W.kitx_list I.jj ⟨o,e1,c⟩ e (λz=>nomatch z) fin
 | dct h =>
  cases rx;obtain⟨⟨o,e1,c⟩,_⟩:=I.hok _ _ h;exact NI PySem.W.kitx_dict I.jj ⟨o,e1,c⟩ e (λz=>nomatch z) fin
 | tup h =>
  cases rx;obtain⟨its,rv,⟨o,e1,c,n,d⟩,hz⟩:=I.tuple h;exact NI PySem.W.kitx_tuple I.jj ⟨o,e1,c⟩ e (λz=>nomatch z) fin
def qI(i j:Int):Prop:=(-340282366920938463463374607431768211456 < i/\i < 340282366920938463463374607431768211456)/\(-340282366920938463463374607431768211456 < j/\j < 340282366920938463463374607431768211456)
theorem qI.ok{i j:Int}(h:qI i j):IntMulOk i j:=by
 have e:(2:Nat) ^ 128=340282366920938463463374607431768211456:=by decide
 obtain⟨⟨h1,h2⟩,h3,h4⟩:=h;have a:i.natAbs < 2 ^ 128:=by rw[e];omega
 have b:j.natAbs < 2 ^ 128:=by rw[e];omega
 exact IntMulOk.of_bits (Nr (ON a) (by decide)) (Nr (ON b) (by decide))
theorem xQ:fq X (binaryOp .Mult) (rI qI λi j=>.int (i * j)):=DG λ_ _ _ _ _ _ _ hc q=>mul_int q hc.ok
end
def jm(cells:List (Str×Addr)):List (Str×NameKind)->List (Str×Addr)->List (Str×Addr)
 | [],cs=>cs
 | (n,k)::r,cs=>jm cells r (if k == .free then(match cells.lookup n with | some c=>(n,c)::cs | none=>cs)else cs)
theorem nI{cells:List (Str×Addr)}:∀(names:List (Str×NameKind)) (cs:List (Str×Addr)),(∀x c,cs.lookup x=some c->cells.lookup x=some c)->∀x c,(jm cells names cs).lookup x=some c->cells.lookup x=some c
 | [],_,h=>h
 | (n,k)::r,cs,h=>by
  refine nI r _ λx c e=>?_
  split at e
  ·split at e
   ·rename_i c' hc;rw[OH]at e;by_cases z:(x == n)=true
    ·rw[z]at e;have z':x=n:=by simpa using z
     rw[z'];exact hc.trans e
    ·rw[Oc]at z;rw[z]at e;exact h x c e
   ·exact h x c e
  ·exact h x c e
theorem lp{cells:List (Str×Addr)}{x:Str}{c:Addr}(hx:cells.lookup x=some c):∀(names:List (Str×NameKind)) (cs:List (Str×Addr)),cs.lookup x=some c->(jm cells names cs).lookup x=some c
 | [],_,h=>h
 | (n,k)::r,cs,h=>by
  refine lp hx r _ ?_;split
  ·split
   ·rename_i c' hc;rw[OH];by_cases z:(x == n)=true
    ·rw[z];have z':x=n:=by simpa using z
     rw[z']at hx;exact hc.symm.trans hx
    ·rw[Oc]at z;rw[z];exact h
   ·exact h
  ·exact h
theorem jJ{cells:List (Str×Addr)}{x:Str}{c:Addr}(hx:cells.lookup x=some c):∀(names:List (Str×NameKind)) (cs:List (Str×Addr)),(x,NameKind.free)∈names->(jm cells names cs).lookup x=some c
 | [],_,h=>nomatch h
 | (n,k)::r,cs,h=>by
  rcases ND.mp h with e | h
  ·cases e;refine lp hx r _ ?_;simp[hx,List.lookup_cons]
  ·exact jJ hx r _ h
theorem gm{env:Env}{scope:Scope}(h:∀y∈scope.names,y.2=NameKind.free->∃c,env.cells.lookup y.1=some c):closureFor scope env=pure (jm env.cells scope.names []):=by
 have go:∀(names:List (Str×NameKind)) (cs:List (Str×Addr)),(∀y∈names,y.2=NameKind.free->∃c,env.cells.lookup y.1=some c) ->
   (forIn names cs λx (r:List (Str×Addr))=>if (x.2 == NameKind.free)=true then do let c ← cellOf env x.1;pure (ForInStep.yield ((x.1,c)::r))else pure (ForInStep.yield r):Sem (List (Str×Addr)))=pure (jm env.cells names cs):=by
  intro names
  induction names with
  | nil=>intro cs _;rfl
  | cons y r ih =>
   intro cs hy;obtain⟨n,k⟩:=y;rw[List.forIn_cons];by_cases hk:k=NameKind.free
   ·subst hk;obtain⟨c,hc⟩:=hy _ List.mem_cons_self rfl;have hc':env.cells.lookup n=some c:=hc;have hcell:cellOf env n=pure c:=by simp only[cellOf,hc']
    simp only[hcell,beq_self_eq_true,if_true,pure_bind];rw[ih _ λy hm=>hy y (List.mem_cons_of_mem _ hm)];simp only[jm,beq_self_eq_true,if_true,hc']
   ·have hb:(k == NameKind.free)=false:=by simpa using hk
    simp only[hb,Bool.false_eq_true,if_false,pure_bind];rw[ih _ λy hm=>hy y (List.mem_cons_of_mem _ hm)];simp only[jm,hb,Bool.false_eq_true,if_false]
 have e:=go scope.names [] h;unfold closureFor;simp only[bind_pure]at e ⊢;exact e
theorem jK{scope:Scope}{env:Env}(x:Str):(relabel scope env).names.lookup x=(scope.names.lookup x).map λk=>if (k == NameKind.free&&env.scope.kind == .function&&env.kindOf x == some .cell)=true then .cell else k:=by
 show(scope.names.map λ(n,k)=>if (k == NameKind.free&&env.scope.kind == .function&&env.kindOf n == some .cell)=true then(n,NameKind.cell)else(n,k)).lookup x=_
 induction scope.names with
 | nil=>rfl
 | cons y r ih =>
  obtain⟨n,k⟩:=y;rw[Oa];by_cases z:(x == n)=true
  ·have z':x=n:=by simpa using z
   subst z';by_cases hc:(k == NameKind.free&&env.scope.kind == .function&&env.kindOf x == some .cell)=true
   ·simp only[hc,if_true,List.lookup_cons,beq_self_eq_true,Option.map_some]
   ·simp only[hc,if_false,List.lookup_cons,beq_self_eq_true,Option.map_some,Bool.false_eq_true]
  ·rw[Oc]at z;by_cases hc:(k == NameKind.free&&env.scope.kind == .function&&env.kindOf n == some .cell)=true
   ·simp only[hc,if_true,List.lookup_cons,z];exact ih
   ·simp only[hc,if_false,List.lookup_cons,z,Bool.false_eq_true];exact ih
theorem bY{α β:Type}[BEq α][LawfulBEq α]{x:α}{b:β}:∀{l:List (α×β)},l.lookup x=some b->(x,b)∈l
 | [],h=>by simp at h
 | (n,k)::r,h=>by
  rw[OH]at h;by_cases z:(x == n)=true
  ·rw[z]at h;have z':x=n:=by simpa using z
   cases h;rw[z'];exact Nz
  ·rw[Oc]at z;rw[z]at h;exact NO _ (bY h)
def Cx.hU(X:Cx)(N:List Str)(scope:Scope)(C:Addr)(ex:List Addr)(s:Shared)(H:Hp):Cx where
 prog:=X.prog
 w:=X.w
 K:=X.K
 mg:=X.mg
 base:=X.base
 A:=X.A
 N:=N
 s₀:=s
 H₀:=H
 env:=compEnvC scope (jm X.env.cells scope.names []) C X.env
 outer:=X.stack
 stack:=X.stack
 ex:=ex
 fn:=λ_=>false
 calm:=X.calm
 pn:=[]
 xe:=λ_ _=>False
structure hV(X:Cx)(own:Nat)(N:List Str)(ix:List Nat)(scope:Scope):Prop where
 kind:scope.kind=.function
 calm:X.calm=true
 free:scope.names.all (λy=>y.2 != .free||X.env.kindOf y.1 == some .cell)=true
 cell:scope.names.all (λy=>y.2 != .cell)=true
 loc:scope.names.all (λy=>y.2 != .local||scope.names.lookup y.1 == some .local)=true
 ixs:(ix.map λi=>X.N[i]?)=(N.drop own).map some
 fr:(N.drop own).all (λx=>scope.names.lookup x == some .free)=true
 len:N.length=own + ix.length
def cA(own:Nat)(ix:List Nat)(σ:St):St:=List.replicate own none++ix.map λi=>(σ[i]?).getD none
theorem pE(own:Nat)(ix:List Nat)(σ:St):(cA own ix σ).drop own=ix.map λi=>(σ[i]?).getD none:=by
 unfold cA;rw[List.drop_left' (by simp)]
theorem lq{own:Nat}{ix:List Nat}{σ:St}{j:Nat}{v:V}(h:(cA own ix σ)[j]?=some (some v)):∃i,own<=j/\ix[j - own]?=some i/\σ[i]?=some (some v):=by
 unfold cA at h;by_cases hj:j < own
 ·rw[List.getElem?_append_left (by simpa using hj)]at h;rw[List.getElem?_replicate]at h;simp[hj]at h
 ·rw[List.getElem?_append_right (by simpa using hj)]at h;rw[List.length_replicate,List.getElem?_map]at h
  cases e:ix[j - own]? with
  | none=>rw[e]at h;simp at h
  | some i =>
   rw[e]at h;refine⟨i,by omega,rfl,?_⟩;have h':(σ[i]?).getD none=some v:=by simpa using h
   cases q:σ[i]? with
   | none=>rw[q]at h';simp at h'
   | some o=>rw[q]at h';simp at h';rw[h']
theorem pF{own:Nat}{ix:List Nat}{σ σ2:St}(hd:σ2.drop own=ix.map λi=>(σ[i]?).getD none):∀(j:Nat) v,(cA own ix σ)[j]?=some (some v)->σ2[j]?=some (some v):=λj v h=>by
 by_cases hj:j < own
 ·obtain⟨i,h1,_⟩:=lq h;omega
 ·have e:(cA own ix σ)[j]?=((cA own ix σ).drop own)[j - own]?:=by rw[NW];congr 1;omega
  have e2:σ2[j]?=(σ2.drop own)[j - own]?:=by rw[NW];congr 1;omega
  rw[e,pE,← hd,← e2]at h;exact h
section
variable {X:Cx} {pins:List (Addr×Obj)} {σ:St} {H:Hp} {s:Shared} {own:Nat} {N:List Str} {ix:List Nat} {scope:Scope}
theorem hV.has(B:hV X own N ix scope)(I:Inv X pins σ H s):∀y∈scope.names,y.2=NameKind.free->X.env.kindOf y.1=some .cell/\∃c,X.env.cells.lookup y.1=some c:=λy hy e=>by
 have z:=List.all_eq_true.mp B.free y hy;rw[e]at z;have z':X.env.kindOf y.1=some .cell:=by simpa using z
 exact⟨z',I.ok.has y.1 (.inl z')⟩
theorem r8{C:Addr}{ex:List Addr}{h':Heap}{tk:Nat}(B:hV X own N ix scope)(I:Inv X pins σ H s)(hC:C=s.heap.objs.size)(hx:∀b∈ex,gY X pins H b)(hlt:∀b∈ex,b < s.heap.objs.size)
  (hn:h'.Ns C (λ_=>none)) (hk:∀b o,s.heap.get? b=some o->h'.get? b=some o):Inv (X.hU N scope C ex s H) [] (cA own ix σ) H {s with heap:=h',toks:=tk}:=by
 have sub:∀x c,(jm X.env.cells scope.names []).lookup x=some c->X.env.cells.lookup x=some c:=nI scope.names [] λx c e=>by simp at e
 have nb:∀b o,X.base.get? b=some o->b∉ex:=λb o e hb=>by
  rcases (hx b hb).2.2.2.1 with z | z
  ·exact I.ok.noex b o e z
  ·exact absurd (M6 (M5 e) (Nr I.ok.bsz z)) (NC _)
 have nstk:∀b∈ex,b∉gU X.stack:=λb hb z=>by
  rcases ND.mp (I.oU b z)with e | e
  ·exact(hx b hb).2.1 e
  ·exact(hx b hb).2.2.1 e
 refine⟨⟨I.ok.mod,B.kind,I.ok.glob,I.ok.blt,?_,λx y c e1 e2=>I.ok.inj x y c (sub x c e1) (sub y c e2),λx hk'=>?_,(λ_ _ z=>absurd (show false=true from z) (by decide)),I.ok.hd,I.ok.frames,.inl rfl,λb hb=>⟨?_,λx c e=>(hx b hb).2.2.2.2.1 x c (sub x c e)⟩,
  λb o e=>I.bs b o e,Nr I.ok.bsz I.sz,nb,nstk,I.stack,I.lN⟩,rfl,I.bare,Un.kept hk,⟨_,hn,λj x v e1 e2 e3=>?_⟩,λx c e=>?_,?_,λx c e=>I.freeC x c (sub x c e),(λp hp=>nomatch hp),I.hok.kept hk,?_⟩
 ·show s.heap.objs.size<=C;exact Nat.le_of_eq hC.symm
 ·have hk'':(relabel scope X.env).names.lookup x=some .cell∨(relabel scope X.env).names.lookup x=some .free:=hk';rw[jK]at hk''
  have hf:scope.names.lookup x=some .free:=by
   cases q:scope.names.lookup x with
   | none=>rw[q]at hk'';rcases hk'' with z | z<;>cases z
   | some k =>
    rw[q]at hk'';by_cases hkf:k=.free
    ·rw[hkf]
    ·exfalso
     have hb:(k == NameKind.free)=false:=by simpa using hkf
     have hm:=List.all_eq_true.mp B.cell (x,k) (bY q);simp only[Option.map_some,hb,Bool.false_and,Bool.false_eq_true,if_false]at hk'';rcases hk'' with z | z
     ·rw[Option.some.inj z]at hm;exact absurd hm (by simp)
     ·exact hkf (Np z)
  obtain⟨_,c,hc⟩:=B.has I (x,.free) (bY hf) rfl;exact⟨c,jJ hc scope.names [] (bY hf)⟩
 ·show b≠C;rw[hC];exact Na (hlt b hb)
 ·obtain⟨i,h1,h2,h3⟩:=lq e2;have hN:N[j]?=some x:=e1
  have hxN:X.N[i]?=some x:=by
   have e:(ix.map λi=>X.N[i]?)[j - own]?=((N.drop own).map some)[j - own]?:=by rw[B.ixs]
   rw[Nk,h2,Nk,NW]at e;have hj:own + (j - own)=j:=by omega
   rw[hj,hN]at e;simpa using e
  have hfr:scope.names.lookup x=some .free:=by
   have hm:x∈N.drop own:=by
    refine Nl (i:=j - own) ?_;rw[NW,show own + (j - own)=j by omega];exact hN
   have:=List.all_eq_true.mp B.fr x hm;simpa using this
  obtain⟨hkc,c,hc⟩:=B.has I (x,.free) (bY hfr) rfl;obtain⟨m,hm,hl⟩:=I.loc;obtain⟨u,r,l⟩:=hl i x v hxN h3 (.inr (.inl hkc));refine⟨u,r,?_⟩;rcases l with⟨z,_⟩ | ⟨_,c',hc',hz⟩
  ·have z':X.env.kindOf x=some .local:=z;have hkc':X.env.kindOf x=some .cell:=hkc;rw[hkc']at z';cases z'
  ·rw[hc]at hc';cases hc';refine .inr ⟨.inl ?_,c,jJ hc scope.names [] (bY hfr),?_⟩
   ·show(relabel scope X.env).names.lookup x=some .cell;rw[jK,hfr];have hkc':X.env.kindOf x=some .cell:=hkc;have hkf:X.env.scope.kind=.function:=I.ok.kind;simp[hkc',hkf]
   ·obtain⟨o,ho,hd⟩:=hz;exact⟨o,hk _ _ ho,hd⟩
 ·obtain⟨v,o,ho,hd⟩:=I.cell x c (sub x c e);exact⟨v,o,hk _ _ ho,hd⟩
 ·show H C=none;exact I.hok.fresh (Nat.le_of_eq hC.symm)
 ·show(cA own ix σ).length=N.length;rw[B.len];simp[cA]
theorem xR{C:Addr}{ex:List Addr}{σ':St}{H':Hp}{s':Shared}(I:Inv X pins σ H s)(hx:∀b∈ex,gY X pins H b)(I':Inv (X.hU N scope C ex s H) [] σ' H' s'):Inv X pins σ H' s' :=
 I.Ah (ch:=ex) I'.os I'.base I'.hok I'.bare λb hb=>⟨(hx b hb).2.2.2.1,(hx b hb).2.1,(hx b hb).2.2.2.2.1,(hx b hb).2.2.2.2.2⟩
def DH(X:Cx)(ifs:List Expr)(tt:TT):Prop:=∀(pins:List (Addr×Obj)) (s:Shared) (σ:St) (H:Hp) (Q:Bool->Hp->Prop),Inv X pins σ H s->tt σ H Q ->
 wpAny (model X.prog X.w) X.A (forIn ifs true λc r=>if r=true then do let ok ← isTrue c X.env (eval c X.env);pure (ForInStep.yield ok)else pure (ForInStep.yield r)) (TP X pins σ Q) X.xe s
def GX:TT:=λ_ H Q=>Q true H
theorem md{X:Cx}:DH X [] GX:=λ_ _ _ H _ I h=>wpAny_tests_nil ⟨H,I,h⟩
theorem xS{X:Cx}{c:Expr}{t:TT}(h:PT X c t):DH X [c] t:=λpins s σ H Q I q=>wpAny_tests_one (h pins s σ H Q I q)
def GY(J:It)(own:Nat)(ix:List Nat)(σ:St)(g:TG)(tt:TT)(te:TE)(D:Addr)(H1:Hp)(Q:VK):Prop:=∃W:Nat->Nat->List V->Hp->Prop,
 (∃m,W 0 m [] (upd H1 D (.lst [])))/\∀i m ys H2,W i m ys H2->H2 D=some (.lst ys)/\((J.stop i H2/\Q (.ref D) H2)∨(J.go i H2/\ys.length < sizeLine/\∃Nx:List V->Hp->Prop,(∀ys' H',Nx ys' H'->∃m',m' < m/\W (i + 1) m' ys' H')/\∀x H3,J.yld i H2 x H3 ->
  g x (cA own ix σ) H3 λσ2 H4=>σ2.drop own=(ix.map λi=>(σ[i]?).getD none)/\tt σ2 H4 λb H5=>if b=true then te σ2 H5 λv H6=>H6 D=some (.lst ys)/\Nx (ys++[v]) (upd H6 D (.lst (ys++[v])))else Nx ys H5))
def GZ(own:Nat)(ix:List Nat)(wi:TI)(g:TG)(tt:TT)(te:TE):TE:=λσ H Q=>wi σ H λJ H1=>∀D,H1 D=none->GY J own ix σ g tt te D H1 Q
theorem nJ{prog:Program}{w:World}{A:Around}{R:Result->Shared->Prop}{s:Shared}{elt target iter:Expr}{ifs:List Expr}{scope:Scope}{pos:Pos}{it acc:Value}{env:Env}(I:Nat->Shared->Prop)
  (turn:∀n s,I n s->wpAny (model prog w) A (pyNext it) (λr s1=>match r with
   | none=>R (.ok .next) s1
   | some v=>wpAny (model prog w) A (letOwnedTupleGo target it v) (λ_ s1'=>wpAny (model prog w) A (assign target env v) (λ_ s2 =>
     wpAny (model prog w) A (forIn ifs true λc r=>if r=true then do let ok ← isTrue c env (eval c env);pure (ForInStep.yield ok)else pure (ForInStep.yield r)) (λok s3 =>
      if ok=true then wpAny (model prog w) A (eval elt env) (λx s4=>wpAny (model prog w) A (call (.builtin "list.append") [acc,x]) (λ_ s5=>∃m,m < n/\I m s5) (λ_ _=>False) s4) (λ_ _=>False) s3
      else ∃m,m < n/\I m s3) (λ_ _=>False) s2) (λ_ _=>False) s1') (λ_ _=>False) s1) (λ_ _=>False) s)
  (n:Nat) (h:I n s):codeAny (model prog w) A (.compLoop (.ListComp elt [⟨target,iter,ifs,0⟩] scope pos) 0 it acc env) R s:=by
 refine codeAny_loop rfl I (λn s hI=>?_) n h;show wpAny _ A ((compTurn (.ListComp elt [⟨target,iter,ifs,0⟩] scope pos) 0 it acc env).onRaise (λx=>do noteFrame x env;theTreesLotGoes x)) _ _ s;refine wpAny_noted ?_;rw[compTurn_list];refine M7 (wpAny_standAt (M7 (Ny (turn n s hI) (λr s1 h1=>?_) λ_ _ z=>z.elim)))
 cases r with
 | none=>exact M9 h1
 | some v =>
  refine M7 (Ny h1 (λ_ s1' h1'=>?_) λ_ _ z=>z.elim);refine M7 (Ny h1' (λ_ s2 h2=>M7 (Ny h2 (λok s3 h3=>?_) λ_ _ z=>z.elim)) λ_ _ z=>z.elim)
  cases ok with
  | false=>exact M9 ⟨rfl,h3⟩
  | true=>exact M7 (M7 (Ny h3 (λx s4 h4=>M7 (Ny h4 (λ_ s5 h5=>M9 (M9 ⟨rfl,h5⟩)) λ_ _ z=>z.elim)) λ_ _ z=>z.elim))
theorem qJ{elt tg iter:Expr}{ifs:List Expr}{pos:Pos}{g:TG}{tt:TT}{te:TE}{it:Addr}{fp:List Addr}{tn:Nat->Heap->Prop}{J:It}{Q:VK}{E:Value->Shared->Prop}{RR:Value->Addr->Result->Shared->Prop}(B:hV X own N ix scope)
  (hin:∀(C:Addr) (s:Shared) (H:Hp),PG (X.hU N scope C fp s H) tg g/\DH (X.hU N scope C fp s H) ifs tt/\PE (X.hU N scope C fp s H) elt te)
  (I:Inv X pins σ H s) (T:Turn X.prog X.w X.K tg J fp it tn) (st:tn 0 s.heap) (hf:∀b∈fp,gY X pins H b)
  (h:∀D,H D=none->GY J own ix σ g tt te D H Q)
  (fin:∀(D C:Addr) (H':Hp) (s':Shared) (m:Str->Option Value),Inv X pins σ H' s'->s'.heap.Ns C m->H' C=none->C≠X.env.locals->(X.s₀.heap.objs.size<=C)->(∀x c,X.env.cells.lookup x=some c->c≠C)->(∀p∈X.pn++pins,p.1≠C)->Q (.ref D) H'->RR (.ref D) C (.ok .next) s') :
  wpAny (model X.prog X.w) X.A (newList []) (λacc s3=>wpAny (model X.prog X.w) X.A (newFunctionEnv scope X.env.globals (jm X.env.cells scope.names []) [] X.env.qual none .none (some X.env)) (λcenv s4 =>
   codeAny (model X.prog X.w) X.A (.compStart (.ListComp elt [⟨tg,iter,ifs,0⟩] scope pos) 0 (.ref it) acc {cenv with scope:=relabel scope X.env}) (RR acc cenv.locals) s4) E s3) E s:=by
 obtain⟨W,⟨m0,w0⟩,turn⟩:=h s.heap.objs.size I.fresh;refine NY ?_;have I3:=I.Eo (its:=[]) (ys:=[]) (t':=s.toks) .nil (NP _)
 have hcell:∀y∈scope.names,y.2≠NameKind.cell:=λy hy e=>by
  have:=OI.mp B.cell y hy;rw[e]at this;exact absurd this (by decide)
 refine wpAny_newFunctionEnv hcell (by intro y hy;simp at hy) (λh1 BR BS=>?_) B.kind;dsimp only at BR BS ⊢;generalize G0:s.heap.push {cls:=.type "list",dict:=none,data:=.seq ([]:List Value).toArray}=h2 at BR BS ⊢
 have I3':Inv X pins σ (upd H s.heap.objs.size (.lst [])) {s with heap:=h2}:=by
  have z:({s with heap:=s.heap.push {cls:=.type "list",data:=.seq ([]:List Value).toArray},toks:=s.toks}:Shared)={s with heap:=h2}:=by rw[← G0]
  rw[← z];exact I3
 have sz:h2.objs.size=s.heap.objs.size + 1:=by rw[← G0,OS]
 have G2:∀b o,s.heap.get? b=some o->h2.get? b=some o:=λb o e=>by rw[← G0];exact M4 _ e
 have Aq:∀b o,h2.get? b=some o->h1.get? b=some o:=λb o e=>BS.extBut b o (Na (M5 e)) (M4 _ e)
 have there:∀b∈fp,b < s.heap.objs.size:=λb hb=>by obtain⟨o,e,_⟩:=T.obj _ _ st b hb;exact M5 e
 have G3:∀b∈fp,gY X pins (upd H s.heap.objs.size (.lst [])) b:=λb hb=>⟨by rw[uN (Na (there b hb))];exact(hf b hb).1,(hf b hb).2⟩
 have KH:h1.Ns h2.objs.size (λ_=>none):=by simpa using BR
 have I4:=r8 (tk:=s.toks + ([]:List (Str×Value)).length) (own:=own) (N:=N) (ix:=ix) B I3' rfl G3 (λb hb=>M6 (there b hb) (by show s.heap.objs.size<=h2.objs.size;rw[sz];exact Nat.le_succ _)) KH Aq;have nK:tn 0 h1:=T.keep _ _ _ st λb _ o e=>Aq b o (G2 b o e)
 have Bc:(X.hU N scope h2.objs.size fp {s with heap:=h2} (upd H s.heap.objs.size (.lst []))).calm=true:=B.calm;obtain⟨pg,pif,pe⟩:=hin h2.objs.size {s with heap:=h2} (upd H s.heap.objs.size (.lst []))
 have fpb:∀{H':Hp},(∀b∈fp,H' b=none)->∀b∈fp,gY (X.hU N scope h2.objs.size fp {s with heap:=h2} (upd H s.heap.objs.size (.lst []))) [] H' b:=λhz b hb =>
  ⟨hz b hb,Na (M6 (there b hb) (by show s.heap.objs.size<=h2.objs.size;rw[sz];exact Nat.le_succ _)),I4.ok.exfs b hb,.inl hb,λx c e=>(I4.ok.exf b hb).2 x c e,(λp hp=>nomatch hp)⟩
 have loop:∀s3:Shared,s3={s with heap:=h1,toks:=s.toks + ([]:List (Str×Value)).length} ->
   codeAny (model X.prog X.w) X.A (.compLoop (.ListComp elt [⟨tg,iter,ifs,0⟩] scope pos) 0 (.ref it) (.ref s.heap.objs.size) (compEnvC scope (jm X.env.cells scope.names []) h2.objs.size X.env)) (RR (.ref s.heap.objs.size) h2.objs.size) s3:=by
  rintro s3 rfl;refine nJ (λn s'=>∃i ys H',Inv (X.hU N scope h2.objs.size fp {s with heap:=h2} (upd H s.heap.objs.size (.lst []))) [] (cA own ix σ) H' s'/\tn i s'.heap/\(∀b∈fp,H' b=none)/\W i n ys H') ?_ m0
   ⟨0,[],_,I4,nK,λb hb=>(G3 b hb).1,w0⟩
  rintro n s5 ⟨i,ys,H5,I5,oY,Gg,w5⟩;obtain⟨hD,t5⟩:=turn i n ys H5 w5;rcases t5 with⟨stop,qn⟩ | ⟨go,hz,Nx,hNx,step⟩
  ·refine bA (T.done (X.hU N scope h2.objs.size fp {s with heap:=h2} (upd H s.heap.objs.size (.lst []))) rfl rfl rfl Bc i [] s5 _ H5 (λ_ _=>False) I5 (fpb Gg) oY stop) λr s6 ⟨hr,I6⟩=>?_
   subst hr;obtain⟨m,hm,_⟩:=I6.loc;refine fin _ _ H5 s6 m (xR I3' G3 I6) hm I6.free ?_ ?_ (λx c e z=>?_) (λp hp z=>?_) qn
   ·have:=I3'.lt;exact Nw this
   ·exact I3'.sz
   ·obtain⟨v,q⟩:=I3'.cell x c e;have:=q.lt;rw[z]at this;exact absurd this (NC _)
   ·have:=M5 (I3'.pin p hp).1;rw[z]at this;exact absurd this (NC _)
  ·refine bA (T.item (X.hU N scope h2.objs.size fp {s with heap:=h2} (upd H s.heap.objs.size (.lst []))) rfl rfl rfl Bc i [] s5 _ H5 (λ_ _=>False) I5 (fpb Gg) oY go) λr s6 ⟨u,hr,h6⟩=>?_
   subst hr;refine bA h6 λ_ s7 ⟨x,H7,I7,r7,y7,G4,KI⟩=>?_
   have I7':=I7.pinned (fpb KI) (T.obj _ _ G4);refine bA (pg _ s7 _ H7 x u _ I7' r7 (step x H7 y7)) λ_ s8 ⟨σ8,H8,I8,KJ,q8⟩=>?_
   refine bA (pif _ s8 σ8 H8 _ I8 q8) λb s9 ⟨H9,I9,q9⟩=>?_
   have again:∀{ys':List V} {H':Hp} {s':Shared},Inv (X.hU N scope h2.objs.size fp {s with heap:=h2} (upd H s.heap.objs.size (.lst []))) ([]++jB fp s7.heap) σ8 H' s'->Nx ys' H' ->
     ∃m,m < n/\∃i ys H',Inv (X.hU N scope h2.objs.size fp {s with heap:=h2} (upd H s.heap.objs.size (.lst []))) [] (cA own ix σ) H' s'/\tn i s'.heap/\(∀b∈fp,H' b=none)/\W i m ys H':=by
    intro ys' H' s' I' w';obtain⟨m',hm,w'⟩:=hNx _ _ w';refine⟨m',hm,i + 1,ys',H',(I'.gZ).weak ?_ (pF KJ),T.keep _ _ _ G4 λb hb o e=>(I'.pin (b,o) (Nt _ (Nt _ (eN hb e)))).1,λb hb=>?_,w'⟩
    ·rw[I'.len,← I4.len]
    ·obtain⟨o,e,d⟩:=T.obj _ _ G4 b hb;exact(I'.pin (b,o) (Nt _ (Nt _ (eN hb e)))).2.1
   cases b with
   | true =>
    simp only[if_true]at q9 ⊢;refine bA (pe _ s9 σ8 H9 _ I9 q9) λv KL ⟨y,KN,KO,KP,G5,G6⟩=>?_
    refine bA (lh _ KL σ8 KN (.ref _) [y] (.ref _) [v] (λ_ H'=>Nx (ys++[y]) H') KO rfl (.cons KP .nil) ⟨_,ys,y,rfl,rfl,G5,hz,G6⟩) λ_ MC ⟨_,MD,KQ,_,G7⟩=>?_
    exact again KQ G7
   | false =>
    simp only[Bool.false_eq_true,if_false]at q9 ⊢;exact again I9 q9
 exact codeAny_compStart_list (loop _ rfl) (T.self _ 0 _ _ _ nK (loop _ rfl))
theorem qL{K:aC}{a:Addr}{xs:List V}{g:TG}{tt:TT}{te:TE}{H1:Hp}{Q:VK}{D:Addr}(Pv:Nat->List V->Hp->Prop)(hn:xs.length<=sizeLine)(h0:Pv 0 [] (upd H1 D (.lst [])))(hD:∀i ys H,i<=xs.length->Pv i ys H->H D=some (.lst ys)/\ys.length<=i/\cy K H a xs)
  (hs:∀i x ys H2,xs[i]?=some x->Pv i ys H2->g x (cA own ix σ) H2 λσ2 H4=>σ2.drop own=(ix.map λi=>(σ[i]?).getD none)/\tt σ2 H4 λb H5=>if b=true then te σ2 H5 λv H6=>H6 D=some (.lst ys)/\Pv (i + 1) (ys++[v]) (upd H6 D (.lst (ys++[v])))else Pv (i + 1) ys H5)
  (hd:∀ys H2,Pv xs.length ys H2->Q (.ref D) H2) :
  GY (Aj K a) own ix σ g tt te D H1 Q:=by
 refine⟨λi m ys H=>m=xs.length - i/\i<=xs.length/\Pv i ys H,⟨xs.length,by simp,Nat.zero_le _,h0⟩,?_⟩;rintro i m ys H2 ⟨rfl,hi,p⟩;obtain⟨q1,q2,q3⟩:=hD i ys H2 hi p;refine⟨q1,?_⟩;by_cases hlt:i < xs.length
 ·refine .inr ⟨⟨xs,xs[i],q3,by simp[hlt]⟩,by omega,Pv (i + 1),λys' H' p'=>⟨xs.length - (i + 1),by omega,rfl,hlt,p'⟩,λx H3 y=>?_⟩;obtain⟨e1,e2⟩:=y;subst e1;exact hs i x ys _ (e2 xs q3) p
 ·have e:i=xs.length:=by omega
  subst e;exact .inl ⟨⟨xs,q3,Nf _⟩,hd ys H2 p⟩
theorem Ar{elt tg iter:Expr}{ifs:List Expr}{pos:Pos}{wi:TI}{g:TG}{tt:TT}{te:TE}(own:Nat)(N:List Str)(ix:List Nat)(B:hV X own N ix scope)(hi:PI X tg iter wi)
  (hin:∀(C:Addr) (fp:List Addr) (s:Shared) (H:Hp),PG (X.hU N scope C fp s H) tg g/\DH (X.hU N scope C fp s H) ifs tt/\PE (X.hU N scope C fp s H) elt te)
  (hs:∀x,foldedSetIterable iter X.env x=pure x:=by intro _;rfl):PE X (.ListComp elt [⟨tg,iter,ifs,0⟩] scope pos) (GZ own ix wi g tt te):=by
 intro pins s σ H Q I h
 have hnames:∀y∈scope.names,y.2=NameKind.local->scope.names.lookup y.1=some .local:=λy hy e=>by
  have:=List.all_eq_true.mp B.loc y hy;rw[e]at this;simpa using this
 rw[eval_ListComp];refine OJ (use:=none) rfl hs (gm λy hy e=>(B.has I y hy e).2) B.kind hnames (bA (hi pins s σ H _ I h) λv s1 h1=>bA h1 λitv s2 h2=>?_);obtain⟨it,fp,tn,J,H2,e,I2,T,bo,f2,rd⟩:=h2;subst e;refine qJ (Q:=Q) (RR:=λacc C=>compPost (model X.prog X.w) X.A X.xe none (EP X pins σ Q) acc C) B (λC s H=>hin C fp s H) I2 T bo f2 rd ?_;intro D C H' s' m I' hn hC hL hsz hce hpi q;exact⟨m,hn,λh' sb=>⟨.ref D,H',I'.turned (t':=s'.toks) (λb o hb e=>(sb.2 b hb).trans e) hC hL (.inr hsz) hce hpi,rfl,q⟩⟩
theorem nM{i:Nat}{x:Str}{elt tg iter:Expr}{ifs:List Expr}{pos pos' spos:Pos}{wi:TI}{g:TG}{tt:TT}{te:TE}(hN:X.N.Nodup)(hxi:X.N[i]?=some x)(hx:Loc X.env.scope x)(own:Nat)(N:List Str)(ix:List Nat)(B:hV X own N ix scope)(hi:PI X tg iter wi)
  (hin:∀(C:Addr) (fp:List Addr) (s:Shared) (H:Hp),PG (X.hU N scope C fp s H) tg g/\DH (X.hU N scope C fp s H) ifs tt/\PE (X.hU N scope C fp s H) elt te)
  (hsw:swapsWith (.ListComp elt [⟨tg,iter,ifs,0⟩] scope pos) (some (.Name x pos')) spos.line X.env=pure true:=by rfl) (hs:∀x,foldedSetIterable iter X.env x=pure x:=by intro _;rfl)
  (hfn:X.fn x=true∨X.env.scope.names.lookup x=some .local:=by first | exact .inl rfl | exact .inr rfl):PS X (.Assign [.Name x pos'] (.ListComp elt [⟨tg,iter,ifs,0⟩] scope pos) spos) (xu (GZ own ix wi g tt te) (kX i)):=by
 intro pins s σ H D0 I h
 have hnames:∀y∈scope.names,y.2=NameKind.local->scope.names.lookup y.1=some .local:=λy hy e=>by
  have:=List.all_eq_true.mp B.loc y hy;rw[e]at this;simpa using this
 rw[exec_Assign_Name_used _ _ _ _ hsw];refine M7 (wpAny_standAt (M7 ?_));show wpAny _ X.A (do let _ ← comprehension (.ListComp elt [⟨tg,iter,ifs,0⟩] scope pos) scope X.env _ (newList []) false (eval iter X.env) (some (assign (.Name x pos') X.env))) _ _ s;refine M7 (bA (OJ (use:=some (assign (.Name x pos') X.env)) (Q:=λ_ s'=>SP X pins D0 .next s') rfl hs (gm λy hy e=>(B.has I y hy e).2) B.kind hnames (bA (hi pins s σ H _ I h) λv s1 h1=>bA h1 λitv s2 h2=>?_)) λ_ s' hq=>M9 (M9 hq));obtain⟨it,fp,tn,J,H2,e,I2,T,bo,f2,rd⟩:=h2;subst e;refine qJ (Q:=λv H'=>kX i v σ H' D0.nx) (RR:=λacc C=>compPost (model X.prog X.w) X.A X.xe (some (assign (.Name x pos') X.env)) (λ_ s'=>SP X pins D0 .next s') acc C) B (λC s H=>hin C fp s H) I2 T bo f2 rd ?_;intro D C H' s' m I' hn hC hL hsz hce hpi q;show wpAny _ X.A (assign (.Name x pos') X.env (.ref D)) _ _ s';refine wpAny_assign_Name (iK I' hN hxi hx (v:=.ref D) rfl (λs'' I'' ⟨a,sb,ha⟩=>?_) hfn);refine⟨m,hn.sameBut sb ?_,λh' sb'=>⟨_,H',I''.turned (t':=s''.toks) (λb o hb e=>(sb'.2 b hb).trans e) hC hL (.inr hsz) hce hpi,q⟩⟩;rcases ha with e | e
 ·rw[e];exact hL
 ·exact Oi (hce x a e)
end
theorem range_all(bs:List Bool):(List.range bs.length).all (λi=>(bs[i]?).getD true)=bs.all id:=by
 rw[O7,OI,OI]
 constructor
 ·intro h b hb;obtain⟨i,hi,e⟩:=Oe.mp hb;have z:=h i (List.mem_range.mpr hi);rw[gR hi,e]at z;exact z
 ·intro h i hi;have hi':=List.mem_range.mp hi;rw[gR hi'];exact h _ (List.getElem_mem hi')
section
variable {X:Cx}
def G8(K:aC):List V->Hp->VK->Prop:=λxs H Q=>∃(p:Addr) (bs:List Bool),xs=[.ref p]/\cy K H p (bs.map V.bl)/\Q (.bl (bs.all id)) H
theorem uw(hc:X.calm=true):c9 X (.builtin "all") (G8 X.K):=by
 intro pins s σ H xs us Q I r h;obtain⟨p,bs,rfl,hS,q⟩:=h;obtain⟨u,rfl,ru⟩:=vals1 r;cases ru;obtain⟨its,rv,pl,hz⟩:=I.list hS
 have hlen:its.toArray.size=bs.length:=by
  have:=rv.length;simp at this;simp[this]
 have hlt:p < s.heap.objs.size:=by obtain⟨o,n,e,_⟩:=pl;exact M5 e
 refine call_all_walk (Ou pl.isList ?_);refine⟨s.heap.objs.size,_,_,its.toArray.size,_,_,λi=>(bs[i]?).getD true,rfl,Walks.list (show X.A.in1.handled=none from I.ok.hd hc) _ _ (Na hlt) its.toArray,⟨⟨_,Ng _ rfl,rfl,rfl⟩,pl.isList.push _⟩,?_,λh' tk k=>?_⟩
 ·intro i v s' Q' E' hv hq
  have hi:i < bs.length:=by
   rw[← hlen];exact(Array.getElem?_eq_some_iff.mp hv).1
  obtain⟨u',hu',ru'⟩:=rv.get (i:=i) (x:=.bl bs[i]) (by rw[List.getElem?_map,gR hi];rfl);have e:its[i]?=some v:=by simpa using hv
  rw[hu']at e;cases e;cases ru';have hq':Q' ((bs[i]?).getD true) s':=hq;rw[gR hi]at hq';exact NJ hq'
 ·rw[hlen,range_all];exact⟨.bl _,H,I.kept (t':=tk) λb o e=>k b o (by simpa using Nat.ne_of_lt (Heap.lt_size e)) (Heap.get?_push_of_some _ e),rfl,q⟩
def As(K:aC):R2:=λx y H Q=>∃l b xs zs,x=.ref l/\y=.ref b/\cy K H l xs/\cy K H b zs/\xs.length + zs.length<=sizeLine/\∀p,H p=none->Q (.ref p) (upd H p (.lst (xs++zs)))
theorem qM:fq X (binaryOp .Add) (As X.K):=by
 intro pins s σ H x y v u Q I rx ry h;obtain⟨l,b,xs,zs,rfl,rfl,hH,hB,hz,q⟩:=h;cases rx;cases ry;obtain⟨its,r,⟨⟨c1,d1,a1,G9⟩,n,e,rfl,rfl,rfl⟩,z⟩:=I.list hH;obtain⟨rY,r2,⟨⟨c2,d2,a2,BE⟩,n2,e2,rfl,rfl,rfl⟩,z2⟩:=I.list hB;have hl:=r.length;have pG:=r2.length;refine OV ⟨_,e,rfl⟩ ⟨_,e2,rfl⟩ noFill_list_add seq_list_add PySem.F.slot_list_add PySem.F.entry_list_add (PySem.F.args_list_add_2 _ _)
  (list_addW l b its.toArray rY.toArray n n2 none none G9 BE (by rw[NN,NN];omega)) ⟨e,e2,?_⟩
 rw[show its.toArray++rY.toArray=(its++rY).toArray by simp];exact⟨.ref _,_,I.Eo (t':=s.toks) (r.append r2) (by rw[List.length_append];omega),rfl,q _ I.fresh⟩
def Au(K:aC):List V->Hp->VK->Prop:=λxs H Q=>∃(p:Addr) (ns:List Int),xs=[.ref p]/\cy K H p (ns.map V.int)/\0 < ns.length/\∀m:Int,m∈ns->(∀a∈ns,a<=m)->Q (.int m) H
theorem sf(hc:X.calm=true):c9 X (.builtin "max") (Au X.K):=by
 intro pins s σ H xs us Q I r h;obtain⟨p,ns,rfl,hS,hne,q⟩:=h;obtain⟨u,rfl,ru⟩:=vals1 r;cases ru;obtain⟨its,rv,pl,hz⟩:=I.list hS;have hi:IntsAre its ns:=intsAre_of rv;obtain⟨zs,e⟩:=hi.allInts.items;have hns:ns=zs.toList.map (·.1):=by rw[← hi.numsOf,← nums_intItems,← e]
 have hz':zs.size=ns.length:=by rw[hns];simp
 have hl:=pl.isList;rw[e]at hl;refine max_intList (I.ok.hd hc) hl (by omega) λv h' tk hv hk=>?_
 obtain⟨t,rfl⟩:=intItems_at hv;have ab:=argBest_gt (numAt zs) (zs.size - 1);refine⟨.int _,H,I.kept hk,⟨t,rfl⟩,q _ ?_ λa ha=>?_⟩
 ·rw[hns,numAt_eq];exact getD_mem (NA ab.1 (by rw[M8,Array.length_toList,hz'];omega))
 ·rw[hns]at ha;obtain⟨j,hj,rfl⟩:=mem_getD ha;rw[← numAt_eq];exact ab.2 j (by simp at hj;omega)
end
section
variable {X:Cx} {tg:Expr}
end
theorem Inv.xT{X:Cx}{pins:List (Addr×Obj)}{σ:List (Option V)}{H:Hp}{s:Shared}{h':Heap}{fp:List Addr}{a:Addr}{o:HO}{t':Nat}(I:Inv X pins σ H s)(hf:∀b∈fp,gY X pins H b)
  (k:∀b u,b∉fp->s.heap.get? b=some u->h'.get? b=some u) (hp:s.heap.objs.size<=a) (new:cM X.prog X.w (upd H a o) h' a o):Inv X pins σ (upd H a o) {s with heap:=h',toks:=t'}:=by
 have hn:=I.hok.fresh hp;have nfp:∀b u,H b=some u->b∉fp:=λb u e z=>by rw[(hf b z).1]at e;cases e
 refine I.step (g':=s.gens) (d':=s.drawn) (ch:=fp) (λb hb=>⟨(hf b hb).2.2.2.1,(hf b hb).2.1,(hf b hb).2.2.2.2.1,(hf b hb).2.2.2.2.2⟩) (λb o _ _ hc e _=>k b o hc e) (λb o _ _ hc e _=>⟨o.slots,k b o hc e⟩)
  (λb o hc e n=>by rw[uN (Na (M6 (M5 e) hp))];exact n) (λb o hc e=>⟨o,k b o hc e⟩) (λb xs e=>by rw[uN (nN e hn)];exact e) (λb u xs e=>by rw[uN (nN e hn)];exact e)
  (λb ps e=>⟨#[],by rw[uN (nN e hn),e];simp⟩) (λm hm=>?_) (λb u e=>?_) I.bare
 ·obtain⟨o,es,ep,ho,r⟩:=hm;exact⟨o,es,ep,k _ o (λz=>(hf _ z).2.1 rfl) ho,r⟩
 ·by_cases hb:b=a
  ·subst hb;rw[uS]at e;cases e;exact new
  ·rw[uN hb]at e;refine(I.hok b u e).kD (λc v hc q=>k c v ?_ q) (λc q=>by rw[uN (nN q hn)];exact q) λc xs q=>by rw[uN (nN q hn)];exact q
   rcases hc with z | z
   ·rw[z];exact nfp b u e
   ·exact nfp c _ z
theorem Inv.xU{X:Cx}{pins:List (Addr×Obj)}{σ:List (Option V)}{H:Hp}{s:Shared}{h':Heap}{fp:List Addr}{t':Nat}(I:Inv X pins σ H s)(hf:∀b∈fp,gY X pins H b)
  (k:∀b u,b∉fp->s.heap.get? b=some u->h'.get? b=some u):Inv X pins σ H {s with heap:=h',toks:=t'}:=by
 have nfp:∀b u,H b=some u->b∉fp:=λb u e z=>by rw[(hf b z).1]at e;cases e
 refine I.step (g':=s.gens) (d':=s.drawn) (ch:=fp) (λb hb=>⟨(hf b hb).2.2.2.1,(hf b hb).2.1,(hf b hb).2.2.2.2.1,(hf b hb).2.2.2.2.2⟩) (λb o _ _ hc e _=>k b o hc e) (λb o _ _ hc e _=>⟨o.slots,k b o hc e⟩)
  (λ_ _ _ _ n=>n) (λb o hc e=>⟨o,k b o hc e⟩) (λ_ _ e=>e) (λ_ _ _ e=>e) (λb ps e=>⟨#[],by rw[e];simp⟩) (λm hm=>?_) (λb u e=>?_) I.bare
 ·obtain⟨o,es,ep,ho,r⟩:=hm;exact⟨o,es,ep,k _ o (λz=>(hf _ z).2.1 rfl) ho,r⟩
 ·refine(I.hok b u e).kD (λc v hc q=>k c v ?_ q) (λ_ q=>q) λ_ _ q=>q
  rcases hc with z | z
  ·rw[z];exact nfp b u e
  ·exact nfp c _ z
def eL(q:Bool)(h:Heap)(a:Addr)(its:Array Value):Prop:=match q with | true=>h.IsList a its | false=>h.IsTuple a its
def dC(q:Bool)(h:Heap)(it a:Addr)(i:Nat):Prop:=match q with | true=>h.IsListIter it a i | false=>h.IsTupleIter it a i
def Ew(q:Bool):String:=match q with | true=>"list_iterator" | false=>"tuple_iterator"
theorem eL.at{q:Bool}{h h':Heap}{a:Addr}{its:Array Value}(x:eL q h a its)(e:∀o,h.get? a=some o->h'.get? a=some o):eL q h' a its:=by
 cases q<;>(obtain⟨o,ho,r⟩:=x;exact⟨o,e _ ho,r⟩)
theorem dC.at{q:Bool}{h h':Heap}{it a:Addr}{i:Nat}(x:dC q h it a i)(e:∀o,h.get? it=some o->h'.get? it=some o):dC q h' it a i:=by
 cases q<;>(obtain⟨o,ho,r⟩:=x;exact⟨o,e _ ho,r⟩)
theorem dC.obj{q:Bool}{h:Heap}{it a:Addr}{i:Nat}(x:dC q h it a i):∃o,h.get? it=some o/\∀v,o.data≠.cell v:=by
 cases q<;>(obtain⟨o,ho,c,d⟩:=x;exact⟨o,ho,λv z=>by rw[d]at z;cases z⟩)
section
variable {prog:Program} {w:World} {A:Around} {E:Value->Shared->Prop} {s:Shared}
theorem ux{it t:Addr}{i:Nat}{its:Array Value}{x:Value}{Q:Value->Shared->Prop}(hit:s.heap.IsTupleIter it t i)(ht:s.heap.IsTuple t its)(hx:its[i]?=some x)
  (hQ:∀h',h'.IsTupleIter it t (i + 1)->Heap.SameBut it s.heap h'->Q x {s with heap:=h'}):wpAny (model prog w) A (Builtin.SmallTypes.nextOf (.ref it)) Q E s:=by
 obtain⟨o,g1,g2,g3⟩:=id hit;obtain⟨ot,g4,_,nt,g5⟩:=ht;unfold Builtin.SmallTypes.nextOf;refine wpAny_bind (wpAny_callSpecial?_slot (name:=Str.ofString "__next__") hit.typeIs F.slot_tuple_iterator_next (wpAny_call_entry F.slot_tuple_iterator_next hit.typeIs F.entry_tuple_iterator_next ?_ (F.args_tuple_iterator_next_1 _)));show wpAny _ _ (field (.ref it) 0 >>= _) _ _ s;refine wpAny_bind (wpAny_field g1 g3 (x:=.ref t) rfl ?_);show wpAny _ _ (if (Value.ref t == Value.none)=true then _ else _) _ _ s;rw[if_neg (show ¬ ((Value.ref t == Value.none)=true)from Bool.false_ne_true)];show wpAny _ _ (field (.ref it) 1 >>= _) _ _ s;refine wpAny_bind (wpAny_field g1 g3 (x:=.int i 0) rfl ?_);show wpAny _ _ (seqItems? (.ref t) >>= _) _ _ s;refine wpAny_bind (wpAny_seqItems g4 g5 ?_);simp only[Int.toNat_natCast,hx];refine wpAny_bind (wpAny_setField g1 g3 (by simp) (wpAny_pure ⟨x,rfl,wpAny_pure (hQ _ ?_ (Heap.SameBut.update ..))⟩));exact⟨_,Heap.get?_update_self _ g1 (Obj.isFreed_of_fields (Obj.data_mapFields g3 _)),(Obj.cls_mapFields ..).trans g2,by rw[Obj.data_mapFields g3];simp[rawInt]⟩
theorem xV{it t:Addr}{i:Nat}{its:Array Value}{Q:Value->Shared->Prop}(hh:A.handled=none)(hit:s.heap.IsTupleIter it t i)(ht:s.heap.IsTuple t its)(hx:its[i]?=none)
  (hE:∀h' e,Heap.ExtBut it s.heap h'->(∃o,h'.get? e=some o/\o.cls=.type "StopIteration")->E (.ref e) {s with heap:=h'}):wpAny (model prog w) A (Builtin.SmallTypes.nextOf (.ref it)) Q E s:=by
 obtain⟨o,g1,g2,g3⟩:=id hit;obtain⟨ot,g4,_,nt,g5⟩:=ht;unfold Builtin.SmallTypes.nextOf;refine wpAny_bind (wpAny_callSpecial?_slot (name:=Str.ofString "__next__") hit.typeIs F.slot_tuple_iterator_next (wpAny_call_entry F.slot_tuple_iterator_next hit.typeIs F.entry_tuple_iterator_next ?_ (F.args_tuple_iterator_next_1 _)));show wpAny _ _ (field (.ref it) 0 >>= _) _ _ s;refine wpAny_bind (wpAny_field g1 g3 (x:=.ref t) rfl ?_);show wpAny _ _ (if (Value.ref t == Value.none)=true then _ else _) _ _ s;rw[if_neg (show ¬ ((Value.ref t == Value.none)=true)from Bool.false_ne_true)];show wpAny _ _ (field (.ref it) 1 >>= _) _ _ s;refine wpAny_bind (wpAny_field g1 g3 (x:=.int i 0) rfl ?_);show wpAny _ _ (seqItems? (.ref t) >>= _) _ _ s;refine wpAny_bind (wpAny_seqItems g4 g5 ?_);simp only[Int.toNat_natCast,hx];refine wpAny_bind (wpAny_rule (wpAny_bind (wpAny_setField g1 g3 (by simp) ?_)));show wpAny _ _ (newExc (.type "StopIteration") [] >>= _) _ _ _;refine wpAny_bind ?_;simp only[newExc,newTuple];refine wpAny_bind (wpAny_newObj_type ?_ (by size_fits));refine wpAny_bind (m:=firstArgMember _ _) (wpAny_of_eq (a:=Value.none) (by first | rfl | (simp only[firstArgMember];rfl)) ?_);refine wpAny_newObj_type ?_ (by size_fits);simp only[raiseNew];refine wpAny_bind (wpAny_handled ?_)
 first | rw[show A.in1.handled=none from hh] | rw[hh]
 refine M7 (M9 (wpAny_throw ?_));exact hE _ _ (((Heap.SameBut.update ..).extBut.push _).push _) ⟨_,Ng _ rfl,rfl⟩
theorem me{q:Bool}{it t:Addr}{i:Nat}{its:Array Value}{x:Value}{Q:Value->Shared->Prop}(hit:dC q s.heap it t i)(ht:eL q s.heap t its)(hx:its[i]?=some x)
  (hQ:∀h',dC q h' it t (i + 1)->Heap.SameBut it s.heap h'->Q x {s with heap:=h'}):wpAny (model prog w) A (Builtin.SmallTypes.nextOf (.ref it)) Q E s:=by
 cases q with
 | true=>exact N9 hit ht hx hQ
 | false=>exact ux hit ht hx hQ
theorem uy{q:Bool}{it t:Addr}{i:Nat}{its:Array Value}{Q:Value->Shared->Prop}(hh:A.handled=none)(hit:dC q s.heap it t i)(ht:eL q s.heap t its)(hx:its[i]?=none)
  (hE:∀h' e,Heap.ExtBut it s.heap h'->(∃o,h'.get? e=some o/\o.cls=.type "StopIteration")->E (.ref e) {s with heap:=h'}):wpAny (model prog w) A (Builtin.SmallTypes.nextOf (.ref it)) Q E s:=by
 cases q with
 | true=>exact wpAny_nextOf_list_end hh hit ht hx hE
 | false=>exact xV hh hit ht hx hE
variable {q1 q2:Bool} {z TI TO i1 i2 l1 l2:Addr} {k1 k2:Nat} {xs ys:Array Value} {x y a b:Value}
theorem sg{Q:Option Value->Shared->Prop}(D:ZipApart z TI TO i1 i2 l1 l2)(hz:IsZip s.heap z TI TO .none)(hTI:IsPair s.heap TI (.ref i1) (.ref i2))(hTO:IsPair s.heap TO a b)
  (h1:dC q1 s.heap i1 l1 k1) (h2:dC q2 s.heap i2 l2 k2) (mf:eL q1 s.heap l1 xs) (pG:eL q2 s.heap l2 ys) (hx:xs[k1]?=some x) (hy:ys[k2]?=some y)
  (hQ:∀h',IsZip h' z TI TO (rawInt s.heap.objs.size)->IsPair h' TO x y->dC q1 h' i1 l1 (k1 + 1)->dC q2 h' i2 l2 (k2 + 1)->IsPair h' s.heap.objs.size x y ->
   (∀c o,c≠z->c≠TO->c≠i1->c≠i2->s.heap.get? c=some o->h'.get? c=some o)->Q (some (.ref s.heap.objs.size)) {s with heap:=h'}):wpAny (model prog w) A (pyNext (.ref z)) Q E s:=by
 have hT:s.TypeIs (.ref z) "zip":=⟨_,hz,rfl⟩;unfold pyNext;refine wpAny_bind (wpAny_attempt (wpAny_callSpecial?_slot (name:=Str.ofString "__next__") hT F.slot_zip_next (wpAny_call_entry F.slot_zip_next hT F.entry_zip_next ?_ (F.args_zip_next_1 _))));show wpAny _ _ (field (.ref z) 2 >>= _) _ _ _;refine wpAny_bind (wpAny_field hz rfl (x:=.bool false) rfl ?_);show wpAny _ _ (field (.ref z) 3 >>= _) _ _ _;refine wpAny_bind (wpAny_field hz rfl (x:=.ref TI) rfl (wpAny_bind (wpAny_seqItems hTI rfl ?_)));show wpAny _ _ (Builtin.SmallTypes.ownedTupleIsFree (.ref z) >>= _) _ _ _;refine wpAny_bind ?_;unfold Builtin.SmallTypes.ownedTupleIsFree;refine wpAny_bind (wpAny_field hz rfl (x:=.none) rfl (wpAny_pure ?_));simp only[if_true];refine wpAny_bind (wpAny_rule (wpAny_bind (wpAny_field hz rfl (x:=.ref TO) rfl (wpAny_bind (wpAny_setField_rec hz (by simp) λu1 uz b1=>?_)))))
 replace uz:IsZip u1 z TI TO .ellipsis:=uz
 refine wpAny_bind ?_;simp only[List.zipIdx_cons,List.zipIdx_nil,List.forIn_cons,List.forIn_nil];refine wpAny_bind (wpAny_bind (wpAny_onRaise ?_));show wpAny _ _ (Builtin.SmallTypes.nextOf (.ref i1) >>= _) _ _ _;refine wpAny_bind (me (h1.at λo e=>b1.extBut _ o D.i1z e) (mf.at λo e=>b1.extBut _ o D.l1z e) hx λu2 Jb b2=>wpAny_pure ?_);have uA:IsPair u2 TO a b:=b2.extBut _ _ D.TOi1 (b1.extBut _ _ D.TOz hTO);refine wpAny_bind (wpAny_seqItems uA rfl (wpAny_bind (wpAny_updateSeq_pair uA λu3 xW b3=>?_)))
 replace xW:IsPair u3 TO x b:=xW
 refine M7 (wpAny_letGo (M9 (M7 (M7 (wpAny_onRaise ?_)))));show wpAny _ _ (Builtin.SmallTypes.nextOf (.ref i2) >>= _) _ _ _;refine M7 (me (h2.at λo e=>b3.extBut _ o D.TOi2.symm (b2.extBut _ o D.i12.symm (b1.extBut _ o D.i2z e))) (pG.at λo e=>b3.extBut _ o D.l2TO (b2.extBut _ o D.l2i1 (b1.extBut _ o D.l2z e))) hy λu4 KR b4=>M9 ?_);have Ey:IsPair u4 TO x b:=b4.extBut _ _ D.TOi2 xW;refine M7 (wpAny_seqItems Ey rfl (M7 (wpAny_updateSeq_pair Ey λu5 xX b5=>?_)))
 replace xX:IsPair u5 TO x y:=xX
 refine M7 (wpAny_letGo (M9 (M9 ?_)));refine M7 (wpAny_seqItems xX rfl (M7 (wpAny_newTuple ?_)));have hsz:u5.objs.size=s.heap.objs.size:=by rw[b5.1,b4.1,b3.1,b2.1,b1.1]
 have Jc:IsZip u5 z TI TO .ellipsis:=b5.extBut _ _ D.TOz.symm (b4.extBut _ _ D.i2z.symm (b3.extBut _ _ D.TOz.symm (b2.extBut _ _ D.i1z.symm uz)));have KS:∀c o,c≠z->c≠TO->c≠i1->c≠i2->s.heap.get? c=some o->u5.get? c=some o:=λc o c1 c2 c3 c4 e=>b5.extBut _ _ c2 (b4.extBut _ _ c4 (b3.extBut _ _ c2 (b2.extBut _ _ c3 (b1.extBut _ _ c1 e))))
 have KU:dC q1 u5 i1 l1 (k1 + 1):=Jb.at λo e=>b5.extBut _ o D.TOi1.symm (b4.extBut _ o D.i12 (b3.extBut _ o D.TOi1.symm e))
 have KW:dC q2 u5 i2 l2 (k2 + 1):=KR.at λo e=>b5.extBut _ o D.TOi2.symm e
 have hzl:z < u5.objs.size:=Heap.lt_size Jc;show wpAny _ _ (Builtin.SmallTypes.ownedTupleHandOut (.ref z) (.ref u5.objs.size) >>= _) _ _ _;refine wpAny_bind ?_;unfold Builtin.SmallTypes.ownedTupleHandOut;have KY:IsZip (u5.push {cls:=.type "tuple",data:=.seq #[x,y]}) z TI TO .ellipsis:=Heap.get?_push_of_some _ Jc;refine wpAny_bind (wpAny_setField_rec KY (by simp) λu7 Ha b7=>?_)
 replace Ha:IsZip u7 z TI TO (rawInt u5.objs.size):=Ha
 refine wpAny_setField_rec Ha (by simp) λu8 Gi b8=>?_
 replace Gi:IsZip u8 z TI TO (rawInt u5.objs.size):=Gi
 have up:∀c o,c≠z->u5.get? c=some o->u8.get? c=some o:=λc o c1 e=>b8.extBut _ _ c1 (b7.extBut _ _ c1 (M4 _ e))
 have Jd:IsPair u8 u5.objs.size x y:=b8.extBut _ _ (Nw hzl) (b7.extBut _ _ (Nw hzl) (Ng _ rfl));rw[hsz]at Gi Jd;refine M9 ⟨_,rfl,M9 ?_⟩;show Q (some (.ref u5.objs.size)) _;rw[hsz];exact hQ u8 Gi (up _ _ D.TOz xX) (KU.at λo e=>up _ o D.i1z e) (KW.at λo e=>up _ o D.i2z e) Jd λc o c1 c2 c3 c4 e=>up c o c1 (KS c o c1 c2 c3 c4 e)
theorem uB{Q:Option Value->Shared->Prop}(hh:A.handled=none)(D:ZipApart z TI TO i1 i2 l1 l2)(hz:IsZip s.heap z TI TO .none)(hTI:IsPair s.heap TI (.ref i1) (.ref i2))(hTO:IsPair s.heap TO a b)
  (h1:dC q1 s.heap i1 l1 k1) (h2:dC q2 s.heap i2 l2 k2) (mf:eL q1 s.heap l1 xs) (pG:eL q2 s.heap l2 ys) (hend:xs[k1]?=none∨ys[k2]?=none)
  (hQ:∀h',(∀c o,c≠z->c≠TO->c≠i1->c≠i2->s.heap.get? c=some o->h'.get? c=some o)->Q none {s with heap:=h'}):wpAny (model prog w) A (pyNext (.ref z)) Q E s:=by
 have hT:s.TypeIs (.ref z) "zip":=⟨_,hz,rfl⟩;have fin:∀(h':Heap) (e:Addr),(∀c o,c≠z->c≠TO->c≠i1->c≠i2->s.heap.get? c=some o->h'.get? c=some o)->(∃o,h'.get? e=some o/\o.cls=.type "StopIteration") ->
   wpAny (model prog w) A (do let b ← isInstance (.ref e) (.type "StopIteration");if b=true then pure none else throw (.ref e)) Q E {s with heap:=h'}:=λh' e hk ⟨o,ho,hc⟩ =>
  M7 (wpAny_isInstance (T:="StopIteration") (b:=true) ⟨o,ho,hc⟩ isSubtype_stop (M9 (hQ _ hk)))
 unfold pyNext;refine wpAny_bind (wpAny_attempt (wpAny_callSpecial?_slot (name:=Str.ofString "__next__") hT F.slot_zip_next (wpAny_call_entry F.slot_zip_next hT F.entry_zip_next ?_ (F.args_zip_next_1 _))));show wpAny _ _ (field (.ref z) 2 >>= _) _ _ _;refine wpAny_bind (wpAny_field hz rfl (x:=.bool false) rfl ?_);show wpAny _ _ (field (.ref z) 3 >>= _) _ _ _;refine wpAny_bind (wpAny_field hz rfl (x:=.ref TI) rfl (wpAny_bind (wpAny_seqItems hTI rfl ?_)));show wpAny _ _ (Builtin.SmallTypes.ownedTupleIsFree (.ref z) >>= _) _ _ _;refine wpAny_bind ?_;unfold Builtin.SmallTypes.ownedTupleIsFree;refine wpAny_bind (wpAny_field hz rfl (x:=.none) rfl (wpAny_pure ?_));simp only[if_true];refine wpAny_bind (wpAny_rule (wpAny_bind (wpAny_field hz rfl (x:=.ref TO) rfl (wpAny_bind (wpAny_setField_rec hz (by simp) λu1 uz b1=>?_)))))
 replace uz:IsZip u1 z TI TO .ellipsis:=uz
 refine wpAny_bind ?_;simp only[List.zipIdx_cons,List.zipIdx_nil,List.forIn_cons,List.forIn_nil];refine wpAny_bind (wpAny_bind (wpAny_onRaise ?_));show wpAny _ _ (Builtin.SmallTypes.nextOf (.ref i1) >>= _) _ _ _
 cases hx:xs[k1]? with
 | none =>
  refine wpAny_bind (uy hh (h1.at λo e=>b1.extBut _ o D.i1z e) (mf.at λo e=>b1.extBut _ o D.l1z e) hx λu2 e b2 he=>?_);obtain⟨oe,hoe,hce⟩:=he;have Je:IsZip u2 z TI TO .ellipsis:=b2 _ _ D.i1z.symm uz;have hez:e≠z:=λx=>by subst x;rw[Je]at hoe;cases hoe;simp at hce
  exact wpAny_setField_rec Je (by simp) λu3 _ b3=>fin u3 e (λc o c1 _ c3 _ x=>b3.extBut _ _ c1 (b2 _ _ c3 (b1.extBut _ _ c1 x))) ⟨oe,b3.extBut _ _ hez hoe,hce⟩
 | some x =>
  have hy:ys[k2]?=none:=by rcases hend with h | h;rw[hx]at h;cases h;exact h
  refine wpAny_bind (me (h1.at λo e=>b1.extBut _ o D.i1z e) (mf.at λo e=>b1.extBut _ o D.l1z e) hx λu2 Jb b2=>wpAny_pure ?_);have uA:IsPair u2 TO a b:=b2.extBut _ _ D.TOi1 (b1.extBut _ _ D.TOz hTO);refine wpAny_bind (wpAny_seqItems uA rfl (wpAny_bind (wpAny_updateSeq_pair uA λu3 xW b3=>?_)));refine wpAny_bind (wpAny_letGo (wpAny_pure (wpAny_bind (wpAny_bind (wpAny_onRaise ?_)))));show wpAny _ _ (Builtin.SmallTypes.nextOf (.ref i2) >>= _) _ _ _;refine wpAny_bind (uy hh (h2.at λo e=>b3.extBut _ o D.TOi2.symm (b2.extBut _ o D.i12.symm (b1.extBut _ o D.i2z e))) (pG.at λo e=>b3.extBut _ o D.l2TO (b2.extBut _ o D.l2i1 (b1.extBut _ o D.l2z e))) hy λu4 e b4 he=>?_);obtain⟨oe,hoe,hce⟩:=he;have Jf:IsZip u4 z TI TO .ellipsis:=b4 _ _ D.i2z.symm (b3.extBut _ _ D.TOz.symm (b2.extBut _ _ D.i1z.symm uz));have hez:e≠z:=λx=>by subst x;rw[Jf]at hoe;cases hoe;simp at hce
  exact wpAny_setField_rec Jf (by simp) λu5 _ b5=>fin u5 e (λc o c1 c2 c3 c4 x=>b5.extBut _ _ c1 (b4 _ _ c4 (b3.extBut _ _ c2 (b2.extBut _ _ c3 (b1.extBut _ _ c1 x))))) ⟨oe,b5.extBut _ _ hez hoe,hce⟩
theorem nO{q:Bool}{l:Addr}{its:Array Value}{Q:Value->Shared->Prop}(hl:eL q s.heap l its)(hQ:Q (.ref s.heap.objs.size) {s with heap:=s.heap.push {cls:=.type (Ew q),data:=.fields #[.ref l,.int 0 0]}}):
  wpAny (model prog w) A (pyIter (.ref l)) Q E s:=by
 cases q with
 | true=>exact Ou hl hQ
 | false=>exact wpAny_pyIter_tuple hl hQ
theorem Av{q:Bool}{h:Heap}{it l:Addr}(e:h.get? it=some {cls:=.type (Ew q),data:=.fields #[.ref l,.int 0 0]}):dC q h it l 0:=by
 cases q<;>exact⟨_,e,rfl,rfl⟩
end
def Gj(q1:Bool)(h:Heap)(l1:Addr):Heap:=h.push {cls:=.type (Ew q1),data:=.fields #[.ref l1,.int 0 0]}
def Ez(q1 q2:Bool)(h:Heap)(l1 l2:Addr):Heap:=(Gj q1 h l1).push {cls:=.type (Ew q2),data:=.fields #[.ref l2,.int 0 0]}
def EA(q1 q2:Bool)(h:Heap)(l1 l2:Addr):Heap:=(Ez q1 q2 h l1 l2).push {cls:=.type "tuple",data:=.seq #[.ref h.objs.size,.ref (Gj q1 h l1).objs.size]}
def EC(q1 q2:Bool)(h:Heap)(l1 l2:Addr):Heap:=(EA q1 q2 h l1 l2).push {cls:=.type "tuple",data:=.seq #[.none,.none]}
def DJ(q1 q2:Bool)(h:Heap)(l1 l2:Addr):Heap:=(EC q1 q2 h l1 l2).push {cls:=.type "zip",data:=.fields #[.none,.bool false,.bool false,.ref (Ez q1 q2 h l1 l2).objs.size,.ref (EA q1 q2 h l1 l2).objs.size]}
theorem pH(q1 q2:Bool)(l1 l2:Addr)(xs ys:Array Value):
  Meets (Builtin.«zip.__new__» ⟨[.type "zip",.ref l1,.ref l2],[]⟩) (λ_ R s=>eL q1 s.heap l1 xs/\eL q2 s.heap l2 ys/\R (.ok (.ret (.ref (EC q1 q2 s.heap l1 l2).objs.size))) {s with heap:=DJ q1 q2 s.heap l1 l2}) :=
 .of_wp λprog w A R s h=>by
  obtain⟨hp,g,d,tk,os⟩:=s;obtain⟨mf,pG,h⟩:=h;have hsub:=sub_zip;have KZ:eL q1 (Shared.heap ⟨hp,g,d,tk,os⟩) l1 xs:=mf;have K0:eL q2 (Shared.heap ⟨hp.push {cls:=.type (Ew q1),data:=.fields #[.ref l1,.int 0 0]},g,d,tk,os⟩) l2 ys:=eL.at pG λo e=>M4 _ e
  wp_walk using nO KZ,nO K0
  exact⟨_,rfl,h⟩
section
variable {prog:Program} {w:World} {A:Around} {E:Value->Shared->Prop} {s:Shared} {q1 q2:Bool}
theorem si{l1 l2:Addr}{xs ys:Array Value}{Q:Value->Shared->Prop}(mf:eL q1 s.heap l1 xs)(pG:eL q2 s.heap l2 ys)
  (h:∀h',IsZip h' (s.heap.objs.size + 4) (s.heap.objs.size + 2) (s.heap.objs.size + 3) .none->IsPair h' (s.heap.objs.size + 2) (.ref s.heap.objs.size) (.ref (s.heap.objs.size + 1)) ->
   IsPair h' (s.heap.objs.size + 3) .none .none->dC q1 h' s.heap.objs.size l1 0->dC q2 h' (s.heap.objs.size + 1) l2 0->(∀c o,s.heap.get? c=some o->h'.get? c=some o)->Q (.ref (s.heap.objs.size + 4)) {s with heap:=h'}) :
  wpAny (model prog w) A (call (.type "zip") [.ref l1,.ref l2]) Q E s:=by
 refine callType_new F.called_zip (by decide) (F.typeCall_zip_2 _ _) (F.newCall_zip_2 _ _) (λobj=>F.args_object_init_3 obj _ _) F.entry_zip_new (pH q1 q2 l1 l2 xs ys) ⟨mf,pG,?_⟩;have z1:(Gj q1 s.heap l1).objs.size=s.heap.objs.size + 1:=Heap.size_push ..;have z2:(Ez q1 q2 s.heap l1 l2).objs.size=s.heap.objs.size + 2:=by unfold Ez;rw[Heap.size_push,z1]
 have z3:(EA q1 q2 s.heap l1 l2).objs.size=s.heap.objs.size + 3:=by unfold EA;rw[Heap.size_push,z2]
 have z4:(EC q1 q2 s.heap l1 l2).objs.size=s.heap.objs.size + 4:=by unfold EC;rw[Heap.size_push,z3]
 have g5:(DJ q1 q2 s.heap l1 l2).get? (EC q1 q2 s.heap l1 l2).objs.size=some _:=Ng _ rfl;have g4:(DJ q1 q2 s.heap l1 l2).get? (EA q1 q2 s.heap l1 l2).objs.size=some _:=M4 _ (Ng _ rfl);have g3:(DJ q1 q2 s.heap l1 l2).get? (Ez q1 q2 s.heap l1 l2).objs.size=some _:=M4 _ (M4 _ (Ng _ rfl));have g2:(DJ q1 q2 s.heap l1 l2).get? (Gj q1 s.heap l1).objs.size=some _:=M4 _ (M4 _ (M4 _ (Ng _ rfl)));have g1:(DJ q1 q2 s.heap l1 l2).get? s.heap.objs.size=some _:=M4 _ (M4 _ (M4 _ (M4 _ (Ng _ rfl))));show _/\_;rw[z2,z3,z4]at g5;rw[z1,z2]at g3;rw[z3]at g4;rw[z1]at g2;rw[z4];exact⟨⟨_,g5,rfl⟩,h _ g5 g3 g4 (Av g1) (Av g2) λc o x=>M4 _ (M4 _ (M4 _ (M4 _ (M4 _ x))))⟩
end
def lr(q:Bool)(K:aC)(H:Hp)(a:Addr)(xs:List V):Prop:=match q with | true=>cy K H a xs | false=>dY K H a xs
theorem lr.heap{X:Cx}{pins:List (Addr×Obj)}{σ:St}{H:Hp}{s:Shared}{q:Bool}{a:Addr}{xs:List V}(I:Inv X pins σ H s)(h:lr q X.K H a xs):∃its:List Value,Vals xs its/\eL q s.heap a its.toArray:=by
 cases q with
 | true=>obtain⟨its,r,p,_⟩:=I.list h;exact⟨its,r,p.isList⟩
 | false=>obtain⟨its,r,p,_⟩:=I.tuple h;exact⟨its,r,p⟩
theorem eL.lt{q:Bool}{h:Heap}{a:Addr}{its:Array Value}(x:eL q h a its):a < h.objs.size:=by
 cases q<;>(obtain⟨o,ho,r⟩:=x;exact M5 ho)
theorem dC.lt{q:Bool}{h:Heap}{it a:Addr}{i:Nat}(x:dC q h it a i):it < h.objs.size:=by
 obtain⟨o,ho,_⟩:=x.obj;exact M5 ho
def Jg(q1 q2:Bool)(K:aC)(l1 l2:Addr)(xs ys:List V):It :=
 ⟨λi H=>i < xs.length/\i < ys.length/\lr q1 K H l1 xs/\lr q2 K H l2 ys,
  λi H x H'=>∃T u v,H T=none/\x=.ref T/\H'=upd H T (.tup [u,v])/\xs[i]?=some u/\ys[i]?=some v,
  λi H=>(xs.length<=i∨ys.length<=i)/\lr q1 K H l1 xs/\lr q2 K H l2 ys⟩
theorem uC{P:Program}{w:World}{K:aC}{elts:List Expr}{kx}{pos:Pos}{q1 q2:Bool}{z TI TO i1 i2 l1 l2:Addr}(xs ys:List V)(D:ZipApart z TI TO i1 i2 l1 l2):
  Turn P w K (.Tuple elts kx pos) (Jg q1 q2 K l1 l2 xs ys) [z,TI,TO,i1,i2] z (λi h=>IsZip h z TI TO .none/\IsPair h TI (.ref i1) (.ref i2)/\(∃a b,IsPair h TO a b)/\dC q1 h i1 l1 i/\dC q2 h i2 l2 i) where
 mem:=by simp
 obj:=λi h st b hb=>by
  obtain⟨hz,hTI,⟨a,b',hTO⟩,h1,h2⟩:=st;simp at hb;rcases hb with e | e | e | e | e
  ·subst e;exact⟨_,hz,λv z=>by cases z⟩
  ·subst e;exact⟨_,hTI,λv z=>by cases z⟩
  ·subst e;exact⟨_,hTO,λv z=>by cases z⟩
  ·subst e;exact h1.obj
  ·subst e;exact h2.obj
 keep:=λi h h' st k=>by
  obtain⟨hz,hTI,⟨a,b',hTO⟩,h1,h2⟩:=st;exact⟨k z (by simp) _ hz,k TI (by simp) _ hTI,⟨a,b',k TO (by simp) _ hTO⟩,h1.at λo e=>k i1 (by simp) o e,h2.at λo e=>k i2 (by simp) o e⟩
 item:=by
  intro X hP hw hK hc i pins s σ H E I hf st hg;subst hP hw hK;obtain⟨g1,g2,s1,s2⟩:=hg;obtain⟨hz,hTI,⟨a,b',hTO⟩,h1,h2⟩:=st;obtain⟨us,r1,p1⟩:=s1.heap I;obtain⟨vs,r2,p2⟩:=s2.heap I;obtain⟨u,hu,ru⟩:=r1.get (gR g1);obtain⟨v,hv,rv⟩:=r2.get (gR g2);refine sg (x:=u) (y:=v) D hz hTI hTO h1 h2 p1 p2 (by simpa using hu) (by simpa using hv) λh' a1 a2 a3 a4 a5 hk=>?_
  refine⟨_,rfl,wpAny_letOwnedTupleGo_zip a1 λh'' b1 sb=>?_⟩;have nT:∀{c o},s.heap.get? c=some o->c≠s.heap.objs.size:=λe=>Na (M5 e)
  have hT:IsPair h'' s.heap.objs.size u v:=sb.extBut _ _ (nT hz).symm a5
  have kk:∀c o,c∉[z,TI,TO,i1,i2]->s.heap.get? c=some o->h''.get? c=some o:=λc o hc e=>by
   simp at hc;exact sb.extBut _ _ hc.1 (hk c o hc.1 hc.2.2.1 hc.2.2.2.1 hc.2.2.2.2 e)
  refine⟨.ref s.heap.objs.size,upd H s.heap.objs.size (.tup [xs[i],ys[i]]),I.xT hf kk (Nf _) ⟨by show 2<=sizeLine;decide,[u,v],.cons ru (.cons rv .nil),_,hT,rfl,_,rfl⟩,rfl,⟨_,_,_,I.fresh,rfl,rfl,gR g1,gR g2⟩,?_,λb hb=>?_⟩
  ·exact⟨b1,sb.extBut _ _ D.TIz (hk _ _ D.TIz D.TITO D.TIi1 D.TIi2 hTI),⟨_,_,sb.extBut _ _ D.TOz a2⟩,a3.at λo e=>sb.extBut _ o D.i1z e,a4.at λo e=>sb.extBut _ o D.i2z e⟩
  ·rw[uN ?_]
   ·exact(hf b hb).1
   ·simp at hb;rcases hb with e | e | e | e | e
    ·subst e;exact nT hz
    ·subst e;exact nT hTI
    ·subst e;exact nT hTO
    ·subst e;exact Na h1.lt
    ·subst e;exact Na h2.lt
 done:=by
  intro X hP hw hK hc i pins s σ H E I hf st hg;subst hP hw hK;obtain⟨g1,s1,s2⟩:=hg;obtain⟨hz,hTI,⟨a,b',hTO⟩,h1,h2⟩:=st;obtain⟨us,r1,p1⟩:=s1.heap I;obtain⟨vs,r2,p2⟩:=s2.heap I;have e1:=r1.length;have e2:=r2.length;refine uB (I.ok.hd hc) D hz hTI hTO h1 h2 p1 p2 ?_ λh' hk=>⟨rfl,I.xU (t':=s.toks) hf λc o hc e=>?_⟩
  ·rcases g1 with g | g
   ·exact .inl (by simp;omega)
   ·exact .inr (by simp;omega)
  ·simp at hc;exact hk c o hc.1 hc.2.2.1 hc.2.2.2.1 hc.2.2.2.2 e
 self:=λ_ _ _ _ _ st h=>wpAny_pyIter_zip st.1 h
section
variable {X:Cx}
end
theorem jL{H:Hp}{p:Addr}(h:H p=none)(o:HO):aH H (upd H p o):=λb u q=>by rw[uN (nN q h)];exact q
section
variable {prog:Program} {w:World} {A:Around} {E:Value->Shared->Prop} {s:Shared}
theorem sj{t sl:Addr}{items:Array Value}{vl vu:Value}{lo hi:Option Int}{Q:Value->Shared->Prop}(ht:IsTup s.heap t items)(hs:s.heap.IsSliceOf sl vl vu .none)(pl:IsPart vl lo)(pu:IsPart vu hi)
  (hw:HT.bS items.size 0 lo=0/\HT.bS items.size items.size hi=items.size) (h:Q (.ref t) s):wpAny (model prog w) A (getItem (.ref t) (.ref sl)) Q E s:=by
 obtain⟨os,hos,hcs,hds⟩:=id hs;have hTs:s.TypeIs (.ref sl) "slice":=⟨os,hos,hcs⟩;unfold getItem
 try with_reducible refine Ot ?_
 first | refine M7 (M9 ?_) | skip
 refine wpAny_bind (wpAny_sequenceKey ht.typeIs (by decide) ?_);refine wpAny_bind (wpAny_callSpecial?_slot (name:=Str.ofString "__getitem__") ht.typeIs PyProof.Rows.slot_tuple_getitem (wpAny_call_entry PyProof.Rows.slot_tuple_getitem ht.typeIs entry_tuple_getitem ?_ (args_tuple_getitem _ _)));show wpAny _ _ (Builtin.Tuple.tupleItemsOf (.ref t) >>= _) _ _ s;refine wpAny_bind (tupleItemsOf_ ht (wpAny_bind (wpAny_typeOf hTs ?_)));rw[if_pos (by decide)];refine wpAny_bind (HT.eJ hs pl pu ?_);show wpAny _ _ (if (((HT.bS items.size 0 lo:Nat):Int) == 0&&(1:Int) == 1&&(HT.bS items.size items.size hi - HT.bS items.size 0 lo) == items.size)=true then _ else _) _ _ s;rw[if_pos (by rw[hw.1,hw.2];simp)];unfold Builtin.Tuple.tupleIsExact;refine wpAny_bind (wpAny_bind (wpAny_typeOf ht.typeIs (wpAny_pure ?_)));rw[if_pos (by decide)];exact wpAny_bind (wpAny_rule (wpAny_pure ⟨_,rfl,wpAny_pure h⟩))
end
section
variable {X:Cx}
def ED(K:aC):V->Option Int->Option Int->Hp->VK->Prop:=λx lo hi H Q=>∃a xs,x=.ref a/\dY K H a xs/\∀p H',aH H H'->dY K H' p (g9 xs lo hi)->Q (.ref p) H'
theorem xY:w4 X (ED X.K):=by
 intro pins s σ H x v vl vu lo hi sl Q I rx hs pl pu h;obtain⟨a,xs,rfl,hx,q⟩:=h;by_cases hw:HT.bS xs.length 0 lo=0/\HT.bS xs.length xs.length hi=xs.length
 ·cases rx;obtain⟨its,r,ht,hz⟩:=I.tuple hx;have hlen:its.toArray.size=xs.length:=by rw[NN];exact r.length.symm
  refine⟨"tuple",_,PyProof.Rows.slot_tuple_getitem.lookup,ht.typeIs,sj ht hs pl pu (by rw[hlen];exact hw) ⟨.ref a,H,I,rfl,q a H (aH.refl _) ?_⟩⟩;have e:g9 xs lo hi=xs:=by unfold g9;rw[hw.1,hw.2];simp
  rw[e];exact hx
 ·exact BH pins s σ H _ v vl vu lo hi sl Q I rx hs pl pu ⟨a,xs,rfl,hx,hw,λp hp=>q p _ (jL hp _) (dY.of uS)⟩
def Aw(K:aC):R2:=λx y H Q=>∃a b xs ys,x=.ref a/\y=.ref b/\dY K H a xs/\dY K H b ys/\xs.length + ys.length<=sizeLine/\∀p H',aH H H'->dY K H' p (xs++ys)->Q (.ref p) H'
theorem xZ:fq X (binaryOp .Add) (Aw X.K):=by
 intro pins s σ H x y v u Q I rx ry h;obtain⟨a,b,xs,ys,rfl,rfl,ha,hb,hz,q⟩:=h;by_cases hx:xs=[]
 ·subst hx;cases rx;cases ry;obtain⟨its,r1,p1,_⟩:=I.tuple ha;obtain⟨rY,r2,p2,_⟩:=I.tuple hb;cases r1;obtain⟨⟨c1,d1,e1,G9⟩,ho,hc,n,hd⟩:=id p1;obtain⟨⟨c2,d2,e2,BE⟩,wZ,An,n2,hd2⟩:=id p2;simp only at hc hd An hd2;subst hc hd An hd2;exact concat_meets ⟨_,ho,rfl⟩ ⟨_,wZ,rfl⟩ noFill_tuple_add seq_tuple_add PySem.F.slot_tuple_add PySem.F.entry_tuple_add (PySem.F.args_tuple_add_2 _ _)
   (tuple_addW0 a b _ rY.toArray n n2 d1 d2 G9 BE (by simp)) ⟨ho,wZ,⟨.ref b,H,I,rfl,q b H (aH.refl _) hb⟩⟩
 ·exact xH pins s σ H _ _ v u Q I rx ry ⟨a,b,xs,ys,rfl,rfl,ha,hb,hx,hz,λe=>q a H (aH.refl _) (by rw[e,N5];exact ha),λ_ p hp=>q p _ (jL hp _) (dY.of uS)⟩
end
structure tP(P:Program)(w:World)(fs:List Env)(H H':Hp)(h0 B:Heap)(a:Addr)(cls a0:Value)(h:Heap):Prop where
 keep:∀b o,h0.get? b=some o->H b=none->b∉gU fs->B.get? b=some o
 there:∀b o,h0.get? b=some o->b∉gU fs->∃o',B.get? b=some o'
 slot:∀b o,h0.get? b=some o->b∈gU fs->∃sl,h.get? b=some {o with slots:=sl}
 free:∀b o,h0.get? b=some o->H b=none->H' b=none
 tups:∀b xs,H b=some (.tup xs)->H' b=some (.tup xs)
 cb:∀b o u,H b=some (.gS o u)->H' b=some (.gS o u)
 tbls:∀b ps,H b=some (.tbl ps)->∃more,H' b=some (.tbl (ps++more))
 hok:i6 P w H' B
 fly:Heap.FlyingW B fs a cls a0 h
section
variable {P:Program} {w:World} {fs:List Env} {H H':Hp} {h0 B h h':Heap} {a:Addr} {cls a0:Value}
theorem tP.un(F:tP P w fs H H' h0 B a cls a0 h):Un (gU fs) [] H H' h0 h where
 keep:=λb o e n hb _=>F.fly.1 b o (F.keep b o e n hb)
 slot:=λb o e _ hb _=>F.slot b o e hb
 free:=λb o e n _=>F.free b o e n
 there:=λb o e _=>by
  by_cases hb:b∈gU fs
  ·obtain⟨sl,q⟩:=F.slot b o e hb;exact⟨_,q⟩
  ·obtain⟨o',q⟩:=F.there b o e hb;exact⟨o',F.fly.1 b o' q⟩
 tups:=F.tups
 cb:=F.cb
 tbls:=F.tbls
theorem tP.Hb(F:tP P w fs H H' h0 B a cls a0 h):i6 P w H' h:=F.hok.kept F.fly.1
theorem tP.new(F:tP P w fs H H' h0 B a cls a0 h):H' a=none:=by
 cases q:H' a with
 | none=>rfl
 | some u =>
  have:=(F.hok a u q).lt;have z:=F.fly.2.1
  exact absurd z (by
   intro z
   have e:∃o,B.get? a=some o:=by
    have ok:=F.hok a u q
    cases u with
    | lst xs=>obtain⟨_,_,_,_,e⟩:=ok;exact⟨_,e⟩
    | tup xs=>obtain⟨_,_,_,o,e,_⟩:=ok;exact⟨_,e⟩
    | dK kvs=>obtain⟨_,_,_,_,o,_,_,e,_⟩:=ok;exact⟨_,e⟩
    | dT kvs=>obtain⟨_,_,_,_,o,_,_,e,_⟩:=ok;exact⟨_,e⟩
    | set S n=>obtain⟨o,_,_,_,e,_⟩:=ok;exact⟨_,e⟩
    | ins C dx fs=>obtain⟨_,_,_,e,_⟩:=ok;exact⟨_,e⟩
    | own y=>exact ok
    | xd fs=>obtain⟨_,⟨o,_,_,e,_⟩,_⟩:=ok;exact⟨_,e⟩
    | rng lo hi=>obtain⟨_,_,_,e⟩:=ok;exact⟨_,e⟩
    | gS ob u=>obtain⟨e,_⟩:=ok;exact⟨_,e⟩
    | tbl ps=>exact⟨_,ok⟩
    | met f y=>exact⟨_,ok⟩
    | ext φ=>obtain⟨_,e,_⟩:=ok;exact e
   obtain⟨o,e⟩:=e;rw[z]at e;cases e)
theorem tP.on(F:tP P w fs H H' h0 B a cls a0 h)(fl:Heap.FlyingW B fs a cls a0 h')(u:h.UpToSlots h'):tP P w fs H H' h0 B a cls a0 h' :=
 ⟨F.keep,F.there,λb o e hb=>by
  obtain⟨sl,q⟩:=F.slot b o e hb;obtain⟨_,o',ho',hn⟩:=F.fly.2.2.1.mem hb;rw[q]at ho';have e1:=Np ho';obtain⟨sl',q'⟩:=u b _ q (by rw[e1];exact hn);exact⟨sl',q'⟩,F.free,F.tups,F.cb,F.tbls,F.hok,fl⟩
end
def Rz(X:Cx)(E:XK):Prop:=∀(pins:List (Addr×Obj)) (σ:St) (H:Hp) (s:Shared) (h':Heap) (e C:Addr) (vs:List Value),Inv X pins σ H s->Heap.MadeExcOf s.heap h' e (.ref C) vs->E (.ref C) none H->X.xe (.ref e) {s with heap:=h'}
section
variable {P:Program} {w:World} {K:aC} {mg:Str->Option Value} {base:Heap} {N:List Str} {qual:Str} {scope:Scope} {f:Addr} {cd:Value} {A:Around} {outer:List Env} {s₀:Shared} {H₀:Hp} {E:XK}
theorem bq{env:Env}{l:List Env}{L b:Addr}(hf:env.frame=some L):b∈gU (env::l)↔b=L∨b∈gU l:=by
 unfold gU;rw[List.filterMap_cons,hf];exact List.mem_cons
end
theorem sk{K:aC}{h:Heap}{C:Addr}{bmB:List Value}{newId:String}(X:K.In h)(q:PySem.W.excIn K C bmB newId=true):
  ∃bm N nm qn bs hd sn sub ab col dd k0 k1 k2 k3 k5 mN,h.get? C=some (excClassObj nm qn C N bs bm hd sn sub ab col dd k0 k1 k2 k3 k5 newId)/\h.Ns N mN/\mN "__init__"=none/\OwnTail h bmB bm:=by
 unfold PySem.W.excIn at q;split at q
 ·rename_i dd cd sl ho;split at q
  ·rename_i C' bm k0 k1 k2 k3 n k5 hm hs;simp only[Bool.and_eq_true,beq_iff_eq,Bool.not_eq_true']at q;obtain⟨⟨⟨⟨⟨rfl,rfl⟩,hdel⟩,ht⟩,hok⟩,hni⟩:=q;obtain⟨nm,bs,mro,ns,qn,hd,sn,sub,ab,col,del⟩:=cd;dsimp only at hm hdel hok hni;subst hm hdel
   have hsl:sl=#[k0,k1,k2,k3,some (.builtin n),k5]:=by
    obtain⟨l⟩:=sl;simp only at hs;rw[hs]
   subst hsl;exact⟨bm,ns,nm,qn,bs,hd,sn,sub,ab,col,dd,k0,k1,k2,k3,k5,_,X _ _ ho,.of_isNs (PySem.W.isNs_of_in X hok),PySem.W.nsMap_none_of_in X hok hni,PySem.W.tail_of_in X ht⟩
  ·cases q
 ·cases q
def kG:List Value:=[.type "ValueError",.type "Exception",.type "BaseException",.type "object"]
section
variable {X:Cx} {x:Str} {C:Addr} {E:XK} {np cpos pos:Pos}
def BU(C:Addr)(E:XK):TS:=λ_ _ H=>E (.ref C) none H
theorem sq(hz:Rz X E)(hg:Gl X x)(hm:X.mg x=some (.ref C))(q:PySem.W.excIn X.K C kG "ValueError.__new__"=true)(hc:X.calm=true)(hd:(x == ("__debug__" : Str))=false:=by decide)(hpl:backTo cpos (starEach [] X.env)=[]:=by rfl):
  PS X (.Raise (some (.Call (.Name x np) [] [] cpos)) none pos) (BU C E):=by
 intro pins s σ H D I h;obtain⟨bm,N,nm,qn,bs,hd',sn,sub,ab,col,dd,k0,k1,k2,k3,k5,mN,hC,hn,hi,T⟩:=sk I.jj q;refine wpAny_Raise_call_subU (C:=C) (mN:=mN) (nm:=nm) (q:=qn) (N:=N) (bs:=bs) (bm:=bm) (hdct:=hd') (sn:=sn) (sub:=sub) (ab:=ab) (col:=col) (dd:=dd) (k0:=k0) (k1:=k1) (k2:=k2) (k3:=k3) (k5:=k5) F.excBase_ValueError (bmB:=kG) (by decide) F.excBase_ValueError (T.hasType (X:="BaseException") (b:=true) (by decide)) (I.ok.hd hc) (by rw[hpl];rfl) hi ?_;refine fQ I hg hm ⟨rfl,?_⟩ hd;rw[hpl];refine PyProof.Rows.evalArgs_none ⟨rfl,by decide,hC,hn,T,λh' e hx=>?_⟩;exact hz pins σ H s h' e C [] I hx h
end
def ExcAt(C a:Addr):Heap->Prop:=λh=>∃o vs,h.get? a=some o/\o.cls=.ref C/\o.data=.fields vs
theorem excMatches_K{K:aC}{M:Model}{A:Around}{E:Value->Shared->Prop}{h:Heap}{g:Array GenState}{d:Drawn}{t:Nat}{os:OsState}{a C CW:Addr}{oe:Obj}{Q:Bool->Shared->Prop}(X:K.In h)(he:h.get? a=some oe)(hcls:oe.cls=.ref C)
  (q:PySem.W.ktsIn K CW "BaseException"=true) (m:PySem.W.mroIn K C (.ref CW)=some true) (hq:Q true ⟨h,g,d,t,os⟩):wpAny M A (excMatches (.ref a) (.ref CW)) Q E ⟨h,g,d,t,os⟩:=by
 obtain⟨nm,qn,N,bs,bm,hdct,sn,sub,ab,col,dd,k0,k1,k2,k3,k5,newId,hC,hbase,_⟩:=PySem.W.kts_cls X q;have hcB:(Value.ref CW::bm).contains (.type "BaseException")=true:=by rw[List.contains_cons,hbase,Bool.or_true]
 have f:=tc_notTuple;have L:=PySem.W.looks_mroIn (M:=M) X m;unfold excMatches
 repeat (first | (with_reducible refine NZ he ?_;rw[hcls]) | with_reducible refine NZ hC ?_ | (with_reducible refine wpAny_isSubtype_exc hC ?_;rw[hcB]) | with_reducible refine L.at ?_ | wp_step)
 exact hq
abbrev Cx.hand(X:Cx)(a:Addr)(E:Value->Shared->Prop):Cx:={X with A:=X.A.mark (some (.ref a)),calm:=false,xe:=E}
section
variable {X:Cx} {pins:List (Addr×Obj)} {σ:St} {H:Hp} {s:Shared}
theorem Inv.hand(I:Inv X pins σ H s)(a:Addr)(E:Value->Shared->Prop):Inv (X.hand a E) pins σ H s :=
 ⟨⟨I.ok.mod,I.ok.kind,I.ok.glob,I.ok.blt,I.ok.above,I.ok.inj,I.ok.has,I.ok.cab,(λz=>nomatch (show false=true from z)),I.ok.frames,I.ok.stk,I.ok.exf,I.ok.bs,I.ok.bsz,I.ok.noex,I.ok.exfs,I.ok.iJ,I.ok.frf⟩,I.os,I.bare,I.base,I.loc,I.cell,I.free,I.freeC,I.pin,I.hok,I.len⟩
theorem Inv.mh{a:Addr}{E:Value->Shared->Prop}(ok:X.Ok)(I:Inv (X.hand a E) pins σ H s):Inv X pins σ H s:=⟨ok,I.os,I.bare,I.base,I.loc,I.cell,I.free,I.freeC,I.pin,I.hok,I.len⟩
theorem Inv.adopt{a:Addr}{φ:Heap->Prop}(I:Inv X pins σ H s)(hn:H a=none)(h1:X.s₀.heap.get? a=none)(hL:a≠X.env.locals)(hfs:a∉X.fs)(hc:∀x c,X.env.cells.lookup x=some c->c≠a)(hp:∀p∈X.pn++pins,p.1≠a)
  (ok:φ s.heap/\(∃o,s.heap.get? a=some o)/\∀u v:Heap,φ u->(∀o,u.get? a=some o->v.get? a=some o)->φ v):Inv X pins σ (upd H a (.ext φ)) s:=by
 refine⟨I.ok,I.os,I.bare,⟨I.base.keep,I.base.slot,λb o e n hx=>?_,I.base.there,λb xs e=>?_,λb o u e=>?_,λb ps e=>?_⟩,I.loc,I.cell,?_,λx c e=>?_,λp hq=>?_,λb u e=>?_,I.len⟩
 ·rw[uN (λz=>by rw[z,h1]at e;cases e)];exact I.base.free b o e n hx
 ·have e':=I.base.tups b xs e;rw[uN (nN e' hn)];exact e'
 ·have e':=I.base.cb b o u e;rw[uN (nN e' hn)];exact e'
 ·obtain⟨m,e'⟩:=I.base.tbls b ps e;exact⟨m,by rw[uN (nN e' hn)];exact e'⟩
 ·rw[uN (Oi hL)];exact I.free
 ·rw[uN (hc x c e)];exact I.freeC x c e
 ·obtain⟨q1,q2,q3⟩:=I.pin p hq;exact⟨q1,by rw[uN (hp p hq)];exact q2,q3⟩
 ·by_cases hb:b=a
  ·subst hb;rw[uS]at e;cases e;exact ok
  ·rw[uN hb]at e;exact(I.hok b u e).kD (λ_ _ _ q=>q) (λc q=>by rw[uN (nN q hn)];exact q) λc xs q=>by rw[uN (nN q hn)];exact q
theorem qN{M:Model}{A:Around}{E:Value->Shared->Prop}{i:Nat}{n:Str}{pos:Pos}{Q:Unit->Shared->Prop}(I:Inv X pins σ H s)(hN:X.N.Nodup)(hi:X.N[i]?=some n)(hk:X.env.kindOf n=some .local)
  (h:∀s',Inv X pins (σ.set i none) H s'->Q () s'):wpAny M A (do bindName X.env n .none;unbindBehindTheSuite X.env n pos) Q E s:=by
 obtain⟨m,hn,hl⟩:=id I.loc;have hcls:(X.env.scope.kind == .class||(X.env.scope.kind == .module&&X.env.locals != X.env.globals))=false:=by rw[I.ok.kind];rfl
 have hiσ:i < σ.length:=by rw[I.len];exact(cV hi).1
 obtain⟨oL,_,_,hoL,_⟩:=id hn;refine wpAny_nameGoes_keeps hk hn hcls λh' v hn' hs=>?_
 refine h _ ⟨I.ok,I.os,I.bare,⟨λb o e n hb hx=>?_,λb o e n hb hx=>?_,I.base.free,λb o e hx=>?_,I.base.tups,I.base.cb,I.base.tbls⟩,⟨_,hn',λj y v' e1 e2 e3=>?_⟩,λy c e=>?_,I.free,I.freeC,λp hp=>?_,λb ob e=>?_,by simpa using I.len⟩
 ·exact(hs.2 b (Na (M6 (M5 e) I.ok.above))).trans (I.base.keep b o e n hb hx)
 ·obtain⟨sl,e1⟩:=I.base.slot b o e n hb hx;exact⟨sl,(hs.2 b (Na (M6 (M5 e) I.ok.above))).trans e1⟩
 ·obtain⟨o',e1⟩:=I.base.there b o e hx;exact⟨o',(hs.2 b (Na (M6 (M5 e) I.ok.above))).trans e1⟩
 ·by_cases hj:j=i
  ·subst hj;rw[Nh hiσ]at e2;cases e2
  ·rw[Ni (Oi hj)]at e2;obtain⟨u',r',q⟩:=hl j y v' e1 e2 e3;refine⟨u',r',?_⟩;rcases q with⟨k,e⟩ | ⟨k,c,e,z⟩
   ·refine .inl ⟨k,?_⟩;have:y≠n:=λe=>hj (jx hN e1 (e ▸ hi))
    simp[this,e]
   ·exact .inr ⟨k,c,e,z.sameBut hs (I.xr y c e)⟩
 ·obtain⟨w',z⟩:=I.cell y c e;exact⟨w',z.sameBut hs (I.xr y c e)⟩
 ·obtain⟨e,n,ne,nf,d⟩:=I.pin p hp;exact⟨(hs.2 p.1 ne).trans e,n,ne,nf,d⟩
 ·refine(I.hok b ob e).kD (λc w' hc q=>(hs.2 c ?_).trans q) (λ_ q=>q) λ_ _ q=>q
  rintro rfl;rcases hc with rfl | hc
  ·rw[I.free]at e;cases e
  ·rw[I.free]at hc;cases hc
end
section
variable {X:Cx} {CW:Addr} {cx n:Str} {i:Nat} {b₀:Stmt} {suite:List Stmt} {np hpos pos:Pos} {tb:TS}
end
open PySem PySem.Spec PyProof.Rows PySem.W Builtin.Getset_descriptor
structure KX(K:Frag)(C:Addr):Prop where
 ga:findIn K (.ref C) "__getattribute__"=some (some (.builtin "BaseException.__getattribute__"))
 gh:findIn K (.ref C) "__getattr__"=some none
 cl:findIn K (.ref C) "__class__"=some (some (.builtin "object.__class__"))
 mb:mroIn K C (.type "BaseException")=some true
 mo:mroIn K C (.type "object")=some true
section
variable {prog:Program} {w:World} {A:Around} {E:Value->Shared->Prop} {K:Frag} {a C:Addr} {o:Obj} {h:Heap} {g:Array GenState} {d:Drawn} {t:Nat} {os:OsState}
theorem uD{R:Result->Shared->Prop}(X:K.In h)(k:KX K C)(hx:h.get? a=some o)(hc:o.cls=.ref C)(hq:R (.ok (.ret (.ref C))) ⟨h,g,d,t,os⟩):
  codeAny (model prog w) A (.call (.builtin "getset_descriptor.__get__") ⟨[.builtin "object.__class__",.ref a,.ref C],[]⟩) R ⟨h,g,d,t,os⟩:=by
 have L0:Looks (model prog w) h (typeOf (.ref a)) (.ref C):=hc ▸ (Looks.ld hx).andThen .now;have L1:=looks_mroIn (M:=model prog w) X k.mo;refine codeAny_call_builtin KF.slot_gs.plain KF.entry_gs (KF.slot_gs.check _ _ _ _ _ _ _ _ KF.type_class (KF.args_gs _ _ _) ?_);unfold Builtin.«getset_descriptor.__get__» descrGet;rw[dga_obj];refine wpAny_bind (wpAny_pure ?_);unfold descrGetter descrCheckInstance descrNameAndClass isInstance;simp only[KF.owner_class]
 repeat lk
 refine⟨Code.quiet_builtin _ (by decide +kernel),codeAny_builtin KF.entry_class ?_⟩;unfold Builtin.«object.__class__» shownTypeOf
 repeat lk
 exact hq
theorem uE{tk:Tok}{Q:Fin->Shared->Prop}(X:K.In h)(k:KX K C)(hx:h.get? a=some o)(hc:o.cls=.ref C)(hq:Q (.done (.ret (.ref C))) ⟨h,g,d,t,os⟩):
  wpAny (model prog w) A (Builtin.«object.__getattribute__» ⟨[.ref a,.str "__class__" tk],[]⟩) Q E ⟨h,g,d,t,os⟩:=by
 have L0:Looks (model prog w) h (typeOf (.ref a)) (.ref C):=hc ▸ (Looks.ld hx).andThen .now;have L1:=looks_findIn (M:=model prog w) X k.cl;have ME:(⟨h,g,d,t,os⟩:Shared).TypeIs (.builtin "object.__class__") "getset_descriptor":=OT;have f5:=OT;have f6:=F.slot_gs_get.lookup;have f7:=F.slot_gs_set.lookup
 repeat (any_goals (first | assumption | with_reducible refine L1.at ?_ | (with_reducible refine NZ hx ?_;rw[hc]) | wp_step))
 refine uD X k hx hc ?_
 repeat (any_goals (first | assumption | wp_step))
theorem uF{M:Model}{nameV:Value}{Q:Unit->Shared->Prop}(X:K.In h)(k:KX K C)(hx:h.get? a=some o)(hc:o.cls=.ref C)(hq:Q () ⟨h,g,d,t,os⟩):wpAny M A (checkBuiltinCall "BaseException.__getattribute__" ⟨[.ref a,nameV],[]⟩) Q E ⟨h,g,d,t,os⟩:=by
 have L1:=looks_mroIn (M:=M) X k.mb;have hk:builtinKind "BaseException.__getattribute__"=some .slot:=by decide +kernel
 have hsplit:splitId "BaseException.__getattribute__"=some ("BaseException","__getattribute__"):=by decide +kernel
 have ha:=F.args_bexc_ga (.ref a) nameV;simp only[checkBuiltinCall,hk,hsplit];refine wpAny_bind ?_;unfold isInstance
 repeat (first | (with_reducible refine NZ hx ?_;rw[hc]) | with_reducible refine L1.at ?_ | wp_step)
 exact hq
theorem x2{tk:Tok}{Q:Value->Shared->Prop}(X:K.In h)(k:KX K C)(hx:h.get? a=some o)(hc:o.cls=.ref C)(hq:Q (.ref C) ⟨h,g,d,t,os⟩):
  wpAny (model prog w) A (getAttrBy (.ref a) (.str "__class__" tk) false false) Q E ⟨h,g,d,t,os⟩:=by
 have L1:=looks_findIn (M:=model prog w) X k.ga;have L2:=looks_findIn (M:=model prog w) X k.gh;have f3:=F.excAttr_ValueError.ga.bind (.ref a);have MF:(false&&onTheHeap (Value.builtin "BaseException.__getattribute__"))=false:=rfl;have Jh:(Value.builtin "BaseException.__getattribute__" == Value.builtin "object.__getattribute__")=false:=by decide +kernel
 have MG:(onTheHeap (Value.ref C)&&Value.builtin "BaseException.__getattribute__" == Value.builtin "object.__getattribute__")=false:=by rw[Jh];rfl
 repeat (any_goals (first | assumption | (with_reducible refine NZ hx ?_;rw[hc]) | with_reducible refine L1.at ?_ | with_reducible refine L2.at ?_ | wp_step))
 refine codeAny_call_builtin F.excAttr_ValueError.ga.plain F.entry_bexc_ga (uF X k hx hc (uE X k hx hc ?_))
 repeat (any_goals (first | assumption | wp_step))
theorem sr{Q:Option Value->Shared->Prop}(X:K.In h)(k:KX K C)(hx:h.get? a=some o)(hc:o.cls=.ref C)(hq:Q (some (.ref C)) ⟨h,g,d,t + 1,os⟩):wpAny (model prog w) A (getAttr? (.ref a) "__class__") Q E ⟨h,g,d,t,os⟩:=by
 unfold getAttr? getAttrBy?
 repeat (any_goals (first | assumption | with_reducible apply x2 X k hx hc | wp_step))
end
theorem uG{K:Frag}{a C:Addr}{cd:ClassData}(k:KX K C)(hC:clsIn K C=some cd):KitX K (.ref a) (.ref C) (ExcAt C a) where
 ty:=λ_ _ _ ⟨o,_,h1,h2,_⟩=>h2 ▸ (Looks.ld h1).andThen .now
 it:=λ_ _ X _=>by
  unfold clsIn at hC;split at hC
  ·rename_i c' d' cd' sl' ho;intro A' Q' E' s' kk q;unfold isType loadHead;exact wpAny_bind (wpAny_loadPart (kk _ _ (X _ _ ho)) (wpAny_pure q))
  ·cases hC
 ne:=λh tp dd its n sl X e=>by
  refine Ov.mpr λq=>?_
  have z:=beq_iff_eq.mp q;cases z;unfold clsIn at hC;split at hC
  ·rename_i c' d' cd' sl' ho;have:=X _ _ ho;rw[e]at this;cases this
  ·cases hC
 ca:=λ{_ _ _ _ _ s} X p q=>by
  obtain⟨o,vs,h1,h2,_⟩:=p;obtain⟨h,g,d,t,os⟩:=s;exact sr X k h1 h2 q
section
variable {X:Cx}
end
def uH(_i j:Int):Prop:=j≠0/\j.natAbs < 18446744073709551616
theorem uH.ok{i j:Int}(hc:uH i j):Builtin.divisionGoesByPylong i j=false:=by
 refine PyProof.noPylong_of_log2 ?_;have z:j.natAbs≠0:=λz=>hc.1 (Int.natAbs_eq_zero.mp z)
 exact M6 ((Nat.log2_lt z).mpr (show j.natAbs < 2 ^ 64 from hc.2)) (by decide)
section
variable {X:Cx}
theorem qP{body:List Stmt}{h0:ExceptHandler}{hs:List ExceptHandler}{t:TS}{pos:Pos}(hb:∀E,jk (X.fy E) body t):PS X (.Try body (h0::hs) [] [] pos) t:=by
 intro pins s σ H D I hw;refine wpAny_Try_except ?_
 let Et:Value->Shared->Prop:=λe s₁=>wpAny (model X.prog X.w) X.A (noteFrame e X.env) (λ_ s₂=>wpAny (model X.prog X.w) X.A (setFlight e none) (λ_ s₃=>wpAny (model X.prog X.w) X.A (handleBy e X.env (h0::hs)) (SP X pins D) X.xe s₃) X.xe s₂) X.xe s₁
 refine Ny (hb Et pins s σ H D (I.fy Et) hw) (λfl s1 h1=>?_) λ_ _ z=>z
 cases fl with
 | next =>
  obtain⟨σ',H',I',q⟩:=h1;exact N3 ⟨σ',H',I'.cB,q⟩
 | brk =>
  obtain⟨σ',H',I',q⟩:=h1;exact⟨σ',H',I'.cB,q⟩
 | cont =>
  obtain⟨σ',H',I',q⟩:=h1;exact⟨σ',H',I'.cB,q⟩
 | ret u =>
  obtain⟨v,σ',H',I',r,q⟩:=h1;exact⟨v,σ',H',I'.cB,r,q⟩
end
section
variable {X:Cx}
def Ax:V->Option Int->Option Int->Hp->VK->Prop:=λv lo hi H Q=>∃(x:Str),v=.str x/\x.length<=sizeLine/\Q (.str (Txt.slice x lo hi)) H
theorem x3:w4 X Ax:=by
 intro pins s σ H x v vl vu lo hi sl Q I rx hs pl pu h;obtain⟨x,rfl,hz,q⟩:=h;obtain⟨t,rfl⟩:=rx
 have go:∀(l u:Option (Int×Tok)),l.map (·.1)=lo->u.map (·.1)=hi->s.heap.IsSlice sl l u none->∃T id,typeLookup (.type T) "__getitem__"=pure (some (.builtin id))/\s.TypeIs (.str x t) T/\wpAny (model X.prog X.w) X.A (getItem (.str x t) (.ref sl)) (EP X pins σ Q) X.xe s:=λl u el eu hs=>by
  subst el eu;refine⟨"str",_,PySem.F.slot_str_getitem.lookup,typeIs_str _ _ _,wpAny_getItem_str_slice (l:=l) (u:=u) (st:=none) hs rfl (post_val_or_str ⟨Nr (Txt.slice_le x _ _) hz,λt' k=>?_⟩)⟩;exact⟨.str _,H,I.kept (t':=k) λ_ _ e=>e,⟨t',rfl⟩,q⟩
 cases pl with
 | none =>
  cases pu with
  | none=>exact go none none rfl rfl hs
  | int j tj=>exact go none (some (j,tj)) rfl rfl hs
 | int i ti =>
  cases pu with
  | none=>exact go (some (i,ti)) none rfl rfl hs
  | int j tj=>exact go (some (i,ti)) (some (j,tj)) rfl rfl hs
end
open PySem PySem.Spec PyProof.Rows PySem.W PySem.Builtin PySem.Builtin.ObjectAttr
def uI(K:Frag)(C:Addr)(bmB:List Value)(newId:String):Bool:=match K.lookup C with
 | some ⟨.type "type",_,.cls cd,sl⟩=>(match cd.mro,sl.toList with
  | .ref C'::bm,[_,_,_,_,some (.builtin n),_]=>C' == C&&n == newId&&!cd.hasDel&&tailIn K bmB bm&&nsOkIn K cd.ns&&cd.hasDict
  | _,_=>false)
 | _=>false
section
variable {prog:Program} {w:World} {A:Around} {E:Value->Shared->Prop} {K:Frag} {h:Heap} {g:Array GenState} {d:Drawn} {t:Nat} {os:OsState}
variable {nm q:Str} {C N:Addr} {bs bm bmB:List Value} {hdct:Bool} {sn:List Str} {sub:List Value} {ab:Bool} {col:Option Bool} {dd:Option Addr} {k0 k1 k2 k3 k5:Option Value} {B Bn newId nid initId inN:String} {bmN:List Value}
end
section
variable {prog:Program} {w:World} {A:Around} {K:Frag} {s:Shared} {x C:Addr} {R:Result->Shared->Prop}
end
section
variable {prog:Program} {w:World} {A:Around} {E:Value->Shared->Prop} {h:Heap} {g:Array GenState} {d:Drawn} {t:Nat} {os:OsState}
variable {nm q:Str} {C N x:Addr} {bs bm:List Value} {sn:List Str} {sub:List Value} {ab:Bool} {col:Option Bool} {dd:Option Addr} {k0 k1 k2 k3 k5:Option Value} {newId:String} {name:Str} {v:Value}
end
def XP(C e:Addr)(dx:Option Addr):Heap->Prop:=λh=>∃t0,h.get? e=some {cls:=.ref C,dict:=dx,data:=.fields #[.ref t0,.none,.none,.none,.bool false,.none]}
def XD(dx:Addr)(fs:List (Str×V)):Heap->Prop:=λh=>∃mA,h.Ns1 dx mA/\(∀f,jw (fs.lookup f) (mA f))/\Within mA (fs.map (·.1))
structure KXs(K:Frag)(C:Addr):Prop where
 sa:findIn K (.ref C) "__setattr__"=some (some (.builtin "object.__setattr__"))
 ex:uI K C kG "ValueError.__new__"=true
 mo:mroIn K C (.type "object")=some true
section
variable {X:Cx} {C a:Addr} {pins:List (Addr×Obj)} {σ:St} {H:Hp} {s:Shared} {A:Around} {E:Value->Shared->Prop} {f:Str}
end
section
variable {X:Cx} {o e value:Expr} {f:Str} {pos pos' tpos:Pos} {ta tv:TE}
end
section
variable {prog:Program} {w:World} {A:Around} {E:Value->Shared->Prop} {K:Frag} {a C:Addr} {o:Obj} {od:Option Obj} {h:Heap} {g:Array GenState} {d:Drawn} {t:Nat} {os:OsState} {name:Str} {v:Value}
end
structure K1(K:Frag)(C f:Addr):Prop where
 ex:uI K C kG "ValueError.__new__"=true
 init:findIn K (.ref C) "__init__"=some (some (.ref f))
 fn:isFn K (.ref f)=true
 kp:keepIn K (.ref C)=true
section
variable {X:Cx} {CX:nu} {k:Nat} {f C:Addr} {fd:FuncData} {ps:List Str} {sp:Sp} {dvs:List V} {ds:List Value} {E:XK} {x m:Str} {p pos apos:Pos} {e o:Expr} {es:List Expr} {ta:TE} {t:TA}
def EE(K:Frag):List V->Hp->VK->Prop:=λvs H Q=>∃a C c D b φ,vs=[.ref a,c]/\H a=some (.ext φ)/\(∀h,φ h->ExcAt C a h)/\KX K C/\hasDictIn K C=true/\RelV c D/\kitOne K (.ref C) D=some b/\Q (.bl b) H
theorem lz:c9 X (.builtin "isinstance") (EE X.K):=by
 intro pins s σ H xs us Q I r h;obtain⟨a,C,c,D,b,φ,rfl,hH,hφ,hk,hcl,rc,e,q⟩:=h;obtain⟨u,w',rfl,rx,rw'⟩:=vals2 r;cases rx
 have hD:w'=D:=by
  cases c<;>simp[RelV]at rc rw'<;>first | (rw[rw',rc]) | (obtain⟨t1,e1⟩:=rc;obtain⟨t2,e2⟩:=rw';subst e1;subst e2;exact absurd e (by simp[kitOne,kitCls]))
 subst hD;obtain⟨cd,hcd,_⟩:=any_some hcl;obtain⟨p,_,_⟩:=I.hok a _ hH;exact NI (uG hk hcd) I.jj (hφ _ p) e (λz=>nomatch z) λtk=>⟨.bl b,H,I.tok tk,rfl,q⟩
end
def inner(s:Stmt):Stmt:=match s with
 | .ClassDef _ _ _ b _ _ _ _ _ _ _=>b.headD (.Pass ⟨0,0,0,0⟩)
 | _=>.Pass ⟨0,0,0,0⟩
def BV(K:Frag)(fs:List Str):Sp:=λvs H Q _=>∃a C ys,vs=.ref a::ys/\ys.length=fs.length/\KXs K C/\(∀f∈fs,bQ K C f)/\H a=some (.ext (XP C a none)) /\
 ∀dx,H dx=none->dx≠a->Q .non (upd (upd H dx (.ext (XD dx (fs.zip ys)))) a (.ext (XP C a (some dx))))
structure K2(P:Program)(w:World)(K:Frag)(mg:Str->Option Value)(base:Heap)(C:Addr)(fs:List Str):Prop where
 s:KXs K C
 no:∀f∈fs,bQ K C f
 le:fs.length<=1000
 ini:∃f fd,K1 K C f/\bB P w K mg base cf 1 f fd ("self"::fs) (BV K fs)/\Binds K fd ("self"::fs) []
section
variable {X:Cx} {C:Addr} {fs:List Str} {x:Str} {p pos:Pos} {e:Expr} {es:List Expr} {t:TA}
end
open PySem PySem.Spec PyProof.Rows PySem.W
def Dk(h h':Heap):Prop:=∀b o,h.get? b=some o->∃o',h'.get? b=some o'/\o'.dict=o.dict
theorem Dk.refl(h:Heap):Dk h h:=λ_ o e=>⟨o,e,rfl⟩
theorem Dk.trans{h1 h2 h3:Heap}(x:Dk h1 h2)(y:Dk h2 h3):Dk h1 h3:=λb o e =>
 let ⟨o1,e1,d1⟩:=x b o e;let ⟨o2,e2,d2⟩:=y b o1 e1;⟨o2,e2,d2.trans d1⟩
def KD{α:Type}(t:Sem α):Prop:=∀(M:Model) (Γ:PySem.Ctx) (Q:α->Pos->Shared->Prop) (E:Value->Pos->Shared->Prop) (p:Pos) (s:Shared),
 Sem.wp M Γ t Q E p s->Sem.wp M Γ t (λa p' s'=>Q a p' s'/\Dk s.heap s'.heap) (λe p' s'=>E e p' s'/\Dk s.heap s'.heap) p s
section
variable {α β:Type}
theorem aQ(a:α):KD (pure a:Sem α):=λ_ _ _ _ _ s h=>⟨h,Dk.refl s.heap⟩
theorem bM(m:String):KD (Sem.unsupported m:Sem α):=λ_ _ _ _ _ _ h=>False.elim (by simpa using h)
theorem aF{t:Sem α}{f:α->Sem β}(h1:KD t)(h2:∀a,KD (f a)):KD (t >>= f):=by
 intro M Γ Q E p s h;rw[Sem.wp_bind']at h ⊢;refine Sem.wp_mono M Γ t (λa p1 s1 z=>?_) (λ_ _ _ z=>z) p s (h1 M Γ _ _ p s h);exact Sem.wp_mono M Γ (f a) (λ_ _ _ y=>⟨y.1,z.2.trans y.2⟩) (λ_ _ _ y=>⟨y.1,z.2.trans y.2⟩) p1 s1 (h2 a M Γ _ _ p1 s1 z.1)
theorem mi(a:Addr)(part:Option Value):KD (loadPart a part):=λM Γ Q E p s h=>by
 unfold loadPart at h ⊢;rw[Sem.wp_load]at h ⊢;obtain⟨o,e,q⟩:=h;exact⟨o,e,q,Dk.refl _⟩
theorem su{h:Heap}{a:Addr}{f:Obj->Obj}(hf:∀o:Obj,(f o).dict=o.dict/\(o.isFreed=false->(f o).isFreed=false)):Dk h (h.update a f):=λb o e=>by
 by_cases hb:a=b
 ·subst hb;exact⟨_,Heap.get?_update_self f e ((hf o).2 (Heap.get?_some_iff.mp e).2),(hf o).1⟩
 ·exact⟨o,(OQ h f hb).trans e,rfl⟩
theorem lA(a:Addr)(part:Option Value){f:Obj->Obj}(hf:∀o:Obj,(f o).dict=o.dict/\(o.isFreed=false->(f o).isFreed=false)):KD (updatePart a part f):=λM Γ Q E p s h=>by
 unfold updatePart at h ⊢;rw[Sem.wp_update]at h ⊢;exact⟨h.1,h.2,su hf⟩
theorem nP(o:Obj):KD (alloc o):=λM Γ Q E p s h=>by
 unfold alloc at h ⊢;rw[Sem.wp_alloc]at h ⊢;exact⟨h,λb ob e=>⟨ob,Heap.get?_push_of_some _ e,rfl⟩⟩
theorem jM:KD stack:=λM Γ Q E p s h=>⟨h,Dk.refl _⟩
end
theorem fB{α:Type}{t:Sem α}(k:KD t){M:Model}{A:Around}{E:Value->Shared->Prop}{Q:α->Shared->Prop}{s:Shared}(h:wpAny M A t Q E s):wpAny M A t (λa s'=>Q a s'/\Dk s.heap s'.heap) E s:=λΓ p hΓ =>
 Sem.wp_mono M Γ t (λ_ _ _ y=>y) (λ_ _ _ y=>y.1) p s (k M Γ _ _ p s (h Γ p hΓ))
theorem hX(v:Value)(i:Nat):KD (field v i):=by
 unfold field fieldsOf;refine aF ?_ λvs=>?_
 ·split
  ·refine aF (mi _ _) λo=>?_
   split
   ·exact aQ _
   ·exact bM _
  ·exact bM _
 ·first
  | (split<;>first | exact aQ _ | exact bM _)
theorem uJ(g:Array Value->Array Value)(o:Obj):(Obj.mapFields g o).dict=o.dict/\(o.isFreed=false->(Obj.mapFields g o).isFreed=false):=by
 obtain⟨c,d,dt,sl⟩:=o;cases dt<;>exact⟨rfl,λz=>z⟩
theorem dZ(v:Value)(i:Nat)(x:Value):KD (setField v i x):=by
 unfold setField updateField;split
 ·refine aF (mi _ _) λo=>?_
  split
  ·split
   ·exact lA _ _ (uJ _)
   ·exact bM _
  ·exact bM _
 ·exact bM _
theorem eQ(e:Value)(f:Option Addr):KD (setFlight e f):=by
 unfold setFlight;refine aF (hX _ _) λtb=>?_
 split
 ·exact dZ _ _ _
 ·exact aQ _
theorem sv(env:Env)(outer:List Env):KD (behindIsImport env outer):=by
 unfold behindIsImport;split
 ·exact aQ _
 ·split
  ·exact aQ _
  ·exact aF (hX _ _) λ_=>aQ _
theorem uK:KD underTheClaimsCaller:=by
 unfold underTheClaimsCaller;exact aF jM λ_=>aQ _
theorem x5(env:Env)(b:Bool)(l:List Env):KD (keptBack env b l):=by
 unfold keptBack;split
 ·split
  ·exact aQ _
  ·exact aF uK λ_=>aQ _
 ·exact aQ _
theorem nQ:∀l:List Env,KD (readyFrames l)
 | []=>aQ _
 | env::outer=>by
  unfold readyFrames;split
  ·refine aF (mi _ _) λo=>?_
   split
   ·exact aQ _
   ·refine aF (sv _ _) λb=>aF (x5 _ _ _) λv=>aF (lA _ _ λo=>⟨rfl,λz=>by obtain⟨c,d,dt,sl⟩:=o;cases dt<;>exact z⟩) λ_=>nQ outer
  ·exact bM _
theorem jN(l:List Env):KD (frameObject l):=by
 unfold frameObject;split
 ·exact aQ _
 ·exact aF (nQ _) λ_=>aQ _
theorem mj:KD frameEnvs:=by
 unfold frameEnvs;exact aF jM λ_=>aQ _
theorem jO(env:Env):KD (PySem.frameOf env):=by
 unfold PySem.frameOf;refine aF mj λl=>aF (jN _) λr=>?_
 split
 ·exact aQ _
 ·exact bM _
theorem nR(f:Addr)(b:Bool):KD (entryPlaceOf f b):=by
 unfold entryPlaceOf;refine aF jM λl=>?_
 split
 ·exact aQ _
 ·exact aQ _
theorem ja(a b c d e:Value)(pl:List Value):KD (EntryCells.newEntry a b c d e pl):=by
 unfold EntryCells.newEntry newFields newObj newObjAsIs;generalize ([a,b,c,d,e]++if pl.isEmpty=true then List.replicate 6 Value.none else pl).toArray=ws;dsimp only;split
 ·exact aF (bM _) λ_=>aF (nP _) λ_=>aQ _
 ·exact aF (nP _) λ_=>aQ _
theorem qQ(e:Value)(env:Env):KD (noteFrame e env):=by
 unfold noteFrame;split
 ·refine aF (hX _ _) λhd=>?_
  dsimp only;split
  ·refine aF (hX _ _) λx=>?_
   split
   ·exact aQ _
   ·exact aF (dZ _ _ _) λ_=>aF (jO _) λ_=>aF (nR _ _) λ_=>aF (ja _ _ _ _ _ _) λ_=>dZ _ _ _
  ·exact aF (jO _) λ_=>aF (nR _ _) λ_=>aF (ja _ _ _ _ _ _) λ_=>dZ _ _ _
 ·exact bM _
theorem jP(env:Env)(e:Value):KD (leaving env e):=aF (qQ e env) λ_=>eQ e none
def gq(h:Heap)(a:Addr)(dd:Option Addr):Prop:=∃o,h.get? a=some o/\o.dict=dd
theorem gq.dk{h h':Heap}{a:Addr}{dd:Option Addr}(d:gq h a dd)(k:Dk h h'):gq h' a dd :=
 let ⟨o,e,q⟩:=d;let ⟨o',e',q'⟩:=k a o e;⟨o',e',q'.trans q⟩
def nv(P:Program)(w:World):nu:=λouter H s E e s'=>∃(a C t:Addr) (H':Hp) (B:Heap) (dd:Option Addr),e=.ref a/\s'.os=s.os/\AllBare s'.gens/\tP P w outer H H' s.heap B a (.ref C) (.ref t) s'.heap/\gq s'.heap a dd/\E (.ref C) dd H'
def del(H:Hp)(a:Addr):Hp:=λb=>if b=a then none else H b
section
variable {P:Program} {w:World} {K:aC} {mg:Str->Option Value} {base:Heap} {N:List Str} {qual:Str} {scope:Scope} {f:Addr} {cd:Value} {A:Around} {outer:List Env} {s₀:Shared} {H₀:Hp} {E:XK}
theorem uL:Rz (jF (nv P w) P w K mg base N qual scope f cd A outer s₀ H₀ E) E:=by
 intro pins σ H s h' e C vs I hx hE
 let env:=envOfC qual scope s₀.heap.objs.size f cd
 have hf:env.frame=some s₀.heap.objs.size:=rfl;have hst:=I.stack;have hin:∀v∈(env::outer),∀b,v.frame=some b->b∈gU (env::outer):=λv hv b hb=>Ol.mpr ⟨v,hv,hb⟩
 have hBs:(hideAll s.heap (gU (env::outer))).StaysIn s.heap:=λb o q=>of_hideAll _ q
 have hFF:s.heap.FunFrames (hideAll s.heap (gU (env::outer))) (env::outer):=funFrames_hide hst hin;obtain⟨tx,hxt,_⟩:=hx.there;show wpAny _ _ (leaving env (.ref e)) _ _ _;have lib:=wpAny_leaves_madeW (M:=model P w) (A:=(jF (nv P w) P w K mg base N qual scope f cd A outer s₀ H₀ E).A) (E:=λ_ _=>False) (s:={s with heap:=h'})
  (Q:=λ_ s'=>∃h2 t,s'={s with heap:=h2}/\Heap.FlyingW (hideAll s.heap (gU (env::outer))) outer e (.ref C) (.ref t) h2/\h'.UpToSlots h2) (I.ok.frames) hf hBs hFF hx λh2 t x1 _ _ x4=>⟨h2,t,rfl,x1,x4⟩
 refine Ny (fB (jP env (.ref e)) lib) (λ_ s' z=>?_) λ_ _ z=>z.elim
 obtain⟨⟨h2,t,rfl,x1,x4⟩,dk⟩:=z
 have ni:∀b o,s₀.heap.get? b=some o->b∉gU outer->b∉gU (env::outer):=λb o q nb hb=>by
  rcases (bq hf).mp hb with z | z
  ·exact absurd (M5 q) (by rw[z];exact NC _)
  ·exact nb z
 refine⟨e,C,t,H,_,none,rfl,I.os,I.bare,⟨λb o q n nb=>?_,λb o q nb=>?_,λb o q hb=>?_,λb o q n=>I.base.free b o q n (by intro z;cases z),I.base.tups,I.base.cb,I.base.tbls,λb u q=>?_,x1⟩,gq.dk ⟨_,hxt,rfl⟩ dk,hE⟩
 ·exact hideAll_get _ (I.base.keep b o q n nb (by intro z;cases z)) (ni b o q nb)
 ·obtain⟨o',q'⟩:=I.base.there b o q (by intro z;cases z);exact⟨o',hideAll_get _ q' (ni b o q nb)⟩
 ·obtain⟨sl,q'⟩:=I.base.slot b o q (I.ok.frf b hb) hb (by intro z;cases z);obtain⟨_,o',ho',hn⟩:=hst.mem ((bq hf).mpr (.inr hb));rw[q']at ho';have e1:=Np ho';obtain⟨sl',q2⟩:=x4 b _ (hx.keeps b _ q') (by rw[e1];exact hn);exact⟨sl',q2⟩
 ·have nf:∀c v,H c=some v->c∉gU (env::outer):=λc v q hb=>by
   have:=I.lN c hb;rw[this]at q;cases q
  refine(I.hok b u q).kD (λc v hc q'=>hideAll_get _ q' ?_) (λ_ q'=>q') λ_ _ q'=>q'
  rcases hc with z | z
  ·rw[z];exact nf b u q
  ·exact nf c _ z
theorem x6:Passes (nv P w) (jF (nv P w) P w K mg base N qual scope f cd A outer s₀ H₀ E) E:=by
 intro pins σ H s e s' I hc;obtain⟨a,C,t,H',B,dd,rfl,ho,hb,F,hdd,hE⟩:=hc
 let env:=envOfC qual scope s₀.heap.objs.size f cd
 have hf:env.frame=some s₀.heap.objs.size:=rfl;have F':tP P w (env::outer) H H' s.heap B a (.ref C) (.ref t) s'.heap:=F;show wpAny _ _ (leaving env (.ref a)) _ _ _;have lib:=wpAny_leaves_onW (M:=model P w) (A:=(jF (nv P w) P w K mg base N qual scope f cd A outer s₀ H₀ E).A) (E:=λ_ _=>False) (s:=s')
  (Q:=λ_ s2=>∃h2,s2={s' with heap:=h2}/\Heap.FlyingW B outer a (.ref C) (.ref t) h2/\s'.heap.UpToSlots h2) (I.ok.frames) hf F'.fly λh2 x1 x4=>⟨h2,rfl,x1,x4⟩
 refine Ny (fB (jP env (.ref a)) lib) (λ_ s2 z=>?_) λ_ _ z=>z.elim
 obtain⟨⟨h2,rfl,x1,x4⟩,dk⟩:=z
 have ni:∀b o,s₀.heap.get? b=some o->b∉gU outer->b∉gU (env::outer):=λb o q nb hb=>by
  rcases (bq hf).mp hb with z | z
  ·exact absurd (M5 q) (by rw[z];exact NC _)
  ·exact nb z
 refine⟨a,C,t,H',B,dd,rfl,ho.trans I.os,hb,⟨λb o q n nb=>?_,λb o q nb=>?_,λb o q hb=>?_,λb o q n=>?_,λb xs q=>F'.tups b xs (I.base.tups b xs q),λb o u q=>F'.cb b o u (I.base.cb b o u q),λb ps q=>?_,F'.hok,x1⟩,hdd.dk dk,hE⟩
 ·exact F'.keep b o (I.base.keep b o q n nb (by intro z;cases z)) (I.base.free b o q n (by intro z;cases z)) (ni b o q nb)
 ·obtain⟨o',q'⟩:=I.base.there b o q (by intro z;cases z);exact F'.there b o' q' (ni b o q nb)
 ·obtain⟨sl,q'⟩:=I.base.slot b o q (I.ok.frf b hb) hb (by intro z;cases z);obtain⟨BE,q2⟩:=F'.slot b _ q' ((bq hf).mpr (.inr hb));obtain⟨_,o',ho',hn⟩:=F'.fly.2.2.1.mem ((bq hf).mpr (.inr hb));rw[q2]at ho';have e1:=Np ho';obtain⟨sl',q3⟩:=x4 b _ q2 (by rw[e1];exact hn);exact⟨sl',q3⟩
 ·obtain⟨o',q'⟩:=I.base.there b o q (by intro z;cases z);exact F'.free b o' q' (I.base.free b o q n (by intro z;cases z))
 ·obtain⟨m1,e1⟩:=I.base.tbls b ps q;obtain⟨m2,e2⟩:=F'.tbls b _ e1;exact⟨m1++m2,by rw[e2,Array.append_assoc]⟩
theorem iH.Ji{x qual:Str}{st:Stmt}{f:Addr}{fd:FuncData}{N ps:List Str}{k:Nat}{sp:Sp}(F:iH K x qual st f fd)(S:aL N ps (dS st))(len:∀vs H Q E,sp vs H Q E->vs.length=ps.length)
  (hbody:∀(cdv:Value) (A:Around) (outer:List Env) (s:Shared) (H:Hp) (vs:List V) (Q:VK) (E:XK),bR k (A.deeper (envOfC qual (dS st) s.heap.objs.size f cdv))->sp vs H Q E ->
   ∃t,jk (jF (nv P w) P w K mg base N qual (dS st) f cdv A outer s H E) (dB st) t/\t {nx:=λ_ H'=>Q .non H',rt:=Q} (start N vs) H):bB P w K mg base (nv P w) (k + 1) f fd ps sp:=by
 obtain⟨oc,od,kV,doc,pm,an,cdv,ct,osl,rfl,lk,hcd⟩:=F.ex;exact Am lk hcd S len λA outer s H vs Q E hr hsp=>hbody cdv A outer s H vs Q E hr hsp
end
theorem BW{X:Cx}{x:Str}{k:Nat}{ps:List Str}{sp:Sp}{e:Expr}{es:List Expr}{t:TA}{p pos:Pos}{E:XK}(h:gW X.prog X.w X.K X.mg X.base (nv X.prog X.w) x k ps sp)(hx:Passes (nv X.prog X.w) X E)(hr:bR k X.A)(hg:Gl X x)(ha:PA X (e::es) t)(hdb:(x == ("__debug__" : Str))=false:=by decide)
  (he:starEach (e::es) X.env=(false,eval e X.env)::starEach es X.env:=by rfl) (hpl:(backTo pos (starEach es X.env)).any (·.1)=false:=by rfl) :
  PE X (.Call (.Name x p) (e::es) [] pos) (qA sp [] E t):=by
 obtain⟨f,fd,F,b,kp,m⟩:=h.ex;exact qC F hr hg m kp b .nil hx ha hdb he hpl
section
variable {M:Model} {A:Around} {E:Value->Shared->Prop} {env:Env} {nm qn:Str} {C Nc:Addr} {bs bm:List Value} {hdct:Bool} {sn:List Str} {sub:List Value} {ab:Bool} {col:Option Bool} {dd:Option Addr} {k0 k1 k2 k3 k5:Option Value} {newId:String}
end
section
variable {X:Cx} {C:Addr} {fs:List Str} {x:Str} {np cpos pos:Pos} {e:Expr} {es:List Expr} {t:TA} {E:XK}
end
def BX(C a:Addr)(dd:Option Addr):Heap->Prop:=λh=>∃o vs,h.get? a=some o/\o.cls=.ref C/\o.data=.fields vs/\o.dict=dd
theorem qR{C a:Addr}{dd:Option Addr}(h:Heap)(p:BX C a dd h):ExcAt C a h:=let ⟨o,vs,q1,q2,q3,_⟩:=p;⟨o,vs,q1,q2,q3⟩
def uM(K:aC)(CW:Addr)(i:Nat)(tb:TS)(D:Ends)(σ:St):XK:=λcls dd H2=>∃C,cls=.ref C/\PySem.W.mroIn K C (.ref CW)=some true /\
 ∀a,H2 a=none->tb {nx:=λσ' H'=>D.nx (σ'.set i none) H',rt:=D.rt,bk:=λσ' H'=>D.bk (σ'.set i none) H',ct:=λσ' H'=>D.ct (σ'.set i none) H'} (σ.set i (some (.ref a))) (upd H2 a (.ext (BX C a dd)))
section
variable {X:Cx} {CW:Addr} {cx n:Str} {i:Nat} {b₀:Stmt} {suite:List Stmt} {np hpos pos:Pos} {tb:TS}
theorem x8{pins:List (Addr×Obj)}{σ:St}{H:Hp}{s s1:Shared}{D:Ends}{e:Value}(hst:X.stack=X.env::X.outer)(hf:X.env.frame=some X.env.locals)(hg:Gl X cx)(hm:X.mg cx=some (.ref CW))(q:PySem.W.ktsIn X.K CW "BaseException"=true)
  (hN:X.N.Nodup) (hi:X.N[i]?=some n) (hk:X.env.kindOf n=some .local) (hs:∀a E,jk (X.hand a E) (b₀::suite) tb) (hd:(cx == ("__debug__" : Str))=false) (hex:X.ex=[])
  (I:Inv X pins σ H s) (hc:nv X.prog X.w X.stack H s (uM X.K CW i tb D σ) e s1) :
  wpAny (model X.prog X.w) X.A (noteFrame e X.env) (λ_ s₂=>wpAny (model X.prog X.w) X.A (setFlight e none) (λ_ s₃ =>
   wpAny (model X.prog X.w) X.A (handleBy e X.env [.ExceptHandler (some (.Name cx np)) (some n) (b₀::suite) hpos]) (SP X pins D) X.xe s₃) X.xe s₂) X.xe s1:=by
 obtain⟨a,C,t,H',B,dd,rfl,ho,hb,F,hdd,C',hC',hsub,hE⟩:=hc;cases hC';have hfr:X.A.frames=some (X.env::X.outer):=by rw[← hst];exact I.ok.frames
 have F0:tP X.prog X.w (X.env::X.outer) H H' s.heap B a (.ref C) (.ref t) s1.heap:=by rw[← hst];exact F
 have lib1:=wpAny_looks_onW (M:=model X.prog X.w) (A:=X.A) (E:=X.xe) (s:=s1) (Q:=λ_ s'=>∃h4,s'={s1 with heap:=h4}/\Heap.HeldW B (X.env::X.outer) a (.ref C) (.ref t) X.env.locals h4/\s1.heap.UpToSlots h4) hfr hf F0.fly λh4 uO Gk=>⟨h4,rfl,uO,Gk⟩
 refine Ny (fB (qQ (.ref a) X.env) lib1) (λ_ s4 z4=>?_) λ_ _ z=>z
 obtain⟨⟨h4,rfl,uO,Gk⟩,K3⟩:=z4;have lib2:=wpAny_landsW (M:=model X.prog X.w) (A:=X.A) (E:=X.xe) (s:={s1 with heap:=h4}) (Q:=λ_ s'=>∃h5,s'={s1 with heap:=h5}/\Heap.FlyingW B (X.env::X.outer) a (.ref C) (.ref t) h5/\h4.UpToSlots h5) uO λh5 EF Gm=>⟨h5,rfl,EF,Gm⟩
 refine Ny (fB (eQ (.ref a) none) lib2) (λ_ s5 z5=>?_) λ_ _ z=>z
 obtain⟨⟨h5,rfl,EF,Gm⟩,K4⟩:=z5;have K5:gq h5 a dd:=(hdd.dk K3).dk K4
 have inv:∀(h:Heap) (tk:Nat),Heap.FlyingW B (X.env::X.outer) a (.ref C) (.ref t) h->s1.heap.UpToSlots h->Inv X pins σ H' {s1 with heap:=h,toks:=tk}:=λh tk fl sm=>by
  have Fh:=F0.on fl sm;refine I.Ah (ch:=[]) ho (by rw[hst];exact Fh.un) Fh.Hb hb (λb z=>nomatch z)
 have I5:=inv h5 s1.toks EF (Gk.trans Gm);obtain⟨oe,vs,g1,g2,g3,g4⟩:=EF.first;refine wpAny_handleBy_cons (codeAny_handlers_test ?_) (by intro q;cases q);refine fQ (X:=X.hand a λ_ _=>False) (I5.hand a _) hg hm ?_ hd;refine excMatches_K I5.jj g1 g2 q hsub (codeAny_handlers_suite_as ?_);have Hc:∀A3:Around,wpAny (model X.prog X.w) A3 (setFlight (.ref a) none) (λ_ s'=>∃h6,s'={s1 with heap:=h6}/\Heap.FlyingW B (X.env::X.outer) a (.ref C) (.ref t) h6/\h5.UpToSlots h6) (λ_ _=>False) {s1 with heap:=h5}:=λA3=>lands_againW (s:={s1 with heap:=h5}) EF λh6 DK Hd=>⟨h6,rfl,DK,Hd⟩
 refine Ny (fB (eQ (.ref a) none) (Hc _)) (λ_ s6 z6=>?_) λ_ _ z=>z.elim
 obtain⟨⟨h6,rfl,DK,Hd⟩,K6⟩:=z6;obtain⟨MI,K7,K8⟩:gq h6 a dd:=K5.dk K6;have I6:=inv h6 s1.toks DK ((Gk.trans Gm).trans Hd);obtain⟨oe,vs,g1,g2,g3,g4⟩:=DK.first;have nH:H' a=none:=F0.new;have nB:B.get? a=none:=DK.2.1
 have nf:a∉gU (X.env::X.outer):=λhm=>by
  obtain⟨_,o,ho',hn'⟩:=DK.2.2.1.mem hm;rw[g1]at ho';cases ho';exact hn' _ g3
 have hL:a≠X.env.locals:=λz=>nf ((bq hf).mpr (.inl z))
 have hfs:a∉X.fs:=λz=>nf ((bq hf).mpr (.inr z))
 have old:∀b o,s.heap.get? b=some o->b≠a:=λb o e z=>by
  subst z;obtain⟨o',e'⟩:=F0.there b o e nf;rw[nB]at e';cases e'
 have h1:X.s₀.heap.get? a=none:=by
  cases e:X.s₀.heap.get? a with
  | none=>rfl
  | some o =>
   obtain⟨o',e'⟩:=I.base.there a o e (by rw[hex];exact λz=>nomatch z);exact absurd rfl (old a o' e')
 have hcc:∀x c,X.env.cells.lookup x=some c->c≠a:=λx c e z=>by
  obtain⟨v,o,ho',hd'⟩:=I6.cell x c e;have wZ:h6.get? c=some o:=ho';rw[z,g1]at wZ;cases wZ;rw[g3]at hd';cases hd'
 have hpp:∀p∈X.pn++pins,p.1≠a:=λp hp z=>by
  have:=(I.pin p hp).1;exact old _ _ this z
 have qd:oe.dict=dd:=by
  have z:h6.get? a=some oe:=g1;rw[K7]at z;cases z;exact K8
 have I7:=I6.adopt (φ:=BX C a dd) nH h1 hL hfs hcc hpp ⟨⟨oe,vs,g1,g2,g3,qd⟩,⟨oe,g1⟩,λu v ⟨o,ws,q1,q2,q3,q4⟩ k=>⟨o,ws,k o q1,q2,q3,q4⟩⟩;refine iK I7 hN hi (.inl hk) (v:=.ref a) rfl (λs8 I8 _=>?_) (.inr hk);refine Ny (hs a _ pins s8 _ _ _ (I8.hand a _) (hE a nH)) (λfl s9 h9=>?_) (λ_ _ z=>z)
 cases fl with
 | next =>
  obtain⟨σ',H9,I9,q9⟩:=h9;exact qN (I9.mh I.ok) hN hi hk λs' I'=>⟨_,H9,I',q9⟩
 | brk =>
  obtain⟨σ',H9,I9,q9⟩:=h9;exact qN (I9.mh I.ok) hN hi hk λs' I'=>⟨_,H9,I',q9⟩
 | cont =>
  obtain⟨σ',H9,I9,q9⟩:=h9;exact qN (I9.mh I.ok) hN hi hk λs' I'=>⟨_,H9,I',q9⟩
 | ret u =>
  obtain⟨v,σ',H9,I9,r9,q9⟩:=h9;exact qN (I9.mh I.ok) hN hi hk λs' I'=>⟨v,_,H9,I',r9,q9⟩
end
section
variable {κ:Type} [DecidableEq κ]
end
section
variable {P:Program} {w:World} {H:Hp} {h:Heap} {a:Addr}
end
section
variable {X:Cx} {pins:List (Addr×Obj)} {σ:St} {H:Hp} {s:Shared} {a:Addr} {y v:V} {u r:Value} {o:Option V} {A:Around} {E:Value->Shared->Prop}
end
section
variable {X:Cx} {pins:List (Addr×Obj)} {σ:St} {H:Hp} {s:Shared} {a:Addr} {kvs:List (Key×V)} {k:Key} {u:Value} {A:Around} {E:Value->Shared->Prop}
end
section
variable {X:Cx} {o i e value:Expr} {pos pos' tpos:Pos} {td ty tv:TE}
end
section
variable {X:Cx} {pos:Pos}
end
structure ml(P:Program)(w:World)(K:aC)(mg:Str->Option Value)(base:Heap)(CX:nu)(C:Addr)(m:Str)(k:Nat)(ps:List Str)(sp:Sp):Prop where
 ex:∃(f:Addr) (fd:FuncData),bB P w K mg base CX k f fd ps sp/\Binds K fd ps []/\Meth K C m f
 cl:rV K C
structure uP(P:Program)(w:World)(K:aC)(mg:Str->Option Value)(base:Heap)(CX:nu)(C:Addr)(x:Str)(k:Nat)(ps:List Str)(sp:Sp):Prop where
 ex:∃(f:Addr) (fd:FuncData),bB P w K mg base CX k f fd ps sp/\Binds K fd ps []/\Mk K C f/\mg x=some (.ref C)
section
variable {X:Cx} {x m:Str} {k:Nat} {ps:List Str} {sp:Sp} {o e:Expr} {es:List Expr} {ta:TE} {t:TA} {p pos apos:Pos} {C:Addr} {CX:nu} {E:XK} {pl:Sem Bool}
theorem qS(he:PE X o ta)(h:ml X.prog X.w X.K X.mg X.base CX C m k ps sp)(hx:Passes CX X E)(hr:bR k X.A)(ha:PA X (e::es) t)
  (hst:starEach (e::es) X.env=(false,eval e X.env)::starEach es X.env:=by rfl) (hpl:(backTo pos (starEach es X.env)).any (·.1)=false:=by rfl)
  (ht:eval (.Call (.Attribute o m apos) (e::es) [] pos) X.env=(do
   let ov ← eval o X.env
   standAt apos.atName
   let (f,first) ← holding [ov] (getMethod ov m pl)
   callWith pos f first (backTo pos (starEach (e::es) X.env)) (backToKw pos (keywordEach [] X.env))):=by rfl) :
  PE X (.Call (.Attribute o m apos) (e::es) [] pos) (qB C m sp [] E ta t):=by
 obtain⟨f,fd,F,b,M⟩:=h.ex;exact xC he h.cl M F hr b .nil hx ha hst hpl ht
theorem Ay(h:uP X.prog X.w X.K X.mg X.base CX C x k ps sp)(hx:Passes CX X E)(hr:bR (k + 1) X.A)(hg:Gl X x)(ha:PA X (e::es) t)(hdb:(x == ("__debug__" : Str))=false:=by decide)
  (he:starEach (e::es) X.env=(false,eval e X.env)::starEach es X.env:=by rfl) (hpl:(backTo pos (starEach es X.env)).any (·.1)=false:=by rfl) :
  PE X (.Call (.Name x p) (e::es) [] pos) (Al C sp [] E t):=by
 obtain⟨f,fd,F,b,M,m⟩:=h.ex;exact xD M F hr hg m b .nil hx ha hdb he hpl
end
def jQ(P:Addr->Prop)(H HX:Hp):Prop:=∀c o,¬ P c->H c=some o->HX c=some o
open Classical in
noncomputable def cutH (P:Addr->Prop) (H:Hp):Hp:=λc=>if P c then none else H c
theorem bw{P:Addr->Prop}{H:Hp}{c:Addr}{o:HO}:cutH P H c=some o↔¬ P c/\H c=some o:=by
 unfold cutH;by_cases h:P c
 ·rw[Nv h];exact⟨(λz=>nomatch z),(λz=>absurd h z.1)⟩
 ·rw[Nu h];exact⟨λz=>⟨h,z⟩,λz=>z.2⟩
theorem bC{P:Addr->Prop}{H:Hp}:aH (cutH P H) H:=λ_ _ e=>(bw.mp e).2
def az(K:aC)(P:Addr->Prop)(H:Hp)(v:V)(d:PyData):Prop:=bp K (cutH P H) v d
theorem jQ.refl{P:Addr->Prop}{H:Hp}:jQ P H H:=λ_ _ _ e=>e
theorem jQ.of{P:Addr->Prop}{H H':Hp}(s:aH H H'):jQ P H H':=λc o _ e=>s c o e
theorem az.now{K:aC}{P:Addr->Prop}{H:Hp}{v:V}{d:PyData}(h:az K P H v d):bp K H v d:=bp.same bC h
theorem eR{P P':Addr->Prop}{H H':Hp}(s:∀c o,¬ P c->H c=some o->¬ P' c/\H' c=some o):aH (cutH P H) (cutH P' H'):=λc o e=>by
 obtain⟨h1,h2⟩:=bw.mp e;exact bw.mpr (s c o h1 h2)
theorem az.sub{K:aC}{P P':Addr->Prop}{H:Hp}{v:V}{d:PyData}(h:az K P H v d)(s:∀c,P' c->P c):az K P' H v d:=bp.same (eR λc o n e=>⟨λz=>n (s c z),e⟩) h
theorem az.same{K:aC}{P:Addr->Prop}{H H':Hp}{v:V}{d:PyData}(h:az K P H v d)(s:aH H H'):az K P H' v d:=bp.same (eR λc o n e=>⟨n,s c o e⟩) h
inductive DV where
 | dat (d:PyData) | ref (k:Nat)
def gr(o:HO):Prop:=(∃xs,o=.lst xs)∨(∃C dx fs,o=.ins C dx fs)∨∃φ,o=.ext φ
structure Ob where
 lies:aC->(Addr->Prop)->Hp->List Addr->Prop
 keep:∀K P H fp P' H',lies K P H fp->(∀c,P c->∃o,H c=some o/\gr o)->(∀a∈fp,∀o,H a=some o->H' a=some o)->aH (cutH P H) (cutH P' H')->lies K P' H' fp
 mu:∀K P H fp,lies K P H fp->∀a∈fp,∃o,H a=some o/\gr o
inductive Ce where
 | live (ds:List PyData) | froz (ds:List PyData) | deep (xs:List DV) | obj (o:Ob)
@[reducible] def Ce.lv:Ce->Bool
 | .froz _=>false
 | _=>true
abbrev aU:=List (Option DV)
abbrev ax:=List Ce
def Lv(al:List (List Addr))(st:ax):Addr->Prop:=λc=>∃(k:Nat) (fp:List Addr) (ce:Ce),al[k]?=some fp/\c∈fp/\st[k]?=some ce/\ce.lv=true
def Fb(G:Addr->Prop)(al:List (List Addr))(st:ax):Addr->Prop:=λc=>G c∨Lv al st c
def fR(K:aC)(P:Addr->Prop)(H:Hp)(al:List (List Addr))(v:V):DV->Prop
 | .dat d=>az K P H v d
 | .ref k=>∃a r,al[k]?=some (a::r)/\v=.ref a
def bL{α:Type}(R:V->α->Prop)(ys:List V)(xs:List α):Prop:=ys.length=xs.length/\∀(i:Nat) y x,ys[i]?=some y->xs[i]?=some x->R y x
def x9(K:aC)(P:Addr->Prop)(H:Hp)(al:List (List Addr))(fp:List Addr):Ce->Prop
 | .live xs=>∃a ys,fp=[a]/\H a=some (.lst ys)/\bL (az K P H) ys xs
 | .froz ds=>∃a,fp=[a]/\az K P H (.ref a) (.list ds)
 | .deep xs=>∃a ys,fp=[a]/\H a=some (.lst ys)/\bL (fR K P H al) ys xs
 | .obj o=>fp≠[]/\o.lies K P H fp
structure YK where
 Y:Hp->(Addr->Prop)->(Addr->Prop)->Prop
 up:∀H0 A0 G G',(∀c,G c->G' c)->Y H0 A0 G->Y H0 A0 G'
def y0:YK:=⟨λ_ _ _=>True,λ_ _ _ _ _ h=>h⟩
structure KF where
 K:aC
 y:YK
instance:CoeOut KF aC:=⟨KF.K⟩
@[reducible] def k0(K:aC):KF:=⟨K,y0⟩
@[reducible] def kf(X:Cx)(Y:YK):KF:=⟨X.K,Y⟩
structure DI(J:KF)(H0:Hp)(A0:Addr->Prop)(G:Addr->Prop)(al:List (List Addr))(H:Hp)(st:ax):Prop where
 len:al.length=st.length
 nd:al.flatten.Nodup
 ok:∀a∈al.flatten,∃o,H a=some o
 cel:∀(k:Nat) fp c,al[k]?=some fp->st[k]?=some c->x9 J (Fb G al st) H al fp c
 fr:jQ A0 H0 H
 nw:∀a∈al.flatten,A0 a∨H0 a=none
 gd:∀a∈al.flatten,¬ G a
 gs:∀c,G c->∃o,H c=some o/\gr o
 lk:J.y.Y H0 A0 G
def gw(K:aC)(P:Addr->Prop)(H:Hp)(al:List (List Addr))(s:St)(env:aU):Prop:=s.length=env.length/\∀(i:Nat) dv,env[i]?=some (some dv)->∃v,s[i]?=some (some v)/\fR K P H al v dv
structure Ext(al:List (List Addr))(H:Hp)(st:ax)(al':List (List Addr))(H':Hp)(st':ax):Prop where
 keep:jQ (Lv al st) H H'
 pre:∀(k:Nat) a r,al[k]?=some (a::r)->∃r',al'[k]?=some (a::r')
 nws:∀c∈al'.flatten,c∈al.flatten∨H c=none
 lv:∀c,Lv al' st' c->Lv al st c∨H c=none
theorem Ext.refl{al:List (List Addr)}{H:Hp}{st:ax}:Ext al H st al H st:=⟨.refl,λ_ _ r h=>⟨r,h⟩,λ_ h=>.inl h,λ_ h=>.inl h⟩
theorem Ext.free{al al':List (List Addr)}{H H':Hp}{st st':ax}(e:Ext al H st al' H' st'){c:Addr}(h:H' c=none)(hl:¬ Lv al st c):H c=none:=by
 cases q:H c with
 | none=>rfl
 | some o=>rw[e.keep c o hl q]at h;cases h
theorem dD{al:List (List Addr)}{k:Nat}{fp:List Addr}{a:Addr}(h:al[k]?=some fp)(ha:a∈fp):a∈al.flatten:=Od.mpr ⟨fp,Nl h,ha⟩
theorem Lv.mem{al:List (List Addr)}{st:ax}{c:Addr}(h:Lv al st c):c∈al.flatten:=by
 obtain⟨k,fp,ce,h1,h2,_⟩:=h;exact dD h1 h2
theorem fC:∀{al:List (List Addr)},al.flatten.Nodup->∀{i j:Nat} {f g:List Addr} {a:Addr},al[i]?=some f->al[j]?=some g->a∈f->a∈g->i=j
 | [],_,i,j,f,g,a,h1,_,_,_=>by simp at h1
 | x::r,nd,i,j,f,g,a,h1,h2,m1,m2=>by
  rw[List.flatten_cons,List.nodup_append]at nd
  cases i with
  | zero =>
   cases j with
   | zero=>rfl
   | succ j =>
    simp at h1 h2;subst h1;exact absurd rfl (nd.2.2 a m1 a (dD h2 m2))
  | succ i =>
   cases j with
   | zero =>
    simp at h1 h2;subst h2;exact absurd rfl (nd.2.2 a m2 a (dD h1 m1))
   | succ j =>
    simp at h1 h2;exact congrArg (· + 1) (fC nd.2.1 h1 h2 m1 m2)
section
variable {K:aC} {J:KF} {H0:Hp} {A0:Addr->Prop} {G:Addr->Prop} {al aM df:List (List Addr)} {H H1 H2:Hp} {st av bo:ax}
theorem Ext.trans(I1:DI J H0 A0 G aM H1 av)(a:Ext al H st aM H1 av)(b:Ext aM H1 av df H2 bo):Ext al H st df H2 bo:=by
 refine⟨λc o n e=>b.keep c o (λz=>?_) (a.keep c o n e),λk x r h=>?_,λc hc=>?_,λc hc=>?_⟩
 ·rcases a.lv c z with y | y
  ·exact n y
  ·rw[y]at e;cases e
 ·obtain⟨r1,h1⟩:=a.pre k x r h;exact b.pre k x r1 h1
 ·rcases b.nws c hc with z | z
  ·exact a.nws c z
  ·by_cases w:Lv al st c
   ·exact .inl w.mem
   ·exact .inr (a.free z w)
 ·rcases b.lv c hc with z | z
  ·exact a.lv c z
  ·by_cases w:Lv al st c
   ·exact .inl w
   ·exact .inr (a.free z w)
theorem cg{G1:Addr->Prop}(g:∀c,G1 c->G c∨H c=none)(e:Ext al H st aM H1 av):aH (cutH (Fb G al st) H) (cutH (Fb G1 aM av) H1):=eR λc o n q=>by
 refine⟨λz=>?_,e.keep c o (λw=>n (.inr w)) q⟩;rcases z with z | z
 ·rcases g c z with w | w
  ·exact n (.inl w)
  ·rw[w]at q;cases q
 ·rcases e.lv c z with w | w
  ·exact n (.inr w)
  ·rw[w]at q;cases q
theorem az.ft{G1:Addr->Prop}{v:V}{d:PyData}(h:az K (Fb G al st) H v d)(g:∀c,G1 c->G c∨H c=none)(e:Ext al H st aM H1 av):az K (Fb G1 aM av) H1 v d:=bp.same (cg g e) h
theorem az.ext{v:V}{d:PyData}(h:az K (Fb G al st) H v d)(e:Ext al H st aM H1 av):az K (Fb G aM av) H1 v d:=h.ft (λ_ z=>.inl z) e
theorem fR.d{P:Addr->Prop}{v:V}{d:PyData}(h:az K P H v d):fR K P H al v (.dat d):=h
theorem fR.ft{G1:Addr->Prop}{v:V}{dv:DV}(h:fR K (Fb G al st) H al v dv)(g:∀c,G1 c->G c∨H c=none)(e:Ext al H st aM H1 av):fR K (Fb G1 aM av) H1 aM v dv:=by
 cases dv with
 | dat d=>exact az.ft h g e
 | ref k =>
  obtain⟨a,r,h1,h2⟩:=h;obtain⟨r',h3⟩:=e.pre k a r h1;exact⟨a,r',h3,h2⟩
theorem fR.ext{v:V}{dv:DV}(h:fR K (Fb G al st) H al v dv)(e:Ext al H st aM H1 av):fR K (Fb G aM av) H1 aM v dv:=h.ft (λ_ z=>.inl z) e
theorem bL.imp{α:Type}{R R':V->α->Prop}{ys:List V}{xs:List α}(h:bL R ys xs)(f:∀y x,R y x->R' y x):bL R' ys xs:=⟨h.1,λi y x a b=>f y x (h.2 i y x a b)⟩
theorem bL.nil{α:Type}{R:V->α->Prop}:bL R [] []:=⟨rfl,λi y x h=>by simp at h⟩
theorem bL.cons{α:Type}{R:V->α->Prop}{y:V}{x:α}{ys:List V}{xs:List α}(h:R y x)(r:bL R ys xs):bL R (y::ys) (x::xs):=⟨by simp[r.1],λi a b h1 h2=>by
 cases i with
 | zero=>simp at h1 h2;subst h1;subst h2;exact h
 | succ i=>exact r.2 i a b (by simpa using h1) (by simpa using h2)⟩
theorem bL.append{α:Type}{R:V->α->Prop}{ys zs:List V}{xs us:List α}(h:bL R ys xs)(h':bL R zs us):bL R (ys++zs) (xs++us):=by
 refine⟨by simp[h.1,h'.1],λj z u hz hu=>?_⟩;by_cases hj:j < ys.length
 ·rw[Nj hj]at hz;rw[Nj (by rw[← h.1];exact hj)]at hu;exact h.2 j z u hz hu
 ·rw[Nm (by omega)]at hz;rw[Nm (by rw[← h.1];omega),← h.1]at hu;exact h'.2 _ z u hz hu
theorem bL.take{α:Type}{R:V->α->Prop}{ys:List V}{xs:List α}(h:bL R ys xs)(n:Nat):bL R (ys.take n) (xs.take n):=by
 refine⟨by rw[NK,NK,h.1],λj y k hy hk=>?_⟩;have hj:j < (ys.take n).length:=(cV hy).1;rw[NK]at hj;rw[OC (by omega)]at hy hk;exact h.2 _ y k hy hk
theorem bL.drop{α:Type}{R:V->α->Prop}{ys:List V}{xs:List α}(h:bL R ys xs)(n:Nat):bL R (ys.drop n) (xs.drop n):=by
 refine⟨by rw[OE,OE,h.1],λj y k hy hk=>?_⟩;rw[NW]at hy hk;exact h.2 _ y k hy hk
theorem bL.at{α:Type}{R:V->α->Prop}{ys:List V}{xs:List α}(h:bL R ys xs){i:Nat}{x:α}(hx:xs[i]?=some x):∃y,ys[i]?=some y/\R y x:=by
 have hi:i < ys.length:=by rw[h.1];exact(cV hx).1
 exact⟨ys[i],gR hi,h.2 i _ x (gR hi) hx⟩
theorem gw.ft{G1:Addr->Prop}{s:St}{env:aU}(h:gw K (Fb G al st) H al s env)(g:∀c,G1 c->G c∨H c=none)(e:Ext al H st aM H1 av):gw K (Fb G1 aM av) H1 aM s env:=⟨h.1,λi dv hi=>by
 obtain⟨v,h1,h2⟩:=h.2 i dv hi;exact⟨v,h1,h2.ft g e⟩⟩
theorem gw.ext{s:St}{env:aU}(h:gw K (Fb G al st) H al s env)(e:Ext al H st aM H1 av):gw K (Fb G aM av) H1 aM s env:=h.ft (λ_ z=>.inl z) e
theorem gw.set{P:Addr->Prop}{s:St}{env:aU}{v:V}{dv:DV}(h:gw K P H al s env)(hv:fR K P H al v dv)(i:Nat):gw K P H al (s.set i (some v)) (env.set i (some dv)):=by
 refine⟨by rw[NL,NL];exact h.1,λj u hu=>?_⟩;rw[List.getElem?_set]at hu;by_cases hj:i=j
 ·subst hj;rw[Nv rfl]at hu;split at hu
  ·rename_i hl;cases hu;exact⟨v,by rw[Nh (by rw[h.1];exact hl)],hv⟩
  ·cases hu
 ·rw[Nu hj]at hu;obtain⟨w,h1,h2⟩:=h.2 j u hu;exact⟨w,by rw[Ni hj];exact h1,h2⟩
theorem az.cC{P:Addr->Prop}{v:V}{ds:List PyData}(h:az K P H v (.list ds)):∃(a:Addr) (ys:List V),v=.ref a/\cy K H a ys/\cy K (cutH P H) a ys/\bL (az K P H) ys ds:=by
 have h:bp K (cutH P H) v (.list ds):=h
 cases h with
 | lst hS hl hi=>exact⟨_,_,rfl,bC.seq hS,hS,hl,hi⟩
theorem az.bT{P:Addr->Prop}{v:V}{ds:List PyData}(h:az K P H v (.tuple ds)):∃(a:Addr) (ys:List V),v=.ref a/\dY K H a ys/\dY K (cutH P H) a ys/\bL (az K P H) ys ds:=by
 have h:bp K (cutH P H) v (.tuple ds):=h
 cases h with
 | tup hS hl hi=>exact⟨_,_,rfl,bC.tup hS,hS,hl,hi⟩
theorem az.aP{P:Addr->Prop}{v:V}{i:Int}(h:az K P H v (.int i)):v=.int i:=by
 have h:bp K (cutH P H) v (.int i):=h;cases h;rfl
theorem az.dE{P:Addr->Prop}{v:V}{i:Str}(h:az K P H v (.str i)):v=.str i:=by
 have h:bp K (cutH P H) v (.str i):=h;cases h;rfl
theorem az.jR{P:Addr->Prop}{v:V}{i:Bool}(h:az K P H v (.bool i)):v=.bl i:=by
 have h:bp K (cutH P H) v (.bool i):=h;cases h;rfl
theorem az.pJ{P:Addr->Prop}{v:V}(h:az K P H v .none):v=.non:=by
 have h:bp K (cutH P H) v .none:=h;cases h;rfl
theorem az.lst{P:Addr->Prop}{a:Addr}{ys:List V}{ds:List PyData}(n:¬ P a)(h:H a=some (.lst ys))(r:bL (az K P H) ys ds):az K P H (.ref a) (.list ds):=bp.lst (cy.of (bw.mpr ⟨n,h⟩)) r.1 r.2
theorem az.tup{P:Addr->Prop}{a:Addr}{ys:List V}{ds:List PyData}(n:¬ P a)(h:H a=some (.tup ys))(r:bL (az K P H) ys ds):az K P H (.ref a) (.tuple ds):=bp.tup (dY.of (bw.mpr ⟨n,h⟩)) r.1 r.2
theorem Ext.same(s:aH H H1):Ext al H st al H1 st:=⟨.of s,λ_ _ r h=>⟨r,h⟩,λ_ z=>.inl z,λ_ z=>.inl z⟩
theorem Ext.new{a:Addr}{o:HO}(h:H a=none):Ext al H st al (upd H a o) st:=.same λc p e=>by rw[uN (nN e h)];exact e
theorem x9.ft{G1:Addr->Prop}{fp:List Addr}{c:Ce}(h:x9 K (Fb G al st) H al fp c)(g:∀c,G1 c->G c∨H c=none)(e:Ext al H st aM H1 av)(hP:∀c,Fb G al st c->∃o,H c=some o/\gr o)(k:c.lv=true->∀a∈fp,∀o,H a=some o->H1 a=some o):x9 K (Fb G1 aM av) H1 aM fp c:=by
 cases c with
 | live xs =>
  obtain⟨a,ys,h0,h1,h2⟩:=h;exact⟨a,ys,h0,k rfl a (by rw[h0];exact NG.mpr rfl) _ h1,h2.imp λy x z=>az.ft z g e⟩
 | froz ds =>
  obtain⟨a,h0,h1⟩:=h;exact⟨a,h0,az.ft h1 g e⟩
 | deep xs =>
  obtain⟨a,ys,h0,h1,h2⟩:=h;exact⟨a,ys,h0,k rfl a (by rw[h0];exact NG.mpr rfl) _ h1,h2.imp λy x z=>fR.ft z g e⟩
 | obj o=>exact⟨h.1,o.keep _ _ _ _ _ _ h.2 hP (k rfl) (cg g e)⟩
theorem x9.ext{fp:List Addr}{c:Ce}(h:x9 K (Fb G al st) H al fp c)(e:Ext al H st aM H1 av)(hP:∀c,Fb G al st c->∃o,H c=some o/\gr o)(k:c.lv=true->∀a∈fp,∀o,H a=some o->H1 a=some o):x9 K (Fb G aM av) H1 aM fp c:=h.ft (λ_ z=>.inl z) e hP k
theorem DI.kH(I:DI J H0 A0 G al H st){c:Addr}(h:Fb G al st c):∃o,H c=some o/\gr o:=by
 rcases h with h | ⟨k,fp,ce,h1,h2,h3,h4⟩
 ·exact I.gs c h
 ·have z:=I.cel k fp ce h1 h3
  cases ce with
  | live xs=>obtain⟨a,ys,rfl,g,_⟩:=z;rw[lL h2];exact⟨_,g,.inl ⟨_,rfl⟩⟩
  | froz ds=>cases h4
  | deep xs=>obtain⟨a,ys,rfl,g,_⟩:=z;rw[lL h2];exact⟨_,g,.inl ⟨_,rfl⟩⟩
  | obj o=>exact o.mu _ _ _ _ z.2 c h2
theorem DI.same(I:DI J H0 A0 G al H st)(s:aH H H1):DI J H0 A0 G al H1 st:=⟨I.len,I.nd,(λa ha=>by obtain⟨o,e⟩:=I.ok a ha;exact⟨o,s _ _ e⟩),(λk a c h1 h2=>(I.cel k a c h1 h2).ext (.same s) (λc hc=>I.kH hc) λ_ a _ o e=>s _ _ e),(λc o n e=>s c o (I.fr c o n e)),I.nw,I.gd,(λc hc=>by obtain⟨o,e,m⟩:=I.gs c hc;exact⟨o,s _ _ e,m⟩),I.lk⟩
theorem DI.new(I:DI J H0 A0 G al H st){a:Addr}{o:HO}(h:H a=none):DI J H0 A0 G al (upd H a o) st:=I.same λc p e=>by rw[uN (nN e h)];exact e
theorem DI.Az(I:DI J H0 A0 G al H st){a:Addr}(h:H a=none):¬ Fb G al st a:=by
 intro z;rcases z with z | z
 ·obtain⟨o,e,_⟩:=I.gs a z;rw[h]at e;cases e
 ·obtain⟨o,e⟩:=I.ok a z.mem;rw[h]at e;cases e
theorem DI.n0(I:DI J H0 A0 G al H st){a:Addr}(h:H a=none):A0 a∨H0 a=none:=by
 cases q:H0 a with
 | none=>exact .inr rfl
 | some o =>
  by_cases w:A0 a
  ·exact .inl w
  ·rw[I.fr a o w q]at h;cases h
theorem DI.freeze(I:DI J H0 A0 G al H st){k:Nat}{fp:List Addr}{ds:List PyData}(ha:al[k]?=some fp)(hs:st[k]?=some (.live ds)):∃a,fp=[a]/\Ext al H st al H (st.set k (.froz ds))/\DI J H0 A0 G al H (st.set k (.froz ds))/\az J (Fb G al (st.set k (.froz ds))) H (.ref a) (.list ds):=by
 have hk:=(cV hs).1
 have E:Ext al H st al H (st.set k (.froz ds)):=⟨.refl,λ_ _ r h=>⟨r,h⟩,λ_ z=>.inl z,λc ⟨j,f,ce,h1,h2,h3,h4⟩=>by
  by_cases e:k=j
  ·subst e;rw[Nh hk]at h3;cases h3;cases h4
  ·rw[Ni e]at h3;exact .inl ⟨j,f,ce,h1,h2,h3,h4⟩⟩
 obtain⟨a,ys,rfl,g1,g2⟩:=I.cel k fp _ ha hs
 have na:¬ Fb G al (st.set k (.froz ds)) a:=λz=>by
  rcases z with z | ⟨j,f,ce,h1,h2,h3,h4⟩
  ·exact I.gd a (dD ha (NG.mpr rfl)) z
  ·have:=fC I.nd ha h1 (NG.mpr rfl) h2;subst this;rw[Nh hk]at h3;cases h3;cases h4
 have F:az J (Fb G al (st.set k (.froz ds))) H (.ref a) (.list ds):=.lst na g1 (g2.imp λy x z=>az.ext z E);refine⟨a,rfl,E,⟨by rw[NL];exact I.len,I.nd,I.ok,λj b c h1 h2=>?_,I.fr,I.nw,I.gd,I.gs,I.lk⟩,F⟩;by_cases e:k=j
 ·subst e;rw[Nh hk]at h2;rw[ha]at h1;cases h1;cases h2;exact⟨a,rfl,F⟩
 ·rw[Ni e]at h2;exact(I.cel j b c h1 h2).ext E (λc hc=>I.kH hc) λ_ _ _ o q=>q
theorem DI.more(I:DI J H0 A0 G al H st){fp:List Addr}{c:Ce}(fr:∀a∈fp,H a=none)(nd:fp.Nodup)(s:aH H H1)(ok:∀a∈fp,∃o,H1 a=some o)(hc:x9 J (Fb G (al++[fp]) (st++[c])) H1 (al++[fp]) fp c):Ext al H st (al++[fp]) H1 (st++[c])/\DI J H0 A0 G (al++[fp]) H1 (st++[c]):=by
 have nal:∀a∈fp,a∉al.flatten:=λa ha z=>by obtain⟨o,e⟩:=I.ok a z;rw[fr a ha]at e;cases e
 have mem:∀c∈(al++[fp]).flatten,c∈al.flatten∨c∈fp:=λc hc=>by
  rw[List.flatten_append,OR]at hc;exact NU.mp hc
 have E:Ext al H st (al++[fp]) H1 (st++[c]):=⟨.of s,λk a r h=>⟨r,by rw[Nj (cV h).1];exact h⟩,λc hc=>by
   rcases mem c hc with z | z
   ·exact .inl z
   ·exact .inr (fr c z),λc ⟨j,f,ce,h1,h2,h3,h4⟩=>by
  by_cases e:j < al.length
  ·rw[Nj e]at h1;rw[Nj (by rw[← I.len];exact e)]at h3;exact .inl ⟨j,f,ce,h1,h2,h3,h4⟩
  ·rw[Nm (by omega)]at h1;have:=Nl h1;rw[lL this]at h2;exact .inr (fr c h2)⟩
 refine⟨E,⟨by simp[I.len],?_,λc hc=>?_,λj b c' h1 h2=>?_,λc o n e=>s c o (I.fr c o n e),λc hc=>?_,λc hc=>?_,λc hc=>?_,I.lk⟩⟩
 ·rw[List.flatten_append,OR,List.nodup_append];exact⟨I.nd,nd,λx hx y hy z=>nal y hy (z ▸ hx)⟩
 ·rcases mem c hc with z | z
  ·obtain⟨o,e⟩:=I.ok c z;exact⟨o,s _ _ e⟩
  ·exact ok c z
 ·by_cases e:j < al.length
  ·rw[Nj e]at h1;rw[Nj (by rw[← I.len];exact e)]at h2;exact(I.cel j b c' h1 h2).ext E (λc hc=>I.kH hc) λ_ _ _ o q=>s _ _ q
  ·have hj:j=al.length:=by have:=(cV h1).1;simp at this;omega
   subst hj;rw[Nm (Nf _),Of]at h1;rw[I.len,Nm (Nf _),Of]at h2;cases h1;cases h2;exact hc
 ·rcases mem c hc with z | z
  ·exact I.nw c z
  ·exact I.n0 (fr c z)
 ·rcases mem c hc with z | z
  ·exact I.gd c z
  ·exact λw=>I.Az (fr c z) (.inl w)
 ·obtain⟨o,e,m⟩:=I.gs c hc;exact⟨o,s _ _ e,m⟩
theorem DI.cell(I:DI J H0 A0 G al H st){a:Addr}{ys:List V}{xs:List PyData}(h:H a=none)(hy:bL (az J (Fb G al st) H) ys xs):Ext al H st (al++[[a]]) (upd H a (.lst ys)) (st++[.live xs])/\DI J H0 A0 G (al++[[a]]) (upd H a (.lst ys)) (st++[.live xs]):=by
 have s:aH H (upd H a (.lst ys)):=λc p e=>by rw[uN (nN e h)];exact e
 refine I.more (λc hc=>by rw[lL hc];exact h) (by simp) s (λc hc=>by rw[lL hc];exact⟨_,uS⟩) ⟨a,ys,rfl,uS,hy.imp λy x z=>bp.same (eR λc o n q=>⟨λw=>?_,s _ _ q⟩) z⟩;rcases w with w | ⟨j,f,ce,h1,h2,h3,h4⟩
 ·exact n (.inl w)
 ·by_cases e:j < al.length
  ·rw[Nj e]at h1;rw[Nj (by rw[← I.len];exact e)]at h3;exact n (.inr ⟨j,f,ce,h1,h2,h3,h4⟩)
  ·rw[Nm (by omega)]at h1;have:=Nl h1;rw[lL this]at h2;rw[lL h2,h]at q;cases q
theorem DI.turn(I:DI J H0 A0 G al H st){k:Nat}{a:Addr}{r r':List Addr}{c c':Ce}(ha:al[k]?=some (a::r))(hs:st[k]?=some c)(hl:c.lv=true)(kp:∀b o,b∉a::r->H b=some o->H1 b=some o)(nw:∀b∈r',b∈a::r∨H b=none)(ok:∀b∈a::r',∃o,H1 b=some o)(nd:(a::r').Nodup)(na:∀b∈r',b∉a::r->H b=none)
  (hc:aH (cutH (Fb G al st) H) (cutH (Fb G (al.set k (a::r')) (st.set k c')) H1)->x9 J (Fb G (al.set k (a::r')) (st.set k c')) H1 (al.set k (a::r')) (a::r') c') (mu:∀b∈a::r,∃o,H b=some o/\gr o):Ext al H st (al.set k (a::r')) H1 (st.set k c')/\DI J H0 A0 G (al.set k (a::r')) H1 (st.set k c'):=by
 have hk:=(cV hs).1;have hka:=(cV ha).1;have lvk:∀b∈a::r,Lv al st b:=λb hb=>⟨k,_,c,ha,hb,hs,hl⟩
 have mem:∀b∈(al.set k (a::r')).flatten,b∈al.flatten∨H b=none:=λb hb=>by
  obtain⟨f,hf,hbf⟩:=Od.mp hb;rcases Oz hf with z | z
  ·exact .inl (Od.mpr ⟨f,z,hbf⟩)
  ·rw[z]at hbf;rcases ND.mp hbf with y | y
   ·rw[y];exact .inl (dD ha Nz)
   ·rcases nw b y with w | w
    ·exact .inl (dD ha w)
    ·exact .inr w
 have E:Ext al H st (al.set k (a::r')) H1 (st.set k c'):=⟨λb o n e=>kp b o (λz=>n (lvk b z)) e,λj b q h=>by
   by_cases e:k=j
   ·subst e;rw[ha]at h;cases h;exact⟨r',by rw[Nh hka]⟩
   ·exact⟨q,by rw[Ni e];exact h⟩,mem,λb ⟨j,f,ce,h1,h2,h3,h4⟩=>by
   by_cases e:k=j
   ·subst e;rw[Nh hka]at h1;cases h1;rcases ND.mp h2 with y | y
    ·rw[y];exact .inl (lvk a Nz)
    ·rcases nw b y with w | w
     ·exact .inl (lvk b w)
     ·exact .inr w
   ·rw[Ni e]at h1 h3;exact .inl ⟨j,f,ce,h1,h2,h3,h4⟩⟩
 have keepOther:∀(j:Nat) f,k≠j->al[j]?=some f->∀b∈f,∀o,H b=some o->H1 b=some o:=λj f e hf b hb o q=>kp b o (λz=>e (fC I.nd ha hf z hb)) q
 have parted:∀b∈(al.set k (a::r')).flatten,b∈a::r'∨∃(j:Nat) (f:List Addr),k≠j/\al[j]?=some f/\b∈f:=λb hb=>by
  obtain⟨f,hf,hbf⟩:=Od.mp hb;obtain⟨j,hj⟩:=List.getElem?_of_mem hf;by_cases e:k=j
  ·subst e;rw[Nh hka]at hj;cases hj;exact .inl hbf
  ·rw[Ni e]at hj;exact .inr ⟨j,f,e,hj,hbf⟩
 refine⟨E,⟨by rw[NL,NL];exact I.len,?_,λb hb=>?_,λj f ce h1 h2=>?_,λb o n e=>?_,λb hb=>?_,λb hb=>?_,λb hb=>?_,I.lk⟩⟩
 ·unfold List.Nodup;rw[List.pairwise_flatten,List.pairwise_iff_getElem];have He:=I.nd;refine⟨λf hf=>?_,λi j hi hj hij x hx y hy=>?_⟩
  ·rcases Oz hf with z | z
   ·exact(List.pairwise_flatten.mp He).1 f z
   ·rw[z];exact nd
  ·intro e;subst e;have gi:=gR hi;have gj:=gR hj
   have far:∀(j:Nat) f,k≠j->al[j]?=some f->x∈f->x∈a::r'->False:=λj f e hf hxf hx'=>by
    by_cases w:x∈a::r
    ·exact e (fC He ha hf w hxf)
    ·rcases ND.mp hx' with z | z
     ·exact w (by rw[z];exact Nz)
     ·obtain⟨o,q⟩:=I.ok x (dD hf hxf);rw[na x z w]at q;cases q
   by_cases e1:k=i
   ·subst e1;have e2:k≠j:=by omega
    rw[Nh hka]at gi;rw[Ni e2]at gj;exact far j _ e2 gj hy (by rw[Np gi];exact hx)
   ·rw[Ni e1]at gi;by_cases e2:k=j
    ·subst e2;rw[Nh hka]at gj;exact far i _ e1 gi hx (by rw[Np gj];exact hy)
    ·rw[Ni e2]at gj;exact absurd (fC He gi gj hx hy) (by omega)
 ·rcases parted b hb with z | ⟨j,f,e,hf,hbf⟩
  ·exact ok b z
  ·obtain⟨o,q⟩:=I.ok b (dD hf hbf);exact⟨o,keepOther j f e hf b hbf o q⟩
 ·by_cases e:k=j
  ·subst e;rw[Nh hka]at h1;rw[Nh hk]at h2;cases h1;cases h2;exact hc (cg (λ_ z=>.inl z) E)
  ·rw[Ni e]at h1 h2;exact(I.cel j f ce h1 h2).ext E (λc hc=>I.kH hc) λ_ b hb o q=>keepOther j f e h1 b hb o q
 ·by_cases w:b∈a::r
  ·rcases I.nw b (dD ha w)with y | y
   ·exact absurd y n
   ·rw[y]at e;cases e
  ·exact kp b o w (I.fr b o n e)
 ·rcases mem b hb with z | z
  ·exact I.nw b z
  ·exact I.n0 z
 ·intro z;rcases mem b hb with w | w
  ·exact I.gd b w z
  ·exact I.Az w (.inl z)
 ·obtain⟨o,q,m⟩:=I.gs b hb;refine⟨o,kp b o (λz=>I.gd b (dD ha z) hb) q,m⟩
theorem DI.put(I:DI J H0 A0 G al H st){k:Nat}{a:Addr}{zs xs:List PyData}{ys:List V}(ha:al[k]?=some [a])(hs:st[k]?=some (.live zs))(hy:bL (az J (Fb G al st) H) ys xs):Ext al H st al (upd H a (.lst ys)) (st.set k (.live xs))/\DI J H0 A0 G al (upd H a (.lst ys)) (st.set k (.live xs)):=by
 have ea:al.set k [a]=al:=by
  apply List.ext_getElem?;intro j;by_cases e:k=j
  ·subst e;rw[Nh (cV ha).1,ha]
  ·rw[Ni e]
 obtain⟨b,ws,e0,g1,g2⟩:=I.cel k [a] _ ha hs;cases e0;have z:=I.turn (H1:=upd H a (.lst ys)) (r:=[]) (r':=[]) (c':=.live xs) ha hs rfl (λb o n e=>by rw[uN (λz=>n (by rw[z];exact List.mem_cons_self))];exact e) (λb hb=>nomatch hb) (λb hb=>by rw[lL hb];exact⟨_,uS⟩) (by simp) (λb hb=>nomatch hb) (λs=>⟨a,ys,rfl,uS,hy.imp λy x z=>bp.same s z⟩) (λb hb=>by rw[lL hb];exact⟨_,g1,.inl ⟨_,rfl⟩⟩);rw[ea]at z;exact z
theorem nS{k:Nat}{fp:List Addr}(ha:al[k]?=some fp):al.set k fp=al:=by
 apply List.ext_getElem?;intro j;by_cases e:k=j
 ·subst e;rw[Nh (cV ha).1,ha]
 ·rw[Ni e]
theorem DI.putD(I:DI J H0 A0 G al H st){k:Nat}{a:Addr}{zs xs:List DV}{ys:List V}(ha:al[k]?=some [a])(hs:st[k]?=some (.deep zs))(hy:bL (fR J (Fb G al st) H al) ys xs):Ext al H st al (upd H a (.lst ys)) (st.set k (.deep xs))/\DI J H0 A0 G al (upd H a (.lst ys)) (st.set k (.deep xs)):=by
 obtain⟨b,ws,e0,g1,g2⟩:=I.cel k [a] _ ha hs;cases e0
 have z:=I.turn (H1:=upd H a (.lst ys)) (r:=[]) (r':=[]) (c':=.deep xs) ha hs rfl (λb o n e=>by rw[uN (λz=>n (by rw[z];exact List.mem_cons_self))];exact e) (λb hb=>nomatch hb) (λb hb=>by rw[lL hb];exact⟨_,uS⟩) (by simp) (λb hb=>nomatch hb) (λs=>⟨a,ys,rfl,uS,hy.imp λy x z=>by
    cases x with
    | dat d=>exact bp.same s z
    | ref j=>rw[nS ha];exact z⟩) (λb hb=>by rw[lL hb];exact⟨_,g1,.inl ⟨_,rfl⟩⟩)
 rw[nS ha]at z;exact z
theorem DI.ya(I:DI J H0 A0 G al H st){p:Addr}{xs:List V}(h:dY J H p xs):dY J (cutH (Fb G al st) H) p xs:=by
 have n:∀o,H p=some o->¬ gr o->¬ Fb G al st p:=λo e m z=>by
  obtain⟨o',e',m'⟩:=I.kH z;rw[e]at e';cases e';exact m m'
 rcases h with(h | ⟨o,h⟩) | h
 ·exact .inl (.inl (bw.mpr ⟨n _ h (λm=>by rcases m with⟨ys,m⟩ | ⟨C,dx,fs,m⟩ | ⟨φ,m⟩<;>cases m),h⟩))
 ·exact .inl (.inr ⟨o,bw.mpr ⟨n _ h (λm=>by rcases m with⟨ys,m⟩ | ⟨C,dx,fs,m⟩ | ⟨φ,m⟩<;>cases m),h⟩⟩)
 ·exact .inr h
end
abbrev DC:=DV->ax->Prop
abbrev DX:=aU->ax->DC->Prop
abbrev hZ:=aU->ax->(List DV->ax->Prop)->Prop
abbrev DT:=aU->ax->(Bool->ax->Prop)->Prop
abbrev yb:=DV->DV->ax->DC->Prop
abbrev Hf:=List DV->ax->DC->Prop
def Kn(J:KF)(H0:Hp)(A0:Addr->Prop)(G:Addr->Prop)(al:List (List Addr))(H:Hp)(st:ax)(Q:DC)(R:VK):Prop:=∀dv st' al' v H',Ext al H st al' H' st'->DI J H0 A0 G al' H' st'->fR J (Fb G al' st') H' al' v dv->Q dv st'->R v H'
def EG(J:KF)(H0:Hp)(A0:Addr->Prop)(G:Addr->Prop)(al:List (List Addr))(H:Hp)(st:ax)(Q:Bool->ax->Prop)(R:Bool->Hp->Prop):Prop:=∀b st' al' H',Ext al H st al' H' st'->DI J H0 A0 G al' H' st'->Q b st'->R b H'
def Jk(J:KF)(H0:Hp)(A0:Addr->Prop)(G:Addr->Prop)(al:List (List Addr))(H:Hp)(st:ax)(Q:List DV->ax->Prop)(R:List V->Hp->Prop):Prop:=∀dvs st' al' vs H',Ext al H st al' H' st'->DI J H0 A0 G al' H' st'->bL (fR J (Fb G al' st') H' al') vs dvs->Q dvs st'->R vs H'
def AE(J:KF)(t:TE)(e:DX):Prop:=∀(H0:Hp) (A0:Addr->Prop) (G:Addr->Prop) (al:List (List Addr)) (H:Hp) (st:ax) (s:St) (env:aU) (Q:DC) (R:VK),DI J H0 A0 G al H st->gw J (Fb G al st) H al s env->e env st Q->Kn J H0 A0 G al H st Q R->t s H R
def AT(J:KF)(t:TT)(e:DT):Prop:=∀(H0:Hp) (A0:Addr->Prop) (G:Addr->Prop) (al:List (List Addr)) (H:Hp) (st:ax) (s:St) (env:aU) (Q:Bool->ax->Prop) (R:Bool->Hp->Prop),DI J H0 A0 G al H st->gw J (Fb G al st) H al s env->e env st Q->EG J H0 A0 G al H st Q R->t s H R
def AA(J:KF)(t:TA)(n:Nat)(e:hZ):Prop:=∀(H0:Hp) (A0:Addr->Prop) (G:Addr->Prop) (al:List (List Addr)) (H:Hp) (st:ax) (s:St) (env:aU) (Q:List DV->ax->Prop) (R:List V->Hp->Prop),DI J H0 A0 G al H st->gw J (Fb G al st) H al s env->e env st Q->Jk J H0 A0 G al H st (λl s=>l.length=n/\Q l s) R->t s H R
def AO(J:KF)(r:R2)(o:yb):Prop:=∀(H0:Hp) (A0:Addr->Prop) (G:Addr->Prop) (al:List (List Addr)) (H:Hp) (st:ax) (x y:V) (dx dy:DV) (Q:DC) (R:VK),DI J H0 A0 G al H st->fR J (Fb G al st) H al x dx->fR J (Fb G al st) H al y dy->o dx dy st Q->Kn J H0 A0 G al H st Q R->r x y H R
def AB(J:KF)(r:List V->Hp->VK->Prop)(o:Hf):Prop:=∀(H0:Hp) (A0:Addr->Prop) (G:Addr->Prop) (al:List (List Addr)) (H:Hp) (st:ax) (vs:List V) (ds:List DV) (Q:DC) (R:VK),DI J H0 A0 G al H st->bL (fR J (Fb G al st) H al) vs ds->o ds st Q->Kn J H0 A0 G al H st Q R->r vs H R
structure aW(X:Cx)(Y:YK)(e:Expr)(d:DX):Prop where
 h:∃t,PE X e t/\AE (kf X Y) t d
structure ny(X:Cx)(Y:YK)(e:Expr)(d:DT):Prop where
 h:∃t,PT X e t/\AT (kf X Y) t d
structure oR(X:Cx)(Y:YK)(e:Expr)(d:DT):Prop where
 h:∃t,PW X e t/\AT (kf X Y) t d
structure mm(X:Cx)(Y:YK)(es:List Expr)(n:Nat)(d:hZ):Prop where
 h:∃t,PA X es t/\AA (kf X Y) t n d
section
variable {K:aC} {J:KF} {H0:Hp} {A0:Addr->Prop} {G:Addr->Prop} {al aM df:List (List Addr)} {H H1 H2:Hp} {st av bo:ax} {Q:DC} {R:VK}
theorem Kn.here(k:Kn J H0 A0 G al H st Q R)(I:DI J H0 A0 G al H st){v:V}{dv:DV}(h:fR J (Fb G al st) H al v dv)(q:Q dv st):R v H:=k dv st al v H .refl I h q
theorem Kn.laid(k:Kn J H0 A0 G al H st Q R)(I:DI J H0 A0 G al H st){v:V}{dv:DV}(s:aH H H1)(h:fR J (Fb G al st) H1 al v dv)(q:Q dv st):R v H1:=k dv st al v H1 (.same s) (I.same s) h q
theorem Kn.go(k:Kn J H0 A0 G al H st Q R)(I:DI J H0 A0 G aM H1 av)(e:Ext al H st aM H1 av):Kn J H0 A0 G aM H1 av Q R:=λdv st' al' v H' e' I' h q=>k dv st' al' v H' (e.trans I e') I' h q
theorem EG.go{Q:Bool->ax->Prop}{R:Bool->Hp->Prop}(k:EG J H0 A0 G al H st Q R)(I:DI J H0 A0 G aM H1 av)(e:Ext al H st aM H1 av):EG J H0 A0 G aM H1 av Q R:=λdv st' al' H' e' I' q=>k dv st' al' H' (e.trans I e') I' q
theorem dh{a:Addr}{o:HO}(h:H a=none):aH H (upd H a o):=λc p e=>by rw[uN (nN e h)];exact e
end
@[reducible] def uQ(i:Nat)(env:aU)(st:ax)(Q:DC):Prop:=match env[i]? with
 | some (some dv)=>Q dv st
 | _=>False
@[reducible] def eC(d:PyData)(_:aU)(st:ax)(Q:DC):Prop:=Q (.dat d) st
section
variable {X:Cx} {Y:YK} {a b c e:Expr} {es:List Expr} {pos:Pos} {ea eb ec:DX}
theorem BY{J:KF}{i:Nat}:AE J (Bj i) (uQ i):=λH0 A0 G al H st s env Q R I E h k=>by
 unfold uQ at h;split at h
 ·rename_i dv hd;obtain⟨v,h1,h2⟩:=E.2 i dv hd;exact⟨v,h1,k.here I h2 h⟩
 ·exact h.elim
theorem yc{J:KF}{v:V}{d:PyData}(h:∀H,bp J H v d):AE J (tC v) (eC d):=λH0 A0 G al H st s env Q R I E q k=>k.here I (.d (h _)) q
theorem ah(i:Nat){x:Str}(hN:X.N[i]?=some x:=by rfl)(hv:Gd X.env.scope x:=by first | exact Nb rfl | exact Om (Nb rfl) | exact Om (Om rfl))(hd:(x == ("__debug__" : Str))=false:=by decide)
  (hcd:(x == ("__classdict__" : Str))=false:=by decide):aW X Y (.Name x pos) (uQ i):=⟨_,tY hN hv hd hcd,BY⟩
theorem aq{i j}:aW X Y (.Constant (.int i) j pos) (eC (.int i)):=⟨_,pI,yc λ_=>.int i⟩
theorem lB{i j}:aW X Y (.Constant (.bool i) j pos) (eC (.bool i)):=⟨_,DW,yc λ_=>.bl i⟩
theorem gx{j}:aW X Y (.Constant .none j pos) (eC .none):=⟨_,Bk,yc λ_=>.non⟩
theorem aV{i j}:aW X Y (.Constant (.str i) j pos) (eC (.str i)):=⟨_,jz,yc λ_=>.str i⟩
@[reducible] def nz(o:yb)(ea eb:DX)(env:aU)(st:ax)(Q:DC):Prop:=ea env st λx av=>eb env av λy bo=>o x y bo Q
theorem qT{J:KF}{r:R2}{o:yb}{ta tb:TE}(ho:AO J r o)(ha:AE J ta ea)(hb:AE J tb eb):AE J (D6 r ta tb) (nz o ea eb):=λH0 A0 G al H st s env Q R I E h k=>by
 refine ha H0 A0 G al H st s env _ _ I E h λx av aM v H1 e1 I1 d1 q1=>?_
 refine hb H0 A0 G aM H1 av s env _ _ I1 (E.ext e1) q1 λy bo df u H2 e2 I2 d2 q2=>?_
 exact ho H0 A0 G df H2 bo v u x y Q R I2 (d1.ext e2) d2 q2 (k.go I2 (e1.trans I1 e2))
theorem lC{op:Operator}{r:R2}{o:yb}(ho:fq X (binaryOp op) r)(ao:AO (kf X Y) r o)(ha:aW X Y a ea)(hb:aW X Y b eb):aW X Y (.BinOp a op b pos) (nz o ea eb):=by
 obtain⟨ta,p1,a1⟩:=ha.h;obtain⟨tb,p2,a2⟩:=hb.h;exact⟨_,g7 ho p1 p2,qT ao a1 a2⟩
theorem BZ{op:CmpOp}{r:R2}{o:yb}(ho:fq X (compareOp op) r)(ao:AO (kf X Y) r o)(ha:aW X Y a ea)(hb:aW X Y b eb)(hm:behindInMarks op b=false):aW X Y (.Compare a [op] [b] pos) (nz o ea eb):=by
 obtain⟨ta,p1,a1⟩:=ha.h;obtain⟨tb,p2,a2⟩:=hb.h;exact⟨_,qz ho p1 p2 hm,qT ao a1 a2⟩
theorem iM{f:Value->Value->Sem Value}{r r':R2}(h:fq X f r)(h':fq X f r'):fq X f (λx y H Q=>r x y H Q∨r' x y H Q):=λpins s σ H x y v u Q I rx ry q=>by
 rcases q with q | q
 ·exact h pins s σ H x y v u Q I rx ry q
 ·exact h' pins s σ H x y v u Q I rx ry q
@[reducible] def oI(C:Int->Int->Prop)(g:Int->Int->PyData)(x y:DV)(st:ax)(Q:DC):Prop:=match x,y with
 | .dat (.int i),.dat (.int j)=>C i j/\Q (.dat (g i j)) st
 | _,_=>False
@[reducible] def DL(g:Int->Int->PyData)(x y:DV)(st:ax)(Q:DC):Prop:=match x,y with
 | .dat (.int i),.dat (.int j)=>Q (.dat (g i j)) st
 | _,_=>False
theorem yd{J:KF}{C:Int->Int->Prop}{g:Int->Int->V}{d:Int->Int->PyData}(h:∀i j H,bp J H (g i j) (d i j)):AO J (rI C g) (oI C d):=λH0 A0 G al H st x y dx dy Q R I a b q k=>by
 unfold oI at q;split at q
 ·rw[az.aP a,az.aP b];exact⟨_,_,rfl,rfl,q.1,k.here I (.d (h _ _ _)) q.2⟩
 ·exact q.elim
theorem jb{J:KF}{g:Int->Int->V}{d:Int->Int->PyData}(h:∀i j H,bp J H (g i j) (d i j)):AO J (xw g) (DL d):=λH0 A0 G al H st x y dx dy Q R I a b q k=>by
 unfold DL at q;split at q
 ·rw[az.aP a,az.aP b];exact⟨_,_,rfl,rfl,k.here I (.d (h _ _ _)) q⟩
 ·exact q.elim
end
@[reducible] def fj(st:ax):DV->Option (List PyData)
 | .dat (.list ds)=>some ds
 | .ref k=>match st[k]? with
  | some (.live ds)=>some ds
  | some (.froz ds)=>some ds
  | _=>none
 | _=>none
@[reducible] def lD(st:ax):DV->Option PyData
 | .dat d=>some d
 | .ref k=>match st[k]? with
  | some (.live ds)=>some (.list ds)
  | some (.froz ds)=>some (.list ds)
  | _=>none
section
variable {K:aC} {J:KF} {H0:Hp} {A0:Addr->Prop} {G:Addr->Prop} {al aM df:List (List Addr)} {H H1 H2:Hp} {st av bo:ax} {Q:DC} {R:VK}
theorem sx{k:Nat}{ds:List PyData}(e:fj st (.ref k)=some ds):st[k]?=some (.live ds)∨st[k]?=some (.froz ds):=by
 have e:(match st[k]? with | some (.live ds)=>some ds | some (.froz ds)=>some ds | _=>none)=some ds:=e
 revert e
 cases st[k]? with
 | none=>intro e;cases e
 | some c=>cases c with
  | live xs=>intro e;cases e;exact .inl rfl
  | froz xs=>intro e;cases e;exact .inr rfl
  | deep xs=>intro e;cases e
  | obj o=>intro e;cases e
theorem sy{k:Nat}{d:PyData}(e:lD st (.ref k)=some d):∃ds,fj st (.ref k)=some ds/\d=.list ds:=by
 have e:(match st[k]? with | some (.live ds)=>some (PyData.list ds) | some (.froz ds)=>some (.list ds) | _=>none)=some d:=e;show ∃ds,(match st[k]? with | some (.live ds)=>some ds | some (.froz ds)=>some ds | _=>none)=some ds/\d=.list ds
 revert e
 cases st[k]? with
 | none=>intro e;cases e
 | some c=>cases c with
  | live xs=>intro e;cases e;exact⟨_,rfl,rfl⟩
  | froz xs=>intro e;cases e;exact⟨_,rfl,rfl⟩
  | deep xs=>intro e;cases e
  | obj o=>intro e;cases e
theorem fR.DM(I:DI J H0 A0 G al H st){v:V}{x:DV}{ds:List PyData}(h:fR J (Fb G al st) H al v x)(e:fj st x=some ds):∃(a:Addr) (ys:List V),v=.ref a/\cy J H a ys/\bL (az J (Fb G al st) H) ys ds:=by
 cases x with
 | dat d =>
  cases d with
  | list xs=>cases e;obtain⟨a,ys,h1,h2,_,h3⟩:=az.cC h;exact⟨a,ys,h1,h2,h3⟩
  | _=>cases e
 | ref k =>
  obtain⟨a,r,h1,h2⟩:=h;rcases sx e with hs | hs
  ·obtain⟨a',ys,e0,g1,g2⟩:=I.cel k _ _ h1 hs;cases e0;exact⟨a,ys,h2,cy.of g1,g2⟩
  ·obtain⟨a',e0,g0⟩:=I.cel k _ _ h1 hs;cases e0;obtain⟨b,ys,g1,g2,_,g3⟩:=az.cC g0;cases g1;exact⟨a,ys,h2,g2,g3⟩
theorem fR.Gn(I:DI J H0 A0 G al H st){v:V}{x:DV}{d:PyData}(h:fR J (Fb G al st) H al v x)(e:lD st x=some d):bp J H v d:=by
 cases x with
 | dat d'=>cases e;exact az.now h
 | ref k =>
  obtain⟨ds,e1,rfl⟩:=sy e;obtain⟨a,ys,rfl,h2,h3⟩:=h.DM I e1;exact .lst h2 h3.1 λi x d a b=>(h3.2 i x d a b).now
@[reducible] def gS:DV->ax->(PyData->ax->Prop)->Prop
 | .dat d,st,Q=>Q d st
 | .ref k,st,Q=>match st[k]? with
  | some (.froz ds)=>Q (.list ds) st
  | some (.live ds)=>Q (.list ds) (st.set k (.froz ds))
  | _=>False
@[reducible] def cb:List DV->ax->(List PyData->ax->Prop)->Prop
 | [],st,Q=>Q [] st
 | x::r,st,Q=>gS x st λd av=>cb r av λds bo=>Q (d::ds) bo
theorem jS(I:DI J H0 A0 G al H st){v:V}{x:DV}{Q:PyData->ax->Prop}(h:fR J (Fb G al st) H al v x)(q:gS x st Q):∃d av,Ext al H st al H av/\DI J H0 A0 G al H av/\az J (Fb G al av) H v d/\Q d av:=by
 cases x with
 | dat d=>exact⟨d,st,.refl,I,h,q⟩
 | ref k =>
  obtain⟨a,r,h1,rfl⟩:=h;unfold gS at q;dsimp only at q;split at q
  ·rename_i ds hs;obtain⟨a',e0,g0⟩:=I.cel k _ _ h1 hs;cases e0;exact⟨_,st,.refl,I,g0,q⟩
  ·rename_i ds hs;obtain⟨a',e0,E,I',F⟩:=I.freeze h1 hs;cases e0;exact⟨_,_,E,I',F,q⟩
  ·exact q.elim
theorem eS:∀{xs:List DV} {st:ax} {vs:List V} {Q:List PyData->ax->Prop},DI J H0 A0 G al H st->bL (fR J (Fb G al st) H al) vs xs->cb xs st Q->∃ds av,Ext al H st al H av/\DI J H0 A0 G al H av/\bL (az J (Fb G al av) H) vs ds/\Q ds av
 | [],st,vs,Q,I,h,q=>by
  have:=h.1
  cases vs with
  | nil=>exact⟨[],st,.refl,I,.nil,q⟩
  | cons v r=>simp at this
 | x::xs,st,vs,Q,I,h,q=>by
  have:=h.1
  cases vs with
  | nil=>simp at this
  | cons v r =>
   obtain⟨d,av,E1,I1,F1,q1⟩:=jS I (h.2 0 v x rfl rfl) q;have h':bL (fR J (Fb G al av) H al) r xs:=⟨by simpa using this,λi y z a b=>(h.2 (i + 1) y z (by simpa using a) (by simpa using b)).ext E1⟩;obtain⟨ds,bo,E2,I2,F2,q2⟩:=eS I1 h' q1;exact⟨d::ds,bo,E1.trans I1 E2,I2,.cons (F1.ext E2) F2,q2⟩
end
section
variable {X:Cx} {Y:YK} {a b c e:Expr} {es:List Expr} {pos:Pos} {ea eb ec:DX} {K:aC} {J:KF}
@[reducible] def ye(_:aU)(st:ax)(Q:List DV->ax->Prop):Prop:=Q [] st
@[reducible] def qU(ea:DX)(r:hZ)(env:aU)(st:ax)(Q:List DV->ax->Prop):Prop:=ea env st λx av=>r env av λxs bo=>Q (x::xs) bo
theorem B0:AA J Ef 0 ye:=λH0 A0 G al H st s env Q R I E h k=>k [] st al [] H .refl I .nil ⟨rfl,h⟩
theorem yf{ta:TE}{tr:TA}{n:Nat}{r:hZ}(ha:AE J ta ea)(hr:AA J tr n r):AA J (Ak ta tr) (n + 1) (qU ea r):=λH0 A0 G al H st s env Q R I E h k=>by
 refine ha H0 A0 G al H st s env _ _ I E h λx av aM v H1 e1 I1 d1 q1=>?_
 refine hr H0 A0 G aM H1 av s env _ _ I1 (E.ext e1) q1 λxs bo df vs H2 e2 I2 d2 q2=>?_
 exact k (x::xs) bo df (v::vs) H2 (e1.trans I1 e2) I2 (.cons (d1.ext e2) d2) ⟨by simp[q2.1],q2.2⟩
theorem ak:mm X Y [] 0 ye:=⟨_,pN,B0⟩
theorem af{n:Nat}{r:hZ}(ha:aW X Y e ea)(hr:mm X Y es n r)(hs:starEach (e::es) X.env=(false,eval e X.env)::starEach es X.env:=by rfl):mm X Y (e::es) (n + 1) (qU ea r):=by
 obtain⟨ta,p1,a1⟩:=ha.h;obtain⟨tb,p2,a2⟩:=hr.h;exact⟨_,pK p1 p2 hs,yf a1 a2⟩
@[reducible] def yg(t:hZ)(env:aU)(st:ax)(Q:DC):Prop:=t env st λxs av=>cb xs av λds bo=>Q (.dat (.tuple ds)) bo
@[reducible] def yh(t:hZ)(env:aU)(st:ax)(Q:DC):Prop:=t env st λxs av=>cb xs av λds bo=>Q (.dat (.list ds)) bo
@[reducible] def qV(t:hZ)(env:aU)(st:ax)(Q:DC):Prop:=t env st λxs av=>cb xs av λds bo=>Q (.ref bo.length) (bo++[.live ds])
theorem B1{t:TA}{n:Nat}{d:hZ}(hn:n<=sizeLine)(h:AA J t n d):AE J (Eg t) (yg d):=λH0 A0 G al H st s env Q R I E q k=>by
 refine h H0 A0 G al H st s env _ _ I E q λxs av aM vs H1 e1 I1 d1 q1=>?_
 obtain⟨ds,bo,E2,I2,F2,q2⟩:=eS I1 d1 q1.2;refine⟨by rw[d1.1,q1.1];exact hn,λp hp=>?_⟩;have k2:=k.go I2 (e1.trans I1 E2);exact k2.laid I2 (dh hp) (.d (az.tup (I2.Az hp) uS (F2.imp λy x z=>z.same (dh hp)))) q2
theorem B2{t:TA}{n:Nat}{d:hZ}(hn:n<=sizeLine)(h:AA J t n d):AE J (BC t) (yh d):=λH0 A0 G al H st s env Q R I E q k=>by
 refine h H0 A0 G al H st s env _ _ I E q λxs av aM vs H1 e1 I1 d1 q1=>?_
 obtain⟨ds,bo,E2,I2,F2,q2⟩:=eS I1 d1 q1.2;refine⟨by rw[d1.1,q1.1];exact hn,λp hp=>?_⟩;have k2:=k.go I2 (e1.trans I1 E2);exact k2.laid I2 (dh hp) (.d (az.lst (I2.Az hp) uS (F2.imp λy x z=>z.same (dh hp)))) q2
theorem Kn.cell{H0:Hp}{A0:Addr->Prop}{G:Addr->Prop}{al:List (List Addr)}{H:Hp}{st:ax}{Q:DC}{R:VK}(k:Kn J H0 A0 G al H st Q R)(I:DI J H0 A0 G al H st){p:Addr}{ys:List V}{ds:List PyData}(hp:H p=none)(F:bL (az J (Fb G al st) H) ys ds)(q:Q (.ref st.length) (st++[.live ds])):R (.ref p) (upd H p (.lst ys)):=by
 obtain⟨E,I'⟩:=I.cell hp F;exact k (.ref st.length) _ _ _ _ E I' ⟨p,[],by rw[← I.len,Nm (Nf _),Of];rfl,rfl⟩ q
theorem Kn.list{H0:Hp}{A0:Addr->Prop}{G:Addr->Prop}{al:List (List Addr)}{H:Hp}{st:ax}{Q:DC}{R:VK}(k:Kn J H0 A0 G al H st Q R)(I:DI J H0 A0 G al H st){p:Addr}{ys:List V}{ds:List PyData}(hp:H p=none)(F:bL (az J (Fb G al st) H) ys ds)(q:Q (.dat (.list ds)) st):R (.ref p) (upd H p (.lst ys)) :=
 k.laid I (dh hp) (.d (az.lst (I.Az hp) uS (F.imp λy x z=>z.same (dh hp)))) q
theorem yi{t:TA}{n:Nat}{d:hZ}(hn:n<=sizeLine)(h:AA J t n d):AE J (BC t) (qV d):=λH0 A0 G al H st s env Q R I E q k=>by
 refine h H0 A0 G al H st s env _ _ I E q λxs av aM vs H1 e1 I1 d1 q1=>?_
 obtain⟨ds,bo,E2,I2,F2,q2⟩:=eS I1 d1 q1.2;exact⟨by rw[d1.1,q1.1];exact hn,λp hp=>(k.go I2 (e1.trans I1 E2)).cell I2 hp F2 q2⟩
theorem aJ{k n:Nat}{d:hZ}(h:mm X Y es n d)(hn:n<=sizeLine:=by decide):aW X Y (.Tuple es k pos) (yg d):=by
 obtain⟨t,p,a⟩:=h.h;exact⟨_,lR p,B1 hn a⟩
theorem bz{n:Nat}{d:hZ}(h:mm X Y es n d)(hn:n<=sizeLine:=by decide):aW X Y (.List es pos) (yh d):=by
 obtain⟨t,p,a⟩:=h.h;exact⟨_,lS p,B2 hn a⟩
theorem yj{n:Nat}{d:hZ}(h:mm X Y es n d)(hn:n<=sizeLine:=by decide):aW X Y (.List es pos) (qV d):=by
 obtain⟨t,p,a⟩:=h.h;exact⟨_,lS p,yi hn a⟩
end
theorem iN{n:Nat}(h:n<=1000000):n<=sizeLine:=Nr h (by decide)
section
variable {X:Cx} {Y:YK} {a b c e:Expr} {es:List Expr} {pos:Pos} {ea eb ec:DX} {K:aC} {J:KF}
@[reducible] def uR(x y:DV)(st:ax)(Q:DC):Prop:=match x,y with
 | .dat (.int i),.dat (.int j)=>Q (.dat (.int (i + j))) st
 | .dat (.str i),.dat (.str j)=>i.length + j.length<=1000000/\Q (.dat (.str (i++j))) st
 | .dat (.tuple i),.dat (.tuple j)=>i.length + j.length<=1000000/\Q (.dat (.tuple (i++j))) st
 | x,y=>match fj st x,fj st y with
  | some i,some j=>i.length + j.length<=1000000/\Q (.dat (.list (i++j))) st
  | _,_=>False
@[reducible] def uT(K:aC):R2:=λx y H Q=>xw (λi j=>.int (i + j)) x y H Q∨((∃i j,x=.str i/\y=.str j/\i.length + j.length<=sizeLine/\Q (.str (i++j)) H)∨(Aw K x y H Q∨As K x y H Q))
theorem yk:fq X (binaryOp .Add) (uT X.K):=iM oZ (iM pd (iM xZ qM))
theorem bL.len{α:Type}{R:V->α->Prop}{ys:List V}{xs:List α}(h:bL R ys xs):ys.length=xs.length:=h.1
theorem B3:AO J (uT J) uR:=λH0 A0 G al H st x y dx dy Q R I h1 h2 q k=>by
 have lists:(match fj st dx,fj st dy with
  | some i,some j=>i.length + j.length<=1000000/\Q (.dat (.list (i++j))) st
  | _,_=>False)->uT J x y H R:=λq=>by
  split at q
  ·rename_i i j e1 e2;obtain⟨a,ys,rfl,g1,g2⟩:=h1.DM I e1;obtain⟨b,zs,rfl,g3,g4⟩:=h2.DM I e2;exact .inr (.inr (.inr ⟨a,b,ys,zs,rfl,rfl,g1,g3,by rw[g2.len,g4.len];exact iN q.1,λp hp=>k.list I hp (g2.append g4) q.2⟩))
  ·exact q.elim
 unfold uR at q;split at q
 ·rw[az.aP h1,az.aP h2];exact .inl ⟨_,_,rfl,rfl,k.here I (.d (.int _)) q⟩
 ·rw[az.dE h1,az.dE h2];exact .inr (.inl ⟨_,_,rfl,rfl,iN q.1,k.here I (.d (.str _)) q.2⟩)
 ·obtain⟨a,ys,rfl,g1,_,g2⟩:=az.bT h1;obtain⟨b,zs,rfl,g3,_,g4⟩:=az.bT h2;refine .inr (.inr (.inl ⟨a,b,ys,zs,rfl,rfl,g1,g3,by rw[g2.len,g4.len];exact iN q.1,λp H' s hp=>k.laid I s (.d ?_) q.2⟩));have g:=(g2.append g4).imp λy x z=>z.same s
  exact bp.tup ((I.same s).ya hp) g.1 g.2
 ·exact lists q
theorem eT(ha:aW X Y a ea)(hb:aW X Y b eb):aW X Y (.BinOp a .Add b pos) (nz uR ea eb):=lC yk B3 ha hb
theorem mq(ha:aW X Y a ea)(hb:aW X Y b eb):aW X Y (.BinOp a .Sub b pos) (nz (DL λi j=>.int (i - j)) ea eb):=lC By (jb λ_ _ _=>.int _) ha hb
def MulOk(i j:Int):Prop:=xy i j∨qI i j
theorem ym:fq X (binaryOp .Mult) (rI MulOk λi j=>.int (i * j)):=DG λ_ _ _ _ _ _ _ hc q=>mul_int q (by rcases hc with h | h;exact h.ok;exact h.ok)
theorem uU(ha:aW X Y a ea)(hb:aW X Y b eb):aW X Y (.BinOp a .Mult b pos) (nz (oI MulOk λi j=>.int (i * j)) ea eb):=lC ym (yd λ_ _ _=>.int _) ha hb
def AD(j:Int):Prop:=0 < j/\j < 18446744073709551616
theorem uV:fq X (binaryOp .FloorDiv) (rI (λ_ j=>AD j) λi j=>.int (i / j)):=DG λi j _ _ _ _ _ hc q=>by
 have h1:(0:Int) < j:=hc.1;have h2:j < 18446744073709551616:=hc.2;exact floordiv_int (by omega) (by rw[Int.fdiv_eq_ediv_of_nonneg i (by omega)];exact q) (.inl (uH.ok (i:=i) ⟨by omega,by omega⟩))
theorem eU(ha:aW X Y a ea)(hb:aW X Y b eb):aW X Y (.BinOp a .FloorDiv b pos) (nz (oI (λ_ j=>AD j) λi j=>.int (i / j)) ea eb):=lC uV (yd λ_ _ _=>.int _) ha hb
theorem bg(ha:aW X Y a ea)(hb:aW X Y b eb):aW X Y (.BinOp a .Mod b pos) (nz (oI (λ_ j=>0 < j) λi j=>.int (i % j)) ea eb):=lC pb (yd λ_ _ _=>.int _) ha hb
theorem uW(ha:aW X Y a ea)(hb:aW X Y b eb):aW X Y (.BinOp a .Pow b pos) (nz (oI Ea λi j=>.int (i ^ j.toNat)) ea eb):=lC Bz (yd λ_ _ _=>.int _) ha hb
@[reducible] def B4(ea:DX)(env:aU)(st:ax)(Q:DC):Prop:=ea env st λx av=>match x with
 | .dat (.int i)=>Q (.dat (.int (-i))) av
 | _=>False
theorem pL(ha:aW X Y a ea):aW X Y (.UnaryOp .USub a pos) (B4 ea):=by
 obtain⟨ta,p1,a1⟩:=ha.h;refine⟨_,D7 BA p1,λH0 A0 G al H st s env Q R I E h k=>a1 H0 A0 G al H st s env _ _ I E h λx av aM v H1 e1 I1 d1 q1=>?_⟩;split at q1
 ·rw[az.aP d1];exact⟨_,rfl,(k.go I1 e1).here I1 (.d (.int _)) q1⟩
 ·exact q1.elim
@[reducible] def mr(n:Bool->Bool)(x y:DV)(st:ax)(Q:DC):Prop:=match x,y with
 | .dat (.int i),.dat (.int j)=>Q (.dat (.bool (n (decide (i=j))))) st
 | .dat (.str i),.dat (.str j)=>Q (.dat (.bool (n (decide (i=j))))) st
 | x,y=>match lD st x,lD st y with
  | some i,some j=>(PySem.SeqAt.shaped i=true/\PySem.SeqAt.shaped j=true)/\Q (.dat (.bool (n (PyData.eqv i j)))) st
  | _,_=>False
@[reducible] def Hg(K:aC):R2:=λx y H Q=>IX x y H Q∨BP K x y H Q
@[reducible] def Hh(K:aC):R2:=λx y H Q=>IY x y H Q∨Es K x y H Q
theorem EH{i j:Int}:decide (V.int i=V.int j)=decide (i=j):=decide_eq_decide.mpr ⟨V.int.inj,λh=>by rw[h]⟩
theorem EI{i j:Str}:decide (V.str i=V.str j)=decide (i=j):=decide_eq_decide.mpr ⟨V.str.inj,λh=>by rw[h]⟩
theorem AF:AO J (Hg J) (mr id):=λH0 A0 G al H st x y dx dy Q R I h1 h2 q k=>by
 unfold mr at q;split at q
 ·rw[az.aP h1,az.aP h2];exact .inl ⟨rfl,k.here I (.d (.bl _)) (by rw[EH];exact q)⟩
 ·rw[az.dE h1,az.dE h2];exact .inl ⟨rfl,k.here I (.d (.bl _)) (by rw[EI];exact q)⟩
 ·split at q
  ·rename_i i j e1 e2;exact .inr ⟨i,j,h1.Gn I e1,h2.Gn I e2,q.1.1,q.1.2,k.here I (.d (.bl _)) q.2⟩
  ·exact q.elim
theorem EJ:AO J (Hh J) (mr not):=λH0 A0 G al H st x y dx dy Q R I h1 h2 q k=>by
 unfold mr at q;split at q
 ·rw[az.aP h1,az.aP h2];exact .inl ⟨rfl,k.here I (.d (.bl _)) (by rw[EH];exact q)⟩
 ·rw[az.dE h1,az.dE h2];exact .inl ⟨rfl,k.here I (.d (.bl _)) (by rw[EI];exact q)⟩
 ·split at q
  ·rename_i i j e1 e2;exact .inr ⟨i,j,h1.Gn I e1,h2.Gn I e2,q.1.1,q.1.2,k.here I (.d (.bl _)) q.2⟩
  ·exact q.elim
theorem jT(hu:X.A.units + 64 < cLine)(ha:aW X Y a ea)(hb:aW X Y b eb):aW X Y (.Compare a [.Eq] [b] pos) (nz (mr id) ea eb):=BZ (iM qx (pD hu)) AF ha hb (eO _)
@[reducible] def qW:DV->Bool
 | .dat .none=>true
 | _=>false
@[reducible] def uX(n:Bool->Bool)(x y:DV)(st:ax)(Q:DC):Prop:=match y with
 | .dat .none=>Q (.dat (.bool (n (qW x)))) st
 | _=>False
theorem uY{H:Hp}{P:Addr->Prop}{al:List (List Addr)}{v:V}{x:DV}(h:fR K P H al v x):decide (v=.non)=qW x:=by
 cases x with
 | ref k=>obtain⟨a,r,_,rfl⟩:=h;rfl
 | dat d =>
  cases d with
  | none=>rw[az.pJ h];rfl
  | bool b=>rw[az.jR h];rfl
  | int i=>rw[az.aP h];rfl
  | str i=>rw[az.dE h];rfl
  | list ds=>obtain⟨a,ys,rfl,_⟩:=az.cC h;rfl
  | tuple ds=>obtain⟨a,ys,rfl,_⟩:=az.bT h;rfl
  | dict kv=>have h:bp K (cutH P H) v (.dict kv):=h;cases h
end
section
variable {X:Cx} {Y:YK} {a b c e:Expr} {es:List Expr} {pos:Pos} {ea eb ec:DX} {K:aC} {J:KF}
theorem bL.i9{α:Type}{R:V->α->Prop}{ys:List V}{xs:List α}(h:bL R ys xs){i:Int}{x:α}(hx:i9 xs i=some x):∃y,L2.i9 ys i=some y/\R y x:=by
 unfold L2.i9 at hx ⊢;rw[h.1]
 cases q:Ao xs.length i with
 | none=>rw[q]at hx;cases hx
 | some j =>
  rw[q]at hx;exact h.at hx
@[reducible] def jc(st:ax):DV->Option (List PyData)
 | .dat (.tuple ds)=>some ds
 | x=>fj st x
theorem fR.Gp{H0:Hp}{A0:Addr->Prop}{G:Addr->Prop}{al:List (List Addr)}{H:Hp}{st:ax}(I:DI J H0 A0 G al H st){v:V}{x:DV}{ds:List PyData}(h:fR J (Fb G al st) H al v x)(e:jc st x=some ds):∃(a:Addr) (ys:List V),v=.ref a/\(cy J H a ys∨dY J H a ys)/\bL (az J (Fb G al st) H) ys ds:=by
 unfold jc at e;split at e
 ·cases e;obtain⟨a,ys,h1,h2,_,h3⟩:=az.bT h;exact⟨a,ys,h1,.inr h2,h3⟩
 ·obtain⟨a,ys,h1,h2,h3⟩:=h.DM I e;exact⟨a,ys,h1,.inl h2,h3⟩
@[reducible] def EK(x y:DV)(st:ax)(Q:DC):Prop:=match x,y with
 | .dat (.str z),.dat (.int i)=>z.length<=1000000/\∃c,L2.i9 z.cps.toList i=some c/\Q (.dat (.str ⟨#[c]⟩)) st
 | x,.dat (.int i)=>match jc st x with
  | some ds=>∃d,L2.i9 ds i=some d/\Q (.dat d) st
  | none=>False
 | _,_=>False
theorem EL:AO J (I0 J) EK:=λH0 A0 G al H st x y dx dy Q R I h1 h2 q k=>by
 unfold EK at q;split at q
 ·obtain⟨q1,c,q2,q3⟩:=q;rw[az.dE h1,az.aP h2];exact .inr (.inr ⟨_,_,c,rfl,rfl,iN q1,q2,k.here I (.d (.str _)) q3⟩)
 ·split at q
  ·rename_i ds e;obtain⟨d,q1,q2⟩:=q;rw[az.aP h2];obtain⟨a,ys,rfl,g1,g2⟩:=h1.Gp I e;obtain⟨z,g3,g4⟩:=g2.i9 q1;rcases g1 with g1 | g1
   ·exact .inl ⟨a,ys,_,z,rfl,rfl,g1,g3,k.here I (.d g4) q2⟩
   ·exact .inr (.inl ⟨a,ys,_,z,rfl,rfl,g1,g3,k.here I (.d g4) q2⟩)
  ·exact q.elim
 ·exact q.elim
theorem fD(ha:aW X Y a ea)(hb:aW X Y b eb)(hs:lV b):aW X Y (.Subscript a b pos) (nz EK ea eb):=by
 obtain⟨ta,p1,a1⟩:=ha.h;obtain⟨tb,p2,a2⟩:=hb.h;exact⟨_,eK uo p1 p2 hs,qT EL a1 a2⟩
abbrev DO:=aU->ax->(Option Int->ax->Prop)->Prop
@[reducible] def uZ(_:aU)(st:ax)(Q:Option Int->ax->Prop):Prop:=Q none st
@[reducible] def va(e:DX)(env:aU)(st:ax)(Q:Option Int->ax->Prop):Prop:=e env st λx av=>match x with
 | .dat (.int i)=>Q (some i) av
 | _=>False
structure Gq(X:Cx)(Y:YK)(e:Option Expr)(d:DO):Prop where
 h:∃t,PO X e t/\∀(H0:Hp) (A0:Addr->Prop) (G:Addr->Prop) (al:List (List Addr)) (H:Hp) (st:ax) (s:St) (env:aU) (Q:Option Int->ax->Prop) (R:Option Int->Hp->Prop),DI (kf X Y) H0 A0 G al H st->gw X.K (Fb G al st) H al s env->d env st Q ->
  (∀i st' al' H',Ext al H st al' H' st'->DI (kf X Y) H0 A0 G al' H' st'->Q i st'->R i H')->t s H R
theorem qX:Gq X Y none uZ:=⟨_,qE,λH0 A0 G al H st s env Q R I E q k=>k none st al H .refl I q⟩
theorem qY(ha:aW X Y a ea):Gq X Y (some a) (va ea):=by
 obtain⟨ta,p1,a1⟩:=ha.h;refine⟨_,qF p1,λH0 A0 G al H st s env Q R I E q k=>a1 H0 A0 G al H st s env _ _ I E q λx av aM v H1 e1 I1 d1 q1=>?_⟩;split at q1
 ·rw[az.aP d1];exact⟨_,rfl,k _ _ _ _ e1 I1 q1⟩
 ·exact q1.elim
def cutD(xs:List PyData)(lo hi:Option Int):List PyData:=(xs.drop (HT.bS xs.length 0 lo)).take (HT.bS xs.length xs.length hi - HT.bS xs.length 0 lo)
theorem bL.cut{P:Addr->Prop}{H:Hp}{ys:List V}{ds:List PyData}(h:bL (az K P H) ys ds)(lo hi:Option Int):bL (az K P H) (g9 ys lo hi) (cutD ds lo hi):=by
 unfold g9 cutD;rw[h.1];exact(h.drop _).take _
@[reducible] def Hi(ea:DX)(lo hi:DO)(env:aU)(st:ax)(Q:DC):Prop:=ea env st λx av=>lo env av λl bo=>hi env bo λu gf=>match x with
 | .dat (.str z)=>z.length<=1000000/\Q (.dat (.str (Txt.slice z l u))) gf
 | .dat (.tuple ds)=>Q (.dat (.tuple (cutD ds l u))) gf
 | x=>match fj gf x with
  | some ds=>Q (.dat (.list (cutD ds l u))) gf
  | none=>False
theorem vb{r r':V->Option Int->Option Int->Hp->VK->Prop}(h:w4 X r)(h':w4 X r'):w4 X (λx l u H Q=>r x l u H Q∨r' x l u H Q):=by
 unfold w4 at h h' ⊢
 intros
 rename_i q;rcases q with q | q
 ·apply h<;>assumption
 ·apply h'<;>assumption
theorem Hj:w4 X (λx l u H Q=>Ax x l u H Q∨(ED X.K x l u H Q∨El X.K x l u H Q)):=vb x3 (vb xY qG)
theorem AH{lo hi:Option Expr}{l u:DO}{p2:Pos}(ha:aW X Y a ea)(hl:Gq X Y lo l)(hh:Gq X Y hi u):aW X Y (.Subscript a (.Slice lo hi none p2) pos) (Hi ea l u):=by
 obtain⟨ta,p1,a1⟩:=ha.h;obtain⟨tl,p2,a2⟩:=hl.h;obtain⟨th,p3,a3⟩:=hh.h;refine⟨_,nF Hj p1 p2 p3,λH0 A0 G al H st s env Q R I E q k=>a1 H0 A0 G al H st s env _ _ I E q λx av aM v H1 e1 I1 d1 q1=>?_⟩;refine a2 H0 A0 G aM H1 av s env _ _ I1 (E.ext e1) q1 λi bo df H2 e2 I2 q2=>?_
 have oS:=e1.trans I1 e2;refine a3 H0 A0 G df H2 bo s env _ _ I2 (E.ext oS) q2 λj gf EM H3 e3 I3 q3=>?_
 have k3:=k.go I3 (oS.trans I2 e3);have d3:=(d1.ext e2).ext e3;split at q3
 ·rw[az.dE d3];exact .inl ⟨_,rfl,iN q3.1,k3.here I3 (.d (.str _)) q3.2⟩
 ·obtain⟨b,ys,rfl,g1,_,g2⟩:=az.bT d3;refine .inr (.inl ⟨b,ys,rfl,g1,λp H' s hp=>k3.laid I3 s (.d ?_) q3⟩);have g:=(g2.cut i j).imp λy x z=>z.same s
  exact bp.tup ((I3.same s).ya hp) g.1 g.2
 ·split at q3
  ·rename_i ds e;obtain⟨b,ys,rfl,g1,g2⟩:=d3.DM I3 e;exact .inr (.inr ⟨b,ys,rfl,g1,λp hp=>k3.list I3 hp (g2.cut i j) q3⟩)
  ·exact q3.elim
@[reducible] def w8(ea:DX)(env:aU)(st:ax)(Q:Bool->ax->Prop):Prop:=ea env st λx av=>match x with
 | .dat (.bool b)=>Q b av
 | _=>False
@[reducible] def qZ(t u:DT)(env:aU)(st:ax)(Q:Bool->ax->Prop):Prop:=t env st λb av=>if b=true then u env av Q else Q false av
@[reducible] def yn(t u:DT)(env:aU)(st:ax)(Q:Bool->ax->Prop):Prop:=t env st λb av=>if b=true then Q true av else u env av Q
@[reducible] def vc(t:DT)(env:aU)(st:ax)(Q:Bool->ax->Prop):Prop:=t env st λb av=>Q (!b) av
theorem pM{t:TE}{e:DX}(h:AE J t e):AT J (ud t) (w8 e):=λH0 A0 G al H st s env Q R I E q k=>h H0 A0 G al H st s env _ _ I E q λx av aM v H1 e1 I1 d1 q1=>by
 split at q1
 ·rw[az.jR d1];exact⟨_,rfl,k _ _ _ _ e1 I1 q1⟩
 ·exact q1.elim
theorem mv{op:CmpOp}{r:R2}{o:yb}(ho:fq X (compareOp op) r)(ao:AO (kf X Y) r o)(ha:aW X Y a ea)(hb:aW X Y b eb)(hm:behindInMarks op b=false):ny X Y (.Compare a [op] [b] pos) (w8 (nz o ea eb)):=by
 obtain⟨ta,p1,a1⟩:=ha.h;obtain⟨tb,p2,a2⟩:=hb.h;exact⟨_,tR ho p1 p2 hm,pM (qT ao a1 a2)⟩
theorem EN(ha:aW X Y a ea)(hb:aW X Y b eb):ny X Y (.Compare a [.Gt] [b] pos) (w8 (nz (DL λi j=>.bool (decide (j < i))) ea eb)):=mv Ed (jb λ_ _ _=>.bl _) ha hb (eO _)
theorem h7(hu:X.A.units + 64 < cLine)(ha:aW X Y a ea)(hb:aW X Y b eb):ny X Y (.Compare a [.Eq] [b] pos) (w8 (nz (mr id) ea eb)):=mv (iM qx (pD hu)) AF ha hb (eO _)
theorem ia(hu:X.A.units + 64 < cLine)(ha:aW X Y a ea)(hb:aW X Y b eb):ny X Y (.Compare a [.NotEq] [b] pos) (w8 (nz (mr not) ea eb)):=mv (iM Ec (BQ hu)) EJ ha hb (eO _)
theorem B5:AO J (λx y H Q=>y=.non/\Q (.bl (decide (x=.non))) H) (uX id):=λH0 A0 G al H st x y dx dy Q R I h1 h2 q k=>by
 unfold uX at q;split at q
 ·exact⟨az.pJ h2,k.here I (.d (.bl _)) (by rw[uY h1];exact q)⟩
 ·exact q.elim
theorem vd(ha:aW X Y a ea)(hb:aW X Y b eb):ny X Y (.Compare a [.Is] [b] pos) (w8 (nz (uX id) ea eb)):=mv BB B5 ha hb (eO _)
theorem eV(ha:aW X Y a ea)(he:∀whole,isTrue a X.env whole=(do let v ← whole;standAt a.pos;holding [v] (truthy v)):=by intro _;rfl):ny X Y a (w8 ea):=by
 obtain⟨ta,p1,a1⟩:=ha.h;exact⟨_,Bl p1 he,pM a1⟩
variable {rest:List Expr} {ta tb:DT}
theorem eW(ha:ny X Y a ta):ny X Y (.UnaryOp .Not a pos) (vc ta):=by
 obtain⟨t,p1,a1⟩:=ha.h;exact⟨_,Bm p1,λH0 A0 G al H st s env Q R I E q k=>a1 H0 A0 G al H st s env _ _ I E q λb av aM H1 e1 I1 q1=>k _ _ _ _ e1 I1 q1⟩
theorem ra(ha:ny X Y a ta):oR X Y (.BoolOp .And [a] pos) ta:=by
 obtain⟨t,p1,a1⟩:=ha.h;exact⟨_,pw_and1 p1,a1⟩
theorem iO(ha:ny X Y a ta):oR X Y (.BoolOp .Or [a] pos) ta:=by
 obtain⟨t,p1,a1⟩:=ha.h;exact⟨_,pw_or1 p1,a1⟩
theorem B6{t u:TT}(h1:AT J t ta)(h2:AT J u tb):AT J (DY t u) (qZ ta tb):=λH0 A0 G al H st s env Q R I E q k=>h1 H0 A0 G al H st s env _ _ I E q λb av aM H1 e1 I1 q1=>by
 cases b with
 | true=>exact cz (h2 H0 A0 G aM H1 av s env _ _ I1 (E.ext e1) (by rw[Nv rfl]at q1;exact q1) (k.go I1 e1))
 | false=>exact bI (k _ _ _ _ e1 I1 (by rw[Nu Nd]at q1;exact q1))
theorem EO{t u:TT}(h1:AT J t ta)(h2:AT J u tb):AT J (IU t u) (yn ta tb):=λH0 A0 G al H st s env Q R I E q k=>h1 H0 A0 G al H st s env _ _ I E q λb av aM H1 e1 I1 q1=>by
 cases b with
 | false=>exact bI (h2 H0 A0 G aM H1 av s env _ _ I1 (E.ext e1) (by rw[Nu Nd]at q1;exact q1) (k.go I1 e1))
 | true=>exact cz (k _ _ _ _ e1 I1 (by rw[Nv rfl]at q1;exact q1))
theorem ve(ha:ny X Y a ta)(hb:oR X Y (.BoolOp .And (b::rest) pos) tb):oR X Y (.BoolOp .And (a::b::rest) pos) (qZ ta tb):=by
 obtain⟨t,p1,a1⟩:=ha.h;obtain⟨u,p2,a2⟩:=hb.h;exact⟨_,pw_and p1 p2,B6 a1 a2⟩
theorem jd(ha:ny X Y a ta)(hb:oR X Y (.BoolOp .Or (b::rest) pos) tb):oR X Y (.BoolOp .Or (a::b::rest) pos) (yn ta tb):=by
 obtain⟨t,p1,a1⟩:=ha.h;obtain⟨u,p2,a2⟩:=hb.h;exact⟨_,pw_or p1 p2,EO a1 a2⟩
theorem oR.dt(h:oR X Y a ta):ny X Y a ta:=by
 obtain⟨t,p1,a1⟩:=h.h;exact⟨_,p1.pt,a1⟩
@[reducible] def vf(ea eb:DX)(env:aU)(st:ax)(Q:DC):Prop:=ea env st λx av=>match x with
 | .dat (.bool b)=>if b=true then eb env av Q else Q (.dat (.bool false)) av
 | _=>False
@[reducible] def vg(ea:DX)(env:aU)(st:ax)(Q:DC):Prop:=ea env st λx av=>match x with
 | .dat (.bool b)=>Q (.dat (.bool (!b))) av
 | _=>False
theorem mw{op}(h:aW X Y a ea):aW X Y (.BoolOp op [a] pos) ea:=by
 obtain⟨t,p1,a1⟩:=h.h;exact⟨_,Bo p1,a1⟩
theorem eX(ha:aW X Y a ea)(hb:aW X Y (.BoolOp .And (b::rest) pos) eb):aW X Y (.BoolOp .And (a::b::rest) pos) (vf ea eb):=by
 obtain⟨t,p1,a1⟩:=ha.h;obtain⟨u,p2,a2⟩:=hb.h;refine⟨_,Bp p1 p2,λH0 A0 G al H st s env Q R I E q k=>a1 H0 A0 G al H st s env _ _ I E q λx av aM v H1 e1 I1 d1 q1=>?_⟩;split at q1
 ·rename_i b;rw[az.jR d1];refine⟨_,rfl,?_⟩
  cases b with
  | true=>exact cz (a2 H0 A0 G aM H1 av s env _ _ I1 (E.ext e1) (by rw[Nv rfl]at q1;exact q1) (k.go I1 e1))
  | false=>exact bI ((k.go I1 e1).here I1 (.d (.bl _)) (by rw[Nu Nd]at q1;exact q1))
 ·exact q1.elim
theorem mx(ha:aW X Y a ea):aW X Y (.UnaryOp .Not a pos) (vg ea):=by
 obtain⟨t,p1,a1⟩:=ha.h;refine⟨_,Bq p1,λH0 A0 G al H st s env Q R I E q k=>a1 H0 A0 G al H st s env _ _ I E q λx av aM v H1 e1 I1 d1 q1=>?_⟩;split at q1
 ·rw[az.jR d1];exact⟨_,rfl,(k.go I1 e1).here I1 (.d (.bl _)) q1⟩
 ·exact q1.elim
end
theorem sA{α:Type}{R:V->α->Prop}{vs:List V}{x:α}(h:bL R vs [x]):∃v,vs=[v]/\R v x:=by
 have:=h.1
 match vs,this,h with
 | [v],_,h=>exact⟨v,rfl,h.2 0 v x rfl rfl⟩
theorem vh{α:Type}{R:V->α->Prop}{vs:List V}{x y:α}(h:bL R vs [x,y]):∃v u,vs=[v,u]/\R v x/\R u y:=by
 have:=h.1
 match vs,this,h with
 | [v,u],_,h=>exact⟨v,u,rfl,h.2 0 v x rfl rfl,h.2 1 u y rfl rfl⟩
section
variable {X:Cx} {Y:YK} {a b c e:Expr} {es:List Expr} {pos p:Pos} {ea eb ec:DX} {K:aC} {J:KF} {x:Str} {id:String} {n:Nat} {d:hZ} {r r':List V->Hp->VK->Prop} {o:Hf}
@[reducible] def vi(o:Hf)(d:hZ)(env:aU)(st:ax)(Q:DC):Prop:=d env st λxs av=>o xs av Q
theorem AJ{t:TA}(ho:AB J r o)(h:AA J t n d):AE J (GP r t) (vi o d):=λH0 A0 G al H st s env Q R I E q k=>h H0 A0 G al H st s env _ _ I E q λxs av aM vs H1 e1 I1 d1 q1=>ho H0 A0 G aM H1 av vs xs Q R I1 d1 q1.2 (k.go I1 e1)
theorem jU(hc:c9 X (.builtin id) r)(ho:AB (kf X Y) r o)(hg:Gl X x)(hm:X.mg x=none)(hv:bootBuiltins x=some (.builtin id))(ha:mm X Y (e::es) n d)(hn:x≠"__name__":=by decide)(hdb:(x == ("__debug__" : Str))=false:=by decide)
  (he:starEach (e::es) X.env=(false,eval e X.env)::starEach es X.env:=by rfl) (hpl:(backTo pos (starEach es X.env)).any (·.1)=false:=by rfl):aW X Y (.Call (.Name x p) (e::es) [] pos) (vi o d):=by
 obtain⟨t,p1,a1⟩:=ha.h;exact⟨_,eI hc hg hm hv p1 hn hdb he hpl,AJ ho a1⟩
theorem sC{T:String}(hc:c9 X (.type T) r)(ho:AB (kf X Y) r o)(hg:Gl X x)(hm:X.mg x=none)(hv:bootBuiltins x=some (.type T))(ha:mm X Y (e::es) n d)(hn:x≠"__name__":=by decide)(hdb:(x == ("__debug__" : Str))=false:=by decide)
  (he:starEach (e::es) X.env=(false,eval e X.env)::starEach es X.env:=by rfl) (hpl:(backTo pos (starEach es X.env)).any (·.1)=false:=by rfl):aW X Y (.Call (.Name x p) (e::es) [] pos) (vi o d):=by
 obtain⟨t,p1,a1⟩:=ha.h;exact⟨_,rX hc hg hm hv p1 hn hdb he hpl,AJ ho a1⟩
theorem AK{f:Value}(h:c9 X f r)(h':c9 X f r'):c9 X f (λxs H Q=>r xs H Q∨r' xs H Q):=λpins s σ H xs us Q I rv q=>by
 rcases q with q | q
 ·exact h pins s σ H xs us Q I rv q
 ·exact h' pins s σ H xs us Q I rv q
@[reducible] def vj(xs:List DV)(st:ax)(Q:DC):Prop:=match xs with
 | [.dat (.str z)]=>z.length<=1000000/\Q (.dat (.int z.length)) st
 | [x]=>match jc st x with
  | some ds=>Q (.dat (.int ds.length)) st
  | none=>False
 | _=>False
theorem B7:AB J (λxs H Q=>(∃p ys,xs=[.ref p]/\(cy J H p ys∨dY J H p ys)/\Q (.int ys.length) H)∨∃z,xs=[.str z]/\z.length<=sizeLine/\Q (.int z.length) H) vj:=λH0 A0 G al H st vs ds Q R I h q k=>by
 unfold vj at q;split at q
 ·obtain⟨v,rfl,h1⟩:=sA h;rw[az.dE h1];exact .inr ⟨_,rfl,iN q.1,k.here I (.d (.int _)) q.2⟩
 ·split at q
  ·rename_i ds e;obtain⟨v,rfl,h1⟩:=sA h;obtain⟨p,ys,rfl,g1,g2⟩:=h1.Gp I e;exact .inl ⟨p,ys,rfl,g1,k.here I (.d (.int _)) (by rw[g2.len];exact q)⟩
  ·exact q.elim
 ·exact q.elim
theorem et(hg:Gl X "len")(hm:X.mg "len"=none)(ha:mm X Y [e] n d)(he:starEach [e] X.env=(false,eval e X.env)::starEach [] X.env:=by rfl):aW X Y (.Call (.Name "len" p) [e] [] pos) (vi vj d):=jU (AK hJ lZ) B7 hg hm ur ha (by decide) (by decide) he rfl
@[reducible] def nU(xs:List DV)(st:ax)(Q:DC):Prop:=match xs with
 | [x]=>match jc st x with
  | some ds=>Q (.dat (.list ds)) st
  | none=>False
 | _=>False
theorem yo:AB J (λxs H Q=>∃p ys,xs=[.ref p]/\(cy J H p ys∨dY J H p ys)/\∀l,H l=none->Q (.ref l) (upd H l (.lst ys))) nU:=λH0 A0 G al H st vs ds Q R I h q k=>by
 unfold nU at q;split at q
 ·split at q
  ·rename_i ds e;obtain⟨v,rfl,h1⟩:=sA h;obtain⟨p,ys,rfl,g1,g2⟩:=h1.Gp I e;exact⟨p,ys,rfl,g1,λl hl=>k.list I hl g2 q⟩
  ·exact q.elim
 ·exact q.elim
theorem rb(hg:Gl X "list")(hm:X.mg "list"=none)(ha:mm X Y [e] n d)(he:starEach [e] X.env=(false,eval e X.env)::starEach [] X.env:=by rfl):aW X Y (.Call (.Name "list" p) [e] [] pos) (vi nU d):=sC ma yo hg hm qH ha (by decide) (by decide) he rfl
@[reducible] def vk(xs:List DV)(st:ax)(Q:DC):Prop:=match xs with
 | [.dat (.int i),.dat (.int j)]=>Q (.dat (.int (if j > i then j else i))) st
 | [x]=>match fj st x with
  | some ds=>∃ns:List Int,ds=ns.map PyData.int/\0 < ns.length/\∀m,m∈ns->(∀a∈ns,a<=m)->Q (.dat (.int m)) st
  | none=>False
 | _=>False
theorem ju{P:Addr->Prop}{H:Hp}:∀{ys:List V} {ns:List Int},bL (az K P H) ys (ns.map PyData.int)->ys=ns.map V.int
 | [],[],_=>rfl
 | [],_::_,h=>by have:=h.1;simp at this
 | _::_,[],h=>by have:=h.1;simp at this
 | y::ys,i::ns,h=>by
  have h0:=az.aP (h.2 0 y (.int i) rfl rfl);have ht:=ju (ys:=ys) (ns:=ns) ⟨by simpa using h.1,λj p q a b=>h.2 (j + 1) p q (by simpa using a) (by simpa using b)⟩;rw[h0,ht];rfl
theorem B8:AB J (λxs H Q=>(∃i j,xs=[.int i,.int j]/\Q (.int (if j > i then j else i)) H)∨Au J xs H Q) vk:=λH0 A0 G al H st vs ds Q R I h q k=>by
 unfold vk at q;split at q
 ·obtain⟨v,u,rfl,h1,h2⟩:=vh h;rw[az.aP h1,az.aP h2];exact .inl ⟨_,_,rfl,k.here I (.d (.int _)) q⟩
 ·split at q
  ·rename_i ds e;obtain⟨ns,rfl,q1,q2⟩:=q;obtain⟨v,rfl,h1⟩:=sA h;obtain⟨p,ys,rfl,g1,g2⟩:=h1.DM I e;rw[ju g2]at g1;exact .inr ⟨p,ns,rfl,g1,q1,λm hm ha=>k.here I (.d (.int _)) (q2 m hm ha)⟩
  ·exact q.elim
 ·exact q.elim
theorem B9(hc:X.calm=true)(hg:Gl X "max")(hm:X.mg "max"=none)(ha:mm X Y (e::es) n d)(he:starEach (e::es) X.env=(false,eval e X.env)::starEach es X.env:=by rfl)(hpl:(backTo pos (starEach es X.env)).any (·.1)=false:=by rfl):aW X Y (.Call (.Name "max" p) (e::es) [] pos) (vi vk d):=jU (AK (rR hc) (sf hc)) B8 hg hm BL ha (by decide) (by decide) he hpl
abbrev nV:=List PyData->(PyData->Prop)->Prop
def yp(K:aC)(T:nV):Sp:=λvs H Q _=>∃(P:Addr->Prop) (ds:List PyData),(∀c,P c->∃o,H c=some o/\gr o)/\bL (az K P H) vs ds/\T ds λd=>∀v H',aH H H'->az K P H' v d->Q v H'
def tQ(K:aC)(sp:Sp)(T:nV):Prop:=∀(vs:List V) (H:Hp) (Q:VK) (P:Addr->Prop) (ds:List PyData),(∀c,P c->∃o,H c=some o/\gr o)->bL (az K P H) vs ds->T ds (λd=>∀v H',aH H H'->az K P H' v d->Q v H')->sp vs H Q E0
theorem jV{T:nV}:tQ K (yp K T) T:=λvs H Q P ds h1 h2 h3=>⟨P,ds,h1,h2,h3⟩
def jW(T:nV):Prop:=∀ds (Q Q':PyData->Prop),(∀d,Q d->Q' d)->T ds Q->T ds Q'
@[reducible] def rf(T:nV)(xs:List DV)(st:ax)(Q:DC):Prop:=cb xs st λds av=>T ds λd=>Q (.dat d) av
theorem pO{H:Hp}{v:V}{d:PyData}(h:bp K H v d):az K (λ_=>False) H v d:=bp.same (λc o e=>bw.mpr ⟨λz=>z,e⟩) h
theorem yq{sp:Sp}{T:nV}(h:tQ J sp T)(m:jW T):AB J (λvs H Q=>sp (vs++[]) H Q E0) (rf T):=λH0 A0 G al H st vs ds Q R I hp q k=>by
 obtain⟨es,av,E1,I1,F1,q1⟩:=eS I hp q;rw[N5];refine h vs H R (Fb G al av) es (λc hc=>I1.kH hc) F1 (m _ _ _ (λd hd v H' s r=>?_) q1);exact(k.go I1 E1).laid I1 s (.d r) hd
theorem yr{sp:Sp}{t:TA}(h:AB J (λvs H Q=>sp (vs++[]) H Q E0) o)(ha:AA J t n d):AE J (qA sp [] E0 t) (vi o d):=λH0 A0 G al H st s env Q R I E q k=>ha H0 A0 G al H st s env _ _ I E q λxs av aM vs H1 e1 I1 d1 q1=>h H0 A0 G aM H1 av vs xs Q R I1 d1 q1.2 (k.go I1 e1)
theorem br{kk:Nat}{ps:List Str}{sp:Sp}{T:nV}(h:gW X.prog X.w X.K X.mg X.base cf x kk ps sp)(hs:tQ X.K sp T)(m:jW T)(hr:bR kk X.A)(hg:Gl X x)(ha:mm X Y (e::es) n d)(hdb:(x == ("__debug__" : Str))=false:=by decide)
  (he:starEach (e::es) X.env=(false,eval e X.env)::starEach es X.env:=by rfl) (hpl:(backTo pos (starEach es X.env)).any (·.1)=false:=by rfl):aW X Y (.Call (.Name x p) (e::es) [] pos) (vi (rf T) d):=by
 obtain⟨t,p1,a1⟩:=ha.h;exact⟨_,Ap h hr hg p1 hdb he hpl,yr (yq hs m) a1⟩
end
abbrev kI:=aU->ax->(List PyData->(ax->Prop)->ax->Prop)->Prop
def Jl(J:KF)(H0:Hp)(A0:Addr->Prop)(G:Addr->Prop)(al:List (List Addr))(H:Hp)(st:ax)(Jj:It)(xs:List PyData)(ok:ax->Prop):Prop:=∀(G1:Addr->Prop) (aM:List (List Addr)) (H1:Hp) (av:ax) (i:Nat),(∀c,G1 c->G c∨H c=none)->Ext al H st aM H1 av->DI J H0 A0 G1 aM H1 av->ok av ->
 (∀d,xs[i]?=some d->Jj.go i H1/\∀x H2,Jj.yld i H1 x H2->aH H1 H2/\az J (Fb G1 aM av) H2 x d)/\(xs.length<=i->i<=xs.length->Jj.stop i H1)
def AI(J:KF)(wi:TI)(di:kI):Prop:=∀(H0:Hp) (A0:Addr->Prop) (G:Addr->Prop) (al:List (List Addr)) (H:Hp) (st:ax) (s:St) (env:aU) (Q:List PyData->(ax->Prop)->ax->Prop) (R:It->Hp->Prop),DI J H0 A0 G al H st->gw J (Fb G al st) H al s env->di env st Q ->
 (∀Jj xs ok st' al' H',Ext al H st al' H' st'->DI J H0 A0 G al' H' st'->Jl J H0 A0 G al' H' st' Jj xs ok->Q xs ok st'->R Jj H')->wi s H R
structure Ca(X:Cx)(Y:YK)(tg iter:Expr)(d:kI):Prop where
 h:∃wi,PI X tg iter wi/\AI (kf X Y) wi d
def Jm(K:aC)(tl:TE):TI:=λσ H R=>tl σ H λx H1=>∃a,x=.ref a/\(((∃xs,cy K H1 a xs)/\R (Aj K a) H1)∨((∃xs,dY K H1 a xs)/\R (GI K a) H1))
theorem ER{X:Cx}{tg l:Expr}{tl:TE}(hl:PE X l tl):PI X tg l (Jm X.K tl):=by
 intro pins s σ H R I h;refine bA (hl pins s σ H _ I h) λv s1 ⟨x,H1,I1,r1,q1⟩=>?_
 obtain⟨a,e,q⟩:=q1;subst e;cases r1
 have fin:∀b∈[s1.heap.objs.size],gY X pins H1 b:=λb hb=>by
  have e:b=s1.heap.objs.size:=by simpa using hb
  subst e;exact I1.xv (Nf _) (I1.hok.fresh (Nf _))
 rcases q with⟨⟨xs,hq⟩,q⟩ | ⟨⟨xs,hq⟩,q⟩
 ·obtain⟨its,rv,p,hz⟩:=I1.list hq;refine Ou p.isList ?_;exact⟨s1.heap.objs.size,[s1.heap.objs.size],_,_,H1,rfl,I1.kept (t':=s1.toks) λb o e=>M4 _ e,kY a _,⟨_,Ng _ rfl,rfl,rfl⟩,fin,q⟩
 ·obtain⟨its,rv,p,hz⟩:=I1.tuple hq;refine wpAny_pyIter_tuple (show s1.heap.IsTuple a its.toArray from p) ?_;exact⟨s1.heap.objs.size,[s1.heap.objs.size],_,_,H1,rfl,I1.kept (t':=s1.toks) λb o e=>M4 _ e,oV a _,⟨_,Ng _ rfl,rfl,rfl⟩,fin,q⟩
def ES(K:aC)(ta:TA):TI:=λσ H R=>ta σ H λvs H1=>∃q1 q2 l1 l2 xs ys,vs=[.ref l1,.ref l2]/\lr q1 K H1 l1 xs/\lr q2 K H1 l2 ys/\R (Jg q1 q2 K l1 l2 xs ys) H1
theorem yt{X:Cx}{elts:List Expr}{kx}{tpos:Pos}{a b:Expr}{ta:TA}{p pos:Pos}(hg:Gl X "zip")(hm:X.mg "zip"=none)(ha:PA X [a,b] ta)(hs:starEach [a,b] X.env=[(false,eval a X.env),(false,eval b X.env)]:=by rfl)(tO:starEach [b] X.env=[(false,eval b X.env)]:=by rfl):
  PI X (.Tuple elts kx tpos) (.Call (.Name "zip" p) [a,b] [] pos) (ES X.K ta):=by
 intro pins s σ H R I h;refine Call_ (gp I hg hm uu (NB (bA (ha pos pins s σ H _ I h) λus s1 ⟨vs,H1,I1,r1,q1⟩=>?_) (by rw[hs,tO]) (by rw[tO];rfl)));obtain⟨w1,w2,l1,l2,xs,ys,rfl,s1',s2',q⟩:=q1;obtain⟨u1,u2,rfl,Hk,Hl⟩:=vals2 r1;cases Hk;cases Hl;obtain⟨Jn,r1,p1⟩:=s1'.heap I1;obtain⟨AL,r2,p2⟩:=s2'.heap I1;have n1:=p1.lt;have n2:=p2.lt;refine si p1 p2 λh' hz hTI hTO h1 h2 kk=>?_
 refine wpAny_pyIter_zip hz ?_;refine⟨s1.heap.objs.size + 4,[s1.heap.objs.size + 4,s1.heap.objs.size + 2,s1.heap.objs.size + 3,s1.heap.objs.size,s1.heap.objs.size + 1],_,_,H1,rfl,I1.kept (t':=s1.toks) kk,uC xs ys ⟨?_,?_,?_,?_,?_,?_,?_,?_,?_,?_,?_,?_,?_,?_,?_,?_,?_,?_⟩,⟨hz,hTI,⟨_,_,hTO⟩,h1,h2⟩,?_,q⟩
 all_goals first | exact Na (N2 (by decide) _) | exact Nw (N2 (by decide) _) | exact Na (NT (by decide)) | exact Nw (NT (by decide)) | exact Na (M6 n1 (NF _ _)) | exact Na (M6 n2 (NF _ _)) | exact Na n1 | exact Na n2 | skip
 intro c hb
 have hb':s1.heap.objs.size<=c:=by
  simp at hb;rcases hb with e | e | e | e | e<;>(rw[e];first | exact Nat.le_refl _ | exact Nat.le_add_right _ _)
 exact I1.xv hb' (I1.hok.fresh hb')
section
variable {X:Cx} {Y:YK} {tg a b c e:Expr} {es:List Expr} {pos p:Pos} {ea eb ec:DX} {K:aC} {J:KF} {n:Nat} {d:hZ}
theorem az.seq{P:Addr->Prop}{H:Hp}{v:V}{d:PyData}{ds:List PyData}(h:az K P H v d)(e:d=.list ds∨d=.tuple ds):∃q a ys,v=.ref a/\lr q K (cutH P H) a ys/\lr q K H a ys/\bL (az K P H) ys ds:=by
 rcases e with rfl | rfl
 ·obtain⟨a,ys,h1,h2,h3,h4⟩:=az.cC h;exact⟨true,a,ys,h1,h3,h2,h4⟩
 ·obtain⟨a,ys,h1,h2,h3,h4⟩:=az.bT h;exact⟨false,a,ys,h1,h3,h2,h4⟩
theorem lr.cut{P:Addr->Prop}{H:Hp}{q:Bool}{a:Addr}{ys:List V}(h:lr q K (cutH P H) a ys):lr q K H a ys:=by
 cases q with
 | true=>exact bC.seq h
 | false=>exact bC.tup h
theorem lr.same{H H':Hp}{q:Bool}{a:Addr}{ys:List V}(h:lr q K H a ys)(s:aH H H'):lr q K H' a ys:=by
 cases q with
 | true=>exact s.seq h
 | false=>exact s.tup h
@[reducible] def yu(ea:DX)(env:aU)(st:ax)(Q:List PyData->(ax->Prop)->ax->Prop):Prop:=ea env st λx av=>gS x av λd bo=>match d with
 | .list ds=>Q ds (λ_=>True) bo
 | .tuple ds=>Q ds (λ_=>True) bo
 | _=>False
theorem Cb{t:TE}(h:AE J t ea):AI J (Jm J t) (yu ea):=λH0 A0 G al H st s env Q R I E q k=>h H0 A0 G al H st s env _ _ I E q λx av aM v H1 e1 I1 d1 q1=>by
 obtain⟨d,bo,E2,I2,F2,q2⟩:=jS I1 d1 q1
 obtain⟨ds,ed,q2⟩:∃ds,(d=.list ds∨d=.tuple ds)/\Q ds (λ_=>True) bo:=by
  split at q2
  ·exact⟨_,.inl rfl,q2⟩
  ·exact⟨_,.inr rfl,q2⟩
  ·exact q2.elim
 obtain⟨w,a,ys,rfl,g1,g2,g3⟩:=F2.seq ed;refine⟨a,rfl,?_⟩;have oS:=e1.trans I1 E2
 cases w with
 | true =>
  refine .inl ⟨⟨ys,g2⟩,k (Aj J a) ds _ bo aM H1 oS I2 (λG1 EM H3 gf i hG e3 I3 _=>⟨λd hd=>?_,λh1 _=>?_⟩) q2⟩
  ·have s3:=(cg hG e3).seq g1;obtain⟨y,hy,_⟩:=g3.at hd;refine⟨⟨ys,y,bC.seq s3,hy⟩,λx H4 ⟨e4,z⟩=>?_⟩;subst e4;have:=z ys (bC.seq s3);exact⟨.refl _,(g3.2 i x d this hd).ft hG e3⟩
  ·exact⟨ys,bC.seq ((cg hG e3).seq g1),by rw[g3.1];exact h1⟩
 | false =>
  refine .inr ⟨⟨ys,g2⟩,k (GI J a) ds _ bo aM H1 oS I2 (λG1 EM H3 gf i hG e3 I3 _=>⟨λd hd=>?_,λh1 _=>?_⟩) q2⟩
  ·have s3:=(cg hG e3).tup g1;obtain⟨y,hy,_⟩:=g3.at hd;refine⟨⟨ys,y,bC.tup s3,hy⟩,λx H4 ⟨e4,z⟩=>?_⟩;subst e4;have:=z ys (bC.tup s3);exact⟨.refl _,(g3.2 i x d this hd).ft hG e3⟩
  ·exact⟨ys,bC.tup ((cg hG e3).tup g1),by rw[g3.1];exact h1⟩
theorem jX(h:aW X Y a ea):Ca X Y tg a (yu ea):=by
 obtain⟨t,p1,a1⟩:=h.h;exact⟨_,ER p1,Cb a1⟩
def sD(lo:Int)(m:Nat):List PyData:=(List.range m).map λ(k:Nat)=>PyData.int (lo + (k:Int))
theorem dF{lo:Int}{m:Nat}:(sD lo m).length=m:=by unfold sD;rw[List.length_map,List.length_range]
theorem ib{lo:Int}{m i:Nat}{d:PyData}(h:(sD lo m)[i]?=some d):i < m/\d=.int (lo + (i:Int)):=by
 have hi:=(cV h).1;rw[dF]at hi;unfold sD at h;rw[List.getElem?_map,List.getElem?_range hi]at h;cases h;exact⟨hi,rfl⟩
@[reducible] def my(d:hZ)(env:aU)(st:ax)(Q:List PyData->(ax->Prop)->ax->Prop):Prop:=d env st λxs av=>match xs with
 | [.dat (.int j)]=>(-(2 ^ 62)<=j/\j < 2 ^ 62)/\Q (sD 0 j.toNat) (λ_=>True) av
 | _=>False
theorem yv{H0:Hp}{A0:Addr->Prop}{G:Addr->Prop}{al:List (List Addr)}{H:Hp}{st:ax}{lo:Int}{m:Nat}{ok:ax->Prop}:Jl J H0 A0 G al H st (Gf lo m) (sD lo m) ok:=λG1 aM H1 av i hG e1 I1 _=>by
 refine⟨λd hd=>?_,λh1 _=>by rw[dF]at h1;exact h1⟩;obtain⟨hi,rfl⟩:=ib hd;refine⟨hi,λx H2 ⟨e,z⟩=>?_⟩;subst e;subst z;exact⟨.refl _,.int _⟩
theorem fS(hg:Gl X "range")(hm:X.mg "range"=none)(ha:mm X Y [a] n d)(hs:starEach [a] X.env=[(false,eval a X.env)]:=by rfl):Ca X Y tg (.Call (.Name "range" p) [a] [] pos) (my d):=by
 obtain⟨t,p1,a1⟩:=ha.h;refine⟨_,rP hg hm p1 hs,λH0 A0 G al H st s env Q R I E q k=>a1 H0 A0 G al H st s env _ _ I E q λxs av aM vs H1 e1 I1 d1 q1=>?_⟩;have q1:=q1.2;split at q1
 ·obtain⟨v,rfl,h1⟩:=sA d1;rw[az.aP h1];exact⟨_,rfl,q1.1.1,q1.1.2,k _ _ _ av aM H1 e1 I1 yv q1.2⟩
 ·exact q1.elim
def pP(xs ys:List PyData):List PyData:=(xs.zip ys).map λp=>PyData.tuple [p.1,p.2]
@[reducible] def vm:PyData->Option (List PyData)
 | .list ds=>some ds
 | .tuple ds=>some ds
 | _=>none
theorem rg{d:PyData}{ds:List PyData}(h:vm d=some ds):d=.list ds∨d=.tuple ds:=by
 cases d with
 | list x=>cases h;exact .inl rfl
 | tuple x=>cases h;exact .inr rfl
 | _=>cases h
@[reducible] def vn(d:hZ)(env:aU)(st:ax)(Q:List PyData->(ax->Prop)->ax->Prop):Prop:=d env st λxs av=>cb xs av λds bo=>match ds with
 | [x,y]=>match vm x,vm y with
  | some xs,some ys=>Q (pP xs ys) (λ_=>True) bo
  | _,_=>False
 | _=>False
theorem Cc{elts:List Expr}{kx}{tpos:Pos}(hg:Gl X "zip")(hm:X.mg "zip"=none)(ha:mm X Y [a,b] n d)(hs:starEach [a,b] X.env=[(false,eval a X.env),(false,eval b X.env)]:=by rfl)(tO:starEach [b] X.env=[(false,eval b X.env)]:=by rfl):Ca X Y (.Tuple elts kx tpos) (.Call (.Name "zip" p) [a,b] [] pos) (vn d):=by
 obtain⟨t,p1,a1⟩:=ha.h;refine⟨_,yt hg hm p1 hs tO,λH0 A0 G al H st s env Q R I E q k=>a1 H0 A0 G al H st s env _ _ I E q λxs av aM vs H1 e1 I1 d1 q1=>?_⟩;obtain⟨ds,bo,E2,I2,F2,q2⟩:=eS I1 d1 q1.2;have oS:=e1.trans I1 E2;split at q2
 ·split at q2
  ·rename_i us ws c1 c2;obtain⟨v,u,rfl,h1,h2⟩:=vh F2;obtain⟨w1,l1,ys,rfl,f1,f2,f3⟩:=h1.seq (rg c1);obtain⟨w2,l2,zs,rfl,g1,g2,g3⟩:=h2.seq (rg c2);refine⟨w1,w2,l1,l2,ys,zs,rfl,f2,g2,k _ _ _ bo aM H1 oS I2 (λG1 EM H3 gf i hG e3 I3 _=>⟨λd hd=>?_,λh1 _=>?_⟩) q2⟩
   ·have s1:=(lr.same f1 (cg hG e3)).cut;have s2:=(lr.same g1 (cg hG e3)).cut;unfold pP at hd;rw[List.getElem?_map]at hd
    cases q:(us.zip ws)[i]? with
    | none=>rw[q]at hd;cases hd
    | some pr =>
     rw[q]at hd;cases hd;rw[List.getElem?_zip_eq_some]at q;have l1':=(cV q.1).1;have l2':=(cV q.2).1;refine⟨⟨by rw[f3.1];exact l1',by rw[g3.1];exact l2',s1,s2⟩,λx H4 ⟨T,y,z,nT,ex,eH,hy,hz⟩=>?_⟩;subst ex;subst eH;have sm:=dh (o:=.tup [y,z]) nT;refine⟨sm,az.tup (I3.Az nT) uS (.cons ?_ (.cons ?_ .nil))⟩
     ·exact((f3.2 i y _ hy q.1).ft hG e3).same sm
     ·exact((g3.2 i z _ hz q.2).ft hG e3).same sm
   ·unfold pP at h1;rw[List.length_map,List.length_zip]at h1;refine⟨?_,(lr.same f1 (cg hG e3)).cut,(lr.same g1 (cg hG e3)).cut⟩;rw[f3.1,g3.1];omega
  ·exact q2.elim
 ·exact q2.elim
abbrev kC:=DV->aU->ax->(aU->ax->Prop)->Prop
abbrev nW:=List PyData->aU->ax->(aU->ax->Prop)->Prop
def AM(J:KF)(H0:Hp)(A0:Addr->Prop)(G:Addr->Prop)(al:List (List Addr))(H:Hp)(st:ax)(Q:aU->ax->Prop)(R:St->Hp->Prop):Prop:=∀env' st' al' s' H',Ext al H st al' H' st'->DI J H0 A0 G al' H' st'->gw J (Fb G al' st') H' al' s' env'->Q env' st'->R s' H'
theorem AM.go{H0:Hp}{A0:Addr->Prop}{G:Addr->Prop}{al aM:List (List Addr)}{H H1:Hp}{st av:ax}{Q:aU->ax->Prop}{R:St->Hp->Prop}(k:AM J H0 A0 G al H st Q R)(I:DI J H0 A0 G aM H1 av)(e:Ext al H st aM H1 av):AM J H0 A0 G aM H1 av Q R:=λdv st' al' s' H' e' I' h q=>k dv st' al' s' H' (e.trans I e') I' h q
def AG(J:KF)(g:TG)(dg:kC):Prop:=∀(H0:Hp) (A0:Addr->Prop) (G:Addr->Prop) (al:List (List Addr)) (H:Hp) (st:ax) (s:St) (env:aU) (v:V) (dv:DV) (Q:aU->ax->Prop) (R:St->Hp->Prop),DI J H0 A0 G al H st->gw J (Fb G al st) H al s env->fR J (Fb G al st) H al v dv->dg dv env st Q->AM J H0 A0 G al H st Q R->g v s H R
def ET(J:KF)(g:rO)(dg:nW):Prop:=∀(H0:Hp) (A0:Addr->Prop) (G:Addr->Prop) (al:List (List Addr)) (H:Hp) (st:ax) (s:St) (env:aU) (vs:List V) (ds:List PyData) (Q:aU->ax->Prop) (R:St->Hp->Prop),DI J H0 A0 G al H st->gw J (Fb G al st) H al s env->bL (az J (Fb G al st) H) vs ds->dg ds env st Q->AM J H0 A0 G al H st Q R->g vs s H R
structure EU(X:Cx)(Y:YK)(tg:Expr)(d:kC):Prop where
 h:∃g,PG X tg g/\AG (kf X Y) g d
structure yw(X:Cx)(Y:YK)(tg:List Expr)(d:nW):Prop where
 h:∃g,D3 X tg g/\ET (kf X Y) g d
@[reducible] def gN(i:Nat)(dv:DV)(env:aU)(st:ax)(Q:aU->ax->Prop):Prop:=Q (env.set i (some dv)) st
@[reducible] def lE(ds:List PyData)(env:aU)(st:ax)(Q:aU->ax->Prop):Prop:=match ds with
 | []=>Q env st
 | _=>False
@[reducible] def jY(g:kC)(r:nW)(ds:List PyData)(env:aU)(st:ax)(Q:aU->ax->Prop):Prop:=match ds with
 | d::ds=>g (.dat d) env st λenv' st'=>r ds env' st' Q
 | []=>False
@[reducible] def gT(n:Nat)(r:nW)(dv:DV)(env:aU)(st:ax)(Q:aU->ax->Prop):Prop:=match dv with
 | .dat (.tuple ds)=>ds.length=n/\r ds env st Q
 | _=>False
theorem kJ{i:Nat}:AG J (kX i) (gN i):=λH0 A0 G al H st s env v dv Q R I E h q k=>k _ _ al _ H .refl I (E.set h i) q
theorem bc{i:Nat}{x:Str}(hN:X.N.Nodup)(hi:X.N[i]?=some x)(hx:Loc X.env.scope x)(hf:X.fn x=true∨X.env.scope.names.lookup x=some .local:=by first | exact .inl rfl | exact .inr rfl | assumption):EU X Y (.Name x pos) (gN i):=⟨_,bO hN hi hx hf,kJ⟩
theorem eY:yw X Y [] lE:=⟨_,qt,λH0 A0 G al H st s env vs ds Q R I E h q k=>by
 unfold lE at q;split at q
 ·have:=h.1
  cases vs with
  | nil=>exact⟨rfl,k _ _ al _ H .refl I E q⟩
  | cons v r=>simp at this
 ·exact q.elim⟩
theorem jZ{g:TG}{u:rO}{dg:kC}{r:nW}(a1:AG J g dg)(a2:ET J u r):ET J (t6 g u) (jY dg r):=λH0 A0 G al H st s env vs ds Q R I E h q k=>by
 unfold jY at q;split at q
 ·rename_i d ds';have:=h.1
  cases vs with
  | nil=>simp at this
  | cons v vs' =>
   have h':bL (az J (Fb G al st) H) vs' ds':=⟨by simpa using this,λi p q a b=>h.2 (i + 1) p q (by simpa using a) (by simpa using b)⟩;refine⟨v,vs',rfl,a1 H0 A0 G al H st s env v (.dat d) _ _ I E (.d (h.2 0 v d rfl rfl)) q λenv' st' al' s' H' e' I' E' q'=>?_⟩;exact a2 H0 A0 G al' H' st' s' env' vs' ds' Q R I' E' (h'.imp λy x z=>z.ext e') q' (k.go I' e')
 ·exact q.elim
theorem aY{g:kC}{r:nW}(h1:EU X Y e g)(h2:yw X Y es r)(hs:(assignEach (e::es) X.env).map (·.2)=assign e X.env::(assignEach es X.env).map (·.2):=by rfl):yw X Y (e::es) (jY g r):=by
 obtain⟨t,p1,a1⟩:=h1.h;obtain⟨u,p2,a2⟩:=h2.h;exact⟨_,jA p1 p2 hs,jZ a1 a2⟩
theorem EV{m:Nat}{u:rO}{r:nW}(a1:ET J u r):AG J (Bu J m u) (gT m r):=λH0 A0 G al H st s env v dv Q R I E h q k=>by
 unfold gT at q;split at q
 ·obtain⟨a,ys,rfl,g1,_,g2⟩:=az.bT h;exact⟨a,ys,rfl,g1,by rw[g2.1];exact q.1,a1 H0 A0 G al H st s env ys _ Q R I E g2 q.2 k⟩
 ·exact q.elim
theorem gy{kx m:Nat}{r:nW}(hc:X.calm=true)(h:yw X Y es r)(hn:(assignEach es X.env).length=m:=by rfl)(hst:(assignEach es X.env).findIdx? (·.1)=none:=by rfl):EU X Y (.Tuple es kx pos) (gT m r):=by
 obtain⟨u,p1,a1⟩:=h.h;exact⟨_,t7 hc p1 hn hst,EV a1⟩
end
def Hm(J:KF)(e:DX):TE:=λs H R=>∃(H0:Hp) (A0:Addr->Prop) (G:Addr->Prop) (al:List (List Addr)) (st:ax) (env:aU) (Q:DC),DI J H0 A0 G al H st/\gw J (Fb G al st) H al s env/\e env st Q/\Kn J H0 A0 G al H st Q R
def yy(J:KF)(e:DT):TT:=λs H R=>∃(H0:Hp) (A0:Addr->Prop) (G:Addr->Prop) (al:List (List Addr)) (st:ax) (env:aU) (Q:Bool->ax->Prop),DI J H0 A0 G al H st/\gw J (Fb G al st) H al s env/\e env st Q/\EG J H0 A0 G al H st Q R
theorem aW.pe{X:Cx}{Y:YK}{e:Expr}{d:DX}(h:aW X Y e d):PE X e (Hm (kf X Y) d):=by
 obtain⟨t,p,a⟩:=h.h;intro pins s σ H Q I ⟨H0,A0,G,al,st,env,Q',I',E,q,k⟩;exact p pins s σ H Q I (a H0 A0 G al H st σ env Q' Q I' E q k)
theorem ny.pt{X:Cx}{Y:YK}{e:Expr}{d:DT}(h:ny X Y e d):PT X e (yy (kf X Y) d):=by
 obtain⟨t,p,a⟩:=h.h;intro pins s σ H Q I ⟨H0,A0,G,al,st,env,Q',I',E,q,k⟩;exact p pins s σ H Q I (a H0 A0 G al H st σ env Q' Q I' E q k)
structure EW(X:Cx)(Y:YK)(ifs:List Expr)(d:DT):Prop where
 h:DH X ifs (yy (kf X Y) d)
@[reducible] def vo(_:aU)(st:ax)(Q:Bool->ax->Prop):Prop:=Q true st
theorem j6{X:Cx}:EW X Y [] vo:=⟨λpins s σ H Q I ⟨H0,A0,G,al,st,env,Q',I',E,q,k⟩=>md pins s σ H Q I (k true st al H .refl I' q)⟩
theorem Cd{X:Cx}{Y:YK}{c:Expr}{d:DT}(h:ny X Y c d):EW X Y [c] d:=⟨xS h.pt⟩
def GB(own:Nat)(g:TG):Prop:=∀v s H R R',(∀(s2:St) (H2:Hp),s2.drop own=s.drop own->R s2 H2->R' s2 H2)->g v s H R->g v s H R'
def Gr(own:Nat)(g:rO):Prop:=∀v s H R R',(∀(s2:St) (H2:Hp),s2.drop own=s.drop own->R s2 H2->R' s2 H2)->g v s H R->g v s H R'
theorem pQ{own i:Nat}(h:i < own):GB own (kX i):=λv s H R R' f q=>f _ _ (by rw[List.drop_set_of_lt h]) q
theorem yz{own:Nat}:Gr own Bt:=λv s H R R' f q=>⟨q.1,f _ _ rfl q.2⟩
theorem nX{own:Nat}{g:TG}{u:rO}(h1:GB own g)(h2:Gr own u):Gr own (t6 g u):=λv s H R R' f q=>by
 obtain⟨x,r,e,q⟩:=q;exact⟨x,r,e,h1 _ _ _ _ _ (λs2 H2 e2 q2=>h2 _ _ _ _ _ (λs3 H3 e3 q3=>f _ _ (e3.trans e2) q3) q2) q⟩
theorem Hn{own m:Nat}{K:aC}{u:rO}(h:Gr own u):GB own (Bu K m u):=λv s H R R' f q=>by
 obtain⟨a,xs,e1,e2,e3,q⟩:=q;exact⟨a,xs,e1,e2,e3,h _ _ _ _ _ f q⟩
@[reducible] def rh(own:Nat)(ix:List Nat)(env:aU):aU:=List.replicate own none++ix.map λi=>(env[i]?).getD none
def Gs(fin:List PyData->ax->DC->Prop)(dg:kC)(dt:DT)(de:DX)(xs:List PyData)(ok:ax->Prop)(env:aU)(av:ax)(Q:DC):Prop:=(ok av/\xs.length<=1000000)/\∃I:Nat->List PyData->Prop,I 0 [] /\
 (∀i ys d,I i ys->xs[i]?=some d->dg (.dat d) env av λfu bo=>bo=av/\dt fu av λb gf=>gf=av/\if b=true then de fu av λy nK=>gS y nK λdy oY=>oY=av/\I (i + 1) (ys++[dy])else I (i + 1) ys)/\∀ys,I xs.length ys->fin ys av Q
@[reducible] def sE(fin:List PyData->ax->DC->Prop)(own:Nat)(ix:List Nat)(di:kI)(dg:kC)(dt:DT)(de:DX)(env:aU)(st:ax)(Q:DC):Prop:=di env st λxs ok av=>Gs fin dg dt de xs ok (rh own ix env) av Q
theorem vp{fin:List PyData->ax->DC->Prop}{dg:kC}{dt:DT}{de:DX}{xs:List PyData}{env:aU}{av:ax}{Q:DC}(I:Nat->List PyData->Prop)(hl:xs.length<=1000000)(h0:I 0 [])
  (hs:∀i ys d,xs[i]?=some d->I i ys->dg (.dat d) env av λfu bo=>bo=av/\dt fu av λb gf=>gf=av/\if b=true then de fu av λy nK=>gS y nK λdy oY=>oY=av/\I (i + 1) (ys++[dy])else I (i + 1) ys) (hd:∀ys,I xs.length ys->fin ys av Q):Gs fin dg dt de xs (λ_=>True) env av Q:=⟨⟨trivial,hl⟩,I,h0,λi ys d a b=>hs i ys d b a,hd⟩
@[reducible] def yA:List PyData->ax->DC->Prop:=λys st Q=>Q (.dat (.list ys)) st
theorem gw.hU{K:aC}{P:Addr->Prop}{H:Hp}{al:List (List Addr)}{s:St}{env:aU}(h:gw K P H al s env)(own:Nat)(ix:List Nat):gw K P H al (cA own ix s) (rh own ix env):=by
 refine⟨by simp[cA],λi dv hi=>?_⟩;by_cases l:i < own
 ·rw[List.getElem?_append_left (by simpa using l),List.getElem?_replicate,if_pos l]at hi;cases hi
 ·rw[List.getElem?_append_right (by simp;omega),List.length_replicate,List.getElem?_map]at hi
  cases q:ix[i - own]? with
  | none=>rw[q]at hi;cases hi
  | some j =>
   rw[q]at hi;have hi:some ((env[j]?).getD none)=some (some dv):=hi
   have e:env[j]?=some (some dv):=by
    cases w:env[j]? with
    | none=>rw[w]at hi;cases hi
    | some u=>rw[w]at hi;exact hi
   obtain⟨v,h1,h2⟩:=h.2 j dv e;refine⟨v,?_,h2⟩;unfold cA;rw[List.getElem?_append_right (by simp;omega),List.length_replicate,List.getElem?_map,q];show some ((s[j]?).getD none)=_;rw[h1];rfl
theorem DI.Cf{J:KF}{H0:Hp}{A0:Addr->Prop}{G:Addr->Prop}{al:List (List Addr)}{H:Hp}{st:ax}(I:DI J H0 A0 G al H st){D:Addr}{ys:List V}(h:H D=none):Ext al H st al (upd H D (.lst ys)) st/\DI J H0 A0 (λc=>G c∨c=D) al (upd H D (.lst ys)) st:=by
 have E:Ext al H st al (upd H D (.lst ys)) st:=.new h
 have g:∀c,(G c∨c=D)->G c∨H c=none:=λc hc=>by
  rcases hc with z | z
  ·exact .inl z
  ·rw[z];exact .inr h
 have keep:∀c o,H c=some o->upd H D (.lst ys) c=some o:=λc o e=>by rw[uN (nN e h)];exact e
 have I1:=I.new (o:=.lst ys) h;refine⟨E,I.len,I.nd,I1.ok,λk a c h1 h2=>(I.cel k a c h1 h2).ft g E (λc hc=>I.kH hc) λ_ b _ o q=>keep _ _ q,I1.fr,I.nw,λa ha hc=>?_,λc hc=>?_,J.y.up _ _ _ _ (λc hc=>.inl hc) I.lk⟩
 ·rcases hc with z | z
  ·exact I.gd a ha z
  ·obtain⟨o,e⟩:=I.ok a ha;rw[z,h]at e;cases e
 ·rcases hc with z | z
  ·exact I1.gs c z
  ·rw[z];exact⟨_,uS,.inl ⟨_,rfl⟩⟩
theorem DI.grow{J:KF}{H0:Hp}{A0:Addr->Prop}{G:Addr->Prop}{al:List (List Addr)}{H:Hp}{st:ax}{D:Addr}{ys zs:List V}(I:DI J H0 A0 (λc=>G c∨c=D) al H st)(h:H D=some (.lst zs))(n0:A0 D∨H0 D=none):DI J H0 A0 (λc=>G c∨c=D) al (upd H D (.lst ys)) st/\∀v d,az J (Fb (λc=>G c∨c=D) al st) H v d->az J (Fb (λc=>G c∨c=D) al st) (upd H D (.lst ys)) v d:=by
 have sm:aH (cutH (Fb (λc=>G c∨c=D) al st) H) (cutH (Fb (λc=>G c∨c=D) al st) (upd H D (.lst ys))):=eR λc o n e=>⟨n,by rw[uN (λz=>n (.inl (.inr z)))];exact e⟩
 have rd:∀v d,az J (Fb (λc=>G c∨c=D) al st) H v d->az J (Fb (λc=>G c∨c=D) al st) (upd H D (.lst ys)) v d:=λv d z=>bp.same sm z
 have nD:∀a∈al.flatten,a≠D:=λa ha z=>I.gd a ha (.inr z)
 refine⟨⟨I.len,I.nd,λa ha=>?_,λk fp c h1 h2=>?_,λc o n e=>?_,I.nw,I.gd,λc hc=>?_,I.lk⟩,rd⟩
 ·rw[uN (nD a ha)];exact I.ok a ha
 ·have z:=I.cel k fp c h1 h2;have na:∀a∈fp,a≠D:=λa ha=>nD a (dD h1 ha)
  cases c with
  | live xs =>
   obtain⟨a,ws,e0,g1,g2⟩:=z;exact⟨a,ws,e0,by rw[uN (na a (by rw[e0];exact NG.mpr rfl))];exact g1,g2.imp λy x q=>rd y x q⟩
  | froz ds=>obtain⟨a,e0,g0⟩:=z;exact⟨a,e0,rd _ _ g0⟩
  | deep xs =>
   obtain⟨a,ws,e0,g1,g2⟩:=z;refine⟨a,ws,e0,by rw[uN (na a (by rw[e0];exact NG.mpr rfl))];exact g1,g2.imp λy x q=>?_⟩
   cases x with
   | dat d=>exact rd _ _ q
   | ref j=>exact q
  | obj o=>exact⟨z.1,o.keep _ _ _ _ _ _ z.2 (λc hc=>I.kH hc) (λa ha o e=>by rw[uN (na a ha)];exact e) sm⟩
 ·by_cases w:c=D
  ·rw[w]at n e;rcases n0 with y | y
   ·exact absurd y n
   ·rw[y]at e;cases e
  ·rw[uN w];exact I.fr c o n e
 ·by_cases w:c=D
  ·rw[w];exact⟨_,uS,.inl ⟨_,rfl⟩⟩
  ·rw[uN w];exact I.gs c hc
section
variable {X:Cx} {Y:YK} {tg a b c e:Expr} {es:List Expr} {pos p:Pos} {ea eb ec:DX} {K:aC} {J:KF} {n:Nat} {d:hZ}
theorem Ext.K9{al:List (List Addr)}{H:Hp}{st:ax}{D:Addr}{ys:List V}{aM:List (List Addr)}{H1:Hp}{av:ax}(e:Ext al H st aM H1 av)(hD:H D=none):Ext al H st aM (upd H1 D (.lst ys)) av:=⟨λc o n q=>by rw[uN (λz=>by rw[z,hD]at q;cases q)];exact e.keep c o n q,e.pre,e.nws,e.lv⟩
def yB(J:KF)(fin:List PyData->ax->DC->Prop):Prop:=∀(H0:Hp) (A0:Addr->Prop) (G:Addr->Prop) (al:List (List Addr)) (H:Hp) (st:ax) (Q:DC) (R:VK) (D:Addr) (df:List (List Addr)) (H2:Hp) (vs:List V) (ys:List PyData),DI J H0 A0 G al H st->H D=none->Kn J H0 A0 G al H st Q R->fin ys st Q->DI J H0 A0 (λc=>G c∨c=D) df H2 st->Ext al H st df H2 st->H2 D=some (.lst vs)->bL (az J (Fb (λc=>G c∨c=D) df st) H2) vs ys->R (.ref D) H2
theorem AN{fin:List PyData->ax->DC->Prop}(hf:yB J fin)
  {own:Nat} {ix:List Nat} {wi:TI} {g:TG} {di:kI} {dg:kC} {dt:DT} {de:DX} (hi:AI J wi di) (hg:AG J g dg) (gb:GB own g):AE J (GZ own ix wi g (yy J dt) (Hm J de)) (sE fin own ix di dg dt de):=λH0 A0 G al H st s env Q R I E q k=>by
 refine hi H0 A0 G al H st s env _ _ I E q λJj xs ok av aM H1 e1 I1 ir q1=>?_
 intro D hD;obtain⟨⟨hok,hlen⟩,Iv,i0,istep,ifin⟩:=q1;have k1:=k.go I1 e1;have E1:=E.ext e1
 have gG:∀c,(G c∨c=D)->G c∨H1 c=none:=λc hc=>by
  rcases hc with z | z
  ·exact .inl z
  ·rw[z];exact .inr hD
 have n0:=I1.n0 hD;obtain⟨EB,IB⟩:=I1.Cf (ys:=[]) hD;refine⟨λi m ys H2=>(m=xs.length - i/\i<=xs.length/\ys.length<=i)/\∃ds df,Iv i ds/\H2 D=some (.lst ys)/\bL (az J (Fb (λc=>G c∨c=D) df av) H2) ys ds/\DI J H0 A0 (λc=>G c∨c=D) df H2 av/\Ext aM H1 av df H2 av,⟨_,⟨rfl,NP _,NP _⟩,[],aM,i0,uS,.nil,IB,EB⟩,?_⟩;rintro i m ys H2 ⟨⟨em,hil,hyl⟩,ds,df,hI,gD,hP,I2,E2⟩;refine⟨gD,?_⟩;have IR:=ir (λc=>G c∨c=D) df H2 av i gG E2 I2 hok;by_cases hx:i < xs.length
 ·right
  obtain⟨d0,EX⟩:∃d0,xs[i]?=some d0:=⟨xs[i],gR hx⟩;obtain⟨go,yl⟩:=IR.1 d0 EX;refine⟨go,NA (Nr hyl hil) (NA hlen (by decide)),λys' H'=>∃m',m' < m/\(m'=xs.length - (i + 1)/\i + 1<=xs.length/\ys'.length<=i + 1)/\∃ds df,Iv (i + 1) ds/\H' D=some (.lst ys')/\bL (az J (Fb (λc=>G c∨c=D) df av) H') ys' ds/\DI J H0 A0 (λc=>G c∨c=D) df H' av/\Ext aM H1 av df H' av,λys' H' ⟨m',lt,w⟩=>⟨m',lt,w⟩,λx H3 hy=>?_⟩;obtain⟨s3,r3⟩:=yl x H3 hy;have I3:=I2.same s3;have E3:Ext aM H1 av df H3 av:=E2.trans I2 (.same s3);have P3:=hP.imp λy x z=>z.same s3
  have g3:=s3 _ _ gD;have La:=(E1.ft gG E3).hU own ix;refine gb x _ H3 _ _ ?_ (hg H0 A0 (λc=>G c∨c=D) df H3 av _ _ x (.dat d0) _ (λσ2 H4=>yy J dt σ2 H4 λb H5=>if b=true then Hm J de σ2 H5 λv H6=>H6 D=some (.lst ys)/\∃m',m' < m/\(m'=xs.length - (i + 1)/\i + 1<=xs.length/\(ys++[v]).length<=i + 1)/\∃ds df,Iv (i + 1) ds/\upd H6 D (.lst (ys++[v])) D=some (.lst (ys++[v]))/\bL (az J (Fb (λc=>G c∨c=D) df av) (upd H6 D (.lst (ys++[v])))) (ys++[v]) ds/\DI J H0 A0 (λc=>G c∨c=D) df (upd H6 D (.lst (ys++[v]))) av/\Ext aM H1 av df (upd H6 D (.lst (ys++[v]))) av else ∃m',m' < m/\(m'=xs.length - (i + 1)/\i + 1<=xs.length/\ys.length<=i + 1)/\∃ds df,Iv (i + 1) ds/\H5 D=some (.lst ys)/\bL (az J (Fb (λc=>G c∨c=D) df av) H5) ys ds/\DI J H0 A0 (λc=>G c∨c=D) df H5 av/\Ext aM H1 av df H5 av) I3 La (.d r3) (istep i ds d0 hI EX) λfu bo EY s2 H4 e4 I4 Jo q4=>?_)
  ·intro s2 H4 ed q4;refine⟨?_,q4⟩;rw[ed];unfold cA;rw[List.drop_left' (by simp)]
  ·obtain⟨rfl,q4⟩:=q4;refine⟨H0,A0,_,EY,bo,fu,_,I4,Jo,q4,λb gf Jp H5 e5 I5 q5=>?_⟩;obtain⟨rfl,q5⟩:=q5;have Ho:=e4.trans I4 e5;have E5:=E3.trans I3 Ho;have nL:∀(al':List (List Addr)) (H':Hp),DI J H0 A0 (λc=>G c∨c=D) al' H' gf->¬ Lv al' gf D:=λal' H' I' z=>I'.gd D z.mem (.inr rfl)
   have g5:=Ho.keep D _ (nL _ _ I3) g3;have P5:=P3.imp λy x z=>az.ext z Ho
   cases b with
   | false =>
    rw[Nu Nd]at q5;exact bI ⟨xs.length - (i + 1),by omega,⟨rfl,hx,by omega⟩,ds,Jp,q5,g5,P5,I5,E5⟩
   | true =>
    rw[Nv rfl]at q5;refine cz ⟨H0,A0,_,Jp,gf,fu,_,I5,Jo.ext e5,q5,λy nK Lb v H6 e6 I6 d6 q6=>?_⟩;obtain⟨dy,oY,E7,I7,F7,rfl,q7⟩:=jS I6 d6 q6;have Hq:=e6.trans I6 E7;have E6:=E5.trans I5 Hq;have g6:=Hq.keep D _ (nL _ _ I5) g5;have P6:=P5.imp λy x z=>az.ext z Hq
    obtain⟨I8,Jq⟩:=I7.grow (ys:=ys++[v]) g6 n0;refine⟨g6,xs.length - (i + 1),by omega,⟨rfl,hx,by simp;omega⟩,ds++[dy],Lb,q7,uS,?_,I8,E6.K9 hD⟩;exact(P6.imp λy x z=>Jq y x z).append (.cons (Jq _ _ F7) .nil)
 ·left
  have ei:i=xs.length:=by omega
  subst ei;exact⟨IR.2 (Nf _) (Nf _),hf H0 A0 G aM H1 av Q R D df H2 ys ds I1 hD k1 (ifin ds hI) I2 E2 gD hP⟩
end
section
variable {X:Cx} {Y:YK} {tg a b c e:Expr} {es:List Expr} {pos p:Pos} {ea eb ec:DX} {K:aC} {J:KF} {n:Nat} {d:hZ} {scope:Scope}
theorem DI.less{H0:Hp}{A0:Addr->Prop}{G G':Addr->Prop}{al:List (List Addr)}{H:Hp}{st:ax}(I:DI J H0 A0 G' al H st)(s:∀c,G c->G' c)(y:J.y.Y H0 A0 G):DI J H0 A0 G al H st:=by
 have sub:∀c,Fb G al st c->Fb G' al st c:=λc z=>by
  rcases z with z | z
  ·exact .inl (s c z)
  ·exact .inr z
 have sm:aH (cutH (Fb G' al st) H) (cutH (Fb G al st) H):=eR λc o n e=>⟨λz=>n (sub c z),e⟩
 refine⟨I.len,I.nd,I.ok,λk fp c h1 h2=>?_,I.fr,I.nw,λa ha z=>I.gd a ha (s a z),λc hc=>I.gs c (s c hc),y⟩;have z:=I.cel k fp c h1 h2
 cases c with
 | live xs=>obtain⟨a,ws,e0,g1,g2⟩:=z;exact⟨a,ws,e0,g1,g2.imp λy x q=>bp.same sm q⟩
 | froz ds=>obtain⟨a,e0,g0⟩:=z;exact⟨a,e0,bp.same sm g0⟩
 | deep xs =>
  obtain⟨a,ws,e0,g1,g2⟩:=z;refine⟨a,ws,e0,g1,g2.imp λy x q=>?_⟩
  cases x with
  | dat d=>exact bp.same sm q
  | ref j=>exact q
 | obj o=>exact⟨z.1,o.keep _ _ _ _ _ _ z.2 (λc hc=>I.kH hc) (λ_ _ _ e=>e) sm⟩
theorem ri:yB J yA:=λH0 A0 G al H st Q R D df H2 vs ys I hD k q I2 E2 g P=>by
 have sub:∀c,Fb G df st c->Fb (λc=>G c∨c=D) df st c:=λc z=>by
  rcases z with z | z
  ·exact .inl (.inl z)
  ·exact .inr z
 have nD:¬ Fb G df st D:=λz=>by
  rcases z with z | z
  ·exact I.Az hD (.inl z)
  ·exact I2.gd D z.mem (.inr rfl)
 exact k (.dat (.list ys)) st df _ H2 E2 (I2.less (λc z=>.inl z) I.lk) (.d (az.lst nD g (P.imp λy x z=>az.sub z sub))) q
@[reducible] def Hr:Nat->List Nat->kI->kC->DT->DX->DX:=sE yA
theorem Cg{fin:List PyData->ax->DC->Prop}(hf:yB (kf X Y) fin)
  {elt iter:Expr} {ifs:List Expr} {g:TG} {di:kI} {dg:kC} {dt:DT} {de:DX} (own:Nat) (N:List Str) (ix:List Nat) (B:hV X own N ix scope) (hi:Ca X Y tg iter di)
  (hg:∀(C:Addr) (fp:List Addr) (s:Shared) (H:Hp),PG (X.hU N scope C fp s H) tg g) (ag:AG (kf X Y) g dg) (gb:GB own g)
  (hin:∀(C:Addr) (fp:List Addr) (s:Shared) (H:Hp),EW (X.hU N scope C fp s H) Y ifs dt/\aW (X.hU N scope C fp s H) Y elt de)
  (hs:∀x,foldedSetIterable iter X.env x=pure x:=by intro _;rfl):aW X Y (.ListComp elt [⟨tg,iter,ifs,0⟩] scope pos) (sE fin own ix di dg dt de):=by
 obtain⟨wi,p1,a1⟩:=hi.h;exact⟨_,Ar own N ix B p1 (λC fp s H=>⟨hg C fp s H,(hin C fp s H).1.h,(hin C fp s H).2.pe⟩) hs,AN hf a1 ag gb⟩
theorem vq{elt iter:Expr}{ifs:List Expr}{g:TG}{di:kI}{dg:kC}{dt:DT}{de:DX}(own:Nat)(N:List Str)(ix:List Nat)(B:hV X own N ix scope)(hi:Ca X Y tg iter di)
  (hg:∀(C:Addr) (fp:List Addr) (s:Shared) (H:Hp),PG (X.hU N scope C fp s H) tg g) (ag:AG (kf X Y) g dg) (gb:GB own g)
  (hin:∀(C:Addr) (fp:List Addr) (s:Shared) (H:Hp),EW (X.hU N scope C fp s H) Y ifs dt/\aW (X.hU N scope C fp s H) Y elt de)
  (hs:∀x,foldedSetIterable iter X.env x=pure x:=by intro _;rfl):aW X Y (.ListComp elt [⟨tg,iter,ifs,0⟩] scope pos) (Hr own ix di dg dt de):=Cg ri own N ix B hi hg ag gb hin hs
@[reducible] def DN(st:ax)(k:Nat):Bool:=match st[k]? with
 | some (.live _)=>true
 | some (.froz _)=>true
 | some (.deep _)=>true
 | _=>false
@[reducible] def mz(eo:DX)(dx:hZ)(env:aU)(st:ax)(Q:DC):Prop:=eo env st λo av=>match o with
 | .ref k=>DN av k=true/\dx env av λxs bo=>match xs with
  | [x]=>match bo[k]? with
   | some (.deep ys)=>ys.length < 1000000/\Q (.dat .none) (bo.set k (.deep (ys++[x])))
   | _=>gS x bo λd gf=>match gf[k]? with
    | some (.live ds)=>ds.length < 1000000/\Q (.dat .none) (gf.set k (.live (ds++[d])))
    | _=>False
  | _=>False
 | _=>False
theorem rj{H0:Hp}{A0:Addr->Prop}{G:Addr->Prop}{al:List (List Addr)}{H:Hp}{st:ax}(I:DI J H0 A0 G al H st){v:V}{k:Nat}(h:fR J (Fb G al st) H al v (.ref k))(hl:DN st k=true):∃a ys,v=.ref a/\cy J H a ys:=by
 obtain⟨a,r,h1,rfl⟩:=h;have hk:k < st.length:=by rw[← I.len];exact(cV h1).1
 have hs:=gR hk;have z:=I.cel k _ _ h1 hs;refine⟨a,?_⟩
 cases q:st[k]with
 | live ds=>rw[q]at z;obtain⟨a',ys,e0,g,_⟩:=z;cases e0;exact⟨ys,rfl,cy.of g⟩
 | deep ds=>rw[q]at z;obtain⟨a',ys,e0,g,_⟩:=z;cases e0;exact⟨ys,rfl,cy.of g⟩
 | froz ds =>
  rw[q]at z;obtain⟨a',e0,g0⟩:=z;cases e0;obtain⟨b,ys,g1,g2,_⟩:=az.cC g0;cases g1;exact⟨ys,rfl,g2⟩
 | obj o =>
  unfold DN at hl;rw[hs,q]at hl;cases hl
theorem vt{H:Hp}{v:V}(h:∃a ys,v=.ref a/\cy K H a ys):GR K "list" v H:=by
 obtain⟨a,ys,rfl,g⟩:=h;exact .inl ⟨rfl,ys,g⟩
theorem sF{apos cpos:Pos}{o:Expr}{eo:DX}(ho:aW X Y o eo)(ha:mm X Y (e::es) n d)(hbase:attributeBase o "append" X.env (eval o X.env)=eval o X.env:=by rfl)
  (hfew:((backTo cpos (starEach (e::es) X.env)).all (λx=>!x.1)&&(backToKw cpos (keywordEach [] X.env)).all (λx=>x.1.isSome)
   && decide ((e::es).length + ([]:List Keyword).length + (if ([]:List Keyword).isEmpty then 0 else 1) < 30))=true:=by rfl)
  (hline:(apos.endLine == cpos.line)=true:=by rfl) (hs:starEach (e::es) X.env=(false,eval e X.env)::starEach es X.env:=by rfl) (hplain:(backTo cpos (starEach es X.env)).any (·.1)=false:=by rfl) :
  aW X Y (.Call (.Attribute o "append" apos) (e::es) [] cpos) (mz eo d):=by
 obtain⟨t,p1,a1⟩:=ho.h;obtain⟨u,p2,a2⟩:=ha.h;refine⟨_,Em PySem.F.plainAttrs_list PySem.F.slot_list_append PySem.F.type_list_append lh p1 p2 hbase hfew hline hs hplain,λH0 A0 G al H st s env Q R I E q k=>a1 H0 A0 G al H st s env _ _ I E q λx av aM v H1 e1 I1 d1 q1=>?_⟩;split at q1
 ·rename_i kk;refine⟨vt (rj I1 d1 q1.1),a2 H0 A0 G aM H1 av s env _ _ I1 (E.ext e1) q1.2 λxs bo df vs H2 e2 I2 d2 q2=>?_⟩;have q2:=q2.2;split at q2
  ·obtain⟨w,rfl,hw⟩:=sA d2;have oS:=e1.trans I1 e2;split at q2
   ·rename_i zs hs;obtain⟨a,r0,ha,rfl⟩:=d1.ext e2;obtain⟨a',ys,e0,g1,g2⟩:=I2.cel kk _ _ ha hs;cases e0;obtain⟨E4,I4⟩:=I2.putD ha hs (g2.append (.cons hw .nil));exact⟨a,ys,w,rfl,rfl,g1,by rw[g2.1];exact M6 q2.1 (by decide),(k.go I2 oS) _ _ _ _ _ E4 I4 (.d .non) q2.2⟩
   ·obtain⟨dd,gf,E3,I3,F3,q3⟩:=jS I2 hw q2;split at q3
    ·rename_i ds hs;have EZ:=oS.trans I2 E3;obtain⟨a,r0,ha,rfl⟩:=(d1.ext e2).ext E3;obtain⟨a',ys,e0,g1,g2⟩:=I3.cel kk _ _ ha hs;cases e0;obtain⟨E4,I4⟩:=I3.put ha hs (g2.append (.cons F3 .nil));exact⟨a,ys,w,rfl,rfl,g1,by rw[g2.1];exact M6 q3.1 (by decide),(k.go I3 EZ) _ _ _ _ _ E4 I4 (.d .non) q3.2⟩
    ·exact q3.elim
  ·exact q2.elim
 ·exact q1.elim
structure bD where
 nx:aU->ax->Prop
 rt:DC
 bk:aU->ax->Prop:=λ_ _=>False
 ct:aU->ax->Prop:=λ_ _=>False
abbrev DS:=bD->aU->ax->Prop
structure mB(J:KF)(H0:Hp)(A0:Addr->Prop)(G:Addr->Prop)(al:List (List Addr))(H:Hp)(st:ax)(DD:bD)(D:Ends):Prop where
 nx:AM J H0 A0 G al H st DD.nx D.nx
 rt:Kn J H0 A0 G al H st DD.rt D.rt
 bk:AM J H0 A0 G al H st DD.bk D.bk
 ct:AM J H0 A0 G al H st DD.ct D.ct
theorem mB.go{H0:Hp}{A0:Addr->Prop}{G:Addr->Prop}{al aM:List (List Addr)}{H H1:Hp}{st av:ax}{DD:bD}{D:Ends}(k:mB J H0 A0 G al H st DD D)(I:DI J H0 A0 G aM H1 av)(e:Ext al H st aM H1 av):mB J H0 A0 G aM H1 av DD D:=⟨k.nx.go I e,k.rt.go I e,k.bk.go I e,k.ct.go I e⟩
def AS(J:KF)(t:TS)(s:DS):Prop:=∀(H0:Hp) (A0:Addr->Prop) (G:Addr->Prop) (al:List (List Addr)) (H:Hp) (st:ax) (σ:St) (env:aU) (DD:bD) (D:Ends),DI J H0 A0 G al H st->gw J (Fb G al st) H al σ env->s DD env st->mB J H0 A0 G al H st DD D->t D σ H
structure sG(X:Cx)(Y:YK)(stm:Stmt)(s:DS):Prop where
 h:∃t,PS X stm t/\AS (kf X Y) t s
structure jo(X:Cx)(Y:YK)(stms:List Stmt)(s:DS):Prop where
 h:∃t,jk X stms t/\AS (kf X Y) t s
@[reducible] def rk(DD:bD)(env:aU)(st:ax):Prop:=DD.nx env st
@[reducible] def vv(s u:DS)(DD:bD)(env:aU)(st:ax):Prop:=s {DD with nx:=u DD} env st
@[reducible] def vw(e:DX)(DD:bD)(env:aU)(st:ax):Prop:=e env st λ_ av=>DD.nx env av
@[reducible] def Ci(e:DX)(DD:bD)(env:aU)(st:ax):Prop:=e env st DD.rt
@[reducible] def Hs(c:DT)(s u:DS)(DD:bD)(env:aU)(st:ax):Prop:=c env st λb av=>if b=true then s DD env av else u DD env av
@[reducible] def sH(e:DX)(g:kC)(DD:bD)(env:aU)(st:ax):Prop:=e env st λdv av=>g dv env av DD.nx
def AQ(g:kC)(s:DS)(DD:bD)(xs:List PyData)(ok:ax->Prop)(env:aU)(st:ax):Prop:=∃W:Nat->aU->ax->Prop,W 0 env st/\∀i env st,i<=xs.length->W i env st->ok st/\(i=xs.length->DD.nx env st)/\∀d,xs[i]?=some d->g (.dat d) env st λenv' st'=>s {DD with nx:=W (i + 1),ct:=W (i + 1),bk:=DD.nx} env' st'
@[reducible] def Cj(di:kI)(g:kC)(s:DS)(DD:bD)(env:aU)(st:ax):Prop:=di env st λxs ok av=>AQ g s DD xs ok env av
theorem jv{g:kC}{s:DS}{DD:bD}{xs:List PyData}{ok:ax->Prop}{env:aU}{st:ax}(W:Nat->aU->ax->Prop)(h0:W 0 env st)(hok:∀i env st,W i env st->ok st)
  (hs:∀i env st d,xs[i]?=some d->W i env st->g (.dat d) env st λenv' st'=>s {DD with nx:=W (i + 1),ct:=W (i + 1),bk:=DD.nx} env' st') (hd:∀env st,W xs.length env st->DD.nx env st):AQ g s DD xs ok env st :=
 ⟨W,h0,λi env st _ w=>⟨hok i env st w,λe=>hd env st (e ▸ w),λd h=>hs i env st d h w⟩⟩
variable {stm:Stmt} {stms rest:List Stmt} {s u:DS}
theorem yC:AS J Ai rk:=λH0 A0 G al H st σ env DD D I E h k=>k.nx env st al σ H .refl I E h
theorem vx{t r:TS}(h1:AS J t s)(h2:AS J r u):AS J (Br t r) (vv s u):=λH0 A0 G al H st σ env DD D I E h k=>h1 H0 A0 G al H st σ env _ _ I E h ⟨λenv' st' al' σ' H' e' I' E' q'=>h2 H0 A0 G al' H' st' σ' env' DD D I' E' q' (k.go I' e'),k.rt,k.bk,k.ct⟩
theorem aO:jo X Y [] rk:=⟨_,js,yC⟩
theorem aS(h1:sG X Y stm s)(h2:jo X Y rest u):jo X Y (stm::rest) (vv s u):=by
 obtain⟨t,p1,a1⟩:=h1.h;obtain⟨r,p2,a2⟩:=h2.h;exact⟨_,qK p1 p2,vx a1 a2⟩
theorem aG(h1:sG X Y stm s):jo X Y [stm] s:=by
 obtain⟨t,p1,a1⟩:=h1.h;exact⟨_,qO p1,a1⟩
theorem yD(he:aW X Y e ea)(hs:swapsWith e none pos.line X.env=pure false:=by rfl):sG X Y (.Expr e pos) (vw ea):=by
 obtain⟨t,p1,a1⟩:=he.h;exact⟨_,lO p1 hs,λH0 A0 G al H st σ env DD D I E h k=>a1 H0 A0 G al H st σ env _ _ I E h λdv av aM v H1 e1 I1 d1 q1=>k.nx env av aM σ H1 e1 I1 (E.ext e1) q1⟩
theorem bh(he:aW X Y e ea):sG X Y (.Return (some e) pos) (Ci ea):=by
 obtain⟨t,p1,a1⟩:=he.h;exact⟨_,eM p1,λH0 A0 G al H st σ env DD D I E h k=>a1 H0 A0 G al H st σ env _ _ I E h k.rt⟩
theorem bH{c:Expr}{tc:DT}{x y:List Stmt}(hc:ny X Y c tc)(ha:jo X Y x s)(hb:jo X Y y u):sG X Y (.If c x y pos) (Hs tc s u):=by
 obtain⟨t,p1,a1⟩:=hc.h;obtain⟨r,p2,a2⟩:=ha.h;obtain⟨w,p3,a3⟩:=hb.h;refine⟨_,qs p1 p2 p3,λH0 A0 G al H st σ env DD D I E h k=>a1 H0 A0 G al H st σ env _ _ I E h λb av aM H1 e1 I1 q1=>?_⟩
 cases b with
 | true=>exact cz (a2 H0 A0 G aM H1 av σ env DD D I1 (E.ext e1) (by rw[Nv rfl]at q1;exact q1) (k.go I1 e1))
 | false=>exact bI (a3 H0 A0 G aM H1 av σ env DD D I1 (E.ext e1) (by rw[Nu Nd]at q1;exact q1) (k.go I1 e1))
theorem pR{t:TE}{g:TG}{dg:kC}(h1:AE J t ea)(h2:AG J g dg):AS J (xu t g) (sH ea dg):=λH0 A0 G al H st σ env DD D I E h k=>h1 H0 A0 G al H st σ env _ _ I E h λdv av aM v H1 e1 I1 d1 q1=>h2 H0 A0 G aM H1 av σ env v dv _ _ I1 (E.ext e1) d1 q1 (k.nx.go I1 e1)
theorem aT{i:Nat}{x:Str}{pos':Pos}(hN:X.N.Nodup)(hi:X.N[i]?=some x)(hx:Loc X.env.scope x)(he:aW X Y e ea)(hs:swapsWith e (some (.Name x pos')) pos.line X.env=pure false:=by rfl)(hf:X.fn x=true∨X.env.scope.names.lookup x=some .local:=by first | exact .inl rfl | exact .inr rfl | assumption):sG X Y (.Assign [.Name x pos'] e pos) (sH ea (gN i)):=by
 obtain⟨t,p1,a1⟩:=he.h;exact⟨_,fz hN hi hx p1 hs hf,pR a1 kJ⟩
theorem j7{g:kC}(he:aW X Y e ea)(hg:EU X Y tg g)(hs:swapsWithSole [tg] e pos.line X.env=pure false:=by rfl)(hw:swappedStores [tg] e X.env=pure none:=by rfl)(h1:(assignEach [tg] X.env).map (·.2)=[assign tg X.env]:=by rfl):sG X Y (.Assign [tg] e pos) (sH ea g):=by
 obtain⟨t,p1,a1⟩:=he.h;obtain⟨gg,p2,a2⟩:=hg.h;exact⟨_,Bv p1 p2 hs hw h1,pR a1 a2⟩
theorem iP{fin:List PyData->ax->DC->Prop}(hf:yB (kf X Y) fin)
  {i:Nat} {x:Str} {pos' spos:Pos} (hN:X.N.Nodup) (hxi:X.N[i]?=some x) (hx:Loc X.env.scope x) {elt iter:Expr} {ifs:List Expr} {g:TG} {di:kI} {dg:kC} {dt:DT} {de:DX} (own:Nat) (N:List Str) (ix:List Nat) (B:hV X own N ix scope) (hi:Ca X Y tg iter di)
  (hg:∀(C:Addr) (fp:List Addr) (s:Shared) (H:Hp),PG (X.hU N scope C fp s H) tg g) (ag:AG (kf X Y) g dg) (gb:GB own g)
  (hin:∀(C:Addr) (fp:List Addr) (s:Shared) (H:Hp),EW (X.hU N scope C fp s H) Y ifs dt/\aW (X.hU N scope C fp s H) Y elt de)
  (hsw:swapsWith (.ListComp elt [⟨tg,iter,ifs,0⟩] scope pos) (some (.Name x pos')) spos.line X.env=pure true:=by rfl) (hs:∀x,foldedSetIterable iter X.env x=pure x:=by intro _;rfl)
  (hfn:X.fn x=true∨X.env.scope.names.lookup x=some .local:=by first | exact .inl rfl | exact .inr rfl):sG X Y (.Assign [.Name x pos'] (.ListComp elt [⟨tg,iter,ifs,0⟩] scope pos) spos) (sH (sE fin own ix di dg dt de) (gN i)):=by
 obtain⟨wi,p1,a1⟩:=hi.h;exact⟨_,nM hN hxi hx own N ix B p1 (λC fp s H=>⟨hg C fp s H,(hin C fp s H).1.h,(hin C fp s H).2.pe⟩) hsw hs hfn,pR (AN hf a1 ag gb) kJ⟩
theorem mC{iter:Expr}{body:List Stmt}{di:kI}{g:kC}(hp:PassesOwn (model X.prog X.w) X.A X.env X.xe)(hc:X.calm=true)(hi:Ca X Y tg iter di)(hg:EU X Y tg g)(hb:jo X Y body s)(hs:∀x,foldedSetIterable iter X.env x=pure x:=by intro _;rfl):sG X Y (.For tg iter body [] pos) (Cj di g s):=by
 obtain⟨t,p1,a1⟩:=hi.h;obtain⟨gg,p2,a2⟩:=hg.h;obtain⟨r,p3,a3⟩:=hb.h;refine⟨_,oX hp hc p1 p2 p3 hs,λH0 A0 G al H st σ env DD D I E h k=>a1 H0 A0 G al H st σ env _ _ I E h λJj xs ok av aM H1 e1 I1 ir q1=>?_⟩;obtain⟨W,w0,step⟩:=q1;refine⟨λi m σ' H'=>(m=xs.length - i/\i<=xs.length)/\∃env' st' al',Ext aM H1 av al' H' st'/\DI (kf X Y) H0 A0 G al' H' st'/\gw X.K (Fb G al' st') H' al' σ' env'/\W i env' st',⟨_,⟨rfl,NP _⟩,env,av,aM,.refl,I1,E.ext e1,w0⟩,?_⟩;rintro i m σ2 H2 ⟨⟨em,hil⟩,fu,bo,df,e2,I2,E2,w2⟩;obtain⟨hok,hnx,hst⟩:=step i fu bo hil w2;have IR:=ir G df H2 bo i (λc z=>.inl z) e2 I2 hok;have oS:=e1.trans I1 e2;by_cases hx:i < xs.length
 ·obtain⟨d0,EX⟩:∃d0,xs[i]?=some d0:=⟨xs[i],gR hx⟩;obtain⟨go,yl⟩:=IR.1 d0 EX;refine .inr ⟨go,λσ' H'=>∃m',m' < m/\(m'=xs.length - (i + 1)/\i + 1<=xs.length)/\∃env' st' al',Ext aM H1 av al' H' st'/\DI (kf X Y) H0 A0 G al' H' st'/\gw X.K (Fb G al' st') H' al' σ' env'/\W (i + 1) env' st',λσ' H' z=>z,λx H3 hy=>?_⟩;obtain⟨s3,r3⟩:=yl x H3 hy;have I3:=I2.same s3;have Jr:Ext df H2 bo df H3 bo:=.same s3;refine a2 H0 A0 G df H3 bo σ2 fu x (.dat d0) _ _ I3 (E2.ext Jr) (.d r3) (hst d0 EX) λHt nK EY σ4 H4 e4 I4 E4 q4=>?_
  have Hu:=Jr.trans I3 e4;have Js:=e2.trans I2 Hu;refine a3 H0 A0 G EY H4 nK σ4 Ht _ _ I4 E4 q4 ⟨?_,k.rt.go I4 (oS.trans I2 Hu),k.nx.go I4 (oS.trans I2 Hu),?_⟩
  ·intro env' st' al' σ' H' e' I' E' w';exact⟨xs.length - (i + 1),by omega,⟨rfl,hx⟩,env',st',al',Js.trans I4 e',I',E',w'⟩
  ·intro env' st' al' σ' H' e' I' E' w';exact⟨xs.length - (i + 1),by omega,⟨rfl,hx⟩,env',st',al',Js.trans I4 e',I',E',w'⟩
 ·have ei:i=xs.length:=by omega
  exact .inl ⟨IR.2 (by omega) (by omega),k.nx fu bo df σ2 H2 oS I2 E2 (hnx ei)⟩
def nY(X:Cx)(Y:YK)(body:List Stmt)(DD:bD)(env:aU)(st:ax):Prop:=∃s,jo X Y body s/\s DD env st
theorem ay{DD:bD}{env:aU}{st:ax}(h:sG X Y stm s)(k:∀R:aU->ax->Prop,(∀env' st',nY X Y rest DD env' st'->R env' st')->s {DD with nx:=R} env st):nY X Y (stm::rest) DD env st:=by
 obtain⟨t,p1,a1⟩:=h.h;refine⟨vv s (λDD env st=>nY X Y rest DD env st),⟨Br t (λD σ H=>∃r,jk X rest r/\r D σ H),qK p1 (λpins s σ H D I ⟨_,hu,q⟩=>hu pins s σ H D I q),vx a1 λH0 A0 G al H st σ env DD D I E h k=>?_⟩,k _ λ_ _ z=>z⟩;obtain⟨s2,⟨r,p2,a2⟩,q⟩:=h;exact⟨r,p2,a2 H0 A0 G al H st σ env DD D I E q k⟩
theorem cI{DD:bD}{env:aU}{st:ax}(h:sG X Y stm s)(k:s DD env st):nY X Y [stm] DD env st:=⟨s,aG h,k⟩
theorem lF{N:List Str}{body:List Stmt}{vs:List V}{ds:List PyData}{H:Hp}{Q:VK}{P:Addr->Prop}(hP:∀c,P c->∃o,H c=some o/\gr o)(hv:bL (az X.K P H) vs ds)(hy:Y.Y H (λ_=>False) P)
  (h:nY X Y body {nx:=λ_ _=>∀v H',aH H H'->az X.K P H' v .none->Q v H',rt:=λdv st=>gS dv st λd _=>∀v H',aH H H'->az X.K P H' v d->Q v H'} (ds.map (λd=>some (DV.dat d))++List.replicate (N.length - ds.length) none) []) :
  ∃t,jk X body t/\t {nx:=λ_ H'=>Q .non H',rt:=Q} (start N vs) H:=by
 obtain⟨s,⟨t,p1,a1⟩,q⟩:=h;have lv:∀c,¬ Lv [] [] c:=λc ⟨k,xs,ce,h,_⟩=>by simp at h
 have I:DI (kf X Y) H (λ_=>False) P [] H []:=⟨rfl,List.nodup_nil,λ_ h=>by simp at h,λk a c h=>by simp at h,λc o _ e=>e,λ_ h=>by simp at h,λ_ h=>by simp at h,hP,hy⟩
 have fb:∀c,Fb P [] [] c->P c:=λc z=>by
  rcases z with z | z
  ·exact z
  ·exact absurd z (lv c)
 refine⟨t,p1,a1 H (λ_=>False) P [] H [] _ _ _ _ I ⟨by unfold start;simp[hv.1],λi dv hi=>?_⟩ q ⟨λenv' st' al' σ' H' e' I' E' q'=>?_,λdv st' al' v H' e' I' d' q'=>?_,λenv' st' al' σ' H' e' I' E' q'=>q'.elim,λenv' st' al' σ' H' e' I' E' q'=>q'.elim⟩⟩
 ·by_cases l:i < ds.length
  ·rw[List.getElem?_append_left (by simpa using l),List.getElem?_map,gR l]at hi;cases hi;obtain⟨y,hy,hr⟩:=hv.at (gR l);refine⟨y,?_,.d (az.sub hr fb)⟩;unfold start;rw[List.getElem?_append_left (by rw[List.length_map,hv.1];exact l),List.getElem?_map,hy];rfl
  ·rw[List.getElem?_append_right (by simp;omega)]at hi;rw[List.getElem?_replicate]at hi;split at hi
   ·cases hi
   ·cases hi
 ·exact q' .non H' (λc o e=>I'.fr c o id e) .non
 ·obtain⟨d,bo,_,I2,F,q2⟩:=jS I' d' q';exact q2 v H' (λc o e=>I'.fr c o id e) (az.sub F λc z=>.inl z)
theorem cj{N:List Str}{body:List Stmt}{vs:List V}{ds:List PyData}{H:Hp}{Q:VK}{P:Addr->Prop}(hP:∀c,P c->∃o,H c=some o/\gr o)(hv:bL (az X.K P H) vs ds)
  (h:nY X y0 body {nx:=λ_ _=>∀v H',aH H H'->az X.K P H' v .none->Q v H',rt:=λdv st=>gS dv st λd _=>∀v H',aH H H'->az X.K P H' v d->Q v H'} (ds.map (λd=>some (DV.dat d))++List.replicate (N.length - ds.length) none) []) :
  ∃t,jk X body t/\t {nx:=λ_ H'=>Q .non H',rt:=Q} (start N vs) H:=lF hP hv trivial h
end
@[reducible] def E8:DV->String
 | .dat .none=>"NoneType"
 | .dat (.bool _)=>"bool"
 | .dat (.int _)=>"int"
 | .dat (.str _)=>"str"
 | .dat (.list _)=>"list"
 | .dat (.tuple _)=>"tuple"
 | .dat (.dict _)=>"dict"
 | .ref _=>"list"
def IsT(K:aC)(n:String)(f:String->Bool):Prop:=∀t∈(["NoneType","bool","int","str","list","tuple"]:List String),PySem.W.kitOne K (.type t) (.type n)=some (f t)
@[reducible] def yE:String->Bool:=λt=>t == "int"||t == "bool"
@[reducible] def je(n:String):String->Bool:=λt=>t == n
@[reducible] def Ck(f:String->Bool)(ea:DX)(env:aU)(st:ax)(Q:DC):Prop:=ea env st λx av=>match x with
 | .dat d=>Q (.dat (.bool (f (E8 (.dat d))))) av
 | .ref k=>DN av k=true/\Q (.dat (.bool (f "list"))) av
theorem fR.ty{K:aC}{P:Addr->Prop}{al:List (List Addr)}{H:Hp}{v:V}{d:PyData}(h:fR K P H al v (.dat d)):xP K H v (E8 (.dat d))/\E8 (.dat d)∈(["NoneType","bool","int","str","list","tuple"]:List String):=by
 cases d with
 | none=>rw[az.pJ h];exact⟨.non,by simp⟩
 | bool b=>rw[az.jR h];exact⟨.bl _,by simp⟩
 | int b=>rw[az.aP h];exact⟨.int _,by simp⟩
 | str b=>rw[az.dE h];exact⟨.str _,by simp⟩
 | list ds=>obtain⟨b,ys,rfl,g2,_⟩:=az.cC h;exact⟨.lst g2,by simp⟩
 | tuple ds=>obtain⟨b,ys,rfl,g2,_⟩:=az.bT h;exact⟨.tup g2,by simp⟩
 | dict kv=>have h:bp K _ v (.dict kv):=h;cases h
theorem iQ{X:Cx}{Y:YK}{a:Expr}{ea:DX}{pos p p2:Pos}{T:Str}{n:String}{f:String->Bool}(hf:IsT X.K n f)(hg:Gl X "isinstance")(hm:X.mg "isinstance"=none)(yF:Gl X T)(yG:X.mg T=none)(hb:bootBuiltins T=some (.type n))(ha:aW X Y a ea)(hn:T≠"__name__":=by decide)(hd:(T == ("__debug__" : Str))=false:=by decide)
  (h1:starEach [a,.Name T p2] X.env=(false,eval a X.env)::starEach [.Name T p2] X.env:=by rfl):aW X Y (.Call (.Name "isinstance" p) [a,.Name T p2] [] pos) (Ck f ea):=by
 obtain⟨t,p1,a1⟩:=ha.h;refine⟨_,eI uv hg hm er (pK p1 (pK (qr (v:=.ty n) yF yG hb rfl hn hd) pN rfl) h1) (by decide) (by decide) h1 rfl,λH0 A0 G al H st s env Q R I E q k=>a1 H0 A0 G al H st s env _ _ I E q λx av aM v H1 e1 I1 d1 q1=>?_⟩;split at q1
 ·obtain⟨ty,mem⟩:=d1.ty;exact⟨v,n,_,_,rfl,ty,hf _ mem,(k.go I1 e1).here I1 (.d (.bl _)) q1⟩
 ·obtain⟨b,ys,rfl,g⟩:=rj I1 d1 q1.1;exact⟨_,n,"list",_,rfl,.lst g,hf _ (by simp),(k.go I1 e1).here I1 (.d (.bl _)) q1.2⟩
theorem mD{K:aC}{n:String}{f:String->Bool}(h1:PySem.W.kitOne K (.type "NoneType") (.type n)=some (f "NoneType"))(h2:PySem.W.kitOne K (.type "bool") (.type n)=some (f "bool"))(h3:PySem.W.kitOne K (.type "int") (.type n)=some (f "int"))(h4:PySem.W.kitOne K (.type "str") (.type n)=some (f "str"))(h5:PySem.W.kitOne K (.type "list") (.type n)=some (f "list"))(h6:PySem.W.kitOne K (.type "tuple") (.type n)=some (f "tuple")):IsT K n f:=λt ht=>by
 simp only[List.mem_cons,List.not_mem_nil,or_false]at ht;rcases ht with rfl | rfl | rfl | rfl | rfl | rfl<;>assumption
@[reducible] def mE(o1 o2:yb)(ea eb ec:DX)(env:aU)(st:ax)(Q:DC):Prop:=ea env st λx av=>eb env av λy bo=>o1 x y bo λz gf=>match z with
 | .dat (.bool b)=>if b=true then ec env gf λw nK=>o2 y w nK Q else Q (.dat (.bool false)) gf
 | _=>False
theorem vy{J:KF}{r r':R2}{o1 o2:yb}{ta tb tc:TE}{ea eb ec:DX}(h1:AO J r o1)(h2:AO J r' o2)(ha:AE J ta ea)(hb:AE J tb eb)(hc:AE J tc ec):AE J (ue r r' ta tb tc) (mE o1 o2 ea eb ec):=λH0 A0 G al H st s env Q R I E q k=>by
 refine ha H0 A0 G al H st s env _ _ I E q λx av aM v H1 e1 I1 d1 q1=>?_
 refine hb H0 A0 G aM H1 av s env _ _ I1 (E.ext e1) q1 λy bo df u H2 e2 I2 d2 q2=>?_
 have oS:=e1.trans I1 e2;refine h1 H0 A0 G df H2 bo v u x y _ _ I2 (d1.ext e2) d2 q2 λz gf EM w H3 e3 I3 d3 q3=>?_
 have EZ:=oS.trans I2 e3;split at q3
 ·rename_i b;rw[az.jR d3];refine⟨_,rfl,?_⟩
  cases b with
  | false=>exact bI ((k.go I3 EZ).here I3 (.d (.bl _)) (by rw[Nu Nd]at q3;exact q3))
  | true =>
   rw[Nv rfl]at q3;refine cz (hc H0 A0 G EM H3 gf s env _ _ I3 (E.ext EZ) q3 λw nK EY u4 H4 e4 I4 d4 q4=>?_);exact h2 H0 A0 G EY H4 nK u u4 y w Q R I4 ((d2.ext e3).ext e4) d4 q4 (k.go I4 (EZ.trans I3 e4))
 ·exact q3.elim
theorem j8{X:Cx}{Y:YK}{a b c:Expr}{ea eb ec:DX}{pos:Pos}{op op':CmpOp}{r r':R2}{o1 o2:yb}(ho:fq X (compareOp op) r)(ho':fq X (compareOp op') r')(h1:AO (kf X Y) r o1)(h2:AO (kf X Y) r' o2)(ha:aW X Y a ea)(hb:aW X Y b eb)(hc:aW X Y c ec)
  (hm:lastMarks [op,op'] [b,c]=false:=by with_unfolding_all rfl):ny X Y (.Compare a [op,op'] [b,c] pos) (w8 (mE o1 o2 ea eb ec)):=by
 obtain⟨ta,p1,a1⟩:=ha.h;obtain⟨tb,p2,a2⟩:=hb.h;obtain⟨tc,p3,a3⟩:=hc.h;exact⟨_,uf ho ho' p1 p2 p3 hm,pM (vy h1 h2 a1 a2 a3)⟩
theorem cW{c:Prop}[Decidable c]{A B:Prop}(h1:c->A)(h2:¬ c->B):if decide c=true then A else B:=by
 by_cases e:c
 ·rw[Nv (NQ e)];exact h1 e
 ·rw[Nu (λz=>e (Ow z))];exact h2 e
theorem vz{α:Type}{xs:List α}{j:Nat}{x:α}(h:xs[j]?=some x):i9 xs (j:Int)=some x:=by
 have hl:=(cV h).1;unfold i9 Ao;rw[if_pos (by omega),if_pos (by omega)];show xs[((j:Nat):Int).toNat]?=some x;rw[Int.toNat_natCast];exact h
theorem nZ{K:aC}{P:Addr->Prop}{H:Hp}{ns:List Int}:bL (az K P H) (ns.map V.int) (ns.map PyData.int):=⟨by simp,λi y x hy hx=>by
 rw[Nk]at hy hx
 cases q:ns[i]? with
 | none=>rw[q]at hy;cases hy
 | some n=>rw[q]at hy hx;cases hy;cases hx;exact .int _⟩
theorem Cm{α β:Type}{f:α->β}{l:List α}{i:Nat}{d:β}(h:(l.map f)[i]?=some d):∃a,l[i]?=some a/\d=f a:=by
 rw[Nk]at h
 cases q:l[i]? with
 | none=>rw[q]at h;cases h
 | some a=>rw[q]at h;cases h;exact⟨a,rfl,rfl⟩
theorem yH{xs ys:List PyData}{i:Nat}{d:PyData}(h:(pP xs ys)[i]?=some d):∃x y,xs[i]?=some x/\ys[i]?=some y/\d=.tuple [x,y]:=by
 unfold pP at h;obtain⟨⟨x,y⟩,h1,rfl⟩:=Cm h;rw[List.getElem?_zip_eq_some]at h1;exact⟨x,y,h1.1,h1.2,rfl⟩
theorem vA{xs ys:List PyData}:(pP xs ys).length=min xs.length ys.length:=by
 unfold pP;rw[List.length_map,List.length_zip]
theorem ic{α β:Type}{f:α->β}{l:List α}{j:Nat}{a:α}(h:l[j]?=some a):i9 (l.map f) (j:Int)=some (f a):=vz (by rw[Nk,h];rfl)
@[reducible] def Cn(n:Nat)(ea:DX)(env:aU)(st:ax)(Q:DC):Prop:=ea env st λx av=>match jc av x with
 | some ds=>match ds[n]? with
  | some d=>Q (.dat d) av
  | none=>False
 | none=>False
theorem aZ{X:Cx}{Y:YK}{a:Expr}{ea:DX}{pos p:Pos}{n:Nat}{j}(ha:aW X Y a ea)(hs:lV (.Constant (.int (n:Int)) j p):=by exact λ_ _=>rfl):aW X Y (.Subscript a (.Constant (.int (n:Int)) j p) pos) (Cn n ea):=by
 obtain⟨ta,p1,a1⟩:=ha.h;refine⟨_,eK uo p1 pI hs,λH0 A0 G al H st s env Q R I E q k=>a1 H0 A0 G al H st s env _ _ I E q λx av aM v H1 e1 I1 d1 q1=>?_⟩;split at q1
 ·rename_i ds e;split at q1
  ·rename_i d hd;obtain⟨b,ys,rfl,g1,g2⟩:=d1.Gp I1 e;obtain⟨z,g3,g4⟩:=g2.i9 (vz hd);have kk:=(k.go I1 e1).here I1 (.d g4) q1;rcases g1 with g1 | g1
   ·exact .inl ⟨b,ys,_,z,rfl,rfl,g1,g3,kk⟩
   ·exact .inr (.inl ⟨b,ys,_,z,rfl,rfl,g1,g3,kk⟩)
  ·exact q1.elim
 ·exact q1.elim
structure Sh(n:Nat)(d:PyData):Prop where
 cl:d.canLay0=true
 dp:d.depth<=n
theorem Sh.up{n m:Nat}{d:PyData}(h:Sh n d)(l:n<=m):Sh m d:=⟨h.cl,Nr h.dp l⟩
theorem Co{n:Nat}:Sh n .none:=⟨rfl,NP _⟩
theorem fE{n:Nat}{i:Int}:Sh n (.int i):=⟨rfl,NP _⟩
theorem dG{n:Nat}{x:Str}(h:PyData.canLay0 (.str x)=true:=by decide +kernel):Sh n (.str x):=⟨h,NP _⟩
theorem j9{n:Nat}:∀{ds:List PyData},(∀d∈ds,Sh n d)->PyData.canLayAll0 ds=true/\PyData.depthAll ds<=n
 | [],_=>⟨rfl,NP _⟩
 | d::r,h=>by
  obtain⟨h1,h2⟩:=j9 (ds:=r) λx hx=>h x (NO _ hx)
  have hd:=h d Nz;refine⟨?_,?_⟩
  ·show(PyData.canLay0 d&&PyData.canLayAll0 r)=true;rw[hd.cl,h1];rfl
  ·show max (PyData.depth d) (PyData.depthAll r)<=n;exact Nat.max_le.mpr ⟨hd.dp,h2⟩
theorem dm{n:Nat}{ds:List PyData}(h:∀d∈ds,Sh n d):Sh (n + 1) (.list ds):=⟨(j9 h).1,Nat.succ_le_succ (j9 h).2⟩
theorem ck{n:Nat}{ds:List PyData}(h:∀d∈ds,Sh n d):Sh (n + 1) (.tuple ds):=⟨(j9 h).1,Nat.succ_le_succ (j9 h).2⟩
theorem bt{n:Nat}:∀d∈([]:List PyData),Sh n d:=λ_ h=>nomatch h
theorem aA{n:Nat}{x:PyData}{ds:List PyData}(h:Sh n x)(r:∀d∈ds,Sh n d):∀d∈x::ds,Sh n d:=λd hd=>by
 rcases ND.mp hd with z | z
 ·rw[z];exact h
 ·exact r d z
theorem mF{α:Type}{n:Nat}{f:α->PyData}{l:List α}(h:∀a∈l,Sh n (f a)):∀d∈l.map f,Sh n d:=λd hd=>by
 obtain⟨a,ha,rfl⟩:=List.mem_map.mp hd;exact h a ha
theorem Sh.ok{n:Nat}{d:PyData}(h:Sh n d)(l:n<=64:=by decide):PySem.SeqAt.shaped d=true:=by
 show(d.canLay0&&decide (d.depth<=64))=true;rw[h.cl,NQ (Nr h.dp l)];rfl
theorem Sh.self{n:Nat}{d:PyData}(h:Sh n d):PyData.eqv d d=true:=PySem.SeqAt.eqv_refl _ h.cl
def sub{α:Type}:List Nat->List α->List α
 | [],_=>[]
 | k::ks,xs=>match xs[k]? with
  | some x=>x::sub ks xs
  | none=>sub ks xs
def Hv{α:Type}:List Nat->List α->List α->List α
 | k::ks,y::ys,xs=>Hv ks ys (xs.set k y)
 | _,_,xs=>xs
def Ce.nd:Ce->Prop
 | .deep _=>False
 | _=>True
section
variable {K:aC} {J:KF} {H0 H H1:Hp} {A0 G:Addr->Prop} {al aM:List (List Addr)} {st av:ax} {ks:List Nat}
end
theorem bE{s u:DS}{DD:bD}{env:aU}{st:ax}(k:∀R:aU->ax->Prop,(∀env' st',u DD env' st'->R env' st')->s {DD with nx:=R} env st):vv s u DD env st:=k (u DD) (λ_ _ h=>h)
abbrev tS:=List (Str×PyData)
def yI(K:aC)(P:Addr->Prop)(H:Hp)(dd:Option Addr)(fs:tS):Prop:=fs=[]∨∃dx vs,dd=some dx/\H dx=some (.ext (XD dx vs))/\¬ P dx/\vs.map (·.1)=fs.map (·.1)/\bL (az K P H) (vs.map (·.2)) (fs.map (·.2))
def yx(K:aC)(E:XK)(P0:Addr->Prop)(Ex:Addr->tS->Prop):YK:=⟨λH0 A0 G=>(∀c,P0 c->G c)/\∀C fs dd H',Ex C fs->jQ A0 H0 H'->yI K P0 H' dd fs->E (.ref C) dd H',λ_ _ _ _ s h=>⟨λc z=>s c (h.1 c z),h.2⟩⟩
abbrev Cp:=List PyData->(PyData->Prop)->(Addr->tS->Prop)->Prop
def Lc(K:aC)(T:Cp):Sp:=λvs H Q E=>∃(P:Addr->Prop) (ds:List PyData),(∀c,P c->∃o,H c=some o/\gr o)/\bL (az K P H) vs ds/\T ds (λd=>∀v H',aH H H'->az K P H' v d->Q v H') (λC fs=>∀dd H',aH H H'->yI K P H' dd fs->E (.ref C) dd H')
def E9(K:aC)(sp:Sp)(T:Cp):Prop:=∀(vs:List V) (H:Hp) (Q:VK) (E:XK) (P:Addr->Prop) (ds:List PyData),(∀c,P c->∃o,H c=some o/\gr o)->bL (az K P H) vs ds->T ds (λd=>∀v H',aH H H'->az K P H' v d->Q v H') (λC fs=>∀dd H',aH H H'->yI K P H' dd fs->E (.ref C) dd H')->sp vs H Q E
def AR(T:Cp):Prop:=∀ds (Q Q':PyData->Prop) (X X':Addr->tS->Prop),(∀d,Q d->Q' d)->(∀C fs,X C fs->X' C fs)->T ds Q X->T ds Q' X'
section
variable {K:aC} {E:XK} {P0:Addr->Prop} {Ex:Addr->tS->Prop}
end
section
variable {X:Cx} {a b c e:Expr} {es:List Expr} {pos p:Pos} {n:Nat} {d:hZ} {x:Str} {E:XK} {P0:Addr->Prop} {Ex:Addr->tS->Prop}
@[reducible] def mG(C:Addr)(Ex:Addr->tS->Prop)(_:bD)(_:aU)(_:ax):Prop:=Ex C []
theorem lG{C:Addr}{np cpos:Pos}(hz:Rz X E)(hg:Gl X x)(hm:X.mg x=some (.ref C))(q:PySem.W.excIn X.K C kG "ValueError.__new__"=true)(hc:X.calm=true)(hd:(x == ("__debug__" : Str))=false:=by decide)(hpl:backTo cpos (starEach [] X.env)=[]:=by rfl):sG X (yx X.K E P0 Ex) (.Raise (some (.Call (.Name x np) [] [] cpos)) none pos) (mG C Ex) :=
 ⟨_,sq hz hg hm q hc hd hpl,λH0 A0 G al H st σ env DD D I En q k=>I.lk.2 C [] none H q I.fr (.inl rfl)⟩
theorem sI{N:List Str}{body:List Stmt}{vs:List V}{ds:List PyData}{H:Hp}{Q:VK}{P:Addr->Prop}(hP:∀c,P c->∃o,H c=some o/\gr o)(hv:bL (az X.K P H) vs ds)(hE:∀C fs,Ex C fs->∀dd H',aH H H'->yI X.K P H' dd fs->E (.ref C) dd H')
  (h:nY X (yx X.K E P Ex) body {nx:=λ_ _=>∀v H',aH H H'->az X.K P H' v .none->Q v H',rt:=λdv st=>gS dv st λd _=>∀v H',aH H H'->az X.K P H' v d->Q v H'} (ds.map (λd=>some (DV.dat d))++List.replicate (N.length - ds.length) none) []) :
  ∃t,jk X body t/\t {nx:=λ_ H'=>Q .non H',rt:=Q} (start N vs) H :=
 lF (Y:=yx X.K E P Ex) hP hv ⟨λ_ z=>z,λC fs dd H' e k x=>hE C fs e dd H' (λc o q=>k c o id q) x⟩ h
end
def DP(C:Addr)(fs:tS):Ob where
 lies K P H fp:=∃a dd,fp=[a]/\H a=some (.ext (BX C a dd))/\yI K P H dd fs
 keep K P H fp P' H' h hP kp s:=by
  obtain⟨a,dd,rfl,h1,h2⟩:=h;refine⟨a,dd,rfl,kp a Nz _ h1,?_⟩;rcases h2 with h | ⟨dx,vs,g1,g2,g3,g4,g5⟩
  ·exact .inl h
  ·obtain⟨n',q'⟩:=bw.mp (s dx _ (bw.mpr ⟨g3,g2⟩));exact .inr ⟨dx,vs,g1,q',n',g4,g5.imp λy x z=>bp.same s z⟩
 mu K P H fp h:=by
  obtain⟨a,dd,rfl,h1,_⟩:=h;intro b hb;rw[lL hb];exact⟨_,h1,.inr (.inr ⟨_,rfl⟩)⟩
section
variable {X:Cx} {CW:Addr} {cx n:Str} {i:Nat} {b₀:Stmt} {suite:List Stmt} {np hpos pos:Pos} {tb:TS}
end
@[reducible] def rl(K:aC)(CW:Addr)(i:Nat)(s:DS)(DD:bD)(env:aU)(st:ax)(C:Addr)(fs:tS):Prop:=PySem.W.mroIn K C (.ref CW)=some true/\s {nx:=λenv' st'=>DD.nx (env'.set i none) st',rt:=DD.rt,bk:=λenv' st'=>DD.bk (env'.set i none) st',ct:=λenv' st'=>DD.ct (env'.set i none) st'} (env.set i (some (.ref st.length))) (st++[.obj (DP C fs)])
section
variable {J:KF} {H0:Hp} {A0:Addr->Prop} {G:Addr->Prop} {al aM:List (List Addr)} {H H1:Hp} {st av:ax}
theorem gw.Cq{K:aC}{P:Addr->Prop}{s:St}{env:aU}(h:gw K P H al s env)(i:Nat):gw K P H al (s.set i none) (env.set i none):=by
 refine⟨by rw[NL,NL];exact h.1,λj u hu=>?_⟩;rw[List.getElem?_set]at hu;by_cases hj:i=j
 ·subst hj;rw[Nv rfl]at hu;split at hu
  ·cases hu
  ·cases hu
 ·rw[Nu hj]at hu;obtain⟨w,h1,h2⟩:=h.2 j u hu;exact⟨w,by rw[Ni hj];exact h1,h2⟩
theorem DI.Cr(I:DI J H0 A0 G al H st){H2:Hp}(s:aH H H2){a C:Addr}{dd:Option Addr}{fs:tS}(h:H2 a=none)(x:yI J (Fb G al st) H2 dd fs):Ext al H st (al++[[a]]) (upd H2 a (.ext (BX C a dd))) (st++[.obj (DP C fs)])/\DI J H0 A0 G (al++[[a]]) (upd H2 a (.ext (BX C a dd))) (st++[.obj (DP C fs)]):=by
 have s2:aH H (upd H2 a (.ext (BX C a dd))):=s.trans (dh h);have ha:H a=none:=s.free h;refine I.more (c:=.obj (DP C fs)) (λb hb=>by rw[lL hb];exact ha) (by simp) s2 (λb hb=>by rw[lL hb];exact⟨_,uS⟩) ⟨by simp,a,dd,rfl,uS,?_⟩;rcases x with x | ⟨dx,vs,g1,g2,g3,g4,g5⟩
 ·exact .inl x
 have hda:dx≠a:=λz=>by rw[z,h]at g2;cases g2
 have hb:∀c,Fb G (al++[[a]]) (st++[.obj (DP C fs)]) c->Fb G al st c∨c=a:=λc z=>by
  rcases z with z | ⟨k,fp,ce,e1,e2,e3,e4⟩
  ·exact .inl (.inl z)
  ·by_cases hk:k < al.length
   ·rw[Nj hk]at e1;rw[Nj (by rw[← I.len];exact hk)]at e3;exact .inl (.inr ⟨k,fp,ce,e1,e2,e3,e4⟩)
   ·rw[Nm (by omega)]at e1;rw[lL (Nl e1)]at e2;exact .inr (lL e2)
 refine .inr ⟨dx,vs,g1,by rw[uN hda];exact g2,λz=>?_,g4,g5.imp λy x z=>bp.same (eR λc o n e=>⟨λw=>?_,?_⟩) z⟩
 ·rcases hb dx z with w | w
  ·exact g3 w
  ·exact hda w
 ·rcases hb c w with w | w
  ·exact n w
  ·rw[w,h]at e;cases e
 ·rw[uN (nN e h)];exact e
theorem mB.hand{DD:bD}{D:Ends}(k:mB J H0 A0 G al H st DD D)(i:Nat):mB J H0 A0 G al H st {nx:=λenv' st'=>DD.nx (env'.set i none) st',rt:=DD.rt,bk:=λenv' st'=>DD.bk (env'.set i none) st',ct:=λenv' st'=>DD.ct (env'.set i none) st'} {nx:=λσ' H'=>D.nx (σ'.set i none) H',rt:=D.rt,bk:=λσ' H'=>D.bk (σ'.set i none) H',ct:=λσ' H'=>D.ct (σ'.set i none) H'} :=
 ⟨λenv' st' al' s' H' e I E q=>k.nx _ st' al' _ H' e I (E.Cq i) q,k.rt,λenv' st' al' s' H' e I E q=>k.bk _ st' al' _ H' e I (E.Cq i) q,λenv' st' al' s' H' e I E q=>k.ct _ st' al' _ H' e I (E.Cq i) q⟩
end
section
variable {X:Cx} {Y:YK} {CW:Addr} {cx n x:Str} {i:Nat} {b₀:Stmt} {suite:List Stmt} {np hpos pos:Pos} {s:DS} {nn:Nat} {d:hZ} {e:Expr} {es:List Expr}
theorem yJ{J:KF}{tb:TS}{H0:Hp}{A0:Addr->Prop}{G:Addr->Prop}{al:List (List Addr)}{H H2:Hp}{st:ax}{σ:St}{env:aU}{DD:bD}{D:Ends}{C:Addr}{fs:tS}{dd:Option Addr}(hs:AS J tb s)(I:DI J H0 A0 G al H st)(En:gw J (Fb G al st) H al σ env)(k:mB J H0 A0 G al H st DD D)(q:rl J CW i s DD env st C fs)(sm:aH H H2)(x:yI J (Fb G al st) H2 dd fs):uM J CW i tb D σ (.ref C) dd H2:=by
 refine⟨C,rfl,q.1,λa ha=>?_⟩;obtain⟨E1,I1⟩:=I.Cr (C:=C) sm ha x;refine hs H0 A0 G _ _ _ _ _ _ _ I1 ((En.ext E1).set ?_ i) q.2 ((k.go I1 E1).hand i);exact⟨a,[],by rw[← I.len,Nm (Nf _),Of];rfl,rfl⟩
@[reducible] def sJ(K:aC)(D:Value)(ea:DX)(env:aU)(st:ax)(Q:DC):Prop:=ea env st λx av=>match x with
 | .ref k=>match av[k]? with
  | some (.obj o)=>∃(C:Addr) (fs:tS) (b:Bool),o=DP C fs/\(KX K C/\PySem.W.hasDictIn K C=true)/\PySem.W.kitOne K (.ref C) D=some b/\Q (.dat (.bool b)) av
  | _=>False
 | _=>False
theorem yK{a:Expr}{ea:DX}{p p2:Pos}{T:Str}{D:Addr}(hg:Gl X "isinstance")(hm:X.mg "isinstance"=none)(yF:Gl X T)(yG:X.mg T=some (.ref D))(ha:aW X Y a ea)(hd:(T == ("__debug__" : Str))=false:=by decide)
  (h1:starEach [a,.Name T p2] X.env=(false,eval a X.env)::starEach [.Name T p2] X.env:=by rfl):aW X Y (.Call (.Name "isinstance" p) [a,.Name T p2] [] pos) (sJ X.K (.ref D) ea):=by
 obtain⟨t,p1,a1⟩:=ha.h;refine⟨_,eI lz hg hm er (pK p1 (pK (xt (v:=.ref D) yF yG rfl hd) pN rfl) h1) (by decide) (by decide) h1 rfl,λH0 A0 G al H st s env Q R I En q k=>a1 H0 A0 G al H st s env _ _ I En q λx av aM v H1 e1 I1 d1 q1=>?_⟩
 cases x with
 | dat d=>exact q1.elim
 | ref j =>
  dsimp only at q1;split at q1
  ·rename_i o hs;obtain⟨C,fs,bb,rfl,⟨g1,g2⟩,hl,q⟩:=q1;obtain⟨b,r,h1,rfl⟩:=d1;obtain⟨_,a',dd,e0,ha',hx⟩:=I1.cel j _ _ h1 hs;cases e0;exact⟨b,C,.ref D,.ref D,bb,_,rfl,ha',λh p=>qR h p,g1,g2,rfl,hl,(k.go I1 e1).here I1 (.d (.bl _)) q⟩
  ·exact q1.elim
theorem yL{a:Expr}{ea:DX}{p p2:Pos}{T:Str}{n:String}(hg:Gl X "isinstance")(hm:X.mg "isinstance"=none)(yF:Gl X T)(yG:X.mg T=none)(hb:bootBuiltins T=some (.type n))(ha:aW X Y a ea)(hn:T≠"__name__":=by decide)(hd:(T == ("__debug__" : Str))=false:=by decide)
  (h1:starEach [a,.Name T p2] X.env=(false,eval a X.env)::starEach [.Name T p2] X.env:=by rfl):aW X Y (.Call (.Name "isinstance" p) [a,.Name T p2] [] pos) (sJ X.K (.type n) ea):=by
 obtain⟨t,p1,a1⟩:=ha.h;refine⟨_,eI lz hg hm er (pK p1 (pK (qr (v:=.ty n) yF yG hb rfl hn hd) pN rfl) h1) (by decide) (by decide) h1 rfl,λH0 A0 G al H st s env Q R I En q k=>a1 H0 A0 G al H st s env _ _ I En q λx av aM v H1 e1 I1 d1 q1=>?_⟩
 cases x with
 | dat d=>exact q1.elim
 | ref j =>
  dsimp only at q1;split at q1
  ·rename_i o hs;obtain⟨C,fs,bb,rfl,⟨g1,g2⟩,hl,q⟩:=q1;obtain⟨b,r,h1,rfl⟩:=d1;obtain⟨_,a',dd,e0,ha',hx⟩:=I1.cel j _ _ h1 hs;cases e0;exact⟨b,C,.ty n,.type n,bb,_,rfl,ha',λh p=>qR h p,g1,g2,rfl,hl,(k.go I1 e1).here I1 (.d (.bl _)) q⟩
  ·exact q1.elim
def Fc(J:KF)(n:Nat)(d:hZ):TA:=λs H R=>∃(H0:Hp) (A0:Addr->Prop) (G:Addr->Prop) (al:List (List Addr)) (st:ax) (env:aU) (Q:List DV->ax->Prop),DI J H0 A0 G al H st/\gw J (Fb G al st) H al s env/\d env st Q/\Jk J H0 A0 G al H st (λl s=>l.length=n/\Q l s) R
def Fd(J:KF)(s:DS):TS:=λD σ H=>∃(H0:Hp) (A0:Addr->Prop) (G:Addr->Prop) (al:List (List Addr)) (st:ax) (env:aU) (DD:bD),DI J H0 A0 G al H st/\gw J (Fb G al st) H al σ env/\s DD env st/\mB J H0 A0 G al H st DD D
theorem mm.pa(h:mm X Y es nn d):PA X es (Fc (kf X Y) nn d):=by
 obtain⟨t,p1,a1⟩:=h.h;rintro w pins s σ H R I ⟨H0,A0,G,al,st,env,Q,h1,h2,h3,h4⟩;exact p1 w pins s σ H R I (a1 H0 A0 G al H st σ env Q R h1 h2 h3 h4)
theorem jo.Ld{ss:List Stmt}(h:jo X Y ss s):jk X ss (Fd (kf X Y) s):=by
 obtain⟨t,p1,a1⟩:=h.h;rintro pins s σ H D I ⟨H0,A0,G,al,st,env,DD,h1,h2,h3,h4⟩;exact p1 pins s σ H D I (a1 H0 A0 G al H st σ env DD D h1 h2 h3 h4)
theorem Fe(h:∀E,mm (X.fy E) Y es nn d):∃t,(∀E,PA (X.fy E) es t)/\AA (kf X Y) t nn d :=
 ⟨Fc (kf X Y) nn d,λE=>(h E).pa,λH0 A0 G al H st s env Q R h1 h2 h3 h4=>⟨H0,A0,G,al,st,env,Q,h1,h2,h3,h4⟩⟩
theorem Ff{ss:List Stmt}(h:∀a E,jo (X.hand a E) Y ss s):∃tb,(∀a E,jk (X.hand a E) ss tb)/\AS (kf X Y) tb s :=
 ⟨Fd (kf X Y) s,λa E=>(h a E).Ld,λH0 A0 G al H st σ env DD D h1 h2 h3 h4=>⟨H0,A0,G,al,st,env,DD,h1,h2,h3,h4⟩⟩
end
section
variable {X:Cx} {Y:YK} {a b c e:Expr} {es:List Expr} {pos p:Pos} {ea eb ec:DX} {K:aC} {J:KF} {n:Nat} {d:hZ}
theorem yM:ET J Bt lE:=λH0 A0 G al H st s env vs ds Q R I E h q k=>by
 unfold lE at q;split at q
 ·have:=h.1
  cases vs with
  | nil=>exact⟨rfl,k _ _ al _ H .refl I E q⟩
  | cons v r=>simp at this
 ·exact q.elim
@[reducible] def ie(xs:List DV)(st:ax)(Q:DC):Prop:=match xs with
 | [.dat (.int i),.dat (.int j)]=>(0 < j/\j < 1073741824)/\Q (.dat (.tuple [.int (i / j),.int (i % j)])) st
 | _=>False
theorem sL:AB J (λxs H Q=>∃i j,xs=[.int i,.int j]/\D9 i j/\∀p,H p=none->Q (.ref p) (upd H p (.tup [.int (i / j),.int (i % j)]))) ie:=λH0 A0 G al H st vs ds Q R I h q k=>by
 unfold ie at q;split at q
 ·obtain⟨v,u,rfl,h1,h2⟩:=vh h;rw[az.aP h1,az.aP h2];refine⟨_,_,rfl,q.1,λp hp=>?_⟩;exact k.laid I (dh hp) (.d (az.tup (I.Az hp) uS (.cons (.int _) (.cons (.int _) .nil)))) q.2
 ·exact q.elim
theorem fT(hg:Gl X "divmod")(hm:X.mg "divmod"=none)(ha:mm X Y (e::es) n d)(he:starEach (e::es) X.env=(false,eval e X.env)::starEach es X.env:=by rfl)(hpl:(backTo pos (starEach es X.env)).any (·.1)=false:=by rfl):aW X Y (.Call (.Name "divmod" p) (e::es) [] pos) (vi ie d):=jU nC sL hg hm (by rfl) ha (by decide) (by decide) he hpl
end
section
variable {X:Cx} {CX:nu} {k:Nat} {f C:Addr} {fd:FuncData} {ps:List Str} {sp:Sp} {dvs:List V} {ds:List Value} {E:XK}
end
def Hw(X:Cx)(cx n:Str)(np hpos:Pos)(b₀:Stmt)(suite:List Stmt)(pins:List (Addr×Obj))(D:Ends):Value->Shared->Prop:=λe s₁=>wpAny (model X.prog X.w) X.A (noteFrame e X.env) (λ_ s₂=>wpAny (model X.prog X.w) X.A (setFlight e none) (λ_ s₃=>wpAny (model X.prog X.w) X.A (handleBy e X.env [.ExceptHandler (some (.Name cx np)) (some n) (b₀::suite) hpos]) (SP X pins D) X.xe s₃) X.xe s₂) X.xe s₁
def Le(X:Cx)(cx n:Str)(np hpos:Pos)(b₀:Stmt)(suite:List Stmt)(body:List Stmt)(t:TS):Prop:=∀(pins:List (Addr×Obj)) (s:Shared) (σ:St) (H:Hp) (D:Ends),Inv X pins σ H s->t D σ H->wpAny (model X.prog X.w) X.A (execs body X.env) (SP X pins D) (Hw X cx n np hpos b₀ suite pins D) s
section
variable {X:Cx} {CW:Addr} {cx n:Str} {i:Nat} {b₀:Stmt} {suite:List Stmt} {np hpos pos:Pos} {tb:TS}
end
structure MJ(X:Cx)(Y:YK)(cx n:Str)(np hpos:Pos)(b₀:Stmt)(suite:List Stmt)(body:List Stmt)(s:DS):Prop where
 h:∃t,Le X cx n np hpos b₀ suite body t/\AS (kf X Y) t s
section
variable {X:Cx} {Y:YK} {CW:Addr} {cx n x:Str} {i:Nat} {b₀:Stmt} {suite:List Stmt} {np hpos pos:Pos} {s:DS} {nn:Nat} {d:hZ} {e:Expr} {es:List Expr}
end
abbrev mH(h:Heap)(z TI TO:Addr)(f0:Value)(b:Bool):Prop :=
 h.get? z=some {cls:=.type "zip",dict:=none,data:=.fields #[f0,.bool b,.bool false,.ref TI,.ref TO],slots:=#[]}
section
variable {prog:Program} {w:World} {A:Around} {E:Value->Shared->Prop} {s:Shared}
theorem jq{a:Addr}{Q:Option Obj->Shared->Prop}(h:Q (s.heap.get? a) s):wpAny (model prog w) A (loadIfAlive a) Q E s:=λ_ _ _=>h
theorem n8{z TI TO T:Addr}{bb:Bool}{oT:Obj}{Q:Bool->Shared->Prop}(hz:mH s.heap z TI TO (rawInt T) bb)(hT:s.heap.get? T=some oT)
  (h:∀h₁,mH h₁ z TI TO (rawInt T) true->h₁.objs.size=s.heap.objs.size->(∀c o,c≠z->s.heap.get? c=some o->h₁.get? c=some o)->Q false {s with heap:=h₁}) :
  wpAny (model prog w) A (Builtin.SmallTypes.ownedTupleIsFree (.ref z)) Q E s:=by
 unfold Builtin.SmallTypes.ownedTupleIsFree;refine wpAny_bind (wpAny_field hz rfl (x:=rawInt T) rfl ?_);show wpAny _ _ (loadIfAlive T >>= _) _ _ _;refine wpAny_bind (jq ?_);rw[hT];show wpAny _ _ (field (.ref z) 1 >>= _) _ _ _;refine wpAny_bind (wpAny_field hz rfl (x:=.bool bb) rfl ?_)
 cases bb with
 | true=>exact M9 (h s.heap hz rfl λc o _ e=>e)
 | false =>
  show wpAny _ _ (setField (.ref z) 1 (.bool true) >>= _) _ _ _;refine wpAny_bind (wpAny_setField_rec hz (by simp) λh₁ hz₁ hs₁=>wpAny_pure ?_);exact h h₁ hz₁ hs₁.1 λc o n e=>hs₁.extBut _ _ n e
theorem ka{z TI TO i1 i2 l1 l2 T:Addr}{bb:Bool}{oT:Obj}{k1 k2:Nat}{xs ys:Array Value}{x y:Value}{Q:Value->Shared->Prop}(D:ZipApart z TI TO i1 i2 l1 l2)
  (hz:mH s.heap z TI TO (rawInt T) bb) (hTI:IsPair s.heap TI (.ref i1) (.ref i2)) (hT:s.heap.get? T=some oT)
  (h1:s.heap.IsListIter i1 l1 k1) (h2:s.heap.IsListIter i2 l2 k2) (mf:s.heap.IsList l1 xs) (pG:s.heap.IsList l2 ys) (hx:xs[k1]?=some x) (hy:ys[k2]?=some y)
  (hQ:∀h',mH h' z TI TO (rawInt T) true->h'.IsListIter i1 l1 (k1 + 1)->h'.IsListIter i2 l2 (k2 + 1)->IsPair h' s.heap.objs.size x y->h'.objs.size=s.heap.objs.size + 1 ->
   (∀c o,c≠z->c≠i1->c≠i2->s.heap.get? c=some o->h'.get? c=some o)->Q (.ref s.heap.objs.size) {s with heap:=h'}) :
  wpAny (model prog w) A (Builtin.«zip.__next__» ⟨[.ref z],[]⟩) (λfin s'=>∃v,fin=.done (.ret v)/\Q v s') E s:=by
 show wpAny _ _ (field (.ref z) 2 >>= _) _ _ _;refine wpAny_bind (wpAny_field hz rfl (x:=.bool false) rfl ?_);show wpAny _ _ (field (.ref z) 3 >>= _) _ _ _;refine wpAny_bind (wpAny_field hz rfl (x:=.ref TI) rfl ?_);refine wpAny_bind (wpAny_seqItems hTI rfl ?_);show wpAny _ _ (Builtin.SmallTypes.ownedTupleIsFree (.ref z) >>= _) _ _ _;refine wpAny_bind (n8 hz hT λh₁ hz₁ z₁ k₁=>?_);simp only[Bool.false_eq_true,if_false];refine wpAny_bind ?_;simp only[← Array.forIn_toList,List.forIn_cons,List.forIn_nil];have h1₁:h₁.IsListIter i1 l1 k1:=h1.at λo e=>k₁ _ o D.i1z e
 have h2₁:h₁.IsListIter i2 l2 k2:=h2.at λo e=>k₁ _ o D.i2z e
 refine M7 (M7 (Ot ?_));show wpAny _ _ (Builtin.SmallTypes.nextOf (.ref i1) >>= _) _ _ _;have hl1₁:h₁.IsList l1 xs:=mf.at λo e=>k₁ _ o D.l1z e
 have hl2₁:h₁.IsList l2 ys:=pG.at λo e=>k₁ _ o D.l2z e
 refine M7 (N9 h1₁ hl1₁ hx λh₂ h1₂ hs₂=>M9 ?_);refine M9 ?_;show wpAny _ _ ((holding [x] (Builtin.SmallTypes.nextOf (.ref i2) >>= λv=>pure (some v)) >>= _) >>= _) _ _ _;refine M7 (M7 (Ot ?_));refine M7 (N9 (h2₁.extBut hs₂.extBut D.i12.symm) (hl2₁.extBut hs₂.extBut D.l2i1) hy λh₃ h2₃ hs₃=>M9 ?_);refine M9 ?_;refine M9 ?_;show wpAny _ _ (newTuple [x,y] >>= _) _ _ _;refine M7 (wpAny_newTuple ?_);have sz:h₃.objs.size=s.heap.objs.size:=by rw[hs₃.1,hs₂.1,z₁]
 have zl:z < h₃.objs.size:=by rw[sz,← z₁];exact M5 hz₁
 refine M9 ⟨_,rfl,?_⟩;show Q (.ref h₃.objs.size) _;have up:∀c o,h₃.get? c=some o->(h₃.push {cls:=.type "tuple",data:=.seq #[x,y]}).get? c=some o:=λc o e=>M4 _ e
 have hT:=Ng h₃ (o:={cls:=.type "tuple",data:=.seq #[x,y]}) rfl;rw[sz]at hT ⊢;refine hQ _ (up _ _ (hs₃.extBut _ _ D.i2z.symm (hs₂.extBut _ _ D.i1z.symm hz₁))) ((h1₂.extBut hs₃.extBut D.i12).at λo e=>up _ o e) (h2₃.at λo e=>up _ o e) hT (by rw[OS,sz]) λc o c1 c2 c3 e=>up c o (hs₃.extBut _ _ c3 (hs₂.extBut _ _ c2 (k₁ c o c1 e)))
theorem kK{z TI TO i1 i2 l1 l2 T:Addr}{bb:Bool}{oT:Obj}{k1 k2:Nat}{xs ys:Array Value}{Q:Fin->Shared->Prop}(hh:A.handled=none)(D:ZipApart z TI TO i1 i2 l1 l2)
  (hz:mH s.heap z TI TO (rawInt T) bb) (hTI:IsPair s.heap TI (.ref i1) (.ref i2)) (hT:s.heap.get? T=some oT)
  (h1:s.heap.IsListIter i1 l1 k1) (mf:s.heap.IsList l1 xs) (hx:xs[k1]?=none)
  (hE:∀h' e,(∀c o,c≠z->c≠i1->s.heap.get? c=some o->h'.get? c=some o)->(∃o,h'.get? e=some o/\o.cls=.type "StopIteration")->E (.ref e) {s with heap:=h'}) :
  wpAny (model prog w) A (Builtin.«zip.__next__» ⟨[.ref z],[]⟩) Q E s:=by
 show wpAny _ _ (field (.ref z) 2 >>= _) _ _ _;refine wpAny_bind (wpAny_field hz rfl (x:=.bool false) rfl ?_);show wpAny _ _ (field (.ref z) 3 >>= _) _ _ _;refine wpAny_bind (wpAny_field hz rfl (x:=.ref TI) rfl ?_);refine wpAny_bind (wpAny_seqItems hTI rfl ?_);show wpAny _ _ (Builtin.SmallTypes.ownedTupleIsFree (.ref z) >>= _) _ _ _;refine wpAny_bind (n8 hz hT λh₁ hz₁ z₁ k₁=>?_);simp only[Bool.false_eq_true,if_false];refine wpAny_bind ?_;simp only[← Array.forIn_toList,List.forIn_cons,List.forIn_nil];refine wpAny_bind (wpAny_bind (wpAny_holding ?_));show wpAny _ _ (Builtin.SmallTypes.nextOf (.ref i1) >>= _) _ _ _;refine wpAny_bind (wpAny_nextOf_list_end hh (h1.at λo e=>k₁ _ o D.i1z e) (mf.at λo e=>k₁ _ o D.l1z e) hx λh₂ e hs₂ he=>?_);exact hE h₂ e (λc o c1 c2 x=>hs₂ _ _ c2 (k₁ c o c1 x)) he
theorem pS{z TI TO i1 i2 l1 l2 T:Addr}{bb:Bool}{oT:Obj}{k1 k2:Nat}{xs ys:Array Value}{x y:Value}{Q:Option Value->Shared->Prop}(D:ZipApart z TI TO i1 i2 l1 l2)
  (hz:mH s.heap z TI TO (rawInt T) bb) (hTI:IsPair s.heap TI (.ref i1) (.ref i2)) (hT:s.heap.get? T=some oT)
  (h1:s.heap.IsListIter i1 l1 k1) (h2:s.heap.IsListIter i2 l2 k2) (mf:s.heap.IsList l1 xs) (pG:s.heap.IsList l2 ys) (hx:xs[k1]?=some x) (hy:ys[k2]?=some y)
  (hQ:∀h',mH h' z TI TO (rawInt T) true->h'.IsListIter i1 l1 (k1 + 1)->h'.IsListIter i2 l2 (k2 + 1)->IsPair h' s.heap.objs.size x y->h'.objs.size=s.heap.objs.size + 1 ->
   (∀c o,c≠z->c≠i1->c≠i2->s.heap.get? c=some o->h'.get? c=some o)->Q (some (.ref s.heap.objs.size)) {s with heap:=h'}) :
  wpAny (model prog w) A (pyNext (.ref z)) Q E s:=by
 have hT':s.TypeIs (.ref z) "zip":=⟨_,hz,rfl⟩;unfold pyNext;exact wpAny_bind (wpAny_attempt (wpAny_callSpecial?_slot (name:=Str.ofString "__next__") hT' F.slot_zip_next
  (OG F.slot_zip_next hT' F.entry_zip_next
   (ka D hz hTI hT h1 h2 mf pG hx hy λh' a1 a2 a3 a4 a5 a6=>M9 (hQ h' a1 a2 a3 a4 a5 a6)) (F.args_zip_next_1 _))))
theorem kb{z TI TO i1 i2 l1 l2 T:Addr}{bb:Bool}{oT:Obj}{k1 k2:Nat}{xs ys:Array Value}{Q:Option Value->Shared->Prop}(hh:A.handled=none)(D:ZipApart z TI TO i1 i2 l1 l2)
  (hz:mH s.heap z TI TO (rawInt T) bb) (hTI:IsPair s.heap TI (.ref i1) (.ref i2)) (hT:s.heap.get? T=some oT)
  (h1:s.heap.IsListIter i1 l1 k1) (mf:s.heap.IsList l1 xs) (hx:xs[k1]?=none)
  (hQ:∀h',(∀c o,c≠z->c≠i1->s.heap.get? c=some o->h'.get? c=some o)->Q none {s with heap:=h'}):wpAny (model prog w) A (pyNext (.ref z)) Q E s:=by
 have hT':s.TypeIs (.ref z) "zip":=⟨_,hz,rfl⟩;unfold pyNext;refine wpAny_bind (wpAny_attempt (wpAny_callSpecial?_slot (name:=Str.ofString "__next__") hT' F.slot_zip_next
  (OG F.slot_zip_next hT' F.entry_zip_next (kK (k2:=k2) (ys:=ys) hh D hz hTI hT h1 mf hx λh' e hk he=>?_) (F.args_zip_next_1 _))))
 obtain⟨o,ho,hc⟩:=he;refine M7 (wpAny_isInstance (T:="StopIteration") (b:=true) ⟨o,ho,hc⟩ isSubtype_stop ?_);exact M9 (hQ _ hk)
end
namespace FD
theorem fk:entryFor table "dict.update.loop"=some Builtin.«dict.update.loop»:=entryFor_of_tree (by kernel_rfl)
theorem bP:plainId "dict.update.loop"=true:=by decide +kernel
end FD
structure yN(d z TI TO i1 i2 l1 l2:Addr)(xs ys:Array Value)(i:Nat)(h:Heap):Prop where
 zip:(IsZip h z TI TO .none/\∃a b,IsPair h TO a b)∨∃(T:Addr) (bb:Bool) (oT:Obj),mH h z TI TO (rawInt T) bb/\h.get? T=some oT/\T≠z/\T≠i1/\T≠i2/\T≠d
 ti:IsPair h TI (.ref i1) (.ref i2)
 i1:h.IsListIter i1 l1 i
 i2:h.IsListIter i2 l2 i
 l1:h.IsList l1 xs
 l2:h.IsList l2 ys
section
variable {prog:Program} {w:World} {K:Type} [DecidableEq K] {knd:KeyKind prog w K} {A:Around} {E:Value->Shared->Prop} {s:Shared} {R:Result->Shared->Prop}
variable {d z TI TO i1 i2 l1 l2:Addr} {xs ys:Array Value}
theorem yN.next{i:Nat}{x y:Value}{Q:Option Value->Shared->Prop}(D:ZipApart z TI TO i1 i2 l1 l2)(nd:d≠z/\d≠TI/\d≠TO/\d≠i1/\d≠i2/\d≠l1/\d≠l2)(Z:yN d z TI TO i1 i2 l1 l2 xs ys i s.heap)(hd:d < s.heap.objs.size)(hx:xs[i]?=some x)(hy:ys[i]?=some y)
  (hQ:∀h',yN d z TI TO i1 i2 l1 l2 xs ys (i + 1) h'->IsPair h' s.heap.objs.size x y->(∀c o,c≠z->c≠TO->c≠i1->c≠i2->s.heap.get? c=some o->h'.get? c=some o)->Q (some (.ref s.heap.objs.size)) {s with heap:=h'}) :
  wpAny (model prog w) A (pyNext (.ref z)) Q E s:=by
 rcases Z.zip with⟨hz,a,b,hTO⟩ | ⟨T,bb,oT,hz,hT,t1,t2,t3,t4⟩
 ·refine wpAny_pyNext_zip_item D hz Z.ti hTO Z.i1 Z.i2 Z.l1 Z.l2 hx hy λh' a1 a2 a3 a4 a5 a6 a7=>hQ h' ⟨.inr ⟨_,false,_,a1,a5,?_,?_,?_,?_⟩,a7 _ _ D.TIz D.TITO D.TIi1 D.TIi2 Z.ti,a3,a4,Z.l1.at λo e=>a7 _ o D.l1z D.l1TO D.l1i1 D.l1i2 e,Z.l2.at λo e=>a7 _ o D.l2z D.l2TO D.l2i1 D.l2i2 e⟩ a5 a7
  ·exact Nw (M5 hz)
  ·exact Nw (by obtain⟨_,e,_⟩:=Z.i1;exact M5 e)
  ·exact Nw (by obtain⟨_,e,_⟩:=Z.i2;exact M5 e)
  ·exact Nw hd
 ·refine pS D hz Z.ti hT Z.i1 Z.i2 Z.l1 Z.l2 hx hy λh' a1 a3 a4 a5 a6 a7=>hQ h' ⟨.inr ⟨T,true,oT,a1,a7 _ _ t1 t2 t3 hT,t1,t2,t3,t4⟩,a7 _ _ D.TIz D.TIi1 D.TIi2 Z.ti,a3,a4,Z.l1.at λo e=>a7 _ o D.l1z D.l1i1 D.l1i2 e,Z.l2.at λo e=>a7 _ o D.l2z D.l2i1 D.l2i2 e⟩ a5 λc o c1 _ c3 c4 e=>a7 c o c1 c3 c4 e
theorem yN.done{i:Nat}{Q:Option Value->Shared->Prop}(hh:A.handled=none)(D:ZipApart z TI TO i1 i2 l1 l2)(Z:yN d z TI TO i1 i2 l1 l2 xs ys i s.heap)(hx:xs[i]?=none)
  (hQ:∀h',(∀c o,c≠z->c≠TO->c≠i1->c≠i2->s.heap.get? c=some o->h'.get? c=some o)->Q none {s with heap:=h'}) :
  wpAny (model prog w) A (pyNext (.ref z)) Q E s:=by
 rcases Z.zip with⟨hz,a,b,hTO⟩ | ⟨T,bb,oT,hz,hT,t1,t2,t3,t4⟩
 ·exact wpAny_pyNext_zip_end hh D hz Z.ti hTO Z.i1 Z.i2 Z.l1 Z.l2 (.inl hx) hQ
 ·exact kb (k2:=i) (ys:=ys) hh D hz Z.ti hT Z.i1 Z.l1 hx λh' k=>hQ h' λc o c1 _ c3 _ e=>k c o c1 c3 e
theorem yN.keep{i:Nat}{h h':Heap}(D:ZipApart z TI TO i1 i2 l1 l2)(nd:d≠z/\d≠TI/\d≠TO/\d≠i1/\d≠i2/\d≠l1/\d≠l2)(Z:yN d z TI TO i1 i2 l1 l2 xs ys i h)(k:∀c o,c≠d->h.get? c=some o->h'.get? c=some o):yN d z TI TO i1 i2 l1 l2 xs ys i h':=by
 obtain⟨n1,n2,n3,n4,n5,n6,n7⟩:=nd;refine⟨?_,k _ _ n2.symm Z.ti,Z.i1.at λo e=>k _ o n4.symm e,Z.i2.at λo e=>k _ o n5.symm e,Z.l1.at λo e=>k _ o n6.symm e,Z.l2.at λo e=>k _ o n7.symm e⟩;rcases Z.zip with⟨hz,a,b,hTO⟩ | ⟨T,bb,oT,hz,hT,t1,t2,t3,t4⟩
 ·exact .inl ⟨k _ _ n1.symm hz,a,b,k _ _ n3.symm hTO⟩
 ·exact .inr ⟨T,bb,oT,k _ _ n1.symm hz,k _ _ t4 hT,t1,t2,t3,t4⟩
theorem sM(hh:A.handled=none)(D:ZipApart z TI TO i1 i2 l1 l2)(nd:d≠z/\d≠TI/\d≠TO/\d≠i1/\d≠i2/\d≠l1/\d≠l2){kvs:List (K×Value)}(hn:(kvs.map (·.1)).Nodup)(hxs:xs.size=kvs.length)(hys:ys.size=kvs.length)
  (hkv:∀(i:Nat) kv,kvs[i]?=some kv->∃x,xs[i]?=some x/\knd.is kv.1 x=true/\ys[i]?=some kv.2) (hz:kvs.length<=1000) :
  ∀(k i:Nat) (t:Tok) (s:Shared),kvs.length - i=k->i<=kvs.length->yN d z TI TO i1 i2 l1 l2 xs ys i s.heap->s.heap.DictOf knd d (kvs.take i) ->
   (∀h' tk,h'.DictOf knd d kvs->(∀c o,c≠z->c≠TO->c≠i1->c≠i2->c≠d->s.heap.get? c=some o->h'.get? c=some o)->R (.ok (.ret .none)) {s with heap:=h',toks:=tk}) ->
   codeAny (model prog w) A (.builtin "dict.update.loop" ⟨[.ref d,.ref z,.int i t,.none],[]⟩) R s:=by
 intro k
 induction k with
 | zero =>
  intro i t s hk hi Z hD hR;have hin:i=kvs.length:=by omega
  subst hin;refine codeAny_builtin FD.fk ?_;rw[Around.under_plainId FD.bP _];show wpAny _ A.in1 (pyNext (.ref z) >>= _) _ _ s;refine wpAny_bind (Z.done (by simp[hh]) D (Array.getElem?_eq_none (by omega)) λh' k=>?_);show wpAny _ A.in1 (Builtin.Dict.addKeywords d [] >>= λ_=>ret Value.none) _ _ _;rw[List.take_length]at hD;refine wpAny_bind (wpAny_pure (wpAny_pure (hR h' s.toks ?_ λc o c1 c2 c3 c4 _ e=>k c o c1 c2 c3 c4 e)));obtain⟨o,es,ep,ho,rest⟩:=hD;exact⟨o,es,ep,k _ _ nd.1 nd.2.2.1 nd.2.2.2.1 nd.2.2.2.2.1 ho,rest⟩
 | succ k ih =>
  intro i t s hk hi Z hD hR;have hlt:i < kvs.length:=by omega
  have hkvi:kvs[i]?=some kvs[i]:=gR hlt;obtain⟨x,hx,hkey,hy⟩:=hkv i _ hkvi;generalize kvs[i]=kv at hkvi hkey hy;have hdl:d < s.heap.objs.size:=by obtain⟨o,es,ep,ho,rest⟩:=hD;exact M5 ho
  refine codeAny_builtin FD.fk ?_;rw[Around.under_plainId FD.bP _];show wpAny _ A.in1 (pyNext (.ref z) >>= _) _ _ s;refine M7 (Z.next D nd hdl hx hy λh' Z' hP k1=>?_)
  have hD':h'.DictOf knd d (kvs.take i):=by
   obtain⟨o,es,ep,ho,rest⟩:=hD;exact⟨o,es,ep,k1 _ _ nd.1 nd.2.2.1 nd.2.2.2.1 nd.2.2.2.2.1 ho,rest⟩
  refine wpAny_bind (wpAny_holding ?_);refine wpAny_bind (wpAny_tryCatch ?_);show wpAny _ _ (Builtin.Dict.pairItems (.ref s.heap.objs.size)) _ _ _;unfold Builtin.Dict.pairItems;refine wpAny_bind (wpAny_typeOf (T:="tuple") ⟨_,hP,rfl⟩ ?_);show wpAny _ _ (seqItems? (.ref s.heap.objs.size) >>= _) _ _ _;refine wpAny_bind (wpAny_seqItems hP rfl (wpAny_pure ?_));show wpAny _ _ (holding [x,kv.2] (dictSet d x kv.2)) _ _ _;refine wpAny_holding ?_;unfold dictSet;refine wpAny_holding (wpAny_bind (knd.pyHash (k:=kv.1) hkey ?_));have hlen:(kvs.take i).length<=sizeLine:=by rw[List.length_take,sizeLine_eq];omega
  refine wpAny_dictSetHashed_pairs (s:={s with heap:=h',toks:=s.toks + 1}) hkey hD' (λh2 Jt tO=>?_) hlen
  have hst:stored (kvs.take i) kv.1 kv.2=kvs.take (i + 1):=by
   have hm:=merged_take_succ ([]:List (K×Value)) kvs i kv hkvi;have Ju:∀j,((kvs.take j).map (·.1)).Nodup:=λj=>by rw[List.map_take];exact(List.take_sublist _ _).nodup hn
   rw[merged_nil_of_nodup _ (Ju i),merged_nil_of_nodup _ (Ju (i + 1))]at hm;exact hm.symm
  rw[hst]at Jt;refine M9 ⟨plainId_quiet FD.bP _,?_⟩;have k2:∀c o,c≠d->h'.get? c=some o->h2.get? c=some o:=λc o n e=>tO.extBut _ _ n e
  refine ih (i + 1) 0 {s with heap:=h2,toks:=s.toks + 1} (by omega) hlt (Z'.keep D nd k2) Jt λh3 tk Lf k3=>hR h3 tk Lf λc o c1 c2 c3 c4 c5 e=>k3 c o c1 c2 c3 c4 c5 (k2 c o c5 (k1 c o c1 c2 c3 c4 e))
end
namespace FD
theorem kc:typeLookup (.type "zip") "__getattr__"=pure none:=by rw[typeLookup_type,OU];kernel_rfl
theorem n9:typeLookup (.type "zip") "keys"=pure none:=by rw[typeLookup_type,OU];kernel_rfl
theorem mI:entryFor table "zip.__getattribute__"=some Builtin.«object.__getattribute__»:=entryFor_alias (id':="object.__getattribute__") (by kernel_rfl) (by decide +kernel) (by decide +kernel) (by kernel_rfl)
end FD
set_option maxHeartbeats 4000000 in
theorem ke(a:Addr)(fs:Array Value)(sl:Array (Option Value))(u:Tok):
  Meets (Builtin.«object.__getattribute__» ⟨[.ref a,.str "keys" u],[]⟩) (λA R s=>s.heap.get? a=some {cls:=.type "zip",dict:=none,data:=.fields fs,slots:=sl}/\raisesAttr (.ref a) "keys" A R s) :=
 Meets.of_wp λprog w A R s hs=>by
  have hmiss:=FD.n9;have hname:(["__module__","__name__","__qualname__","__doc__","__annotations__"]:List Str).contains "keys"=false:=by decide +kernel
  obtain⟨hp,g,d,tk,os⟩:=s;obtain⟨hx,hs⟩:=hs;have hT:(⟨hp,g,d,tk,os⟩:Shared).TypeIs (.ref a) "zip":=⟨_,hx,rfl⟩;unfold Builtin.«object.__getattribute__»;repeat (any_goals (first | assumption | wp_step))
  try simp only[hname,Bool.false_eq_true,if_false]
  repeat (any_goals (first | assumption | wp_step))
  exact wpAny_raiseAttrError hs.1 hs.2 (attrMsg_fits (by decide +kernel) (by decide))
set_option maxHeartbeats 4000000 in
theorem vB{prog:Program}{w:World}{A:Around}{E:Value->Shared->Prop}{s:Shared}{a:Addr}{fs:Array Value}{sl:Array (Option Value)}{Q:Option Value->Shared->Prop}(hx:s.heap.get? a=some {cls:=.type "zip",dict:=none,data:=.fields fs,slots:=sl})(hA:A.handled=none)
  (h:∀h' tk,(∀b ob,s.heap.get? b=some ob->h'.get? b=some ob)->Q none {s with heap:=h',toks:=tk}):wpAny (model prog w) A (getAttr? (.ref a) "keys") Q E s:=by
 obtain⟨hp,g,d,tk,os⟩:=s;have hT:∀tk',(⟨hp,g,d,tk',os⟩:Shared).TypeIs (.ref a) "zip":=λ_=>⟨_,hx,rfl⟩
 have f1:=sub_AttributeError;have f3:=F.slot_zip_getattribute.lookup;have f4:=F.slot_zip_getattribute.bind (.ref a);have f5:=FD.kc;unfold getAttr? getAttrBy? getAttrBy
 repeat (any_goals (first | assumption | exact hT _ | ((with_reducible show wpAny _ _ (call (Value.builtin "zip.__getattribute__") _ _) _ _ _);refine call_meets F.slot_zip_getattribute (hT _) FD.mI (F.args_zip_getattribute_2 _ _) (ke a fs sl _) ⟨hx,hA,λh' tk' e hx'=>?_⟩) | wp_step))
 obtain⟨t',u',he⟩:=hx'.there;have kp:=hx'.keeps;show wpAny _ _ (getattributeRaised _ _ _ _ _ _ _) _ _ _;unfold getattributeRaised
 repeat (any_goals (first | assumption | wp_step))
 exact h _ _ kp
section
variable {prog:Program} {w:World} {K:Type} [DecidableEq K] {knd:KeyKind prog w K} {A:Around} {E:Value->Shared->Prop} {s:Shared} {z TI TO i1 i2 l1 l2:Addr} {xs ys:Array Value}
theorem kL{a b:Value}{kvs:List (K×Value)}{Q:Value->Shared->Prop}(hh:A.handled=none)(D:ZipApart z TI TO i1 i2 l1 l2)(hz:IsZip s.heap z TI TO .none)(hTI:IsPair s.heap TI (.ref i1) (.ref i2))(hTO:IsPair s.heap TO a b)
  (h1:s.heap.IsListIter i1 l1 0) (h2:s.heap.IsListIter i2 l2 0) (mf:s.heap.IsList l1 xs) (pG:s.heap.IsList l2 ys) (hn:(kvs.map (·.1)).Nodup) (hxs:xs.size=kvs.length) (hys:ys.size=kvs.length)
  (hkv:∀(i:Nat) kv,kvs[i]?=some kv->∃x,xs[i]?=some x/\knd.is kv.1 x=true/\ys[i]?=some kv.2) (hsz:kvs.length<=1000)
  (h:∀h' tk,h'.DictOf knd s.heap.objs.size kvs->(∀c o,c≠z->c≠TO->c≠i1->c≠i2->s.heap.get? c=some o->h'.get? c=some o)->Q (.ref s.heap.objs.size) {s with heap:=h',toks:=tk}) :
  wpAny (model prog w) A (call (.type "dict") [.ref z]) Q E s:=by
 refine callType_codes (Q₁:=λobj s₁=>obj=.ref s.heap.objs.size/\s₁={s with heap:=s.heap.push {cls:=.type "dict",data:=.dict #[]}}) F.kt_called_dict (F.kt_typeCall_dict_1 _) F.entry_dict_init (kt_code_dict_new _ ⟨rfl,rfl⟩) ?_;rintro obj s₁ ⟨rfl,rfl⟩;have up:∀c o,s.heap.get? c=some o->(s.heap.push {cls:=.type "dict",data:=.dict #[]}).get? c=some o:=λc o e=>M4 _ e
 have hnew:(s.heap.push {cls:=.type "dict",data:=.dict #[]}).DictOf knd s.heap.objs.size []:=Heap.DictOf.new s.heap;have ne:∀c o,s.heap.get? c=some o->s.heap.objs.size≠c:=λc o e=>Nw (M5 e)
 have nd:s.heap.objs.size≠z/\s.heap.objs.size≠TI/\s.heap.objs.size≠TO/\s.heap.objs.size≠i1/\s.heap.objs.size≠i2/\s.heap.objs.size≠l1/\s.heap.objs.size≠l2 :=
  ⟨ne _ _ hz,ne _ _ hTI,ne _ _ hTO,(by obtain⟨_,e,_⟩:=h1;exact ne _ _ e),(by obtain⟨_,e,_⟩:=h2;exact ne _ _ e),(by obtain⟨_,e,_⟩:=mf;exact ne _ _ e),(by obtain⟨_,e,_⟩:=pG;exact ne _ _ e)⟩
 refine⟨hnew.typeIs,F.args_dict_init_2 _ _,?_⟩;unfold Builtin.«dict.__init__»;refine wpAny_bind ?_;unfold Builtin.Dict.selfAndRest;refine wpAny_bind (wpAny_notOrdered_dict hnew.typeIs ?_);show wpAny _ _ (pure (s.heap.objs.size,[Value.ref z])) _ _ _;refine wpAny_pure ?_;show wpAny _ _ (Builtin.Dict.updateFrom "dict.__init__" s.heap.objs.size (.ref z) [] .none) _ _ _;unfold Builtin.Dict.updateFrom;refine wpAny_bind (wpAny_typeOf (T:="zip") ⟨_,up _ _ hz,rfl⟩ ?_);rw[if_pos (by decide)];refine wpAny_bind (vB (up _ _ hz) (by simp[hh]) λh1' MK k1=>?_);show wpAny _ _ (rule _ >>= _) _ _ _;refine wpAny_bind (wpAny_rule ?_);refine wpAny_bind (wpAny_pyIter_zip (k1 _ _ (up _ _ hz)) ?_);refine wpAny_pure ⟨plainId_quiet FD.bP _,?_⟩;refine sM (knd:=knd) (by simp[hh]) D nd hn hxs hys hkv hsz kvs.length 0 0 _ (by omega) (Nat.zero_le _) ⟨.inl ⟨k1 _ _ (up _ _ hz),a,b,k1 _ _ (up _ _ hTO)⟩,k1 _ _ (up _ _ hTI),h1.at λo e=>k1 _ o (up _ _ e),h2.at λo e=>k1 _ o (up _ _ e),mf.at λo e=>k1 _ o (up _ _ e),pG.at λo e=>k1 _ o (up _ _ e)⟩ ?_ ?_
 ·obtain⟨o,es,ep,ho,rest⟩:=hnew;exact⟨o,es,ep,k1 _ _ ho,rest⟩
 ·intro h' tk hD kk;exact⟨rfl,h h' tk hD λc o c1 c2 c3 c4 e=>kk c o c1 c2 c3 c4 (ne _ _ e).symm (k1 _ _ (up _ _ e))⟩
end
section
variable {X:Cx} {a b:Expr} {ta:TA} {p p2 pos zpos:Pos}
def Cs(K:aC)(ta:TA):TE:=λσ H Q=>ta σ H λvs H1=>∃(l1 l2:Addr) (ks:List Str) (ys:List V),vs=[.ref l1,.ref l2]/\cy K H1 l1 (ks.map V.str)/\cy K H1 l2 ys/\ks.Nodup/\ys.length=ks.length/\ks.length<=1000/\∀d,H1 d=none->Q (.ref d) (upd H1 d (.dK ((ks.zip ys).map λp=>(Sum.inr p.1,p.2))))
theorem vC(hgd:Gl X "dict")(hmd:X.mg "dict"=none)(hgz:Gl X "zip")(hmz:X.mg "zip"=none)(hc:X.calm=true)(ha:PA X [a,b] ta)(hs:starEach [a,b] X.env=[(false,eval a X.env),(false,eval b X.env)]:=by rfl)(tO:starEach [b] X.env=[(false,eval b X.env)]:=by rfl)
  (uz:starEach [.Call (.Name "zip" p2) [a,b] [] zpos] X.env=[(false,eval (.Call (.Name "zip" p2) [a,b] [] zpos) X.env)]:=by rfl) :
  PE X (.Call (.Name "dict" p) [.Call (.Name "zip" p2) [a,b] [] zpos] [] pos) (Cs X.K ta):=by
 intro pins s σ H Q I h;refine Call_ (gp I hgd hmd xO (NB ?_ (by rw[uz];rfl) rfl));rw[uz];refine Calls.spliced_cons ?_;refine Call_ (gp I hgz hmz uu (NB (bA (ha zpos pins s σ H _ I h) λus s1 ⟨vs,H1,I1,r1,q1⟩=>?_) (by rw[hs,tO]) (by rw[tO];rfl)));obtain⟨l1,l2,ks,ys,rfl,s1',s2',nd,hl,Fg,q⟩:=q1;obtain⟨u1,u2,rfl,Hk,Hl⟩:=vals2 r1;cases Hk;cases Hl;obtain⟨Jn,r1,p1,_⟩:=I1.list s1';obtain⟨AL,r2,p2',_⟩:=I1.list s2';refine call_zip_2 p1.isList p2'.isList λh' hz hTI hTO h1 h2 hsz kk=>?_
 refine Calls.spliced_nil ?_;have lu:Jn.length=ks.length:=by rw[← r1.length,M8]
 have lv:AL.length=ks.length:=by rw[← r2.length,hl]
 have n1:=p1.lt;have n2:=p2'.lt;have ez:(ks.zip AL).length=ks.length:=by rw[O9];omega
 refine kL (knd:=gX X.prog X.w) (kvs:=(ks.zip AL).map λp=>(Sum.inr p.1,p.2)) (show X.A.handled=none from I1.ok.hd hc) ⟨?_,?_,?_,?_,?_,?_,?_,?_,?_,?_,?_,?_,?_,?_,?_,?_,?_,?_⟩ hz hTI hTO h1 h2 (p1.isList.at λo e=>kk _ o e) (p2'.isList.at λo e=>kk _ o e) ?_ ?_ ?_ ?_ ?_ ?_
 all_goals first | exact Na (N2 (by decide) _) | exact Nw (N2 (by decide) _) | exact Na (NT (by decide)) | exact Nw (NT (by decide)) | exact Na (M6 n1 (NF _ _)) | exact Na (M6 n2 (NF _ _)) | exact Na n1 | exact Na n2 | skip
 ·have e:((ks.zip AL).map λp=>((Sum.inr p.1:Key),p.2)).map (·.1)=ks.map Sum.inr:=by
   rw[OY,show((λx:Key×Value=>x.1) ∘ λp:Str×Value=>(Sum.inr p.1,p.2))=Sum.inr ∘ Prod.fst from rfl,← OY,List.map_fst_zip (by omega)]
  rw[e];exact List.Pairwise.map _ (λa b h z=>h (Sum.inr.inj z)) nd
 ·rw[List.length_map,ez];simpa using lu
 ·rw[List.length_map,ez];simpa using lv
 ·intro i kv hi;rw[Nk]at hi
  cases hzp:(ks.zip AL)[i]? with
  | none=>rw[hzp]at hi;cases hi
  | some pr =>
   rw[hzp]at hi;cases hi;obtain⟨g1,g2⟩:=List.getElem?_zip_eq_some.mp hzp;obtain⟨u,hu,ru⟩:=r1.get (i:=i) (x:=.str pr.1) (by rw[List.getElem?_map,g1];rfl);obtain⟨t,rfl⟩:=ru;exact⟨_,by simpa using hu,i5 _ _ _ _,by simpa using g2⟩
 ·rw[M8,ez];exact Fg
 intro h'' tk hD kp
 have kp':∀c o,s1.heap.get? c=some o->h''.get? c=some o:=λc o e=>by
  have hc:=M5 e;have ne:∀k,c≠s1.heap.objs.size + k:=λk=>Na (M6 hc (NF _ _))
  exact kp c o (ne 4) (ne 3) (ne 0) (ne 1) (kk c o e)
 have hD':h''.DictOf (gX X.prog X.w) (s1.heap.objs.size + 5) ((ks.zip AL).map λp=>(Sum.inr p.1,p.2)):=by
  have e:h'.objs.size=s1.heap.objs.size + 5:=hsz;rw[← e];exact hD
 have hkv:∀(ks:List Str) (ys:List V) (us:List Value),Vals ys us->KV ((ks.zip ys).map λp=>((Sum.inr p.1:Key),p.2)) ((ks.zip us).map λp=>((Sum.inr p.1:Key),p.2)):=by
  intro ks
  induction ks with
  | nil=>intro ys us _;exact .nil
  | cons k r ih =>
   intro ys us hv
   cases hv with
   | nil=>exact .nil
   | cons h t=>exact .cons ⟨rfl,h⟩ (ih _ _ t)
 have hnew:cM X.prog X.w (upd H1 (s1.heap.objs.size + 5) (.dK ((ks.zip ys).map λp=>(Sum.inr p.1,p.2)))) h'' (s1.heap.objs.size + 5) (.dK ((ks.zip ys).map λp=>(Sum.inr p.1,p.2))):=by
  show((ks.zip ys).map λp=>((Sum.inr p.1:Key),p.2)).length<=sizeLine/\((s1.heap.objs.size + 5:Nat) == sysModules)=false/\_;refine⟨?_,?_,_,hkv ks ys AL r2,hD'⟩
  ·rw[M8,O9,sizeLine_eq];omega
  ·have hb:sysModules < s1.heap.objs.size:=Nat.lt_trans (by decide) (I1.mod.glob.keeps I1.bk).lt;exact beq_false_of_ne (Nw (M6 hb (NF _ _)))
 refine⟨.ref (s1.heap.objs.size + 5),_,I1.laid (t':=tk) kp' (NF _ 5) hnew,?_,q _ (I1.hok.fresh (NF _ 5))⟩;show Value.ref h'.objs.size=Value.ref (s1.heap.objs.size + 5);rw[show h'.objs.size=s1.heap.objs.size + 5 from hsz]
def Hx:R2:=λx y H Q=>∃a kvs k v,x=.ref a/\y=.str k/\H a=some (.dK kvs)/\kvs.find? (λp=>decide (p.1=Sum.inr k))=some (Sum.inr k,v)/\Q v H
theorem rm{k:Key}{v:V}:∀{kvs:List (Key×V)} {vs:List (Key×Value)},KV kvs vs->kvs.find? (λp=>decide (p.1=k))=some (k,v)->∃u,valueAt vs k=some u/\RelV v u
 | [],_,_,h=>by cases h
 | p::r,_,.cons (b:=q) h t,e=>by
  by_cases z:p.1=k
  ·rw[List.find?_cons_of_pos (by simpa using z)]at e;cases e;refine⟨q.2,?_,h.2⟩;unfold valueAt;rw[List.find?_cons_of_pos (by simpa using h.1.symm)];rfl
  ·rw[List.find?_cons_of_neg (by simpa using z)]at e;obtain⟨u,h1,h2⟩:=rm t e;refine⟨u,?_,h2⟩;unfold valueAt at h1 ⊢;rw[List.find?_cons_of_neg (by rw[← h.1];simpa using z)];exact h1
theorem Fi:w6 X Hx:=by
 intro value slice pins s σ H x y v u Q I rx ry h hs;obtain⟨a,kvs,k,w,rfl,rfl,hd,hf,q⟩:=h;cases rx;obtain⟨t,rfl⟩:=ry;obtain⟨_,_,vs,r,hm⟩:=(show cM X.prog X.w H s.heap a (.dK kvs)from I.hok a _ hd);obtain⟨z,h1,h2⟩:=rm r hf;exact N8 (x:=z) hm.mapOf.typeIs slot_dict_getitem.lookup (wpAny_getItem_of (Q:=λr s'=>r=z/\EP X pins σ Q r s') (i5 X.prog X.w k t) hm.mapOf h1 ⟨rfl,⟨w,H,I.tok _,h2,q⟩⟩) hs
end
section
variable {X:Cx} {CW:Addr} {cx n:Str} {i:Nat} {b₀:Stmt} {suite orelse:List Stmt} {np hpos pos:Pos} {tb te:TS}
def Ct(K:aC)(CW:Addr)(i j:Nat)(sp:Sp)(t:TA)(tb te:TS):TS:=λD σ H=>t σ H λvs H1=>sp (vs++[]) H1 (λv H2=>te D (σ.set j (some v)) H2) (uM K CW i tb D σ)
theorem vD{j:Nat}{y:Str}{py:Pos}{x:Str}{k:Nat}{ps:List Str}{sp:Sp}{e:Expr}{es:List Expr}{t:TA}{p cpos epos:Pos}(h:gW X.prog X.w X.K X.mg X.base (nv X.prog X.w) x k ps sp)(hr:bR k X.A)(hgf:Gl X x)(ha:∀E,PA (X.fy E) (e::es) t)
  (hg:Gl X cx) (hm:X.mg cx=some (.ref CW)) (q:PySem.W.ktsIn X.K CW "BaseException"=true) (hN:X.N.Nodup) (hi:X.N[i]?=some n) (hk:X.env.kindOf n=some .local) (hj:X.N[j]?=some y) (hy:Loc X.env.scope y) (hs:∀a E,jk (X.hand a E) (b₀::suite) tb) (ho:jk X orelse te)
  (hst:X.stack=X.env::X.outer:=by rfl) (hf:X.env.frame=some X.env.locals:=by rfl) (hex:X.ex=[]:=by rfl) (hd:(cx == ("__debug__" : Str))=false:=by decide) (hdb:(x == ("__debug__" : Str))=false:=by decide)
  (he:starEach (e::es) X.env=(false,eval e X.env)::starEach es X.env:=by rfl) (hpl:(backTo cpos (starEach es X.env)).any (·.1)=false:=by rfl) (hsw:swapsWith (.Call (.Name x p) (e::es) [] cpos) (some (.Name y py)) epos.line X.env=pure false:=by rfl) (hfy:X.fn y=true∨X.env.scope.names.lookup y=some .local:=by first | exact .inl rfl | exact .inr rfl | assumption) :
  PS X (.Try [.Assign [.Name y py] (.Call (.Name x p) (e::es) [] cpos) epos] [.ExceptHandler (some (.Name cx np)) (some n) (b₀::suite) hpos] orelse [] pos) (Ct X.K CW i j sp t tb te):=by
 intro pins s σ H D I hw;obtain⟨f,fd,F,b,kp,m⟩:=h.ex;refine wpAny_Try_except ?_
 have ev:wpAny (model X.prog X.w) X.A (eval (.Call (.Name x p) (e::es) [] cpos) X.env) (EP X pins σ λv H2=>te D (σ.set j (some v)) H2) (Hw X cx n np hpos b₀ suite pins D) s:=by
  refine NV (fQ I hgf m ?_ hdb);refine N7 (h₀:=X.base) I.ok.mod.kin kp (bA (ha (Hw X cx n np hpos b₀ suite pins D) cpos pins s σ H _ (I.fy _) hw) λus s1 ⟨vs,H1,I1,r,q1⟩=>⟨I1.jj,?_⟩) he hpl;have I1':=I1.cB;have hl:(us++[]).length=ps.length:=by rw[← (r.append (show Vals [] []from .nil)).length];exact F.len _ _ _ _ q1
  refine wpAny_call (OB (F.run X.A X.stack s1 H1 ⟨us,[]⟩ (us++[]) (vs++[]) _ _ hr I1'.BD (b s1 us I1'.jj hl) (r.append .nil) q1) λr s' hq=>?_)
  cases r with
  | error e=>exact x8 hst hf hg hm q hN hi hk hs hd hex I1' hq
  | ok fl =>
   cases fl with
   | ret u=>exact I1'.after hq
   | next=>exact False.elim hq
   | brk=>exact False.elim hq
   | cont=>exact False.elim hq
 refine OA (bA (wpAny_Assign_Name (Q:=λfl s1=>fl=.next/\∃σ' H1,Inv X pins σ' H1 s1/\te D σ' H1) (bA ev λv s1 ⟨x,H1,I1,r1,q1⟩=>jy I1 hN hj hy r1 (λs2 I2=>⟨rfl,_,H1,I2,q1⟩) hfy) hsw) λfl s1 h1=>?_);obtain⟨rfl,σ',H1,I1,q1⟩:=h1;exact N3 (ho pins s1 σ' H1 D I1 q1)
end
@[reducible] def vE(K:aC)(CW:Addr)(i j:Nat)(T:Cp)(d:hZ)(s se:DS)(DD:bD)(env:aU)(st:ax):Prop:=d env st λxs av=>cb xs av λds bo=>T ds (λv=>se DD (env.set j (some (.dat v))) bo) (rl K CW i s DD env bo)
section
variable {X:Cx} {Y:YK} {CW:Addr} {cx n x:Str} {i:Nat} {b₀:Stmt} {suite orelse:List Stmt} {np hpos pos:Pos} {s se:DS} {nn:Nat} {d:hZ} {e:Expr} {es:List Expr}
theorem vF{j:Nat}{y:Str}{py:Pos}{k:Nat}{ps:List Str}{sp:Sp}{T:Cp}{p cpos epos:Pos}(h:gW X.prog X.w X.K X.mg X.base (nv X.prog X.w) x k ps sp)(hsp:E9 X.K sp T)(mo:AR T)(hr:bR k X.A)(hgf:Gl X x)(ha:∃t,(∀E,PA (X.fy E) (e::es) t)/\AA (kf X Y) t nn d)
  (hg:Gl X cx) (hm:X.mg cx=some (.ref CW)) (q:PySem.W.ktsIn X.K CW "BaseException"=true) (hN:X.N.Nodup) (hi:X.N[i]?=some n) (hk:X.env.kindOf n=some .local) (hj:X.N[j]?=some y) (hy:Loc X.env.scope y) (hs:∃tb,(∀a E,jk (X.hand a E) (b₀::suite) tb)/\AS (kf X Y) tb s) (ho:jo X Y orelse se)
  (hst:X.stack=X.env::X.outer:=by rfl) (hf:X.env.frame=some X.env.locals:=by rfl) (hex:X.ex=[]:=by rfl) (hd:(cx == ("__debug__" : Str))=false:=by decide) (hdb:(x == ("__debug__" : Str))=false:=by decide)
  (he:starEach (e::es) X.env=(false,eval e X.env)::starEach es X.env:=by rfl) (hpl:(backTo cpos (starEach es X.env)).any (·.1)=false:=by rfl) (hsw:swapsWith (.Call (.Name x p) (e::es) [] cpos) (some (.Name y py)) epos.line X.env=pure false:=by rfl) (hfy:X.fn y=true∨X.env.scope.names.lookup y=some .local:=by first | exact .inl rfl | exact .inr rfl | assumption) :
  sG X Y (.Try [.Assign [.Name y py] (.Call (.Name x p) (e::es) [] cpos) epos] [.ExceptHandler (some (.Name cx np)) (some n) (b₀::suite) hpos] orelse [] pos) (vE X.K CW i j T d s se):=by
 obtain⟨t,p1,a1⟩:=ha;obtain⟨tb,p2,a2⟩:=hs;obtain⟨te,p3,a3⟩:=ho.h;refine⟨_,vD h hr hgf p1 hg hm q hN hi hk hj hy p2 p3 hst hf hex hd hdb he hpl hsw hfy,λH0 A0 G al H st σ env DD D I En q k=>?_⟩;refine a1 H0 A0 G al H st σ env _ _ I En q λxs av aM vs H1 e1 I1 d1 q1=>?_
 obtain⟨ds,bo,E2,I2,F2,q2⟩:=eS I1 d1 q1.2;rw[N5];have e2:=e1.trans I1 E2;have Jv:=En.ext e2;have k2:=k.go I2 e2;refine hsp vs H1 _ _ (Fb G aM bo) ds (λc hc=>I2.kH hc) F2 (mo _ _ _ _ _ (λd hd v H' s r=>?_) (λC fs hx dd H' s x=>yJ a2 I2 Jv k2 hx s x) q2);exact a3 H0 A0 G aM H' bo _ _ DD D (I2.same s) ((Jv.ext (.same s)).set (.d r) j) hd (k2.go (I2.same s) (.same s))
theorem kg{u:Addr}{E:Value->Shared->Prop}{a:Expr}{ea:DX}{p p2:Pos}{T:Str}{D:Addr}(hg:Gl X "isinstance")(hm:X.mg "isinstance"=none)(yF:Gl X T)(yG:X.mg T=some (.ref D))(ha:aW (X.hand u E) Y a ea)(hd:(T == ("__debug__" : Str))=false:=by decide)
  (h1:starEach [a,.Name T p2] X.env=(false,eval a X.env)::starEach [.Name T p2] X.env:=by rfl):aW (X.hand u E) Y (.Call (.Name "isinstance" p) [a,.Name T p2] [] pos) (sJ X.K (.ref D) ea):=yK (X:=X.hand u E) hg hm yF yG ha hd h1
theorem vG{u:Addr}{E:Value->Shared->Prop}{a:Expr}{ea:DX}{p p2:Pos}{T:Str}{m:String}(hg:Gl X "isinstance")(hm:X.mg "isinstance"=none)(yF:Gl X T)(yG:X.mg T=none)(hb:bootBuiltins T=some (.type m))(ha:aW (X.hand u E) Y a ea)(hn:T≠"__name__":=by decide)(hd:(T == ("__debug__" : Str))=false:=by decide)
  (h1:starEach [a,.Name T p2] X.env=(false,eval a X.env)::starEach [.Name T p2] X.env:=by rfl):aW (X.hand u E) Y (.Call (.Name "isinstance" p) [a,.Name T p2] [] pos) (sJ X.K (.type m) ea):=yL (X:=X.hand u E) hg hm yF yG hb ha hn hd h1
end
end L2
local macro_rules | `(tactic| walk_at "cond")=>`(tactic| first | rfl | decide | omega | (show (0:Int) < _; decide) | (show (0:Int) < _; omega) | exact ⟨by decide,by decide⟩ | exact ⟨by omega,by omega⟩ | exact Or.inl ⟨by decide,by decide⟩ | exact Or.inr ⟨by decide,by decide⟩ | exact Or.inl ⟨by omega,by omega⟩ | exact Or.inr ⟨by omega,by omega⟩ | assumption)
local macro_rules | `(tactic| walk_at "rd1")=>`(tactic| first
 | refine⟨_,rfl,?_⟩
 | refine⟨_,_,rfl,rfl,?_⟩
 | (refine And.intro ?_ ?_;walk_at "cond"))
local macro_rules | `(tactic| walk_at "vc")=>`(tactic| try dsimp only [L2.rk,L2.vv,L2.vw,L2.Ci,L2.Hs,L2.sH,L2.uQ,L2.eC,L2.nz,L2.oI,L2.DL,L2.uR,L2.B4,L2.mr,L2.qW,L2.uX,L2.jc,L2.fj,L2.lD,L2.EK,L2.Cn,L2.uZ,L2.va,L2.Hi,L2.w8,L2.qZ,L2.yn,L2.vc,L2.vf,L2.vg,L2.vi,L2.vj,L2.nU,L2.vk,L2.ie,L2.rf,L2.mG,L2.rl,L2.sJ,List.zip_cons_cons,List.zip_nil_left,List.zip_nil_right,L2.sub,L2.Hv,List.take_succ_cons,List.take_zero,L2.gS,L2.cb,L2.ye,L2.qU,L2.yg,L2.yh,L2.qV,L2.yu,L2.my,L2.vn,L2.vm,L2.gN,L2.lE,L2.jY,L2.gT,L2.DN,L2.mz,L2.Hr,L2.sE,L2.Cj,L2.yA,L2.Ck,L2.E8,L2.yE,L2.je,L2.mE,L2.rh,L2.vo,id_eq,List.map_cons,List.map_nil,List.replicate,List.getElem?_cons_zero,List.getElem?_cons_succ,List.set_cons_zero,List.set_cons_succ,List.nil_append,List.cons_append,List.length_cons,List.length_nil,Nat.zero_add,Nat.reduceAdd,Option.getD_some,Option.getD_none,List.getElem?_nil])
local macro_rules | `(tactic| walk_at "vs")=>`(tactic| try dsimp only [L2.rk,L2.vw,L2.Ci,L2.Hs,L2.sH,L2.uQ,L2.eC,L2.nz,L2.oI,L2.DL,L2.uR,L2.B4,L2.mr,L2.qW,L2.uX,L2.jc,L2.fj,L2.lD,L2.EK,L2.Cn,L2.uZ,L2.va,L2.Hi,L2.w8,L2.qZ,L2.yn,L2.vc,L2.vf,L2.vg,L2.vi,L2.vj,L2.nU,L2.vk,L2.ie,L2.rf,L2.mG,L2.rl,L2.sJ,List.zip_cons_cons,List.zip_nil_left,List.zip_nil_right,L2.sub,L2.Hv,List.take_succ_cons,List.take_zero,L2.gS,L2.cb,L2.ye,L2.qU,L2.yg,L2.yh,L2.qV,L2.yu,L2.my,L2.vn,L2.vm,L2.gN,L2.lE,L2.jY,L2.gT,L2.DN,L2.mz,L2.Hr,L2.sE,L2.Cj,L2.yA,L2.Ck,L2.E8,L2.yE,L2.je,L2.mE,L2.rh,L2.vo,id_eq,List.map_cons,List.map_nil,List.replicate,List.getElem?_cons_zero,List.getElem?_cons_succ,List.set_cons_zero,List.set_cons_succ,List.nil_append,List.cons_append,List.length_cons,List.length_nil,Nat.zero_add,Nat.reduceAdd,Option.getD_some,Option.getD_none,List.getElem?_nil])
local macro_rules | `(tactic| walk_at "rd")=>`(tactic| repeat walk_at "rd1")
set_option maxHeartbeats 4000000
local macro_rules | `(tactic| walk_at "sc")=>`(tactic| exact ⟨rfl,rfl,rfl,by decide +kernel,rfl,by decide +kernel,by decide +kernel⟩)
namespace Mine
open PySem L2
theorem Lg{α:Type}{P:List α->Prop}(h:P []):∀us:List α,us.length=0->P us:=λus hl=>by
 cases us with
 | nil=>exact h
 | cons a r=>exact absurd hl (N1 _)
theorem Fj{α:Type}{P:List α->Prop}(h:∀a0:α,P [a0]):∀us:List α,us.length=1->P us:=λus hl=>by
 cases us with
 | nil=>exact absurd hl.symm (N1 _)
 | cons a r=>exact Lg (P:=λr=>P (a::r)) (h a) r (OK hl)
theorem ln2{α:Type}{P:List α->Prop}(h:∀a0 a1:α,P [a0,a1]):∀us:List α,us.length=2->P us:=λus hl=>by
 cases us with
 | nil=>exact absurd hl.symm (N1 _)
 | cons a r=>exact Fj (P:=λr=>P (a::r)) (λa1=>h a a1) r (OK hl)
theorem AU{α:Type}{P:List α->Prop}(h:∀a0 a1 a2:α,P [a0,a1,a2]):∀us:List α,us.length=3->P us:=λus hl=>by
 cases us with
 | nil=>exact absurd hl.symm (N1 _)
 | cons a r=>exact ln2 (P:=λr=>P (a::r)) (λa1 a2=>h a a1 a2) r (OK hl)
theorem Gu{α:Type}{P:List α->Prop}(h:∀a0 a1 a2 a3:α,P [a0,a1,a2,a3]):∀us:List α,us.length=4->P us:=λus hl=>by
 cases us with
 | nil=>exact absurd hl.symm (N1 _)
 | cons a r=>exact AU (P:=λr=>P (a::r)) (λa1 a2 a3=>h a a1 a2 a3) r (OK hl)
theorem Gv{α:Type}{xs:List α}(h:xs.length=2):∃a0 a1,xs=[a0,a1]:=ln2 (P:=λxs=>∃a0 a1,xs=[a0,a1]) (λa0 a1=>⟨a0,a1,rfl⟩) xs h
theorem Jw{α:Type}{xs:List α}(h:xs.length=4):∃a0 a1 a2 a3,xs=[a0,a1,a2,a3]:=Gu (P:=λxs=>∃a0 a1 a2 a3,xs=[a0,a1,a2,a3]) (λa0 a1 a2 a3=>⟨a0,a1,a2,a3,rfl⟩) xs h
def tf(p:Program)(i:Nat):Stmt:=p.main.body.getD i (.Pass ⟨0,0,0,0⟩)
def top(i:Nat):Stmt:=tf PySem.Challenge.pw_stackwarden_k60_doors i
abbrev gz:Stmt:=top 33
abbrev iR:Stmt:=top 37
abbrev gA:Stmt:=top 35
abbrev gB:Stmt:=top 36
abbrev fF:Stmt:=top 34
abbrev fG:Stmt:=top 39
abbrev iS:Stmt:=top 7
abbrev eZ:Stmt:=top 8
abbrev eA:Stmt:=top 22
abbrev gC:Stmt:=top 23
abbrev cD:Stmt:=iC (top 30) 8
abbrev bU:Stmt:=iC (top 30) 4
abbrev cX:Stmt:=iC (top 29) 0
abbrev cY:Stmt:=iC (top 30) 2
abbrev cE:Stmt:=iC (top 30) 1
abbrev bV:Stmt:=iC (top 30) 0
abbrev fH:Stmt:=top 31
abbrev gE:Stmt:=top 38
abbrev ig:Stmt:=top 40
structure aw(K:aC)(C:Addr):Prop where
 cl:rV K C
 yO:bQ K C "depth"
 rn:bQ K C "known"
structure aE(K:aC)(C:Addr):Prop where
 cl:rV K C
 lH:bQ K C "program"
 vH:bQ K C "said"
 vI:bQ K C "left"
structure DQ(K:aC)(C:Addr):Prop where
 cl:rV K C
 Hy:bQ K C "make"
 Fl:bQ K C "fields"
inductive Kd where
 | any | num | whole (c:Nat) | raw (c m:Nat)
 deriving DecidableEq
def fv:Kd->List PyData
 | .any=>[.str "any"]
 | .num=>[.str "number"]
 | .whole c=>[.str "whole",.int c]
 | .raw c m=>[.str "raw",.int c,.int m]
abbrev mJ:=List (Option Nat×List Kd)
def Lh:Option Nat->PyData
 | none=>.none
 | some n=>.int n
def Li(m:Option Nat×List Kd):PyData:=.tuple [Lh m.1,.list (m.2.map λk=>.tuple (fv k))]
def Fm(ms:mJ):PyData:=.list (ms.map Li)
structure Wf(ms:mJ):Prop where
 ne:0 < ms.length
 few:ms.length<=8
 first:∀m,ms[0]?=some m->m.1=none
 ahead:∀(i:Nat) m,ms[i]?=some m->0 < i->∃j,m.1=some j/\j < i
def Hz(ms:mJ)(c:Nat):Option Nat:=(ms[c]?).bind (·.1)
def Fn(ms:mJ):Nat->Nat->List Nat
 | 0,_=>[]
 | n + 1,c=>c::(match Hz ms c with | none=>[] | some j=>Fn ms n j)
def pT(ms:mJ)(c:Nat):List Nat:=Fn ms (c + 1) c
def rest(ms:mJ):Option Nat->List Nat
 | none=>[]
 | some j=>pT ms j
def HA(zs:List Nat):Kd->Prop
 | .any=>True
 | .num=>True
 | .whole c=>c < zs.length
 | .raw c m=>∃z,zs[c]?=some z/\m < 2 ^ z
theorem sN{H:Hp}{p:Addr}(h:H p=none)(o:HO):aH H (upd H p o):=λb u q=>by rw[uN (nN q h)];exact q
structure Lj(sh:List (Option Nat×Nat))(zs:List Nat):Prop where
 len:sh.length=zs.length
 ne:0 < sh.length
 s0:sh[0]?=some (none,0)
 z0:zs[0]?=some 0
 six:∀z∈zs,z<=6
 go:∀(i:Nat) (s:Option Nat×Nat),0 < i->sh[i]?=some s->∃j z,s.1=some j/\j < i/\zs[j]?=some z/\zs[i]?=some (z + s.2)
structure Good(ms:mJ)(zs:List Nat):Prop where
 wf:Wf ms
 len:ms.length=zs.length
 Lk:∀m,ms[0]?=some m->m.2=[]
 z0:zs[0]?=some 0
 six:∀z∈zs,z<=6
 go:∀(i:Nat) m,0 < i->ms[i]?=some m->∃j z,m.1=some j/\j < i/\zs[j]?=some z/\zs[i]?=some (z + m.2.length)
 kds:∀(i:Nat) m,ms[i]?=some m->∀k∈m.2,HA zs k
def ownOf(ms:mJ)(c:Nat):List Kd:=match ms[c]? with | some m=>m.2 | none=>[]
def og(ms:mJ):List Nat->List Kd
 | []=>[]
 | e::r=>og ms r++ownOf ms e
def fields(ms:mJ)(c:Nat):List Kd:=og ms (pT ms c)
theorem cN.append{K:aC}{H:Hp}:∀{xs ys:List V} {ds es:List PyData},cN K H xs ds->cN K H ys es->cN K H (xs++ys) (ds++es)
 | [],_,[],_,_,r=>r
 | [],_,_::_,_,h,_=>nomatch h.1
 | _::_,_,[],_,h,_=>nomatch h.1
 | x::xs,ys,d::ds,es,h,r=>cN.cons (h.2 0 x d rfl rfl) (cN.append ⟨by simpa using h.1,λi a b h1 h2=>h.2 (i + 1) a b (by simpa using h1) (by simpa using h2)⟩ r)
abbrev kh(ks:List Kd):List PyData:=ks.map λk=>PyData.tuple (fv k)
def below(ms:mJ):Kd->Kd->Bool
 | _,.any=>true
 | .num,.num=>true
 | .whole c,.whole d=>decide (d∈pT ms c)
 | .raw c m,.raw d n=>decide (c=d)&&decide (m&&&n=n)
 | _,_=>false
theorem mK(k:Kd):PySem.SeqAt.shaped (.tuple (fv k))=true:=by
 cases k<;>(simp only[fv,PySem.SeqAt.shaped,PyData.canLay0,PyData.canLayAll0,PyData.depth,PyData.depthAll];decide +kernel)
theorem bp.bT{K:aC}{H:Hp}{v:V}{ds:List PyData}(h:bp K H v (.tuple ds)):∃(a:Addr) (xs:List V),v=.ref a/\dY K H a xs/\cN K H xs ds:=by
 cases h with
 | tup h hl hi=>exact⟨_,_,rfl,h,hl,hi⟩
theorem bp.aP{K:aC}{H:Hp}{v:V}{i:Int}(h:bp K H v (.int i)):v=.int i:=by cases h;rfl
theorem Ll:(Str.ofString "any" == Str.ofString "number")=false:=by decide +kernel
theorem Lm:(Str.ofString "any" == Str.ofString "whole")=false:=by decide +kernel
theorem Ln:(Str.ofString "any" == Str.ofString "raw")=false:=by decide +kernel
theorem Lo:(Str.ofString "number" == Str.ofString "any")=false:=by decide +kernel
theorem Lp:(Str.ofString "number" == Str.ofString "whole")=false:=by decide +kernel
theorem Lq:(Str.ofString "number" == Str.ofString "raw")=false:=by decide +kernel
theorem Lr:(Str.ofString "whole" == Str.ofString "any")=false:=by decide +kernel
theorem Ls:(Str.ofString "whole" == Str.ofString "number")=false:=by decide +kernel
theorem Lu:(Str.ofString "whole" == Str.ofString "raw")=false:=by decide +kernel
theorem Lw:(Str.ofString "raw" == Str.ofString "any")=false:=by decide +kernel
theorem Lx:(Str.ofString "raw" == Str.ofString "number")=false:=by decide +kernel
theorem Ly:(Str.ofString "raw" == Str.ofString "whole")=false:=by decide +kernel
theorem yP(a b:Nat):((a:Int) == (b:Int))=decide (a=b):=by
 rw[O7,O6,decide_eq_true_iff];omega
theorem vJ(k k':Kd):PyData.eqv (.tuple (fv k)) (.tuple (fv k'))=decide (k=k'):=by
 cases k<;>cases k'<;>simp only[fv,PyData.eqv,PyData.eqvAll,Ll,Lm,Ln,Lo,Lp,Lq,Lr,Ls,Lu,Lw,Lx,Ly,Bool.false_and,Bool.true_and,Bool.and_true,beq_self_eq_true,yP]<;>simp
def DR(n:Int):Prop:=-2147483648<=n/\n<=2147483647
theorem bp.cC{K:aC}{H:Hp}{v:V}{ds:List PyData}(h:bp K H v (.list ds)):∃(a:Addr) (xs:List V),v=.ref a/\cy K H a xs/\cN K H xs ds:=by
 cases h with
 | lst h hl hi=>exact⟨_,_,rfl,h,hl,hi⟩
theorem oh{H H':Hp}{a:Addr}(s:aH H H')(hn:H a=none)(o:HO):aH H (upd H' a o):=λc p e=>by
 rw[uN (nN e hn)];exact s c p e
structure iI where
 tk:List (Str×Kd)
 gv:Kd
 an:PyData
def lI(t:Str×Kd):PyData:=.tuple [.str t.1,.tuple (fv t.2)]
def kM(p:iI):PyData:=.tuple [.list (p.tk.map lI),.tuple (fv p.gv),.list [],p.an]
def kN(ms:mJ)(ps:List iI):PyData:=.tuple [Fm ms,.list (ps.map kM)]
def wY(h:List Kd×Kd):PyData:=.tuple [.list (kh h.1),.tuple (fv h.2)]
def dH(ps:List iI):List (List Kd×Kd):=ps.map λp=>(p.tk.map (·.2),p.gv)
inductive kO(p:iI)(ws:List Int):Int->Prop where
 | num {n:Int}:p.an=.tuple [.str "num",.int n]->kO p ws n
 | var {x:Str} {w:Int}:p.an=.tuple [.str "var",.str x]->((p.tk.map (·.1)).zip ws).find? (λq=>decide (q.1=x))=some (x,w)->kO p ws w
def ki(b sd:Addr)(bud:Int):List (Str×V):=[("program",.ref b),("said",.ref sd),("left",.int bud)]
def vK(p:Int)(d:Addr):List (Str×V):=[("depth",.int p),("known",.ref d)]
theorem Gw{f:Str}{v:V}{r:List (Str×V)}:List.lookup f ((f,v)::r)=some v:=by simp
theorem Cu{f g:Str}{v:V}{r:List (Str×V)}(h:¬ g=f):List.lookup g ((f,v)::r)=List.lookup g r:=by
 have hb:(g == f)=false:=by simpa using h
 simp[List.lookup,hb]
theorem Gx{f g:Str}{v w:V}{r:List (Str×V)}(h:¬ f=g):cc g w ((f,v)::r)=(f,v)::cc g w r:=by
 show(if f=g then _ else _)=_;rw[Nu h]
theorem vL{p:Int}{d:Addr}:(vK p d).lookup ("known" : Str)=some (.ref d):=by
 unfold vK;rw[Cu (by decide +kernel),Gw]
theorem Cv{p:Int}{d:Addr}:cc "known" (.ref d) (cc "depth" (.int p) [])=vK p d:=by
 have e1:cc "depth" (.int p) []=([("depth",.int p)]:List (Str×V)):=rfl;rw[e1,Gx (by decide +kernel)];rfl
theorem pU{b sd:Addr}{bud:Int}:(ki b sd bud).lookup ("program" : Str)=some (.ref b):=Gw
theorem yQ{b sd:Addr}{bud:Int}:(ki b sd bud).lookup ("said" : Str)=some (.ref sd):=by
 unfold ki;rw[Cu (by decide +kernel),Gw]
theorem yR{b sd:Addr}{bud:Int}:(ki b sd bud).lookup ("left" : Str)=some (.int bud):=by
 unfold ki;rw[Cu (by decide +kernel),Cu (by decide +kernel),Gw]
theorem oi{b sd:Addr}{bud:Int}{m:Str}(h:¬ m∈(["program","said","left"]:List Str)):(ki b sd bud).lookup m=none:=by
 simp only[List.mem_cons,List.not_mem_nil,or_false,not_or]at h;unfold ki;rw[Cu h.1,Cu h.2.1,Cu h.2.2];rfl
theorem Cw{b sd:Addr}{bud:Int}:cc "left" (.int bud) (cc "said" (.ref sd) (cc "program" (.ref b) []))=ki b sd bud:=by
 have e1:cc "program" (.ref b) []=([("program",.ref b)]:List (Str×V)):=rfl;have e2:cc "said" (.ref sd) ([("program",.ref b)]:List (Str×V))=([("program",.ref b),("said",.ref sd)]:List (Str×V)):=by rw[Gx (by decide +kernel)];rfl
 rw[e1,e2,Gx (by decide +kernel),Gx (by decide +kernel)];rfl
theorem oj{nm:Str}{w:Int}:∀{ks:List Str} {ws:List Int},(ks.zip ws).find? (λq=>decide (q.1=nm))=some (nm,w)->((ks.zip (ws.map V.int)).map λp=>((Sum.inr p.1:Key),p.2)).find? (λp=>decide (p.1=Sum.inr nm))=some (Sum.inr nm,V.int w)
 | [],_,h=>by simp at h
 | _::_,[],h=>by simp at h
 | k::ks,v::ws,h=>by
  rw[List.zip_cons_cons]at h;show(((Sum.inr k:Key),V.int v)::((ks.zip (ws.map V.int)).map λp=>((Sum.inr p.1:Key),p.2))).find? _=_;by_cases e:k=nm
  ·rw[List.find?_cons_of_pos (by simpa using e)]at h;cases h;rw[List.find?_cons_of_pos (by simp)]
  ·rw[List.find?_cons_of_neg (by simpa using e)]at h;rw[List.find?_cons_of_neg (by simpa using e)];exact oj h
theorem mL(v:Int){m:Int}{n:Nat}(e:m=(n:Int))(h:0 < n):∃c:Nat,v % m=(c:Int)/\c < n:=by
 subst e;have a:=Og v (show(n:Int)≠0 by omega);have b:=Oo v (show(0:Int) < (n:Int)by omega);exact⟨(v % (n:Int)).toNat,by omega,by omega⟩
theorem AV{α:Type}{fin:List PyData->ax->DC->Prop}{dg:kC}{dt:DT}{de:DX}{xs:List PyData}{env:aU}{av:ax}{Q:DC}(P:α->Prop)(f:α->PyData)(hl:xs.length<=1000000)
  (hs:∀(i:Nat) d,xs[i]?=some d->∀(W:PyData->Prop) (N:Prop),(∀a,P a->W (f a))->dg (.dat d) env av λfu bo=>bo=av/\dt fu av λb gf=>gf=av/\if b=true then de fu av λy nK=>gS y nK λdy oY=>oY=av/\W dy else N)
  (hd:∀as:List α,as.length=xs.length->(∀a∈as,P a)->fin (as.map f) av Q):Gs fin dg dt de xs (λ_=>True) env av Q:=by
 refine vp (λi ys=>∃as:List α,ys=as.map f/\as.length=i/\∀a∈as,P a) hl ⟨[],rfl,rfl,(λ_ h=>nomatch h)⟩ (λi ys d hd' hy=>?_) (λys hy=>?_)
 ·obtain⟨as,rfl,ha,hp⟩:=hy;refine hs i d hd' (λdy=>∃bs:List α,as.map f++[dy]=bs.map f/\bs.length=i + 1/\∀a∈bs,P a) _ λa h=>⟨as++[a],by rw[List.map_append];rfl,by simp[ha],λb hb=>?_⟩
  rcases NU.mp hb with z | z
  ·exact hp b z
  ·rw[lL z];exact h
 ·obtain⟨as,rfl,ha,hp⟩:=hy;exact hd as ha hp
theorem vM{α:Type}{fin:List PyData->ax->DC->Prop}{dg:kC}{dt:DT}{de:DX}{xs:List PyData}{env:aU}{av:ax}{Q:DC}(as:List α)(g f:α->PyData)(hx:xs=as.map g)(hl:as.length<=1000000)
  (hs:∀(i:Nat) a,as[i]?=some a->∀(P:PyData->Prop) (N:Prop),P (f a)->dg (.dat (g a)) env av λfu bo=>bo=av/\dt fu av λb gf=>gf=av/\if b=true then de fu av λy nK=>gS y nK λdy oY=>oY=av/\P dy else N)
  (hd:fin (as.map f) av Q):Gs fin dg dt de xs (λ_=>True) env av Q:=by
 subst hx;refine vp (λi ys=>ys=(as.take i).map f) (by rw[List.length_map];exact hl) (by simp) (λi ys d hd' hy=>?_) (λys hy=>?_)
 ·rw[Nk]at hd'
  cases w:as[i]? with
  | none=>rw[w]at hd';cases hd'
  | some a =>
   rw[w]at hd';cases hd';refine hs i a w (λdy=>ys++[dy]=(as.take (i + 1)).map f) (ys=(as.take (i + 1)).map f) ?_;rw[hy,Ox,w,NM];rfl
 ·rw[M8,OL]at hy;rw[hy];exact hd
def keyOf(x:Str):Option Nat:=x.cps.toList.find? λc=>!(c == 97)&&!(c == 122)
structure vN(b:Bool)(i:Nat)(l:List (Str×Kd)):Prop where
 len:l.length=i
 key:∀(j:Nat) t,l[j]?=some t->keyOf t.1=some (98 + j)
 knd:∀t∈l,(t.2=.num∨t.2=.whole 0∨t.2=.whole 1)/\(b=true->t.2=.num)
 txt:∀t∈l,PyData.canLay0 (.str t.1)=true
theorem vN.nil(b:Bool):vN b 0 []:=⟨rfl,λj t h=>by simp at h,(λt h=>nomatch h),(λt h=>nomatch h)⟩
def vO(w i z:Nat):Str:=Txt.slice "aaa" none (some (w:Int))++⟨#[98 + i]⟩++Txt.slice "zzzz" none (some (z:Int))
theorem Fo:∀w:Nat,w < 4->∀i:Nat,i < 20->∀z:Nat,z < 5->keyOf (vO w i z)=some (98 + i)/\PyData.canLay0 (.str (vO w i z))=true:=by decide +kernel
theorem Fp:∀i:Nat,i < 20->i9 (Str.ofString "bcdefghijklmnopqrstu").cps.toList (i:Int)=some (98 + i):=by decide +kernel
theorem Fq:∀w:Nat,w < 4->(Txt.slice (Str.ofString "aaa") none (some (w:Int))).length<=3:=by decide +kernel
theorem Fs:∀z:Nat,z < 5->(Txt.slice (Str.ofString "zzzz") none (some (z:Int))).length<=4:=by decide +kernel
theorem Ft:∀w:Nat,w < 4->∀i:Nat,i < 20->(Txt.slice (Str.ofString "aaa") none (some (w:Int))++(⟨#[98 + i]⟩:Str)).length<=4:=by decide +kernel
theorem vN.snoc{b:Bool}{i:Nat}{l:List (Str×Kd)}(h:vN b i l){w z:Nat}{k:Kd}(hw:w < 4)(hi:i < 20)(hz:z < 5)(hk:k=.num∨k=.whole 0∨k=.whole 1)(hb:b=true->k=.num):vN b (i + 1) (l++[(vO w i z,k)]):=by
 obtain⟨k1,k2⟩:=Fo w hw i hi z hz;refine⟨by simp[h.len],λj t hj=>?_,λt ht=>?_,λt ht=>?_⟩
 ·by_cases hl:j < l.length
  ·rw[Nj hl]at hj;exact h.key j t hj
  ·have e:j=l.length:=by
    have:=(cV hj).1;simp at this;omega
   subst e;rw[Nm (Nf _),Of]at hj;cases hj;rw[h.len];exact k1
 ·rcases NU.mp ht with y | y
  ·exact h.knd t y
  ·rw[lL y];exact⟨hk,hb⟩
 ·rcases NU.mp ht with y | y
  ·exact h.txt t y
  ·rw[lL y];exact k2
theorem vN.nodup{b:Bool}{i:Nat}{l:List (Str×Kd)}(h:vN b i l):(l.map (·.1)).Nodup:=by
 refine List.pairwise_iff_getElem.mpr λa c ha hc hac e=>?_
 rw[M8]at ha hc;rw[List.getElem_map,List.getElem_map]at e;have k1:=h.key a _ (gR ha);have k2:=h.key c _ (gR hc);rw[e,k2]at k1;have:=Np k1;omega
structure Fu(b:Bool)(p:iI):Prop where
 nm:∃i,i<=20/\vN b i p.tk
 an:(p.gv=.num/\((∃n,DR n/\p.an=.tuple [.str "num",.int n])∨∃t∈p.tk,t.2=.num/\p.an=.tuple [.str "var",.str t.1]))∨(b=false/\p.gv=.whole 0)
 sh:Sh 3 p.an
theorem HB(ns:List Int):g9 (ns.map V.int) none (some 8)=(ns.take 8).map V.int:=by
 unfold g9;rw[HT.uk,show(some (8:Int))=some ((8:Nat):Int)from rfl,HT.xF,List.drop_zero,List.length_map,Nat.sub_zero,← List.map_take];exact congrArg (List.map V.int) (List.take_eq_take_iff.mpr (by omega))
def ee(K:aC):Sp:=λvs H Q _=>∃(a:Addr) (ns:List Int) (k:Int),vs=[.ref a,.int k]/\cy K H a (ns.map V.int)/\0<=k/\k<=1000/\∀(v:Int) (H':Hp),aH H H'->Q (.int v) H'
def kj:nV:=λds Q=>∃(ns:List Int) (k:Int),ds=[.list (ns.map PyData.int),.int k]/\0<=k/\k<=1000/\∀v:Int,Q (.int v)
theorem cO:jW kj:=by
 rintro ds Q Q' f ⟨ns,k,e,h0,h1,q⟩;exact⟨ns,k,e,h0,h1,λv=>f _ (q v)⟩
theorem cP{K:aC}:tQ K (ee K) kj:=by
 rintro vs H Q P ds hP hv ⟨ns,k,rfl,h0,h1,q⟩;obtain⟨v,u,rfl,r1,r2⟩:=vh hv;obtain⟨a,ys,rfl,g1,_,g2⟩:=az.cC r1;rw[ju g2]at g1;rw[az.aP r2];exact⟨a,ns,k,rfl,g1,h0,h1,λv H' s=>q v _ H' s (.int _)⟩
def kl(p:iI)(n:Nat):Prop:=((∀t∈p.tk,t.2=.num)/\p.gv=.num)/\n=p.tk.length
theorem ro{x:Str}{w:Int}:∀{ks:List Str} {ws:List Int} {i:Nat},ks[i]?=some x->ws[i]?=some w->(∀j,j < i->ks[j]?≠some x)->(ks.zip ws).find? (λq=>decide (q.1=x))=some (x,w)
 | [],_,_,h,_,_=>by simp at h
 | _::_,[],_,_,h,_=>by simp at h
 | k::ks,v::ws,0,h,h2,_=>by
  simp at h h2;subst h;subst h2;rw[List.zip_cons_cons,List.find?_cons_of_pos (by simp)]
 | k::ks,v::ws,i + 1,h,h2,h3=>by
  have n:=h3 0 (by omega);rw[List.zip_cons_cons,List.find?_cons_of_neg (by simpa using n)];exact ro (by simpa using h) (by simpa using h2) λj hj=>by simpa using h3 (j + 1) (by omega)
def iT:nV:=λds Q=>∃(b:Bool) (p:iI) (ws:List Int),ds=[kM p,.list (ws.map PyData.int)]/\Fu b p/\ws.length<=100/\(kl p ws.length->∀w,kO p ws w->Q (.int w))/\(¬ kl p ws.length->Q .none)
def e7(K:aC):Sp:=yp K iT
theorem pV:jW iT:=by
 rintro ds Q Q' f ⟨b,p,ws,e,h1,h2,q,x⟩;exact⟨b,p,ws,e,h1,h2,λh w a=>f _ (q h w a),λh=>f _ (x h)⟩
theorem pW{K:aC}:tQ K (e7 K) iT:=jV
def gF:nV:=λds Q=>∃(c:Int),ds=[.int c]/\∀n:Int,DR n->Q (.int n)
def cQ(K:aC):Sp:=yp K gF
theorem jf:jW gF:=by
 rintro ds Q Q' f ⟨c,z1,q⟩;exact⟨c,z1,by intros;apply f;apply q<;>assumption⟩
theorem jg{K:aC}:tQ K (cQ K) gF:=jV
def gH:nV:=λds Q=>∃(c:Int) (b:Bool),ds=[.int c,.bool b]/\0<=c/\∀p:iI,Fu b p->Q (kM p)
def ef(K:aC):Sp:=yp K gH
theorem om:jW gH:=by
 rintro ds Q Q' f ⟨c,b,z2,hc,q⟩;exact⟨c,b,z2,hc,by intros;apply f;apply q<;>assumption⟩
theorem oo{K:aC}:tQ K (ef K) gH:=jV
def fI:nV:=λds Q=>∃n:Int,ds=[.int n]/\Q (.bool true)
def dn(K:aC):Sp:=yp K fI
theorem ij:jW fI:=by
 rintro ds Q Q' f ⟨n,z1,q⟩;exact⟨n,z1,by intros;apply f;apply q<;>assumption⟩
theorem ik{K:aC}:tQ K (dn K) fI:=jV
def rp:Option Int->Int->PyData
 | none,_=>.tuple [.str "door",.bool true,.int 0]
 | some w,b=>.tuple [.tuple [.str "gave",.int w],.list [],.int b]
def vP:Option Int->PyData
 | none=>.none
 | some w=>.int w
def eg:nV:=λds Q=>∃(o:Option Int) (b:Int),ds=[rp o b,vP o,.int b]/\Q (.bool true)
def dq(K:aC):Sp:=yp K eg
theorem mM:jW eg:=by
 rintro ds Q Q' f ⟨o,b,z2,q⟩;exact⟨o,b,z2,by intros;apply f;apply q<;>assumption⟩
theorem mO{K:aC}:tQ K (dq K) eg:=jV
def cm:Kd->Bool
 | .num=>true
 | _=>false
theorem vQ(k:Kd):PyData.eqv (.tuple (fv k)) (.tuple [.str "number"])=cm k:=by
 cases k with
 | any=>decide +kernel
 | num=>decide +kernel
 | whole c=>rfl
 | raw c m=>rfl
def e9(K:aC):Sp:=λvs H Q _=>∃(tl:Addr) (g:V) (ys:List V) (ks:List Kd) (gk:Kd),vs=[.ref tl,g]/\cy K H tl ys/\cN K H ys (kh ks)/\bp K H g (.tuple (fv gk))/\ks.length<=100 /\
 ∀(H':Hp),aH H H'->Q (.bl ((ks++[gk]).all cm)) H'
def lJ:nV:=λds Q=>∃(ks:List Kd) (gk:Kd),ds=[.list (kh ks),.tuple (fv gk)]/\ks.length<=100/\Q (.bool ((ks++[gk]).all cm))
theorem pX:jW lJ:=by
 rintro ds Q Q' f ⟨ks,gk,e,h,q⟩;exact⟨ks,gk,e,h,f _ q⟩
theorem pY{K:aC}:tQ K (e9 K) lJ:=by
 rintro vs H Q P ds hP hv ⟨ks,gk,rfl,h,q⟩;obtain⟨v,u,rfl,r1,r2⟩:=vh hv;obtain⟨a,ys,rfl,g1,_,g2⟩:=az.cC r1;exact⟨a,u,ys,ks,gk,rfl,g1,⟨g2.1,λi x d a b=>(g2.2 i x d a b).now⟩,r2.now,h,λH' s=>q _ H' s (.bl _)⟩
def fJ(hs:List (List Kd×Kd))(j:Int)(n:Nat):Prop:=∃h,0<=j/\hs[j.toNat]?=some h/\(h.1++[h.2]).all cm=true/\n=h.1.length
def mP(ai:Addr):Cp:=λds Q Ex=>∃(hs:List (List Kd×Kd)) (j:Int) (ws:List Int),ds=[.list (hs.map wY),.int j,.list (ws.map PyData.int)]/\(∀h∈hs,h.1.length<=100)/\(fJ hs j ws.length->Q .none)/\(¬ fJ hs j ws.length->Ex ai [])
def eB(K:aC)(ai:Addr):Sp:=Lc K (mP ai)
def eD:nV:=λds Q=>∃(p:iI),ds=[kM p]/\p.tk.length<=100/\Q (.list (kh (p.tk.map (·.2))))
def cn(K:aC):Sp:=yp K eD
theorem km:jW eD:=by
 rintro ds Q Q' f ⟨p,e,h,q⟩;exact⟨p,e,h,f _ q⟩
theorem ko{K:aC}:tQ K (cn K) eD:=jV
def pZ:nV:=λds Q=>∃(ms:mJ) (ps:List iI),ds=[kN ms ps]/\ps.length<=100/\(∀p∈ps,p.tk.length<=100)/\Q (.list ((dH ps).map wY))
def fK(K:aC):Sp:=yp K pZ
def iU(K:aC):Sp:=λvs H Q _=>∃(x c l:Addr),vs=[.ref x,.ref c,.ref l]/\cy K H l []/\Q .non H
def fL(K:aC)(au:Addr):Sp:=λvs H Q _=>∃(x c t:Addr),vs=[.ref x,.ref c,.ref t]/\((∃n:Int,dY K H t [.str "num",.int n]/\Q (.int n) H) ∨
 ∃(nm:Str) (d dc:Addr) (dep:Int) (kvs:List (Key×V)) (v:V),dY K H t [.str "var",.str nm]/\H c=some (.ins au dc (vK dep d))/\H d=some (.dK kvs)/\kvs.find? (λp=>decide (p.1=Sum.inr nm))=some (Sum.inr nm,v)/\Q v H)
def fc(_K:aC)(C:Addr):Sp:=λvs H Q _=>∃(x dx d:Addr) (p:Int),vs=[.ref x,.int p,.ref d]/\H x=some (.ins C dx []) /\
 ∀(H':Hp),H' x=some (.ins C dx (vK p d))->(∀c o,c≠x->H c=some o->H' c=some o)->Q .non H'
def kq(K:aC)(C:Addr):Sp:=λvs H Q _=>∃(x dx b il:Addr) (j:Nat) (dep:Int) (sd:Addr) (bud:Int) (ms:mJ) (ps:List iI) (p:iI) (ws:List Int) (w:Int),vs=[.ref x,.int (j:Int),.ref il,.int dep]/\H x=some (.ins C dx (ki b sd bud))/\bp K H (.ref b) (kN ms ps)/\ps[j]?=some p/\cy K H il (ws.map V.int)/\ws.length=p.tk.length/\ws.length<=100/\(p.tk.map (·.1)).Nodup/\kO p ws w/\∀H',aH H H'->Q (.int w) H'
def iV(K:aC)(C:Addr):Sp:=λvs H Q _=>∃(x dx b il:Addr) (j:Nat) (sd:Addr) (bud:Int) (ms:mJ) (ps:List iI) (p:iI) (ws:List Int) (w:Int),vs=[.ref x,.int (j:Int),.ref il]/\H x=some (.ins C dx (ki b sd bud))/\bp K H (.ref b) (kN ms ps)/\ps[j]?=some p/\cy K H il (ws.map V.int)/\ws.length=p.tk.length/\ws.length<=100/\(p.tk.map (·.1)).Nodup/\kO p ws w/\∀t H',aH H H'->dY K H' t [.str "gave",.int w]->Q (.ref t) H'
def cZ(_K:aC)(C:Addr):Sp:=λvs H Q _=>∃(x dx b:Addr) (bud:Int),vs=[.ref x,.ref b,.int bud]/\H x=some (.ins C dx []) /\
 ∀(sd:Addr) (H':Hp),H sd=none->H' x=some (.ins C dx (ki b sd bud))->H' sd=some (.lst [])->(∀c o,c≠x->H c=some o->H' c=some o)->Q .non H'
def du(K:aC)(ai:Addr):Sp:=λvs H Q E=>∃(b il:Addr) (j bud:Int) (ms:mJ) (ps:List iI) (ws:List Int),vs=[.ref b,.int j,.ref il,.int bud]/\bp K H (.ref b) (kN ms ps)/\ps.length<=100/\(∀p∈ps,p.tk.length<=100)/\cy K H il (ws.map V.int) /\
 (∀(jn:Nat) (p:iI),j=(jn:Int)->ps[jn]?=some p->(p.tk.map (·.2)++[p.gv]).all cm=true->ws.length=p.tk.length->(p.tk.map (·.1)).Nodup/\∃w,kO p ws w/\∀(t u l:Addr) (H':Hp),aH H H'->H l=none->dY K H' t [.ref u,.ref l,.int bud]->dY K H' u [.str "gave",.int w]->H' l=some (.lst [])->Q (.ref t) H') /\
 (¬ fJ (dH ps) j ws.length->∀dd H',aH H H'->E (.ref ai) dd H')
def jh(ai:Addr):Cp:=λds Q Ex=>∃(j bud:Int) (ms:mJ) (ps:List iI) (ws:List Int),ds=[kN ms ps,.int j,.list (ws.map PyData.int),.int bud]/\ps.length<=100/\(∀p∈ps,p.tk.length<=100) /\
 (∀(jn:Nat) (p:iI),j=(jn:Int)->ps[jn]?=some p->(p.tk.map (·.2)++[p.gv]).all cm=true->ws.length=p.tk.length->(p.tk.map (·.1)).Nodup/\∃w,kO p ws w/\Q (.tuple [.tuple [.str "gave",.int w],.list [],.int bud]))/\(¬ fJ (dH ps) j ws.length->Ex ai [])
theorem mQ{ai:Addr}:AR (jh ai):=by
 rintro ds Q Q' X X' f f2 ⟨j,bud,ms,ps,ws,e,h1,h2,h4,h5⟩;exact⟨j,bud,ms,ps,ws,e,h1,h2,λjn p a b c d=>let ⟨z,w,r,q⟩:=h4 jn p a b c d;⟨z,w,r,f _ q⟩,λn=>f2 _ _ (h5 n)⟩
theorem mR{K:aC}{ai:Addr}:E9 K (du K ai) (jh ai):=by
 rintro vs H Q E P ds hP hv ⟨j,bud,ms,ps,ws,rfl,h1,h2,h4,h5⟩;obtain⟨v0,v1,v2,v3,rfl⟩:=Jw hv.1;have r0:=hv.2 0 v0 _ rfl rfl;obtain⟨b,bs,rfl,_,_,_⟩:=az.bT (show az K P H v0 (.tuple _)from r0);have r1:=az.aP (hv.2 1 v1 _ rfl rfl);obtain⟨il,is,rfl,hI,_,Lz⟩:=az.cC (hv.2 2 v2 _ rfl rfl);have r3:=az.aP (hv.2 3 v3 _ rfl rfl);subst r1;subst r3;have ei:is=ws.map V.int:=ju Lz;subst ei;refine⟨b,il,j,bud,ms,ps,ws,rfl,r0.now,h1,h2,hI,λjn p a b c d=>?_,λn dd H' s=>h5 n dd H' s (.inl rfl)⟩;obtain⟨z,w,r,q⟩:=h4 jn p a b c d;refine⟨z,w,r,λt u l H' s nl gt gu gl=>q _ H' s ?_⟩;have I:DI (k0 K) H' (λ_=>True) P [] H' []:=⟨rfl,List.nodup_nil,(λa ha=>nomatch ha),(λk fp c h=>by simp at h),.refl,(λa ha=>nomatch ha),(λa ha=>nomatch ha),λc z=>let ⟨o,e,m⟩:=hP c z;⟨o,s _ _ e,m⟩,trivial⟩
 have nf:¬ Fb P [] [] l:=λz=>by
  rcases z with z | ⟨k,fp,ce,e,_⟩
  ·obtain⟨o,e,_⟩:=hP l z;rw[nl]at e;cases e
  ·simp at e
 have rr:az K (Fb P [] []) H' (.ref t) (.tuple [.tuple [.str "gave",.int w],.list [],.int bud]):=bp.BO (I.ya gt) (.cons (bp.BO (I.ya gu) (.cons (.str _) (.cons (.int _) .nil))) (.cons (az.lst nf gl .nil) (.cons (.int _) .nil)));exact rr.sub (λc z=>.inl z)
def gI:nV:=λds Q=>∃(j bud:Int) (ms:mJ) (ps:List iI) (ws:List Int),ds=[kN ms ps,.int j,.list (ws.map PyData.int),.int bud]/\ps.length<=100/\(∀p∈ps,p.tk.length<=100) /\
 (∀(jn:Nat) (p:iI),j=(jn:Int)->ps[jn]?=some p->(p.tk.map (·.2)++[p.gv]).all cm=true->ws.length=p.tk.length->(p.tk.map (·.1)).Nodup/\∃w,kO p ws w/\Q (.tuple [.tuple [.str "gave",.int w],.list [],.int bud]))/\(¬ fJ (dH ps) j ws.length->Q (.tuple [.str "door",.bool true,.int 0]))
def eh(K:aC):Sp:=yp K gI
theorem oq:jW gI:=by
 rintro ds Q Q' f ⟨j,bud,ms,ps,ws,e,h1,h2,h4,h5⟩;exact⟨j,bud,ms,ps,ws,e,h1,h2,λjn p a b c d=>let ⟨z,w,r,q⟩:=h4 jn p a b c d;⟨z,w,r,f _ q⟩,λn=>f _ (h5 n)⟩
theorem ou{K:aC}:tQ K (eh K) gI:=jV
def ip:mJ:=[(none,[]),(some 0,[.num])]
theorem p0{k:Kd}:cm k=true↔k=.num:=by
 cases k<;>simp[cm]
theorem iW{p:iI}{n:Nat}:((p.tk.map (·.2)++[p.gv]).all cm=true/\n=p.tk.length)↔kl p n:=by
 unfold kl;rw[List.all_append,Bool.and_eq_true];simp[p0]
theorem fU{ps:List iI}{j:Int}{n:Nat}:fJ (dH ps) j n↔∃(jn:Nat) (p:iI),j=(jn:Int)/\ps[jn]?=some p/\kl p n:=by
 constructor
 ·rintro⟨h,h0,h1,h2,h3⟩;unfold dH at h1;rw[List.getElem?_map]at h1
  cases e:ps[j.toNat]? with
  | none=>rw[e]at h1;cases h1
  | some p =>
   rw[e]at h1;cases h1;exact⟨j.toNat,p,by omega,e,iW.mp ⟨h2,by rw[h3,M8]⟩⟩
 ·rintro⟨jn,p,rfl,hp,hd⟩;obtain⟨h1,h2⟩:=iW.mpr hd;refine⟨(p.tk.map (·.2),p.gv),by omega,?_,h1,by rw[h2,List.length_map]⟩;unfold dH;rw[Int.toNat_natCast,List.getElem?_map,hp];rfl
theorem vR(k:Kd):Sh 1 (.tuple (fv k)):=by
 cases k with
 | num=>exact ck (aA dG bt)
 | any=>exact ck (aA dG bt)
 | whole c=>exact ck (aA dG (aA fE bt))
 | raw c m=>exact ck (aA dG (aA fE (aA fE bt)))
theorem Fv{ps:List iI}(h:∀p∈ps,∃b,Fu b p):Sh 6 (kN ip ps):=by
 refine ck (aA ?_ (aA (dm (mF λp hp=>?_)) bt))
 ·exact(dm (n:=4) (aA (ck (n:=3) (aA Co (aA (dm (n:=2) bt) bt))) (aA (ck (n:=3) (aA fE (aA (dm (n:=2) (aA (ck (n:=1) (aA dG bt)) bt)) bt))) bt)))
 ·obtain⟨b,hb⟩:=h p hp;obtain⟨i,_,hl⟩:=hb.nm;exact ck (n:=3) (aA (dm (n:=2) (mF λt ht=>ck (n:=1) (aA (dG (hl.txt t ht)) (aA (vR t.2) bt)))) (aA ((vR p.gv).up (by decide)) (aA (dm (n:=2) bt) (aA hb.sh bt))))
def Cy(ps:List iI)(j:Int)(ws:List Int):Option Int->Prop
 | none=>¬ fJ (dH ps) j ws.length
 | some w=>∃(jn:Nat) (p:iI),j=(jn:Int)/\ps[jn]?=some p/\kl p ws.length/\kO p ws w
theorem yS{ps:List iI}{j bud:Int}{ws:List Int}{o:Option Int}{F:PyData->Prop}(hpk:∀p∈ps,∃b,Fu b p)(ho:Cy ps j ws o)(h:F (rp o bud)):
  (∀(jn:Nat) (p:iI),j=(jn:Int)->ps[jn]?=some p->(p.tk.map (·.2)++[p.gv]).all cm=true->ws.length=p.tk.length->(p.tk.map (·.1)).Nodup/\∃w,kO p ws w/\F (.tuple [.tuple [.str "gave",.int w],.list [],.int bud]))/\(¬ fJ (dH ps) j ws.length->F (.tuple [.str "door",.bool true,.int 0])):=by
 cases o with
 | none=>exact⟨λjn p a b c d=>absurd (fU.mpr ⟨jn,p,a,b,iW.mp ⟨c,d⟩⟩) ho,λ_=>h⟩
 | some w =>
  obtain⟨jn,p,ej,hp,hd,ha⟩:=ho;refine⟨λjn' p' a b c d=>?_,λn=>absurd (fU.mpr ⟨jn,p,ej,hp,hd⟩) n⟩;obtain rfl:jn'=jn:=by omega
  rw[hp]at b;cases b;obtain⟨b,hb⟩:=hpk p (Nl hp);obtain⟨i,_,hl⟩:=hb.nm;exact⟨hl.nodup,w,ha,h⟩
def mS(K:aC):Sp:=λvs H Q _=>∃(a:Addr) (ns:List Int),vs=[.ref a]/\cy K H a (ns.map V.int)/\ns.length<=63/\∀H',Q (.bl true) H'
section
variable {P:Program} {w:World} {K:aC} {mg:Str->Option Value} {base:Heap}
theorem dw:aL ["_law_script","_law_k","_law_far","_law_cell_here"] ["_law_script","_law_k"] (dS gz):=by walk_at "sc"
theorem mT{f:Addr}{fd:FuncData}(F:iH K "_law_cell" "_law_cell" gz f fd)(bZ:mg "len"=none){au:Addr}(aK:aw K au):bB P w K mg base cf 1 f fd ["_law_script","_law_k"] (ee K):=by
 refine F.ok dw (λvs H Q E h=>?_) (λcdv A outer s H vs Q E hr h=>?_)
 ·obtain⟨a,ns,k,rfl,hS,h0,h1,q⟩:=h;rfl
 obtain⟨a,ns,k,rfl,hS,h0,h1,q⟩:=h;refine⟨_,(qK (qs (tR qy (pv 1) (eI hJ rfl bZ ur (pK (pv 0) pN)) (eO _)) (qO (eM (eK lW (pv 0) (pv 1) (λ_ _=>rfl)))) js)
   (qK (fz (i:=2) dw.nd rfl (Nb rfl) (g7 ua pI (g7 oZ (pv 1) pI)))
   (qK (oX NX rfl (jt (nF qG (pv 0) qE (qF pI))) (bO (i:=3) dw.nd rfl (Nb rfl)) (qO (fz (i:=2) dw.nd rfl (Nb rfl) (g7 oZ (g7 ua (pv 2) pI) (g7 pb (pv 3) pI)))))
   (qO (eM (g7 pb (g7 xQ (pv 2) (pv 2)) pI)))))),?_⟩
 refine⟨_,rfl,_,rfl,a,_,rfl,.inl hS,_,_,rfl,rfl,_,rfl,?_⟩;refine GV (λc=>?_) (λc=>?_)
 ·have c':k < (((ns.map V.int).length:Nat):Int):=Ow c;rw[M8]at c';have hk:k.toNat < ns.length:=by omega
  have ek:((k.toNat:Nat):Int)=k:=by omega
  refine⟨_,rfl,_,rfl,a,_,_,_,rfl,rfl,hS,(?_:i9 (ns.map V.int) k=some (.int ns[k.toNat])),q _ _ (aH.refl _)⟩;have z:i9 (ns.map V.int) ((k.toNat:Nat):Int)=some (.int ns[k.toNat]):=aN (by rw[Nk,gR hk];rfl);rw[ek]at z;exact z
 ·walk_at "rd";refine⟨a,_,rfl,hS,λp hp=>?_⟩;refine⟨p,rfl,⟨_,cy.of uS⟩,?_⟩;have sm:aH H (upd H p (.lst (g9 (ns.map V.int) none (some 8)))):=λb o e=>by rw[uN (nN e hp)];exact e
  rw[HB]at sm ⊢;refine nA (xs:=(ns.take 8).map V.int) (λi σ H2=>∃(far:Int) (v:Option V),σ=[some (.ref a),some (.int k),some (.int far),v]/\H2=upd H p (.lst ((ns.take 8).map V.int))/\0<=far/\far < 2000000000 * (32:Int) ^ i) ?_ ?_ ?_ ?_
  ·exact⟨_,none,rfl,rfl,by omega,by simp;omega⟩
  ·rintro i σ H2 hi ⟨far,v,rfl,rfl,_⟩;exact cy.of uS
  ·rintro i y σ H2 hi ⟨far,v,rfl,rfl,f0,f1⟩
   obtain⟨z,rfl⟩:∃z,y=V.int z:=by
    rw[Nk]at hi
    cases e:(ns.take 8)[i]? with
    | none=>rw[e]at hi;cases hi
    | some z=>rw[e]at hi;exact⟨z,(Np hi).symm⟩
   have ML:(1:Int)<=32 ^ i:=by
    have:=Int.pow_pos (n:=32) (m:=i) (by decide);omega
   have LA:=Og z (show(1000033:Int)≠0 by decide);have MM:=Oo z (show(0:Int) < 1000033 by decide);walk_at "rd";rw[Int.pow_succ];omega
  ·rintro σ H2 ⟨far,v,rfl,rfl,f0,f1⟩;have hl:((ns.take 8).map V.int).length<=8:=by simp;omega
   have LB:(32:Int) ^ ((ns.take 8).map V.int).length<=32 ^ 8:=by
    have:=Nat.pow_le_pow_right (n:=32) (by decide) hl
    exact_mod_cast this
   have e8:(32:Int) ^ 8=1099511627776:=by decide
   rw[e8]at LB;refine⟨_,rfl,_,rfl,_,_,rfl,rfl,⟨⟨by omega,by omega⟩,by omega,by omega⟩,_,_,rfl,rfl,(by show(0:Int) < 998244353;decide),q _ _ sm⟩
theorem cR:aL ["_law_part_here","_law_inputs","_law_name","_law_kind","_law_pair","_law_word_here"] ["_law_part_here","_law_inputs"] (dS iR):=by walk_at "sc"
theorem ow{f:Addr}{fd:FuncData}(F:iH K "_law_due" "_law_due" iR f fd)(bZ:mg "len"=none)(kr:mg "zip"=none){au:Addr}(aK:aw K au):bB P w K mg base cf 1 f fd ["_law_part_here","_law_inputs"] (e7 K):=by
 refine F.ok cR (λvs H Q E h=>?_) (λcdv A outer s H vs Q E hr h=>?_)
 ·obtain⟨PP,ds,hP,hv,b,p,ws,rfl,hp,hws,q,x⟩:=h;exact hv.1
 obtain⟨PP,ds,hP,hv,b,p,ws,rfl,hp,hws,q,x⟩:=h;refine cj hP hv ?_;show nY _ _ _ _ [some _,some _,none,none,none,none] [];clear hP hv;rw[show kM p=.tuple [.list (p.tk.map lI),.tuple (fv p.gv),.list [],p.an]from rfl];obtain⟨ni,hni,hl⟩:=hp.nm;refine ay (mC NX rfl (jX (aZ (n:=0) (ah 0))) (gy (m:=2) rfl (aY (bc (i:=2) cR.nd rfl (Nb rfl)) (aY (bc (i:=3) cR.nd rfl (Nb rfl)) eY))) (aG (bH (ia (hr.units) (ah 3) (aJ (af aV ak))) (aG (bh gx)) aO))) (λR kk=>?_);walk_at "vc"
 have kn:∀k:Kd,(k≠.num->¬ PyData.eqv (.tuple (fv k)) (.tuple [.str "number"])=true)/\(k=.num->PyData.eqv (.tuple (fv k)) (.tuple [.str "number"])=true):=λk=>by
  rw[show PyData.eqv (.tuple (fv k)) (.tuple [.str "number"])=decide (k=Kd.num)from vJ k .num];exact⟨λh=>by simpa using h,λh=>by simpa using h⟩
 refine jv (λi env st=>∃(o2 o3:Option DV),env=[some (.dat (.tuple [.list (p.tk.map lI),.tuple (fv p.gv),.list [],p.an])),some (.dat (.list (ws.map PyData.int))),o2,o3,none,none]/\st=[]/\∀j t,j < i->p.tk[j]?=some t->t.2=.num) ⟨_,_,rfl,rfl,λj t h=>absurd h (by omega)⟩ (λ_ _ _ _=>trivial) ?_ ?_
 ·rintro i env st d hd ⟨o2,o3,rfl,rfl,ha⟩;rw[Nk]at hd
  cases hk:p.tk[i]? with
  | none=>rw[hk]at hd;cases hd
  | some t =>
   rw[hk]at hd;cases hd;rw[show lI t=.tuple [.str t.1,.tuple (fv t.2)]from rfl];walk_at "vc";refine⟨rfl,⟨mK _,by decide +kernel⟩,?_⟩;by_cases e:t.2=.num
   ·rw[(kn t.2).2 e];refine bI ⟨_,_,rfl,rfl,λj s hj hs=>?_⟩;rcases Nat.lt_or_ge j i with z | z
    ·exact ha j s z hs
    ·obtain rfl:j=i:=by omega
     rw[hk]at hs;cases hs;exact e
   ·rw[Ov.mpr ((kn t.2).1 e)];exact cz (x λh=>e (h.1.1 t (Nl hk)))
 rintro env st ⟨o2,o3,rfl,rfl,ha⟩
 have ha:∀t∈p.tk,t.2=.num:=λt ht=>by
  obtain⟨j,hj,e⟩:=Oe.mp ht;exact ha j t (by rw[M8];exact hj) (by rw[gR hj,e])
 refine kk _ _ ?_;clear kk R;refine ay (bH (oR.dt (jd (ia (hr.units) (aZ (n:=1) (ah 0)) (aJ (af aV ak))) (iO (ia (hr.units) (et rfl bZ (af (ah 1) ak)) (et rfl bZ (af (aZ (n:=0) (ah 0)) ak)))))) (aG (bh gx)) aO) (λR kk=>?_);walk_at "vc";refine⟨⟨mK _,by decide +kernel⟩,?_⟩;by_cases hg:p.gv=.num;rotate_left
 ·rw[Ov.mpr ((kn p.gv).1 hg)];exact cz (cz (x λh=>hg h.1.2))
 rw[(kn p.gv).2 hg];refine bI ?_;rw[M8,M8];by_cases hlen:ws.length=p.tk.length;rotate_left
 ·rw[NH (show ¬ (ws.length:Int)=(p.tk.length:Int)by omega)];exact cz (x λh=>hlen h.2)
 rw[NQ (show(ws.length:Int)=(p.tk.length:Int)by omega)];refine bI (kk _ _ ?_);clear kk R;have hd:kl p ws.length:=⟨⟨ha,hg⟩,hlen⟩;have q:=q hd;clear x;refine ay (bH (h7 (hr.units) (aZ (n:=0) (aZ (n:=3) (ah 0))) aV) (aG (bh (aZ (n:=1) (aZ (n:=3) (ah 0))))) aO) (λR kk=>?_);rcases hp.an with⟨_,⟨n,hn,e⟩ | ⟨t,ht,_,e⟩⟩ | ⟨_,e⟩
 ·rw[e];walk_at "vc";exact cz (q n (.num e))
 ·rw[e];walk_at "vc";refine bI (kk _ _ ?_);clear kk R;refine ay (mC NX rfl (Cc rfl kr (af (aZ (n:=0) (ah 0)) (af (ah 1) ak))) (gy (m:=2) rfl (aY (bc (i:=4) cR.nd rfl (Nb rfl)) (aY (bc (i:=5) cR.nd rfl (Nb rfl)) eY))) (aG (bH (h7 (hr.units) (aZ (n:=0) (ah 4)) (aZ (n:=1) (aZ (n:=3) (ah 0)))) (aG (bh (ah 5))) aO))) (λR kk=>?_);walk_at "vc";refine jv (λi env st=>∃(o4 o5:Option DV),env=[some (.dat (.tuple [.list (p.tk.map lI),.tuple (fv p.gv),.list [],.tuple [.str "var",.str t.1]])),some (.dat (.list (ws.map PyData.int))),o2,o3,o4,o5]/\st=[]/\∀j,j < i->(p.tk.map (·.1))[j]?≠some t.1) ⟨_,_,rfl,rfl,λj h=>absurd h (by omega)⟩ (λ_ _ _ _=>trivial) ?_ ?_
  ·rintro i env st d hd ⟨o4,o5,rfl,rfl,hb⟩
   obtain⟨s,w,hs,hw,rfl⟩:∃s w,p.tk[i]?=some s/\ws[i]?=some w/\d=.tuple [lI s,.int w]:=by
    obtain⟨x,y,hx,hy,rfl⟩:=yH hd;rw[Nk]at hx hy
    cases h1:p.tk[i]? with
    | none=>rw[h1]at hx;cases hx
    | some s =>
     cases h2:ws[i]? with
     | none=>rw[h2]at hy;cases hy
     | some w =>
      rw[h1]at hx;rw[h2]at hy;cases hx;cases hy;exact⟨s,w,rfl,rfl,rfl⟩
   rw[show lI s=.tuple [.str s.1,.tuple (fv s.2)]from rfl];walk_at "vc";have hm:(p.tk.map (·.1))[i]?=some s.1:=by rw[Nk,hs];rfl
   refine⟨rfl,cW (λe1=>q w (.var e (ro (by rw[hm,e1]) hw hb))) λe1=>⟨_,_,rfl,rfl,λj hj=>?_⟩⟩;rcases Nat.lt_or_ge j i with z | z
   ·exact hb j z
   ·obtain rfl:j=i:=by omega
    rw[hm];exact λh=>e1 (Np h)
  ·rintro env st ⟨o4,o5,rfl,rfl,hb⟩;obtain⟨j,hj,ej⟩:=Oe.mp ht;exact absurd (by rw[Nk,gR hj,ej];rfl) (hb j (by rw[vA,M8,M8];omega))
 ·rw[hg]at e;cases e
theorem mU:aL ["_law_cell_here"] ["_law_cell_here"] (dS gA):=by walk_at "sc"
theorem mV{f:Addr}{fd:FuncData}(F:iH K "_law_word" "_law_word" gA f fd){au:Addr}(aK:aw K au):bB P w K mg base cf 1 f fd ["_law_cell_here"] (cQ K):=by
 refine F.ok mU (λvs H Q E h=>?_) (λcdv A outer s H vs Q E hr h=>?_)
 ·obtain⟨PP,ds,hP,hv,c,rfl,q⟩:=h;exact hv.1
 obtain⟨PP,ds,hP,hv,c,rfl,q⟩:=h;refine cj hP hv ?_;show nY _ _ _ _ [some _] [];clear hP hv;refine ay (bH (h7 (hr.units) (bg (ah 0) aq) aq) (aG (bh (mq (bg (eU (ah 0) aq) aq) aq))) aO) (λR kk=>?_);walk_at "vc";refine⟨by decide,cW (λ_=>⟨⟨by decide,by decide⟩,by decide,q _ ?_⟩) λ_=>kk _ _ ?_⟩
 ·unfold DR;omega
 clear kk R;refine cI (bh (mq (bg (uU (eU (ah 0) aq) aq) aq) aq)) ?_;walk_at "vc";refine⟨⟨by decide,by decide⟩,.inl (.inr ⟨by decide,by decide⟩),by decide,q _ ?_⟩;unfold DR;omega
theorem aD:aL ["_law_cell_here","_law_door","_law_many","_law_names","_law_k","_law_way","_law_kind","_law_answer","_law_some"] ["_law_cell_here","_law_door"] (dS gB):=by walk_at "sc"
theorem mW{f:Addr}{fd:FuncData}(F:iH K "_law_part" "_law_part" gB f fd)(cq:mg "divmod"=none)(bZ:mg "len"=none)(dz:mg "range"=none){au:Addr}(aK:aw K au)(fM:gW P w K mg base cf "_law_word" 1 ["_law_cell_here"] (cQ K)):bB P w K mg base cf 2 f fd ["_law_cell_here","_law_door"] (ef K):=by
 refine F.ok aD (λvs H Q E h=>?_) (λcdv A outer s H vs Q E hr h=>?_)
 ·obtain⟨PP,ds,hP,hv,c,b,rfl,hc,q⟩:=h;exact hv.1
 obtain⟨PP,ds,hP,hv,c,b,rfl,hc,q⟩:=h;refine cj hP hv ?_;show nY _ _ _ _ [some _,some _,none,none,none,none,none,none,none] [];clear hP hv;refine ay (j7 (fT rfl cq (af (ah 0) (af aq ak))) (gy (m:=2) rfl (aY (bc (i:=0) aD.nd rfl (Nb rfl)) (aY (bc (i:=2) aD.nd rfl (Nb rfl)) eY)))) (λR kk=>?_);walk_at "vc";refine⟨⟨by decide,by decide⟩,rfl,?_⟩;obtain⟨m0,LC,LA⟩:=mL c (m:=5) (n:=5) rfl (by decide);have Jx:0<=c / 5:=Int.ediv_nonneg hc (by decide);rw[LC];generalize c / 5=c1 at Jx;refine kk _ _ ?_;clear kk R;refine ay (bH (h7 (hr.units) (bg (ah 0) aq) aq) (aG (aT (i:=2) aD.nd rfl (Nb rfl) (mq aq (bg (eU (ah 0) aq) aq)))) aO) (λR kk=>?_);walk_at "vc"
 have big:∀m:Nat,m<=20->R [some (.dat (.int c1)),some (.dat (.bool b)),some (.dat (.int (m:Int))),none,none,none,none,none,none] []:=by
  intro m hm;refine kk _ _ ?_;clear kk R;refine ay (aT (i:=3) aD.nd rfl (Nb rfl) (yj ak)) (λR kk=>?_);walk_at "vc";refine kk _ _ ?_;clear kk R;refine ay (mC NX rfl (fS rfl dz (af (ah 2) ak)) (bc (i:=4) aD.nd rfl (Nb rfl)) (aS (j7 (fT rfl cq (af (ah 0) (af aq ak))) (gy (m:=2) rfl (aY (bc (i:=0) aD.nd rfl (Nb rfl)) (aY (bc (i:=5) aD.nd rfl (Nb rfl)) eY))))
   (aS (aT (i:=6) aD.nd rfl (Nb rfl) (fD (bz (af (aJ (af aV ak)) (af (aJ (af aV ak)) (af (aJ (af aV ak)) (af (aJ (af aV (af (bg (ah 5) aq) ak))) ak))))) (ah 5) (λ_ _=>rfl)))
   (aS (bH (eV (ah 1)) (aG (aT (i:=6) aD.nd rfl (Nb rfl) (aJ (af aV ak)))) aO)
   (aG (yD (sF (ah 3) (af (aJ (af (eT (eT (AH aV qX (qY (ah 5))) (fD aV (ah 4) (λ_ _=>rfl))) (AH aV qX (qY (bg (ah 0) aq)))) (af (ah 6) ak))) ak)))))))) (λR kk=>?_)
  walk_at "vc";refine⟨⟨by omega,by omega⟩,?_⟩;refine jv (λi env st=>∃(c2:Int) (l:List (Str×Kd)) (o4 o5 o6:Option DV),0<=c2/\env=[some (.dat (.int c2)),some (.dat (.bool b)),some (.dat (.int (m:Int))),some (.ref 0),o4,o5,o6,none,none]/\st=[.live (l.map lI)]/\vN b i l) ⟨c1,[],_,_,_,Jx,rfl,rfl,vN.nil b⟩ (λ_ _ _ _=>trivial) ?_ ?_
  ·rintro i env st d hd ⟨c2,l,o4,o5,o6,An,rfl,rfl,hl⟩;obtain⟨hi,rfl⟩:=ib hd;walk_at "vc";have hi:i < m:=by simpa using hi
   have Gy:i < 20:=by omega
   obtain⟨w,ew,hw⟩:=mL c2 (m:=4) (n:=4) rfl (by decide);have HC:0<=c2 / 4:=Int.ediv_nonneg An (by decide);rw[ew];generalize c2 / 4=c3 at HC;obtain⟨z,ez,hz⟩:=mL c3 (m:=5) (n:=5) rfl (by decide);rw[ez,Int.zero_add];have ec:=Fp i Gy;have n1:=Fq w hw;have n2:=Fs z hz;have n3:=Ft w hw i Gy;have ll:=hl.len;have lm:(l.map lI).length < 1000000:=by rw[M8];omega
   have one:(⟨#[98 + i]⟩:Str).length=1:=rfl
   have kd:∃(d:PyData) (k:Kd),i9 [PyData.tuple [.str "number"],.tuple [.str "number"],.tuple [.str "number"],.tuple [.str "whole",.int ((w:Int) % 2)]] (w:Int)=some d/\d=.tuple (fv k)/\(k=.num∨k=.whole 0∨k=.whole 1):=by
    match w,hw with
    | 0,_=>exact⟨_,.num,rfl,rfl,.inl rfl⟩
    | 1,_=>exact⟨_,.num,rfl,rfl,.inl rfl⟩
    | 2,_=>exact⟨_,.num,rfl,rfl,.inl rfl⟩
    | 3,_=>exact⟨_,.whole 1,rfl,rfl,.inr (.inr rfl)⟩
   obtain⟨d,k,hd',rfl,hk⟩:=kd;refine⟨⟨by decide,by decide⟩,rfl,by decide,_,hd',?_⟩
   cases b with
   | true=>exact cz ⟨rfl,by decide,by decide,98 + i,ec,by rw[one];omega,by decide,by decide,by omega,lm,c3,l++[(vO w i z,.num)],_,_,_,HC,rfl,by rw[NM];rfl,hl.snoc hw Gy hz (.inl rfl) λ_=>rfl⟩
   | false=>exact bI ⟨rfl,by decide,by decide,98 + i,ec,by rw[one];omega,by decide,by decide,by omega,lm,c3,l++[(vO w i z,k)],_,_,_,HC,rfl,by rw[NM];rfl,hl.snoc hw Gy hz hk λe=>by cases e⟩
  rintro env st ⟨c2,l,o4,o5,o6,An,rfl,rfl,hl⟩;rw[dF]at hl;have hl:vN b m l:=by simpa using hl
  refine kk _ _ ?_;clear kk R;refine ay (j7 (fT rfl cq (af (ah 0) (af aq ak))) (gy (m:=2) rfl (aY (bc (i:=0) aD.nd rfl (Nb rfl)) (aY (bc (i:=5) aD.nd rfl (Nb rfl)) eY)))) (λR kk=>?_);walk_at "vc";refine⟨⟨by decide,by decide⟩,rfl,?_⟩;obtain⟨wy,ewy,hwy⟩:=mL c2 (m:=3) (n:=3) rfl (by decide);rw[ewy];generalize c2 / 3=c3;refine kk _ _ ?_;clear kk R;refine ay (aT (i:=7) aD.nd rfl (Nb rfl) (aJ (af aV (af (br fM jg jf (hr.mono (by decide)) rfl (af (ah 0) ak)) ak)))) (λR kk=>?_);walk_at "vc";refine⟨_,rfl,λn hn=>kk _ _ ?_⟩;clear kk R;refine ay (iP ri (i:=8) aD.nd rfl (Nb rfl) 2 ["_law_name","_law_kind"] [] ⟨rfl,rfl,rfl,rfl,rfl,rfl,rfl,rfl⟩ (jX (ah 3)) (λ_ _ _ _=>(t7 rfl (jA (bO (i:=0) (show List.Nodup (["_law_name","_law_kind"]:List Str)by decide +kernel) rfl (Nb rfl)) (jA (bO (i:=1) (show List.Nodup (["_law_name","_law_kind"]:List Str)by decide +kernel) rfl (Nb rfl)) qt)))) (EV (m:=2) (jZ (kJ (i:=0)) (jZ (kJ (i:=1)) yM))) (Hn (nX (pQ (by decide)) (nX (pQ (by decide)) yz))) (λ_ _ _ _=>⟨(Cd (h7 (hr.units) (ah 1) (aJ (af aV ak)))),(ah 0)⟩)) (λR kk=>?_);walk_at "vc";have lm:l.length<=20:=by rw[hl.len];exact hm
  refine vp (λi ys=>ys=((l.take i).filter λt=>decide (t.2=Kd.num)).map λt=>PyData.str t.1) (by rw[M8];omega) rfl ?_ ?_
  ·intro i ys d hd hy;rw[Nk]at hd
   cases hk:l[i]? with
   | none=>rw[hk]at hd;cases hd
   | some t =>
    rw[hk]at hd;cases hd;rw[show lI t=.tuple [.str t.1,.tuple (fv t.2)]from rfl];walk_at "vc";refine⟨rfl,rfl,⟨mK _,by decide +kernel⟩,rfl,?_⟩;rw[show PyData.eqv (.tuple (fv t.2)) (.tuple [.str "number"])=decide (t.2=Kd.num)from vJ t.2 .num,hy,Ox,hk,List.filter_append]
    cases e:decide (t.2=Kd.num)with
    | false =>
     refine bI ?_;show _=List.map _ (_++List.filter _ [t]);rw[List.filter_cons_of_neg (by rw[e];decide),List.filter_nil,N5]
    | true =>
     refine cz ⟨rfl,?_⟩;show _=List.map _ (_++List.filter _ [t]);rw[List.filter_cons_of_pos (by rw[e]),List.filter_nil,NM];rfl
  intro ys hy;rw[M8,OL]at hy;subst hy
  have hso:∀t∈l.filter λt=>decide (t.2=Kd.num),t∈l/\t.2=Kd.num:=λt ht=>by
   obtain⟨h1,h2⟩:=List.mem_filter.mp ht;exact⟨h1,Ow h2⟩
  generalize (l.filter λt=>decide (t.2=Kd.num))=so at hso;walk_at "vc";refine kk _ _ ?_;clear kk R;refine ay (bH (oR.dt (ve (ia (hr.units) (ah 8) (bz ak)) (ra (EN (bg (ah 0) aq) aq)))) (aG (aT (i:=7) aD.nd rfl (Nb rfl) (aJ (af aV (af (fD (ah 8) (bg (eU (ah 0) aq) (et rfl bZ (af (ah 8) ak))) (λ_ _=>rfl)) ak))))) aO) (λR kk=>?_);walk_at "vc";have she:Sh 1 (.list (so.map λt=>PyData.str t.1)):=dm (mF λt ht=>⟨hl.txt t (hso t ht).1,NP _⟩)
  have ans:∀a:PyData,((∃n,DR n/\a=.tuple [.str "num",.int n])∨∃t∈l,t.2=.num/\a=.tuple [.str "var",.str t.1])->R [some (.dat (.int c3)),some (.dat (.bool b)),some (.dat (.int (m:Int))),some (.ref 0),o4,some (.dat (.int (wy:Int))),o6,some (.dat a),some (.dat (.list (so.map λt=>PyData.str t.1)))] [.froz (l.map lI)]:=by
   intro a ha
   have hsh:Sh 1 a:=by
    rcases ha with⟨n,hn,rfl⟩ | ⟨t,ht,_,rfl⟩
    ·exact ck (aA dG (aA fE bt))
    ·exact ck (aA dG (aA (dG (hl.txt t ht)) bt))
   refine kk _ _ ?_;clear kk R;refine ay (bH (oR.dt (ve (h7 (hr.units) (ah 5) aq) (ra (eW (eV (ah 1)))))) (aG (bh (aJ (af (ah 3) (af (aJ (af aV (af aq ak))) (af (bz ak) (af (aJ (af aV (af aq (af (bz (af (ah 7) ak)) ak)))) ak))))))) aO) (λR kk=>?_);walk_at "vc"
   have rest:R [some (.dat (.int c3)),some (.dat (.bool b)),some (.dat (.int (m:Int))),some (.ref 0),o4,some (.dat (.int (wy:Int))),o6,some (.dat a),some (.dat (.list (so.map λt=>PyData.str t.1)))] [.froz (l.map lI)]:=by
    refine kk _ _ ?_;clear kk R;refine cI (bh (aJ (af (ah 3) (af (aJ (af aV ak)) (af (bz ak) (af (ah 7) ak)))))) ?_;walk_at "vc";exact q ⟨l,.num,a⟩ ⟨⟨m,hm,hl⟩,.inl ⟨rfl,ha⟩,hsh.up (by decide)⟩
   cases decide ((wy:Int)=0)with
   | false=>exact bI (bI rest)
   | true =>
    refine cz ?_
    cases b with
    | true=>exact bI rest
    | false=>exact cz (q ⟨l,.whole 0,_⟩ ⟨⟨m,hm,hl⟩,.inr ⟨rfl,rfl⟩,ck (aA dG (aA fE (aA (dm (aA hsh bt)) bt)))⟩)
  refine⟨⟨she.ok,by decide +kernel⟩,?_⟩
  cases so with
  | nil=>exact bI (bI (ans _ (.inl ⟨n,hn,rfl⟩)))
  | cons t so =>
   refine cz ⟨by decide,cW (λ_=>⟨⟨by decide,by decide⟩,?_,?_⟩) λ_=>ans _ (.inl ⟨n,hn,rfl⟩)⟩
   ·simp only[List.length_map,List.length_cons];omega
   ·obtain⟨y,ey,hy⟩:=mL (c3 / 4) (m:=(((t::so).map λt=>PyData.str t.1).length:Int)) (n:=(t::so).length) (by rw[List.length_map]) (by simp);rw[ey];obtain⟨s,hs⟩:∃s,(t::so)[y]?=some s:=⟨_,gR hy⟩;obtain⟨h1,h2⟩:=hso s (List.mem_of_getElem? hs);exact⟨_,ic hs,ans _ (.inr ⟨s,h1,h2,rfl⟩)⟩
 refine⟨by decide,cW (λ_=>⟨⟨by decide,by decide⟩,by decide,?_⟩) λ_=>big _ (by omega)⟩;have e:(20 - c1 / 7 % 9:Int)=(((20 - c1 / 7 % 9).toNat:Nat):Int):=by omega
 rw[e];exact big _ (by omega)
theorem kP:aL ["_law_found"] ["_law_found"] (dS fF):=by walk_at "sc"
theorem kQ{f:Addr}{fd:FuncData}(F:iH K "_law_whole" "_law_whole" fF f fd)(ku:mg "bool"=none)(ox:mg "int"=none)(aB:mg "isinstance"=none){au:Addr}(aK:aw K au)(iq:IsT K "bool" (je "bool"))(ky:IsT K "int" yE):bB P w K mg base cf 1 f fd ["_law_found"] (dn K):=by
 refine F.ok kP (λvs H Q E h=>?_) (λcdv A outer s H vs Q E hr h=>?_)
 ·obtain⟨PP,ds,hP,hv,n,rfl,q⟩:=h;exact hv.1
 obtain⟨PP,ds,hP,hv,n,rfl,q⟩:=h;refine cj hP hv ?_;show nY _ _ _ _ [some _] [];clear hP hv;refine cI (bh (eX (iQ ky rfl aB rfl ox BN (ah 0)) (mw (mx (iQ iq rfl aB rfl ku xN (ah 0)))))) ?_;walk_at "vc";exact q
theorem cJ:aL ["_law_told_here","_law_due_here","_law_budget","_law_end","_law_said","_law_left"] ["_law_told_here","_law_due_here","_law_budget"] (dS fG):=by walk_at "sc"
theorem kR{f:Addr}{fd:FuncData}(F:iH K "_law_right" "_law_right" fG f fd)(aB:mg "isinstance"=none)(bZ:mg "len"=none)(fN:mg "list"=none)(fe:mg "tuple"=none){au:Addr}(aK:aw K au)(iu:gW P w K mg base cf "_law_whole" 1 ["_law_found"] (dn K))(iv:IsT K "list" (je "list"))(dI:IsT K "tuple" (je "tuple")):bB P w K mg base cf 2 f fd ["_law_told_here","_law_due_here","_law_budget"] (dq K):=by
 refine F.ok cJ (λvs H Q E h=>?_) (λcdv A outer s H vs Q E hr h=>?_)
 ·obtain⟨PP,ds,hP,hv,o,b,rfl,q⟩:=h;exact hv.1
 obtain⟨PP,ds,hP,hv,o,b,rfl,q⟩:=h;refine cj hP hv ?_;show nY _ _ _ _ [some _,some _,some _,none,none,none] [];clear hP hv
 cases o with
 | none =>
  rw[show rp none b=.tuple [.str "door",.bool true,.int 0]from rfl,show vP none=.none from rfl];refine ay (bH (oR.dt (jd (eW (eV (iQ dI rfl aB rfl fe jI (ah 0)))) (iO (ia (hr.units) (et rfl bZ (af (ah 0) ak)) aq)))) (aG (bh lB)) aO) (λR kk=>?_);walk_at "vc";refine bI (bI (kk _ _ ?_));clear kk R;refine ay (bH (vd (ah 1) gx) (aG (bh (jT (hr.units) (ah 0) (aJ (af aV (af lB (af aq ak))))))) aO) (λR kk=>?_);walk_at "vc";exact cz ⟨⟨by decide +kernel,by decide +kernel⟩,q⟩
 | some w =>
  rw[show rp (some w) b=.tuple [.tuple [.str "gave",.int w],.list [],.int b]from rfl,show vP (some w)=.int w from rfl];refine ay (bH (oR.dt (jd (eW (eV (iQ dI rfl aB rfl fe jI (ah 0)))) (iO (ia (hr.units) (et rfl bZ (af (ah 0) ak)) aq)))) (aG (bh lB)) aO) (λR kk=>?_);walk_at "vc";refine bI (bI (kk _ _ ?_));clear kk R;refine ay (bH (vd (ah 1) gx) (aG (bh (jT (hr.units) (ah 0) (aJ (af aV (af lB (af aq ak))))))) aO) (λR kk=>?_);walk_at "vc";refine bI (kk _ _ ?_);clear kk R;refine ay (j7 (ah 0) (gy (m:=3) rfl (aY (bc (i:=3) cJ.nd rfl (Nb rfl)) (aY (bc (i:=4) cJ.nd rfl (Nb rfl)) (aY (bc (i:=5) cJ.nd rfl (Nb rfl)) eY))))) (λR kk=>?_);walk_at "vc";refine⟨rfl,kk _ _ ?_⟩;clear kk R;refine ay (bH (oR.dt (jd (eW (eV (iQ dI rfl aB rfl fe jI (ah 3)))) (jd (ia (hr.units) (et rfl bZ (af (ah 3) ak)) aq) (jd (eW (eV (br iu ik ij (hr.mono (by decide)) rfl (af (aZ (n:=1) (ah 3)) ak)))) (iO (eW (eV (br iu ik ij (hr.mono (by decide)) rfl (af (ah 5) ak))))))))) (aG (bh lB)) aO) (λR kk=>?_);walk_at "vc";refine bI (bI ⟨w,rfl,?_⟩);walk_at "vc";refine bI ⟨b,rfl,?_⟩;walk_at "vc";refine bI (kk _ _ ?_);clear kk R;refine cI (bh (eX (jT (hr.units) (ah 3) (aJ (af aV (af (ah 1) ak)))) (eX (iQ iv rfl aB rfl fN qH (ah 4)) (eX (jT (hr.units) (ah 4) (bz ak)) (mw (jT (hr.units) (ah 5) (ah 2))))))) ?_;walk_at "vc";have sh:Sh 1 (.tuple [.str "gave",.int w]):=ck (aA dG (aA fE bt));refine⟨⟨sh.ok,sh.ok⟩,?_⟩;rw[sh.self,NQ (rfl:b=b)];exact cz (cz ⟨⟨by decide +kernel,by decide +kernel⟩,cz q⟩)
theorem p4:aL ["takes","gives"] ["takes","gives"] (dS iS):=by walk_at "sc"
theorem p5{f:Addr}{fd:FuncData}(F:iH K "is_door" "is_door" iS f fd)(oy:mg "all"=none){au:Addr}(aK:aw K au):bB P w K mg base cf 1 f fd ["takes","gives"] (e9 K):=by
 refine F.ok p4 (λvs H Q E h=>?_) (λcdv A outer s H vs Q E hr h=>?_)
 ·obtain⟨tl,g,ys,ks,gk,rfl,hS,hK,hg,fV,q⟩:=h;rfl
 obtain⟨tl,g,ys,ks,gk,rfl,hS,hK,hg,fV,q⟩:=h;refine⟨_,(qO (eM (eI (uw rfl) rfl oy BM (pK (Ar 1 ["kind"] [] ⟨rfl,rfl,rfl,rfl,rfl,rfl,rfl,rfl⟩ (jt (g7 qM (pv 0) (lS (pK (pv 1) pN)))) (λ_ _ _ _=>⟨(bO (i:=0) (show List.Nodup (["kind"]:List Str)by decide +kernel) rfl (Nb rfl)),md,(qz (r:=BP K) (pD (hr.units)) (pv 0) (lR (pK jz pN)) (eO _))⟩)) pN)))),?_⟩;have ly:=hK.1;rw[M8]at ly;refine⟨_,rfl,_,rfl,IT,λl1 h1=>?_⟩;have u1:=sN h1 (.lst [g]);refine⟨tl,l1,ys,_,rfl,rfl,u1.seq hS,cy.of uS,N6 (sK (by show ys.length + 1<=1000;omega)),λl2 h2=>?_⟩;have u2:=sN h2 (.lst (ys++[g]));have U:=u1.trans u2;have g2:=uS (H:=upd H l1 (.lst [g])) (a:=l2) (o:=.lst (ys++[g]));generalize upd (upd H l1 (.lst [g])) l2 (.lst (ys++[g]))=H1 at U g2 ⊢;refine⟨l2,rfl,⟨_,cy.of g2⟩,λD hD=>?_⟩
 have hA:cN K H (ys++[g]) (kh (ks++[gk])):=by
  unfold kh;rw[List.map_append];exact cN.append hK (.cons hg .nil)
 refine qL (xs:=ys++[g]) (λi zs H2=>aH H1 H2/\H2 D=some (.lst zs)/\zs=(((ks++[gk]).take i).map cm).map V.bl) (N6 (sK (by rw[OW];show ys.length + 1<=1000;omega))) ⟨sN hD _,uS,rfl⟩ ?_ ?_ ?_
 ·rintro i zs H2 hi ⟨s2,d2,rfl⟩;refine⟨d2,?_,s2.seq (cy.of g2)⟩;rw[M8,M8,NK];omega
 ·rintro i x zs H2 hx ⟨s2,d2,rfl⟩
  have hi:i < (ks++[gk]).length:=by
   have:=(cV hx).1;rw[List.length_append]at this ⊢;simp only[List.length_singleton]at this ⊢;omega
  have hr':=hA.2 i x (.tuple (fv (ks++[gk])[i])) hx (by rw[Nk,gR hi];rfl);refine⟨rfl,_,rfl,IT,λt ht=>?_⟩;have s3:=sN ht (.tup [.str "number"]);refine⟨_,_,bp.same (U.trans (s2.trans s3)) hr',.BO (dY.of uS) (.cons (.str _) .nil),mK _,(by decide +kernel),s3 _ _ d2,oh (s2.trans s3) hD _,uS,?_⟩;rw[vQ,List.take_succ_eq_append_getElem hi,NM,NM];rfl
 ·rintro zs H2 ⟨s2,d2,rfl⟩;have e:(ks++[gk]).take (ys++[g]).length=ks++[gk]:=List.take_of_length_le (by rw[List.length_append,List.length_append];simp only[List.length_singleton];omega);rw[e]at d2;refine⟨D,_,rfl,cy.of d2,?_⟩;have z:=q H2 (U.trans s2);rw[List.all_map];exact z
theorem gn:aL ["parts","part","inputs","takes"] ["parts","part","inputs"] (dS eZ):=by walk_at "sc"
theorem kS{f:Addr}{fd:FuncData}(F:iH K "check_door" "check_door" eZ f fd)(bZ:mg "len"=none){ai:Addr}(cS:mg "NoDoor"=some (.ref ai))(cT:PySem.W.excIn K ai kG "ValueError.__new__"=true)(dJ:PySem.W.ktsIn K ai "BaseException"=true){au:Addr}(aK:aw K au)(sO:gW P w K mg base cf "is_door" 1 ["takes","gives"] (e9 K)):bB P w K mg base (nv P w) 2 f fd ["parts","part","inputs"] (eB K ai):=by
 refine F.Ji gn (λvs H Q E h=>?_) (λcdv A outer s H vs Q E hr h=>?_)
 ·obtain⟨PP,ds,hP,hv,hs,j,ws,rfl,fV,q,x⟩:=h;exact hv.1
 obtain⟨PP,ds,hP,hv,hs,j,ws,rfl,fV,q,x⟩:=h;refine sI (Ex:=λC fs=>∀dd H',aH H H'->yI K PP H' dd fs->E (.ref C) dd H') hP hv (λ_ _ z=>z) ?_;show nY _ _ _ _ [some _,some _,some _,none] [];clear hP hv;refine ay (bH (eW (j8 uc qy (jb λ_ _ _=>.bl _) (jb λ_ _ _=>.bl _) aq (ah 1) (et rfl bZ (af (ah 0) ak)))) (aG (lG uL rfl cS cT rfl)) aO) (λR kk=>?_);walk_at "vc";have no:¬ fJ hs j ws.length->∀(dd:Option Addr) (H':Hp),aH H H'->yI K PP H' dd []->E (.ref ai) dd H':=x;refine cW (λh0=>?_) λh0=>cz (no λ⟨h,z,_⟩=>h0 z)
 obtain⟨jn,rfl⟩:∃n:Nat,j=(n:Int):=⟨j.toNat,by omega⟩;rw[M8];by_cases h1:jn < hs.length;rotate_left
 ·refine Er (by omega) (no λ⟨h,_,z,_⟩=>h1 ?_);rw[OZ]at z;exact(cV z).1
 refine Ep (by omega) (kk _ _ ?_);clear kk R;have hh:hs[jn]?=some hs[jn]:=gR h1;have Fw:=fV hs[jn] (List.getElem_mem h1);generalize hs[jn]=h at hh Fw
 have dj:∀n:Nat,fJ hs (jn:Int) n↔(h.1++[h.2]).all cm=true/\n=h.1.length:=λn=>by
  unfold fJ;rw[Int.toNat_natCast];exact⟨λ⟨p',_,z,a,b⟩=>by rw[hh]at z;cases z;exact⟨a,b⟩,λ⟨a,b⟩=>⟨h,by omega,hh,a,b⟩⟩
 refine ay (aT (i:=3) gn.nd rfl (Nb rfl) (aZ (n:=0) (fD (ah 0) (ah 1) (λ_ _=>rfl)))) (λR kk=>?_);walk_at "vc";refine⟨_,ic hh,?_⟩;rw[show wY h=.tuple [.list (kh h.1),.tuple (fv h.2)]from rfl];walk_at "vc";refine kk _ _ ?_;clear kk R;refine cI (bH (oR.dt (jd (eW (eV (br sO pY pX (hr.mono (by decide)) rfl (af (ah 3) (af (aZ (n:=1) (fD (ah 0) (ah 1) (λ_ _=>rfl))) ak))))) (iO (ia (hr.units) (et rfl bZ (af (ah 2) ak)) (et rfl bZ (af (ah 3) ak)))))) (aG (lG uL rfl cS cT rfl)) aO) ?_;walk_at "vc";refine⟨_,ic hh,?_⟩;rw[show wY h=.tuple [.list (kh h.1),.tuple (fv h.2)]from rfl];walk_at "vc";refine⟨h.1,h.2,rfl,Fw,?_⟩
 cases hd:(h.1++[h.2]).all cm with
 | false =>
  refine cz (cz (no λz=>?_));rw[((dj _).mp z).1]at hd;cases hd
 | true =>
  refine bI ?_;rw[M8,show(kh h.1).length=h.1.length from M8 _];by_cases hl:ws.length=h.1.length
  ·exact Ep (by omega) (q ((dj _).mpr ⟨hd,hl⟩))
  ·exact Er (by omega) (no λz=>hl ((dj _).mp z).2)
theorem kz:aL ["part"] ["part"] (dS eA):=by walk_at "sc"
theorem kA{f:Addr}{fd:FuncData}(F:iH K "kinds_taken" "kinds_taken" eA f fd){au:Addr}(aK:aw K au):bB P w K mg base cf 1 f fd ["part"] (cn K):=by
 refine F.ok kz (λvs H Q E h=>?_) (λcdv A outer s H vs Q E hr h=>?_)
 ·obtain⟨PP,ds,hP,hv,p,rfl,fV,q⟩:=h;exact hv.1
 obtain⟨PP,ds,hP,hv,p,rfl,fV,q⟩:=h;refine cj hP hv ?_;show nY _ _ _ _ [some _] [];clear hP hv;refine cI (bh (vq 1 ["take"] [] ⟨rfl,rfl,rfl,rfl,rfl,rfl,rfl,rfl⟩ (jX (aZ (n:=0) (ah 0))) (λ_ _ _ _=>(bO (i:=0) (show List.Nodup (["take"]:List Str)by decide +kernel) rfl (Nb rfl))) (kJ (i:=0)) (pQ (by decide)) (λ_ _ _ _=>⟨j6,(aZ (n:=1) (ah 0))⟩))) ?_;rw[show kM p=.tuple [.list (p.tk.map lI),.tuple (fv p.gv),.list [],p.an]from rfl];walk_at "vc";refine vM p.tk lI (λt=>.tuple (fv t.2)) rfl (by omega) ?_ ?_
 ·intro i t ht W N hW;rw[show lI t=.tuple [.str t.1,.tuple (fv t.2)]from rfl];walk_at "vc";rw[Nv rfl];exact⟨rfl,rfl,rfl,hW⟩
 walk_at "vc";rw[show kh (p.tk.map (·.2))=p.tk.map λt=>PyData.tuple (fv t.2)by unfold kh;rw[List.map_map];rfl]at q;exact q
theorem oz:aL ["program"] ["program"] (dS gC):=by walk_at "sc"
theorem oA{f:Addr}{fd:FuncData}(F:iH K "heads_of" "heads_of" gC f fd){au:Addr}(aK:aw K au)(kT:gW P w K mg base cf "kinds_taken" 1 ["part"] (cn K)):bB P w K mg base cf 2 f fd ["program"] (fK K):=by
 refine F.ok oz (λvs H Q E h=>?_) (λcdv A outer s H vs Q E hr h=>?_)
 ·obtain⟨PP,ds,hP,hv,ms,ps,rfl,h1,h2,q⟩:=h;exact hv.1
 obtain⟨PP,ds,hP,hv,ms,ps,rfl,h1,h2,q⟩:=h;refine cj hP hv ?_;show nY _ _ _ _ [some _] [];clear hP hv;refine cI (bh (vq 1 ["part"] [] ⟨rfl,rfl,rfl,rfl,rfl,rfl,rfl,rfl⟩ (jX (aZ (n:=1) (ah 0))) (λ_ _ _ _=>(bO (i:=0) (show List.Nodup (["part"]:List Str)by decide +kernel) rfl (Nb rfl))) (kJ (i:=0)) (pQ (by decide)) (λ_ _ _ _=>⟨j6,(aJ (af (br kT ko km (hr.mono (by decide)) rfl (af (ah 0) ak)) (af (aZ (n:=1) (ah 0)) ak)))⟩))) ?_;rw[show kN ms ps=.tuple [Fm ms,.list (ps.map kM)]from rfl];walk_at "vc";refine vM ps kM (λp=>wY (p.tk.map (·.2),p.gv)) rfl (by omega) ?_ ?_
 ·intro i p hp W N hW;walk_at "vc";rw[Nv rfl];refine⟨rfl,rfl,p,rfl,h2 p (Nl hp),?_⟩;rw[show kM p=.tuple [.list (p.tk.map lI),.tuple (fv p.gv),.list [],p.an]from rfl];walk_at "vc";exact⟨rfl,hW⟩
 walk_at "vc";rw[show(dH ps).map wY=ps.map λp=>wY (p.tk.map (·.2),p.gv)by unfold dH;rw[List.map_map];rfl]at q;exact q
theorem en:aL ["self","call","trees","tree"] ["self","call","trees"] (dS cD):=by walk_at "sc"
theorem iw{f:Addr}{fd:FuncData}(F:iH K "do_all" "Reading.do_all" cD f fd){au:Addr}(aK:aw K au){C:Addr}{wt:Bool}(ac:aE K C):bB P w K mg base cf 1 f fd ["self","call","trees"] (iU K):=by
 refine F.ok en (λvs H Q E h=>?_) (λcdv A outer s H vs Q E hr h=>?_)
 ·obtain⟨x,c,l,rfl,hL,q⟩:=h;rfl
 obtain⟨x,c,l,rfl,hL,q⟩:=h;refine⟨_,(qO (oX NX rfl (jt (pv 2)) (bO (i:=3) en.nd rfl (Nb rfl)) (qO eG))),?_⟩;refine⟨_,rfl,l,rfl,⟨_,hL⟩,?_⟩;refine nA (xs:=[]) (λi σ H2=>H2=H) rfl ?_ ?_ ?_
 ·rintro i σ H2 _ rfl;exact hL
 ·intro i v σ H2 hv;simp at hv
 ·rintro σ H2 rfl;exact q
theorem da:aL ["self","call","tree","word","chosen"] ["self","call","tree"] (dS bU):=by walk_at "sc"
theorem fW{f:Addr}{fd:FuncData}(F:iH K "value_of" "Reading.value_of" bU f fd){au:Addr}(aK:aw K au){C:Addr}{wt:Bool}(ac:aE K C):bB P w K mg base cf 1 f fd ["self","call","tree"] (fL K au):=by
 refine F.ok da (λvs H Q E h=>?_) (λcdv A outer s H vs Q E hr h=>?_)
 ·obtain⟨x,c,t,rfl,h⟩:=h;rfl
 obtain⟨x,c,t,rfl,h⟩:=h;refine⟨_,(qK (fz (i:=3) da.nd rfl (Nb rfl) (eK eP (pv 2) pI (λ_ _=>rfl)))
   (qK (qs (tR qx (pv 3) jz (eO _)) (qO (eM (eK eP (pv 2) pI (λ_ _=>rfl)))) js)
   (qK (qs (tR qx (pv 3) jz (eO _)) (qO (eM (eK Fi (lQ (pv 1) rfl) (eK eP (pv 2) pI (λ_ _=>rfl)) (λ_ _=>rfl)))) js)
   (qK eG
   (qK eG
   (qK eG
   (qK eG
   (qO eG)))))))),?_⟩
 rcases h with⟨n,hT,q⟩ | ⟨nm,d,dc,dep,kvs,v,hT,hc,hd,hf,q⟩
 ·refine⟨_,rfl,t,_,_,_,rfl,rfl,hT,aN (j:=0) rfl,?_⟩;refine⟨_,rfl,rfl,_,rfl,Ja rfl ?_⟩;exact⟨_,rfl,t,_,_,_,rfl,rfl,hT,aN (j:=1) rfl,q⟩
 ·refine⟨_,rfl,t,_,_,_,rfl,rfl,hT,aN (j:=0) rfl,?_⟩;refine⟨_,rfl,rfl,_,rfl,KG (by decide +kernel) ?_⟩;refine⟨_,rfl,rfl,_,rfl,Ja rfl ?_⟩;refine⟨_,rfl,c,au,dc,_,_,rfl,hc,aK.cl,aK.rn,vL,_,rfl,t,_,_,_,rfl,rfl,hT,aN (j:=1) rfl,d,kvs,nm,v,rfl,rfl,hd,hf,q⟩
theorem iX:aL ["self","depth","known"] ["self","depth","known"] (dS cX):=by walk_at "sc"
theorem iY{f:Addr}{fd:FuncData}(F:iH K "__init__" "Call.__init__" cX f fd){au:Addr}(aK:aw K au):bB P w K mg base cf 1 f fd ["self","depth","known"] (fc K au):=by
 refine F.ok iX (λvs H Q E h=>?_) (λcdv A outer s H vs Q E hr h=>?_)
 ·obtain⟨x,dx,d,p,rfl,hx,q⟩:=h;rfl
 obtain⟨x,dx,d,p,rfl,hx,q⟩:=h;refine⟨_,(qK (jD (pv 0) (pv 1) rfl)
   (qO (jD (pv 0) (pv 2) rfl))),?_⟩
 refine⟨_,rfl,_,rfl,x,au,dx,_,rfl,hx,aK.cl,aK.yO,(by show 0 < 1000;decide),?_⟩;refine⟨_,rfl,_,rfl,x,au,dx,_,rfl,uS,aK.cl,aK.rn,(by show(cc _ _ _).length < 1000;exact NA (bX _ _ _) (by show 1 < 1000;decide)),?_⟩;refine q _ ?_ (λc o hc e=>?_)
 ·rw[uS,Cv]
 ·rw[uN hc,uN hc];exact e
theorem bF:aL ["self","part","values","depth","told","names","call","gave"] ["self","part","values","depth"] (dS cY):=by walk_at "sc"
theorem iZ{f:Addr}{fd:FuncData}(F:iH K "given" "Reading.given" cY f fd)(kB:mg "dict"=none)(kr:mg "zip"=none){au:Addr}(aK:aw K au){C:Addr}{wt:Bool}(ac:aE K C)(sP:ml P w K mg base cf C "do_all" 1 ["self","call","trees"] (iU K))(oB:ml P w K mg base cf C "value_of" 1 ["self","call","tree"] (fL K au))(yT:uP P w K mg base cf au "Call" 1 ["self","depth","known"] (fc K au)):bB P w K mg base cf 3 f fd ["self","part","values","depth"] (kq K C):=by
 refine F.ok bF (λvs H Q E h=>?_) (λcdv A outer s H vs Q E hr h=>?_)
 ·obtain⟨x,dx,b,il,j,dep,sd,bud,ms,ps,p,ws,w,rfl,hx,hB,hp,hI,hl,fV,hnd,hA,q⟩:=h;rfl
 obtain⟨x,dx,b,il,j,dep,sd,bud,ms,ps,p,ws,w,rfl,hx,hB,hp,hI,hl,fV,hnd,hA,q⟩:=h;refine⟨_,(qK (fz (i:=4) bF.nd rfl (Nb rfl) (eK lW (eK eP (lQ (pv 0) rfl) pI (λ_ _=>rfl)) (pv 1) (λ_ _=>rfl)))
   (qK (nM (i:=5) bF.nd rfl (Nb rfl) 1 ["take"] [] ⟨rfl,rfl,rfl,rfl,rfl,rfl,rfl,rfl⟩ (jt (eK eP (pv 4) pI (λ_ _=>rfl))) (λ_ _ _ _=>⟨(bO (i:=0) (show List.Nodup (["take"]:List Str)by decide +kernel) rfl (Nb rfl)),md,(eK (r:=xJ K) eP (pv 0) pI (λ_ _=>rfl))⟩))
   (qK (fz (i:=6) bF.nd rfl (Nb rfl) (Ay yT jH (hr.mono (by decide)) rfl (pK (pv 3) (pK (vC rfl kB rfl kr rfl (pK (pv 5) (pK (pv 2) pN))) pN))))
   (qK (qP (λ_=>(qO (lO (show PE _ _ (qB C _ _ [] _ _ _)from (qS (pv 0) sP jH (hr.mono (by decide)) (pK (pv 6) (pK (eK (r:=xJ K) eP (pv 4) pI (λ_ _=>rfl)) pN))))))))
   (qO (eM (qS (pv 0) oB jH (hr.mono (by decide)) (pK (pv 6) (pK (eK eP (pv 4) pI (λ_ _=>rfl)) pN))))))))),?_⟩
 obtain⟨b',bx,e,hT,hR⟩:=bp.bT hB;cases e;obtain⟨m0,m1,rfl⟩:=Gv hR.1;obtain⟨pl,xs,rfl,hL,hP⟩:=bp.cC (hR.2 1 m1 _ rfl rfl);have lx:xs.length=ps.length:=by rw[hP.1,M8]
 have hjl:=(cV hp).1;have hxj:xs[j]?=some (xs[j]'(by omega)):=gR (by omega);have Jy:=hP.2 j _ (kM p) hxj (by rw[Nk,hp];rfl);generalize xs[j]'(by omega)=tv at hxj Jy;obtain⟨t,ts,rfl,hTt,hRt⟩:=bp.bT (show bp K H tv (.tuple [.list (p.tk.map lI),.tuple (fv p.gv),.list [],p.an])from Jy);obtain⟨t0,t1,t2,t3,rfl⟩:=Jw hRt.1;obtain⟨nl,ns,rfl,hN,hNR⟩:=bp.cC (hRt.2 0 t0 _ rfl rfl);obtain⟨sl,ss,rfl,hS,hSR⟩:=bp.cC (hRt.2 2 t2 _ rfl rfl);have es:ss=[]:=List.length_eq_zero_iff.mp hSR.1;subst es;have hAn:=hRt.2 3 t3 _ rfl rfl;have ln:ns.length=p.tk.length:=by rw[hNR.1,M8]
 refine⟨_,rfl,x,C,dx,_,_,rfl,hx,ac.cl,ac.lH,pU,b,_,_,_,rfl,rfl,hT,aN (j:=1) rfl,_,rfl,pl,_,_,_,rfl,rfl,hL,aN hxj,?_⟩;refine⟨_,rfl,t,_,_,_,rfl,rfl,hTt,aN (j:=0) rfl,nl,rfl,⟨_,hN⟩,λD hD=>?_⟩;refine qL (xs:=ns) (λi zs H2=>aH H H2/\H2 D=some (.lst zs)/\zs=(p.tk.take i).map λt=>V.str t.1) (N6 (sK (by omega))) ⟨sN hD _,uS,rfl⟩ ?_ ?_ ?_
 ·rintro i zs H2 hi ⟨s2,d2,rfl⟩;refine⟨d2,?_,s2.seq hN⟩;rw[M8,NK];omega
 ·rintro i v zs H2 hv ⟨s2,d2,rfl⟩;have hi:i < p.tk.length:=by rw[← ln];exact(cV hv).1
  have ht:p.tk[i]?=some p.tk[i]:=gR hi;have hrv:=hNR.2 i v (lI p.tk[i]) hv (by rw[Nk,ht];rfl);obtain⟨tt,us,rfl,hTT,hUU⟩:=bp.bT (show bp K H v (.tuple [.str p.tk[i].1,.tuple (fv p.tk[i].2)])from hrv);obtain⟨u0,u1,rfl⟩:=Gv hUU.1;have e0:u0=.str p.tk[i].1:=by have z:=hUU.2 0 u0 _ rfl rfl;cases z;rfl
  subst e0;refine⟨rfl,_,rfl,tt,_,_,_,rfl,rfl,s2.tup hTT,aN (j:=0) rfl,d2,oh s2 hD _,uS,?_⟩;rw[Ox,ht,NM];rfl
 rintro zs H2 ⟨s2,d2,rfl⟩;rw[ln,OL]at d2;have Jh:=s2 _ _ hx;refine⟨_,rfl,_,rfl,_,rfl,D,il,p.tk.map (·.1),ws.map V.int,rfl,?_,s2.seq hI,hnd,?_,?_,λd hd=>?_⟩
 ·rw[OY];exact cy.of d2
 ·rw[M8,M8,hl]
 ·rw[M8];omega
 intro xx dxx nx ndx ne;have s3:=s2.trans (sN hd (.dK (((p.tk.map (·.1)).zip (ws.map V.int)).map λp=>(Sum.inr p.1,p.2))));have d3:=uS (H:=H2) (a:=d) (o:=.dK (((p.tk.map (·.1)).zip (ws.map V.int)).map λp=>(Sum.inr p.1,p.2)));generalize upd H2 d (.dK (((p.tk.map (·.1)).zip (ws.map V.int)).map λp=>(Sum.inr p.1,p.2)))=H3 at s3 d3 nx ndx ⊢;refine⟨xx,dxx,d,dep,rfl,uS,λH4 e4 k4=>⟨rfl,?_⟩⟩;have Jz:aH H3 H4:=λc o e=>k4 c o (nN e nx) (by rw[uN (nN e nx),uN (nN e ndx)];exact e)
 have s4:=s3.trans Jz;have HD:=s4 _ _ hx;have HE:=s4.tup hTt;refine⟨_,rfl,x,dx,_,rfl,HD,oi (by decide +kernel),_,rfl,_,rfl,t,_,_,_,rfl,rfl,HE,aN (j:=2) rfl,x,xx,sl,rfl,s4.seq hS,?_⟩
 cases hA with
 | num e =>
  rw[e]at hAn;obtain⟨at',as,rfl,hAT,hAR⟩:=bp.bT hAn;obtain⟨a0,a1,rfl⟩:=Gv hAR.1;have z0:a0=.str "num":=by have z:=hAR.2 0 a0 _ rfl rfl;cases z;rfl
  have z1:=bp.aP (hAR.2 1 a1 _ rfl rfl);subst z0;subst z1;exact⟨_,rfl,x,dx,_,rfl,HD,oi (by decide +kernel),_,rfl,_,rfl,t,_,_,_,rfl,rfl,HE,aN (j:=3) rfl,x,xx,at',rfl,.inl ⟨_,s4.tup hAT,q _ s4⟩⟩
 | @var nm w e hf =>
  rw[e]at hAn;obtain⟨at',as,rfl,hAT,hAR⟩:=bp.bT hAn;obtain⟨a0,a1,rfl⟩:=Gv hAR.1;have z0:a0=.str "var":=by have z:=hAR.2 0 a0 _ rfl rfl;cases z;rfl
  have z1:a1=.str nm:=by have z:=hAR.2 1 a1 _ rfl rfl;cases z;rfl
  subst z0;subst z1;refine⟨_,rfl,x,dx,_,rfl,HD,oi (by decide +kernel),_,rfl,_,rfl,t,_,_,_,rfl,rfl,HE,aN (j:=3) rfl,x,xx,at',rfl,.inr ⟨nm,d,dxx,dep,_,.int w,s4.tup hAT,e4,Jz _ _ d3,oj hf,q _ s4⟩⟩
theorem iy:aL ["self","part","inputs","fault"] ["self","part","inputs"] (dS cE):=by walk_at "sc"
theorem iz{f:Addr}{fd:FuncData}(F:iH K "end_at" "Reading.end_at" cE f fd){au:Addr}(aK:aw K au){C:Addr}{wt:Bool}(ac:aE K C)(vS:ml P w K mg base cf C "given" 3 ["self","part","values","depth"] (kq K C)):bB P w K mg base cf 4 f fd ["self","part","inputs"] (iV K C):=by
 refine F.ok iy (λvs H Q E h=>?_) (λcdv A outer s H vs Q E hr h=>?_)
 ·obtain⟨x,dx,b,il,j,sd,bud,ms,ps,p,ws,w,rfl,hx,hB,hp,hI,hl,fV,hnd,hA,q⟩:=h;rfl
 obtain⟨x,dx,b,il,j,sd,bud,ms,ps,p,ws,w,rfl,hx,hB,hp,hI,hl,fV,hnd,hA,q⟩:=h;refine⟨_,(qO (qP (λ_=>(qO (eM (lR (pK jz (pK (show PE _ _ (qB C _ _ [] _ _ _)from (qS (pv 0) vS jH (hr.mono (by decide)) (pK (pv 1) (pK (pv 2) (pK pI pN))))) pN)))))))),?_⟩;refine⟨_,rfl,x,dx,_,rfl,hx,oi (by decide +kernel),_,rfl,_,rfl,x,dx,b,il,j,1,sd,bud,ms,ps,p,ws,w,rfl,hx,hB,hp,hI,hl,fV,hnd,hA,λH1 s1=>?_⟩;refine⟨Kt,λt ht=>?_⟩;exact q t _ (s1.trans (sN ht _)) (dY.of uS)
theorem fX:aL ["self","program","budget"] ["self","program","budget"] (dS bV):=by walk_at "sc"
theorem fY{f:Addr}{fd:FuncData}(F:iH K "__init__" "Reading.__init__" bV f fd){au:Addr}(aK:aw K au){C:Addr}{wt:Bool}(ac:aE K C):bB P w K mg base cf 1 f fd ["self","program","budget"] (cZ K C):=by
 refine F.ok fX (λvs H Q E h=>?_) (λcdv A outer s H vs Q E hr h=>?_)
 ·obtain⟨x,dx,b,bud,rfl,hx,q⟩:=h;rfl
 obtain⟨x,dx,b,bud,rfl,hx,q⟩:=h;refine⟨_,(qK (jD (pv 0) (pv 1) rfl)
   (qK (jD (pv 0) (lS pN) rfl)
   (qO (jD (pv 0) (pv 2) rfl)))),?_⟩
 refine⟨_,rfl,_,rfl,x,C,dx,_,rfl,hx,ac.cl,ac.lH,(by show 0 < 1000;decide),?_⟩;refine⟨Ks,λsd hsd=>?_⟩;have ne:x≠sd:=λe=>by subst e;rw[uS]at hsd;cases hsd
 have JA:H sd=none:=by rw[uN ne.symm]at hsd;exact hsd
 refine⟨_,rfl,x,C,dx,_,rfl,(uN ne).trans uS,ac.cl,ac.vH,(by show(cc _ _ _).length < 1000;exact NA (bX _ _ _) (by show 1 < 1000;decide)),?_⟩;refine⟨_,rfl,_,rfl,x,C,dx,_,rfl,uS,ac.cl,ac.vI,(by show(cc _ _ _).length < 1000;exact NA (bX _ _ _) (Nat.succ_lt_succ (NA (bX _ _ _) (by show 1 < 999;decide)))),?_⟩;refine q sd _ JA ?_ ?_ (λc o hc e=>?_)
 ·rw[uS,Cw]
 ·rw[uN ne.symm,uN ne.symm];exact uS
 ·rw[uN hc,uN hc,uN (nN e JA),uN hc];exact e
theorem ff:aL ["program","part","inputs","budget","reading","end"] ["program","part","inputs","budget"] (dS fH):=by walk_at "sc"
theorem mX{f:Addr}{fd:FuncData}(F:iH K "plain_run" "plain_run" fH f fd){au:Addr}(aK:aw K au){ar:Addr}(fg:aE K ar)(mY:gW P w K mg base (nv P w) "check_door" 2 ["parts","part","inputs"] (eB K ai))(p6:gW P w K mg base cf "heads_of" 2 ["program"] (fK K))(iA:ml P w K mg base cf ar "end_at" 4 ["self","part","inputs"] (iV K ar))(p7:uP P w K mg base cf ar "Reading" 1 ["self","program","budget"] (cZ K ar)):bB P w K mg base (nv P w) 5 f fd ["program","part","inputs","budget"] (du K ai):=by
 refine F.Ji ff (λvs H Q E h=>?_) (λcdv A outer s H vs Q E hr h=>?_)
 ·obtain⟨b,il,j,bud,ms,ps,ws,rfl,hB,h8,fV,hI,hQ,hE⟩:=h;rfl
 obtain⟨b,il,j,bud,ms,ps,ws,rfl,hB,h8,fV,hI,hQ,hE⟩:=h;refine⟨_,(qK (lO (BW mY x6 (hr.mono (by decide)) rfl (pK (Ap p6 (hr.mono (by decide)) rfl (pK (pv 0) pN)) (pK (pv 1) (pK (pv 2) pN)))))
   (qK (fz (i:=4) ff.nd rfl (Nb rfl) (Ay p7 jH (hr.mono (by decide)) rfl (pK (pv 0) (pK (pv 3) pN))))
   (qK (fz (i:=5) ff.nd rfl (Nb rfl) (qS (pv 4) iA jH (hr.mono (by decide)) (pK (pv 1) (pK (pv 2) pN))))
   (qO (eM (lR (pK (pv 5) (pK (lQ (pv 4) rfl) (pK (lQ (pv 4) rfl) pN))))))))),?_⟩
 have rdI:az K (λ_=>False) H (.ref il) (.list (ws.map PyData.int)):=pO (.lst hI (by simp) λi x d hx hd=>(nZ (K:=K) (P:=λ_=>False) (H:=H) (ns:=ws)).2 i x d hx hd |>.now)
 have ht:∀h∈dH ps,h.1.length<=100:=λh hh=>by
  obtain⟨p,hp,rfl⟩:=List.mem_map.mp hh;show(p.tk.map (·.2)).length<=100;rw[M8];exact fV p hp
 refine⟨_,rfl,λ_=>False,[kN ms ps],(λ_ z=>z.elim),.cons (pO hB) .nil,ms,ps,rfl,h8,fV,λv H1 s1 r1=>?_⟩;refine⟨_,rfl,_,rfl,λ_=>False,[.list ((dH ps).map wY),.int j,.list (ws.map PyData.int)],(λ_ z=>z.elim),.cons r1 (.cons (.int _) (.cons (rdI.same s1) .nil)),dH ps,j,ws,rfl,ht,λdr v2 H2 s2 r2=>?_,λnd dd H2 s2 x=>hE nd dd H2 (s1.trans s2)⟩;obtain⟨hh,j0,hj,ha,hl⟩:=dr;obtain⟨jn,rfl⟩:∃n:Nat,j=(n:Int):=⟨j.toNat,by omega⟩;rw[Int.toNat_natCast]at hj;unfold dH at hj;rw[List.getElem?_map]at hj
 cases hp:ps[jn]? with
 | none=>rw[hp]at hj;cases hj
 | some p =>
  rw[hp]at hj;cases hj;have hl:ws.length=p.tk.length:=by rw[hl];exact M8 _
  have LD:=fV p (Nl hp);obtain⟨hnd,w,hA,q⟩:=hQ jn p rfl hp ha hl;have S2:=s1.trans s2;refine⟨_,rfl,_,rfl,λx dx nx ndx ne=>?_⟩
  have y:aH H2 (upd (upd H2 dx (.own x)) x (.ins ar dx [])):=λc o e=>by
   rw[uN (nN e nx),uN (nN e ndx)];exact e
  refine⟨x,dx,b,bud,rfl,uS,λsd H3 nsd e3 l3 k3=>⟨rfl,?_⟩⟩;have LF:aH H2 H3:=λc o e=>k3 c o (nN e nx) (y c o e)
  have S3:=S2.trans LF;refine⟨_,rfl,x,dx,_,rfl,e3,oi (by decide +kernel),_,rfl,_,rfl,x,dx,b,il,jn,sd,bud,ms,ps,p,ws,w,rfl,e3,bp.same S3 hB,hp,S3.seq hI,hl,by omega,hnd,hA,λu H4 s4 gu=>?_⟩;refine⟨_,rfl,_,rfl,x,ar,dx,_,_,rfl,s4 _ _ e3,fg.cl,fg.vH,yQ,_,rfl,x,ar,dx,_,_,rfl,s4 _ _ e3,fg.cl,fg.vI,yR,Ku,λt ht=>?_⟩;have s5:=sN ht (.tup [.ref u,.ref sd,.int bud])
  have hsd:H sd=none:=by
   cases e:H sd with
   | none=>rfl
   | some o=>rw[y _ _ (S2 _ _ e)]at nsd;cases nsd
  exact q t u sd _ (S3.trans (s4.trans s5)) hsd (dY.of uS) (s5.tup gu) (s5 _ _ (s4 _ _ l3))
theorem bG:aL ["_law_program","_law_p","_law_inputs","_law_budget","_law_told_here","_law_found","e","_law_above"] ["_law_program","_law_p","_law_inputs","_law_budget"] (dS gE):=by walk_at "sc"
theorem mZ{f:Addr}{fd:FuncData}(F:iH K "_law_told" "_law_told" gE f fd)(cu:mg "ValueError"=none)(aB:mg "isinstance"=none){dM:Addr}(fO:mg "NoBook"=some (.ref dM))(iB:PySem.W.ktsIn K dM "BaseException"=true){ai:Addr}(cS:mg "NoDoor"=some (.ref ai))(cT:PySem.W.excIn K ai kG "ValueError.__new__"=true)(dJ:PySem.W.ktsIn K ai "BaseException"=true){dN:Addr}(fP:mg "NoTree"=some (.ref dN))(iD:PySem.W.ktsIn K dN "BaseException"=true){aR:Addr}(bN:mg "WardenError"=some (.ref aR))(cK:PySem.W.excIn K aR kG "ValueError.__new__"=true)(cL:PySem.W.ktsIn K aR "BaseException"=true){au:Addr}(aK:aw K au)(oC:gW P w K mg base (nv P w) "plain_run" 5 ["program","part","inputs","budget"] (du K ai))(vT:PySem.W.mroIn K ai (.ref ai)=some true)(dO:PySem.W.findIn K (.ref ai) "__getattribute__"=some (some (.builtin "BaseException.__getattribute__")))(dP:PySem.W.findIn K (.ref ai) "__getattr__"=some none)(dQ:PySem.W.findIn K (.ref ai) "__class__"=some (some (.builtin "object.__class__")))(dR:PySem.W.mroIn K ai (.type "BaseException")=some true)(dU:PySem.W.mroIn K ai (.type "object")=some true)(dW:PySem.W.hasDictIn K ai=true)(vU:PySem.W.kitOne K (.ref ai) (.ref aR)=some true)(vV:PySem.W.kitOne K (.ref ai) (.type "ValueError")=some true)(vW:PySem.W.kitOne K (.ref ai) (.ref dM)=some false)(vX:PySem.W.kitOne K (.ref ai) (.ref dN)=some false):bB P w K mg base cf 6 f fd ["_law_program","_law_p","_law_inputs","_law_budget"] (eh K):=by
 refine F.ok bG (λvs H Q E h=>?_) (λcdv A outer s H vs Q E hr h=>?_)
 ·obtain⟨PP,ds,hP,hv,j,bud,ms,ps,ws,rfl,h1,h2,q,x⟩:=h;exact hv.1
 obtain⟨PP,ds,hP,hv,j,bud,ms,ps,ws,rfl,h1,h2,q,x⟩:=h;refine cj hP hv ?_;show nY _ _ _ _ [some _,some _,some _,some _,none,none,none,none] [];clear hP hv;refine ay (aT (i:=4) bG.nd rfl (Nb rfl) (aJ (af aV (af (bz ak) (af aq ak))))) (λR kk=>?_);walk_at "vc";refine kk _ _ ?_;clear kk R;refine ay (vF (i:=6) (j:=5) oC mR mQ (hr.mono (by decide)) rfl (Fe λ_=>(af (ah 0) (af (ah 1) (af (ah 2) (af (ah 3) ak))))) rfl cS dJ bG.nd rfl rfl rfl (Nb rfl) (Ff λ_ _=>(aS (aT (i:=7) bG.nd rfl (Nb rfl) (eX (kg rfl aB rfl bN (ah 6)) (mw (vG rfl aB rfl cu kF (ah 6)))))
   (aG (aT (i:=4) bG.nd rfl (Nb rfl) (aJ (af aV (af (eX (ah 7) (eX (mx (kg rfl aB rfl fO (ah 6))) (mw (mx (kg rfl aB rfl fP (ah 6)))))) (af aq ak)))))))) (aG (aT (i:=4) bG.nd rfl (Nb rfl) (ah 5)))) (λR kk=>?_)
 walk_at "vc";unfold vE;walk_at "vc";refine⟨j,bud,ms,ps,ws,rfl,h1,h2,λjn p a b c d=>?_,λn=>?_⟩
 ·obtain⟨z,w,r,y⟩:=q jn p a b c d;refine⟨z,w,r,?_⟩;walk_at "vc";refine kk _ _ ?_;clear kk R;refine cI (bh (ah 4)) ?_;walk_at "vc";exact y
 ·refine⟨vT,?_⟩;walk_at "vc";have kx:KX K ai/\PySem.W.hasDictIn K ai=true:=⟨⟨dO,dP,dQ,dR,dU⟩,dW⟩;refine⟨ai,[],true,rfl,kx,vU,cz ⟨ai,[],true,rfl,kx,vV,cz ⟨ai,[],false,rfl,kx,vW,cz ⟨ai,[],false,rfl,kx,vX,?_⟩⟩⟩⟩;refine kk _ _ ?_;clear kk R;refine cI (bh (ah 4)) ?_;walk_at "vc";exact x n
theorem bj:aL ["_law_script","_law_many","_law_door","_law_parts","_law_program","_law_kept","_law_k","_law_cell_here","_law_way","_law_p","_law_count","_law_inputs","_law_budget","_law_due_here","_law_handed"] ["_law_script"] (dS ig):=by walk_at "sc"
theorem Cz{f:Addr}{fd:FuncData}(F:iH K "law" "law" ig f fd)(cq:mg "divmod"=none)(bZ:mg "len"=none)(fN:mg "list"=none)(oE:mg "max"=none)(dz:mg "range"=none){au:Addr}(aK:aw K au)(cU:gW P w K mg base cf "_law_cell" 1 ["_law_script","_law_k"] (ee K))(p8:gW P w K mg base cf "_law_due" 1 ["_law_part_here","_law_inputs"] (e7 K))(oF:gW P w K mg base cf "_law_part" 2 ["_law_cell_here","_law_door"] (ef K))(m3:gW P w K mg base cf "_law_right" 2 ["_law_told_here","_law_due_here","_law_budget"] (dq K))(oG:gW P w K mg base cf "_law_told" 6 ["_law_program","_law_p","_law_inputs","_law_budget"] (eh K))(fM:gW P w K mg base cf "_law_word" 1 ["_law_cell_here"] (cQ K)):bB P w K mg base cf 7 f fd ["_law_script"] (mS K):=by
 refine F.ok bj (λvs H Q E h=>?_) (λcdv A outer s H vs Q E hr h=>?_)
 ·obtain⟨a,ns,rfl,hS,LG,q⟩:=h;rfl
 obtain⟨a,ns,rfl,hS,LG,q0⟩:=h;have hv:bL (az K (λ_=>False) H) [.ref a] [.list (ns.map PyData.int)]:=.cons (pO (.lst hS (by simp) λi x d hx hd=>(nZ (K:=K) (P:=λ_=>False) (H:=H) (ns:=ns)).2 i x d hx hd |>.now)) .nil;have q:∀v H',aH H H'->az K (λ_=>False) H' v (.bool true)->Q v H':=λv H' _ r=>by rw[az.jR r];exact q0 H'
 refine cj (P:=λ_=>False) (λ_ h=>h.elim) hv ?_;show nY _ _ _ _ [some _,none,none,none,none,none,none,none,none,none,none,none,none,none,none] [];clear hv q0 hS;refine ay (aT (i:=1) bj.nd rfl (Nb rfl) (eT aq (bg (br cU cP cO (hr.mono (by decide)) rfl (af (ah 0) (af aq ak))) aq))) (λR kk=>?_);walk_at "vc";refine⟨ns,0,rfl,by decide,by decide,λc0=>?_⟩;walk_at "vc";refine⟨by decide,kk _ _ ?_⟩;clear kk R;obtain⟨mn,em,hm⟩:∃mn:Nat,1 + c0 % 8=((mn + 1:Nat):Int)/\mn < 8:=⟨(c0 % 8).toNat,by omega,by omega⟩;rw[em];refine ay (aT (i:=2) bj.nd rfl (Om rfl) (bg (eU (br cU cP cO (hr.mono (by decide)) rfl (af (ah 0) (af aq ak))) aq) (ah 1))) (λR kk=>?_);walk_at "vc";refine⟨ns,0,rfl,by decide,by decide,λc1=>?_⟩;walk_at "vc";refine⟨⟨by decide,by decide⟩,by omega,?_⟩;obtain⟨dr,ed,hd⟩:=mL (c1 / 8) (m:=((mn + 1:Nat):Int)) (n:=mn + 1) rfl (by omega);rw[ed];refine kk _ _ ?_;clear kk R;refine ay (iP ri (i:=3) bj.nd rfl (Nb rfl) 1 ["_law_p","_law_door","_law_script"] [2,0] ⟨rfl,rfl,rfl,rfl,rfl,rfl,rfl,rfl⟩ (fS rfl dz (af (ah 1) ak)) (λ_ _ _ _=>(bO (i:=0) (show List.Nodup (["_law_p","_law_door","_law_script"]:List Str)by decide +kernel) rfl (Nb rfl))) (kJ (i:=0)) (pQ (by decide)) (λ_ _ _ _=>⟨j6,(br oF oo om (hr.mono (by decide)) rfl (af (bg (br cU cP cO (hr.mono (by decide)) rfl (af (ah 2) (af (eT aq (ah 0)) ak))) (uW aq aq)) (af (jT (hr.units) (ah 0) (ah 1)) ak)))⟩)) (λR kk=>?_);walk_at "vc";refine⟨⟨by omega,by omega⟩,?_⟩;refine AV (λp=>∃b,Fu b p) kM (by rw[dF];omega) ?_ ?_
 ·intro i d hd' W N hW;obtain⟨hi,rfl⟩:=ib hd';walk_at "vc";have hi:i < mn + 1:=by simpa using hi
  rw[Nv rfl];refine⟨rfl,rfl,ns,_,rfl,by omega,by omega,λc=>?_⟩;walk_at "vc";refine⟨⟨by decide,by decide,by decide⟩,by decide +kernel,?_⟩;refine⟨_,_,rfl,Og _ (by decide +kernel),λp hp=>⟨rfl,hW p ⟨_,hp⟩⟩⟩
 intro ps hps hpk;rw[dF]at hps;have hps:ps.length=mn + 1:=by simpa using hps
 walk_at "vc";refine kk _ _ ?_;clear kk R;refine ay (aT (i:=4) bj.nd rfl (Nb rfl) (aJ (af (bz (af (aJ (af gx (af (bz ak) ak))) (af (aJ (af aq (af (bz (af (aJ (af aV ak)) ak)) ak))) ak))) (af (ah 3) ak)))) (λR kk=>?_);walk_at "vc";refine kk _ _ ?_;clear kk R;refine ay (aT (i:=5) bj.nd rfl (Nb rfl) (aJ (af (bz (af (aJ (af gx (af (bz ak) ak))) (af (aJ (af aq (af (bz (af (aJ (af aV ak)) ak)) ak))) ak))) (af (vq 1 ["_law_part_here"] [] ⟨rfl,rfl,rfl,rfl,rfl,rfl,rfl,rfl⟩ (jX (ah 3)) (λ_ _ _ _=>(bO (i:=0) (show List.Nodup (["_law_part_here"]:List Str)by decide +kernel) rfl (Nb rfl))) (kJ (i:=0)) (pQ (by decide)) (λ_ _ _ _=>⟨j6,(aJ (af (rb rfl fN (af (aZ (n:=0) (ah 0)) ak)) (af (aZ (n:=1) (ah 0)) (af (bz ak) (af (aZ (n:=3) (ah 0)) ak)))))⟩)) ak)))) (λR kk=>?_);walk_at "vc";refine vM ps kM kM rfl (by omega) ?_ ?_
 ·intro i p hp W N hW;rw[show kM p=.tuple [.list (p.tk.map lI),.tuple (fv p.gv),.list [],p.an]from rfl]at hW ⊢;walk_at "vc";rw[Nv rfl]
  have HG:p.tk.length<=20:=by
   obtain⟨b,hb⟩:=hpk p (Nl hp);obtain⟨i,h1,h2⟩:=hb.nm;rw[h2.len];exact h1
  exact⟨rfl,rfl,rfl,hW⟩
 walk_at "vc";refine kk _ _ ?_;clear kk R;refine ay (mC NX rfl (fS rfl dz (af aq ak)) (bc (i:=6) bj.nd rfl (Nb rfl)) (aS (aT (i:=7) bj.nd rfl (Om rfl) (br cU cP cO (hr.mono (by decide)) rfl (af (ah 0) (af (eT aq (fD (bz (af aq (af aq (af aq ak)))) (ah 6) (λ_ _=>rfl))) ak))))
   (aS (j7 (fT rfl cq (af (ah 7) (af aq ak))) (gy (m:=2) rfl (aY (bc (i:=7) bj.nd rfl (Om rfl)) (aY (bc (i:=8) bj.nd rfl (Nb rfl)) eY))))
   (aS (aT (i:=9) bj.nd rfl (Nb rfl) (ah 2))
   (aS (bH (h7 (hr.units) (ah 8) aq) (aG (aT (i:=9) bj.nd rfl (Nb rfl) (bg (ah 7) (ah 1)))) aO)
   (aS (bH (h7 (hr.units) (ah 8) aq) (aG (aT (i:=9) bj.nd rfl (Nb rfl) (fD (bz (af (eT (ah 1) (bg (ah 7) aq)) (af (mq (pL aq) (bg (ah 7) aq)) ak))) (bg (eU (ah 7) aq) aq) (λ_ _=>rfl)))) aO)
   (aS (aT (i:=10) bj.nd rfl (Nb rfl) aq)
   (aS (bH (j8 uc qy (jb λ_ _ _=>.bl _) (jb λ_ _ _=>.bl _) aq (ah 9) (ah 1)) (aG (aT (i:=10) bj.nd rfl (Nb rfl) (et rfl bZ (af (aZ (n:=0) (fD (ah 3) (ah 9) (λ_ _=>rfl))) ak)))) aO)
   (aS (bH (h7 (hr.units) (ah 8) aq) (aG (aT (i:=10) bj.nd rfl (Nb rfl) (B9 rfl rfl oE (af aq (af (eT (ah 10) (fD (bz (af (pL aq) (af (pL aq) (af aq (af aq ak))))) (bg (ah 7) aq) (λ_ _=>rfl))) ak))))) aO)
   (aS (iP ri (i:=11) bj.nd rfl (Nb rfl) 1 ["_law_j","_law_script","_law_cell_here"] [0,7] ⟨rfl,rfl,rfl,rfl,rfl,rfl,rfl,rfl⟩ (fS rfl dz (af (ah 10) ak)) (λ_ _ _ _=>(bO (i:=0) (show List.Nodup (["_law_j","_law_script","_law_cell_here"]:List Str)by decide +kernel) rfl (Nb rfl))) (kJ (i:=0)) (pQ (by decide)) (λ_ _ _ _=>⟨j6,(br fM jg jf (hr.mono (by decide)) rfl (af (eT (br cU cP cO (hr.mono (by decide)) rfl (af (ah 1) (af (eT aq (ah 0)) ak))) (uU (bg (ah 2) (uW aq aq)) (ah 0))) ak))⟩))
   (aS (aT (i:=12) bj.nd rfl (Nb rfl) (fD (bz (af (bg (ah 7) aq) (af (bg (ah 7) aq) ak))) (bg (eU (ah 7) aq) aq) (λ_ _=>rfl)))
   (aS (aT (i:=13) bj.nd rfl (Nb rfl) gx)
   (aS (bH (j8 uc qy (jb λ_ _ _=>.bl _) (jb λ_ _ _=>.bl _) aq (ah 9) (ah 1)) (aG (aT (i:=13) bj.nd rfl (Nb rfl) (br p8 pW pV (hr.mono (by decide)) rfl (af (fD (ah 3) (ah 9) (λ_ _=>rfl)) (af (ah 11) ak))))) aO)
   (aS (aT (i:=14) bj.nd rfl (Nb rfl) (rb rfl fN (af (ah 11) ak)))
   (aG (bH (oR.dt (jd (eW (eV (br m3 mO mM (hr.mono (by decide)) rfl (af (br oG ou oq (hr.mono (by decide)) rfl (af (ah 4) (af (ah 9) (af (ah 14) (af (ah 12) ak))))) (af (ah 13) (af (ah 12) ak)))))) (iO (ia (hr.units) (ah 14) (ah 11))))) (aG (bh lB)) aO)))))))))))))))) (λR kk=>?_)
 walk_at "vc";refine⟨⟨by decide,by decide⟩,?_⟩
 have HG:∀p∈ps,p.tk.length<=20:=λp hp=>by
  obtain⟨b,hb⟩:=hpk p hp;obtain⟨i,h1,h2⟩:=hb.nm;rw[h2.len];exact h1
 refine jv (λi env st=>∃(o6 o7 o8 o9 oa ob oc od oe:Option DV),env=[some (.dat (.list (ns.map PyData.int))),some (.dat (.int ((mn + 1:Nat):Int))),some (.dat (.int (dr:Int))),some (.dat (.list (ps.map kM))),some (.dat (kN ip ps)),some (.dat (kN ip ps)),o6,o7,o8,o9,oa,ob,oc,od,oe]/\st=[]) ⟨_,_,_,_,_,_,_,_,_,rfl,rfl⟩ (λ_ _ _ _=>trivial) ?_ ?_
 ·rintro i env st d hd' ⟨o6,o7,o8,o9,oa,ob,oc,od,oe,rfl,rfl⟩;obtain⟨hi,rfl⟩:=ib hd';have hi:i < 3:=by simpa using hi
  obtain⟨x,hx,x0,x1⟩:∃x:Int,i9 [PyData.int 0,.int 1,.int 0] (0 + (i:Int))=some (.int x)/\0<=x/\x<=1:=by
   match i,hi with
   | 0,_=>exact⟨0,rfl,by decide,by decide⟩
   | 1,_=>exact⟨1,rfl,by decide,by decide⟩
   | 2,_=>exact⟨0,rfl,by decide,by decide⟩
  refine bE (λR1 k1=>?_);walk_at "vs";refine⟨_,hx,?_⟩;walk_at "vs";refine⟨ns,_,rfl,by omega,by omega,λc=>?_⟩;refine k1 _ _ ?_;clear k1 R1;refine bE (λR1 k1=>?_);walk_at "vs";refine⟨⟨by decide,by decide⟩,rfl,k1 _ _ ?_⟩;clear k1 R1;generalize c / 8=c7;generalize c % 8=wy;refine bE (λR1 k1=>?_);walk_at "vs";refine k1 _ _ ?_;clear k1 R1;refine bE (λR1 k1=>?_)
  have j1:∀j:Int,R1 [some (.dat (.list (ns.map PyData.int))),some (.dat (.int ((mn + 1:Nat):Int))),some (.dat (.int (dr:Int))),some (.dat (.list (ps.map kM))),some (.dat (kN ip ps)),some (.dat (kN ip ps)),some (.dat (.int (0 + (i:Int)))),some (.dat (.int c7)),some (.dat (.int wy)),some (.dat (.int j)),oa,ob,oc,od,oe] []:=by
   intro j;refine k1 _ _ ?_;clear k1 R1;refine bE (λR1 k1=>?_)
   have j2:∀j:Int,R1 [some (.dat (.list (ns.map PyData.int))),some (.dat (.int ((mn + 1:Nat):Int))),some (.dat (.int (dr:Int))),some (.dat (.list (ps.map kM))),some (.dat (kN ip ps)),some (.dat (kN ip ps)),some (.dat (.int (0 + (i:Int)))),some (.dat (.int c7)),some (.dat (.int wy)),some (.dat (.int j)),oa,ob,oc,od,oe] []:=by
    intro j;refine k1 _ _ ?_;clear k1 R1;refine bE (λR1 k1=>?_);walk_at "vs";refine k1 _ _ ?_;clear k1 R1;refine bE (λR1 k1=>?_)
    have j3:∀n:Nat,n<=20->R1 [some (.dat (.list (ns.map PyData.int))),some (.dat (.int ((mn + 1:Nat):Int))),some (.dat (.int (dr:Int))),some (.dat (.list (ps.map kM))),some (.dat (kN ip ps)),some (.dat (kN ip ps)),some (.dat (.int (0 + (i:Int)))),some (.dat (.int c7)),some (.dat (.int wy)),some (.dat (.int j)),some (.dat (.int (n:Int))),ob,oc,od,oe] []:=by
     intro n hn;refine k1 _ _ ?_;clear k1 R1;refine bE (λR1 k1=>?_)
     have j4:∀n:Nat,n<=22->R1 [some (.dat (.list (ns.map PyData.int))),some (.dat (.int ((mn + 1:Nat):Int))),some (.dat (.int (dr:Int))),some (.dat (.list (ps.map kM))),some (.dat (kN ip ps)),some (.dat (kN ip ps)),some (.dat (.int (0 + (i:Int)))),some (.dat (.int c7)),some (.dat (.int wy)),some (.dat (.int j)),some (.dat (.int (n:Int))),ob,oc,od,oe] []:=by
      intro n hn;refine k1 _ _ ?_;clear k1 R1;refine bE (λR1 k1=>?_);walk_at "vs";refine⟨⟨by omega,by omega⟩,?_⟩;refine AV DR PyData.int (by rw[dF];omega) ?_ ?_
      ·intro y d hy W N hW;obtain⟨LH,rfl⟩:=ib hy;walk_at "vc";rw[if_pos rfl];have MN:y < n:=by simpa using LH
       refine⟨rfl,rfl,ns,_,rfl,by omega,by omega,λc=>?_⟩;walk_at "vc";refine⟨⟨by decide,by decide,by decide⟩,by decide +kernel,?_⟩;have hq:0<=c7 % 10 ^ Int.toNat 6/\c7 % 10 ^ Int.toNat 6 < 1000000:=⟨Og _ (by decide +kernel),Oo _ (by decide +kernel)⟩;generalize c7 % 10 ^ Int.toNat 6=q1 at hq;exact⟨.inl (.inl ⟨by omega,by omega⟩),_,rfl,λn hn=>⟨rfl,hW n hn⟩⟩
      intro ws lw hws;rw[dF]at lw;have lw:ws.length=n:=by simpa using lw
      walk_at "vs";refine k1 _ _ ?_;clear k1 R1;refine bE (λR1 k1=>?_);walk_at "vs"
      obtain⟨bud,hbud⟩:∃bud:Int,i9 [PyData.int (c7 % 10001),PyData.int (c7 % 2)] (c7 / 16 % 2)=some (.int bud):=by
       obtain⟨y,ey,hy⟩:=mL (c7 / 16) (m:=2) (n:=2) rfl (by decide);rw[ey]
       match y,hy with
       | 0,_=>exact⟨_,rfl⟩
       | 1,_=>exact⟨_,rfl⟩
      refine⟨by decide,by decide,⟨by decide,by decide⟩,by decide,_,hbud,k1 _ _ ?_⟩;clear k1 R1 hbud;refine bE (λR1 k1=>?_);walk_at "vs";refine k1 _ _ ?_;clear k1 R1;refine bE (λR1 k1=>?_)
      have j5:∀o:Option Int,Cy ps j ws o->R1 [some (.dat (.list (ns.map PyData.int))),some (.dat (.int ((mn + 1:Nat):Int))),some (.dat (.int (dr:Int))),some (.dat (.list (ps.map kM))),some (.dat (kN ip ps)),some (.dat (kN ip ps)),some (.dat (.int (0 + (i:Int)))),some (.dat (.int c7)),some (.dat (.int wy)),some (.dat (.int j)),some (.dat (.int (n:Int))),some (.dat (.list (ws.map PyData.int))),some (.dat (.int bud)),some (.dat (vP o)),oe] []:=by
       intro o ho;refine k1 _ _ ?_;clear k1 R1;refine bE (λR1 k1=>?_);walk_at "vs";refine k1 _ _ ?_;clear k1 R1;walk_at "vc";refine⟨j,bud,ip,ps,ws,rfl,by omega,λp hp=>Nr (HG p hp) (by decide),?_⟩;refine yS (F:=λd=>eg [d,vP o,.int bud] _) hpk ho ?_;refine⟨o,bud,rfl,?_⟩;walk_at "vc";refine bI ?_;have sh:Sh 1 (.list (ws.map PyData.int)):=dm (mF λ_ _=>fE);refine⟨⟨sh.ok,sh.ok⟩,?_⟩;rw[sh.self];exact bI ⟨_,_,_,_,_,_,_,_,_,rfl,rfl⟩
      walk_at "vs"
      have out:¬ (0<=j/\j < ((mn + 1:Nat):Int))->Cy ps j ws none:=λh hd=>by
       obtain⟨jn,p,ej,hp,_⟩:=fU.mp hd;have:=(cV hp).1;omega
      refine cW (λh0=>cW (λh1=>?_) λh1=>j5 none (out λh=>h1 h.2)) λh0=>bI (j5 none (out λh=>h0 h.1))
      obtain⟨jn,rfl⟩:∃n:Nat,j=(n:Int):=⟨j.toNat,by omega⟩;have hp:ps[jn]?=some (ps[jn]'(by omega)):=gR _;generalize ps[jn]'(by omega)=p at hp;obtain⟨b,hb⟩:=hpk p (Nl hp);refine⟨_,ic hp,b,p,ws,rfl,hb,by omega,λhd w ha=>j5 (some w) ⟨jn,p,rfl,hp,hd,ha⟩,λn=>j5 none λhd=>n ?_⟩;obtain⟨jn',p',ej,hp',hd'⟩:=fU.mp hd;obtain rfl:jn'=jn:=by omega
      rw[hp]at hp';cases hp';exact hd'
     walk_at "vs"
     obtain⟨s,hs,s1,s2⟩:∃s:Int,i9 [PyData.int (-2),.int (-1),.int 1,.int 2] (c7 % 4)=some (.int s)/\-2<=s/\s<=2:=by
      obtain⟨y,ey,hy⟩:=mL c7 (m:=4) (n:=4) rfl (by decide);rw[ey]
      match y,hy with
      | 0,_=>exact⟨-2,rfl,by decide,by decide⟩
      | 1,_=>exact⟨-1,rfl,by decide,by decide⟩
      | 2,_=>exact⟨1,rfl,by decide,by decide⟩
      | 3,_=>exact⟨2,rfl,by decide,by decide⟩
     refine cW (λ_=>⟨by decide,_,hs,?_⟩) λ_=>j4 n (by omega)
     walk_at "vs"
     have e:(if (n:Int) + s > 0 then(n:Int) + s else 0)=(((n:Int) + s).toNat:Int):=by
      by_cases h:(n:Int) + s > 0
      ·rw[Nv h];omega
      ·rw[Nu h];omega
     rw[e];exact j4 _ (by omega)
    walk_at "vs";refine cW (λh0=>cW (λh1=>?_) λh1=>j3 0 (by decide)) λh0=>bI (j3 0 (by decide))
    obtain⟨jn,rfl⟩:∃n:Nat,j=(n:Int):=⟨j.toNat,by omega⟩;have hp:ps[jn]?=some (ps[jn]'(by omega)):=gR _;generalize ps[jn]'(by omega)=p at hp;have hl:=HG p (Nl hp);refine⟨_,ic hp,?_⟩;rw[show kM p=.tuple [.list (p.tk.map lI),.tuple (fv p.gv),.list [],p.an]from rfl];walk_at "vs";rw[M8];exact j3 _ hl
   walk_at "vs"
   obtain⟨s,hs⟩:∃s:Int,i9 [PyData.int (((mn + 1:Nat):Int) + c7 % 3),.int (-1 - c7 % 3)] (c7 / 3 % 2)=some (.int s):=by
    obtain⟨y,ey,hy⟩:=mL (c7 / 3) (m:=2) (n:=2) rfl (by decide);rw[ey]
    match y,hy with
    | 0,_=>exact⟨_,rfl⟩
    | 1,_=>exact⟨_,rfl⟩
   refine cW (λ_=>⟨by decide,by decide,⟨by decide,by decide⟩,by decide,_,hs,j2 _⟩) λ_=>j2 _
  walk_at "vs";exact cW (λ_=>⟨by omega,j1 _⟩) λ_=>j1 _
 ·rintro env st ⟨o6,o7,o8,o9,oa,ob,oc,od,oe,rfl,rfl⟩;refine kk _ _ ?_;clear kk R;refine cI (bh (jT (hr.units) (ah 4) (ah 5))) ?_;walk_at "vc";have sh:=Fv hpk;refine⟨⟨sh.ok,sh.ok⟩,?_⟩;rw[sh.self];exact q
end
def jr(K:aC)(n:Str)(s:Stmt):Prop:=∃f fd,PySem.W.nsIn K mainGlobals n=some (some (.ref f))/\iH K n n s f fd
def sQ(K:aC)(f:Addr)(n q:Str)(s:Stmt):Prop:=(∃fd,iH K n q s f fd)/\PySem.W.isFn K (.ref f)=true
theorem all_mk{l:PySem.W.OpenLaw}{w:World}{K:aC}{h:Heap}{mg:Str->Option Value}{fa JB JC JD JE JF JG HH:Addr}(X:K.In h)(G:h.Ns mainGlobals mg)(hfa:mg "law"=some (.ref fa))
  {HI Fx:Option Addr} {HJ:Array (Option Value)} {HK Fy Fz FA CA FC:Value}
  {dM ai dN aR:Addr}
  {au:Addr} (m4:PySem.W.nsIn K mainGlobals "Call"=some (some (.ref au)))
  (m5:PySem.W.plainGet K au Str.empty=true)
  (m6:PySem.W.hasDictIn K au=true)
  (m7:PySem.W.plainOver K au=true)
  (m8:PySem.W.findIn K (.ref au) "__setattr__"=some (some (.builtin "object.__setattr__")))
  (m9:PySem.W.makesIn K au=true)
  (nc:PySem.W.keepIn K (.ref au)=true)
  (eE:PySem.W.findIn K (.ref au) "depth"=some none)
  (eF:PySem.W.findIn K (.ref au) "known"=some none)
  (cG:PySem.W.findIn K (.ref au) "__init__"=some (some (.ref JD)))
  {ar:Addr} (gJ:PySem.W.nsIn K mainGlobals "Reading"=some (some (.ref ar)))
  (gK:PySem.W.plainGet K ar Str.empty=true)
  (gL:PySem.W.hasDictIn K ar=true)
  (gM:PySem.W.plainOver K ar=true)
  (gO:PySem.W.findIn K (.ref ar) "__setattr__"=some (some (.builtin "object.__setattr__")))
  (gP:PySem.W.makesIn K ar=true)
  (gQ:PySem.W.keepIn K (.ref ar)=true)
  (bW:PySem.W.findIn K (.ref ar) "program"=some none)
  (c6:PySem.W.findIn K (.ref ar) "said"=some none)
  (c8:PySem.W.findIn K (.ref ar) "left"=some none)
  (cv:PySem.W.findIn K (.ref ar) "do_all"=some (some (.ref JB)))
  (bJ:PySem.W.findIn K (.ref ar) "value_of"=some (some (.ref JC)))
  (cH:PySem.W.findIn K (.ref ar) "given"=some (some (.ref JE)))
  (cw:PySem.W.findIn K (.ref ar) "end_at"=some (some (.ref JF)))
  (bK:PySem.W.findIn K (.ref ar) "__init__"=some (some (.ref JG)))
  (d0:jr K "_law_cell" gz)
  (d1:jr K "_law_due" iR)
  (d2:jr K "_law_word" gA)
  (d3:jr K "_law_part" gB)
  (d4:jr K "_law_whole" fF)
  (d5:jr K "_law_right" fG)
  (d6:jr K "is_door" iS)
  (d7:jr K "check_door" eZ)
  (d8:jr K "kinds_taken" eA)
  (d9:jr K "heads_of" gC)
  (HL:sQ K JB "do_all" "Reading.do_all" cD)
  (HM:sQ K JC "value_of" "Reading.value_of" bU)
  (HN:sQ K JD "__init__" "Call.__init__" cX)
  (HP:sQ K JE "given" "Reading.given" cY)
  (HQ:sQ K JF "end_at" "Reading.end_at" cE)
  (HR:sQ K JG "__init__" "Reading.__init__" bV)
  (HS:jr K "plain_run" fH)
  (HU:jr K "_law_told" gE)
  (HV:PySem.W.nsIn K mainGlobals "law"=some (some (.ref HH))) (HW:K.lookup HH=some ⟨HK,HI,.func (PySem.W.fnOf "law" "law" (dA ig) (dB ig) (dS ig) .none Fy Fz FA Fx CA FC),HJ⟩) (HY:PySem.W.codeIn K CA "law"=true) (HZ:PySem.W.keepIn K (.ref HH)=true)
  (fO:PySem.W.nsIn K mainGlobals "NoBook"=some (some (.ref dM)))
  (iB:PySem.W.ktsIn K dM "BaseException"=true)
  (cS:PySem.W.nsIn K mainGlobals "NoDoor"=some (some (.ref ai)))
  (cT:PySem.W.excIn K ai kG "ValueError.__new__"=true)
  (dJ:PySem.W.ktsIn K ai "BaseException"=true)
  (fP:PySem.W.nsIn K mainGlobals "NoTree"=some (some (.ref dN)))
  (iD:PySem.W.ktsIn K dN "BaseException"=true)
  (bN:PySem.W.nsIn K mainGlobals "WardenError"=some (some (.ref aR)))
  (cK:PySem.W.excIn K aR kG "ValueError.__new__"=true)
  (cL:PySem.W.ktsIn K aR "BaseException"=true)
  (iq:IsT K "bool" (je "bool"))
  (ky:IsT K "int" yE)
  (iv:IsT K "list" (je "list"))
  (dI:IsT K "tuple" (je "tuple"))
  (vT:PySem.W.mroIn K ai (.ref ai)=some true)
  (dO:PySem.W.findIn K (.ref ai) "__getattribute__"=some (some (.builtin "BaseException.__getattribute__")))
  (dP:PySem.W.findIn K (.ref ai) "__getattr__"=some none)
  (dQ:PySem.W.findIn K (.ref ai) "__class__"=some (some (.builtin "object.__class__")))
  (dR:PySem.W.mroIn K ai (.type "BaseException")=some true)
  (dU:PySem.W.mroIn K ai (.type "object")=some true)
  (dW:PySem.W.hasDictIn K ai=true)
  (vU:PySem.W.kitOne K (.ref ai) (.ref aR)=some true)
  (vV:PySem.W.kitOne K (.ref ai) (.type "ValueError")=some true)
  (vW:PySem.W.kitOne K (.ref ai) (.ref dM)=some false)
  (vX:PySem.W.kitOne K (.ref ai) (.ref dN)=some false)
  (cu:PySem.W.nsIn K mainGlobals "ValueError"=some none)
  (oy:PySem.W.nsIn K mainGlobals "all"=some none)
  (ku:PySem.W.nsIn K mainGlobals "bool"=some none)
  (kB:PySem.W.nsIn K mainGlobals "dict"=some none)
  (cq:PySem.W.nsIn K mainGlobals "divmod"=some none)
  (ox:PySem.W.nsIn K mainGlobals "int"=some none)
  (aB:PySem.W.nsIn K mainGlobals "isinstance"=some none)
  (bZ:PySem.W.nsIn K mainGlobals "len"=some none)
  (fN:PySem.W.nsIn K mainGlobals "list"=some none)
  (oE:PySem.W.nsIn K mainGlobals "max"=some none)
  (dz:PySem.W.nsIn K mainGlobals "range"=some none)
  (fe:PySem.W.nsIn K mainGlobals "tuple"=some none)
  (kr:PySem.W.nsIn K mainGlobals "zip"=some none)
  : ∃fd:FuncData,(∀(s:Shared) (v:Value),BindsTo s fd ⟨[v],[]⟩ [("_law_script",v)])/\∀base:Heap,K.In base->base.Ns mainGlobals mg->bB l.prog w K mg base cf 7 fa fd ["_law_script"] (mS K):=by
 have e:=hfa.symm.trans (Nn X G HV);cases e;obtain⟨f0,MO,a0,F0⟩:=d0;have k0:=F0.kp;have b0:=F0.binds (ps:=["_law_script","_law_k"]) λ_ _ _ _ _ _=>ln2 (λ_ _=>by rfl)
 obtain⟨f1,MP,a1,F1⟩:=d1;have k1:=F1.kp;have b1:=F1.binds (ps:=["_law_part_here","_law_inputs"]) λ_ _ _ _ _ _=>ln2 (λ_ _=>by rfl)
 obtain⟨f2,MQ,a2,F2⟩:=d2;have k2:=F2.kp;have b2:=F2.binds (ps:=["_law_cell_here"]) λ_ _ _ _ _ _=>Fj (λ_=>by rfl)
 obtain⟨f3,MR,a3,F3⟩:=d3;have k3:=F3.kp;have b3:=F3.binds (ps:=["_law_cell_here","_law_door"]) λ_ _ _ _ _ _=>ln2 (λ_ _=>by rfl)
 obtain⟨f4,MS,a4,F4⟩:=d4;have k4:=F4.kp;have b4:=F4.binds (ps:=["_law_found"]) λ_ _ _ _ _ _=>Fj (λ_=>by rfl)
 obtain⟨f5,MT,a5,F5⟩:=d5;have k5:=F5.kp;have b5:=F5.binds (ps:=["_law_told_here","_law_due_here","_law_budget"]) λ_ _ _ _ _ _=>AU (λ_ _ _=>by rfl)
 obtain⟨f6,MU,a6,F6⟩:=d6;have k6:=F6.kp;have b6:=F6.binds (ps:=["takes","gives"]) λ_ _ _ _ _ _=>ln2 (λ_ _=>by rfl)
 obtain⟨f7,MV,a7,F7⟩:=d7;have k7:=F7.kp;have b7:=F7.binds (ps:=["parts","part","inputs"]) λ_ _ _ _ _ _=>AU (λ_ _ _=>by rfl)
 obtain⟨f8,MW,a8,F8⟩:=d8;have k8:=F8.kp;have b8:=F8.binds (ps:=["part"]) λ_ _ _ _ _ _=>Fj (λ_=>by rfl)
 obtain⟨f9,MX,a9,F9⟩:=d9;have k9:=F9.kp;have b9:=F9.binds (ps:=["program"]) λ_ _ _ _ _ _=>Fj (λ_=>by rfl)
 obtain⟨⟨LI,Ia⟩,G6⟩:=HL;have LJ:=Ia.kp;have LK:=Ia.binds (ps:=["self","call","trees"]) λ_ _ _ _ _ _=>AU (λ_ _ _=>by rfl)
 obtain⟨⟨LL,Ib⟩,G7⟩:=HM;have LM:=Ib.kp;have LN:=Ib.binds (ps:=["self","call","tree"]) λ_ _ _ _ _ _=>AU (λ_ _ _=>by rfl)
 obtain⟨⟨LO,Ic⟩,LP⟩:=HN;have MY:=Ic.kp;have LQ:=Ic.binds (ps:=["self","depth","known"]) λ_ _ _ _ _ _=>AU (λ_ _ _=>by rfl)
 obtain⟨⟨LR,Ie⟩,LS⟩:=HP;have LU:=Ie.kp;have LV:=Ie.binds (ps:=["self","part","values","depth"]) λ_ _ _ _ _ _=>Gu (λ_ _ _ _=>by rfl)
 obtain⟨⟨LW,Ig⟩,LX⟩:=HQ;have LY:=Ig.kp;have LZ:=Ig.binds (ps:=["self","part","inputs"]) λ_ _ _ _ _ _=>AU (λ_ _ _=>by rfl)
 obtain⟨⟨L3,Ih⟩,L4⟩:=HR;have MZ:=Ih.kp;have L5:=Ih.binds (ps:=["self","program","budget"]) λ_ _ _ _ _ _=>AU (λ_ _ _=>by rfl)
 obtain⟨M0,L6,L7,Ii⟩:=HS;have L8:=Ii.kp;have L9:=Ii.binds (ps:=["program","part","inputs","budget"]) λ_ _ _ _ _ _=>Gu (λ_ _ _ _=>by rfl)
 obtain⟨M1,Ma,Mb,Ij⟩:=HU;have Mc:=Ij.kp;have Md:=Ij.binds (ps:=["_law_program","_law_p","_law_inputs","_law_budget"]) λ_ _ _ _ _ _=>Gu (λ_ _ _ _=>by rfl)
 have Me:=pC (st:=ig) HW HY HZ;have ng:=Nq X G cu;have FE:=Nq X G oy;have y_bool:=Nq X G ku;have CB:=Nq X G kB;have oH:=Nq X G cq;have FF:=Nq X G ox;have fh:=Nq X G aB;have lK:=Nq X G bZ;have vY:=Nq X G fN;have FG:=Nq X G oE;have rq:=Nq X G dz;have yU:=Nq X G fe;have AW:=Nq X G kr;have vZ:=Nn X G fO;have oJ:=Nn X G cS;have v5:=Nn X G fP;have kU:=Nn X G bN;have CC:=Nn X G m4;have aw:Mine.aw K au:=⟨⟨m5,m6,m7,m8⟩,eE,eF⟩;have sR:=Nn X G gJ;have aE:Mine.aE K ar:=⟨⟨gK,gL,gM,gO⟩,bW,c6,c8⟩;refine⟨PySem.W.fnOf "law" "law" (dA ig) (dB ig) (dS ig) .none Fy Fz FA Fx CA FC,λs v=>.of_eq rfl,λbase _ _=>?_⟩;have oK:gW l.prog w K mg base cf "_law_cell" 1 ["_law_script","_law_k"] (ee K):=⟨_,_,mT F0 lK aw,b0,k0,Nn X G a0⟩;have p9:gW l.prog w K mg base cf "_law_due" 1 ["_law_part_here","_law_inputs"] (e7 K):=⟨_,_,ow F1 lK AW aw,b1,k1,Nn X G a1⟩;have ji:gW l.prog w K mg base cf "_law_word" 1 ["_law_cell_here"] (cQ K):=⟨_,_,mV F2 aw,b2,k2,Nn X G a2⟩;have oM:gW l.prog w K mg base cf "_law_part" 2 ["_law_cell_here","_law_door"] (ef K):=⟨_,_,mW F3 oH lK rq aw ji,b3,k3,Nn X G a3⟩;have nh:gW l.prog w K mg base cf "_law_whole" 1 ["_law_found"] (dn K):=⟨_,_,kQ F4 y_bool FF fh aw iq ky,b4,k4,Nn X G a4⟩;have nj:gW l.prog w K mg base cf "_law_right" 2 ["_law_told_here","_law_due_here","_law_budget"] (dq K):=⟨_,_,kR F5 fh lK vY yU aw nh iv dI,b5,k5,Nn X G a5⟩;have sS:gW l.prog w K mg base cf "is_door" 1 ["takes","gives"] (e9 K):=⟨_,_,p5 F6 FE aw,b6,k6,Nn X G a6⟩;have nk:gW l.prog w K mg base (nv l.prog w) "check_door" 2 ["parts","part","inputs"] (eB K ai):=⟨_,_,kS F7 lK oJ cT dJ aw sS,b7,k7,Nn X G a7⟩;have kW:gW l.prog w K mg base cf "kinds_taken" 1 ["part"] (cn K):=⟨_,_,kA F8 aw,b8,k8,Nn X G a8⟩;have qa:gW l.prog w K mg base cf "heads_of" 2 ["program"] (fK K):=⟨_,_,oA F9 aw kW,b9,k9,Nn X G a9⟩;have iE:ml l.prog w K mg base cf ar "do_all" 1 ["self","call","trees"] (iU K):=⟨⟨_,_,iw Ia (C:=ar) (wt:=false) aw aE,LK,⟨cv,G6,LJ⟩⟩,aE.cl⟩;have fZ:ml l.prog w K mg base cf ar "value_of" 1 ["self","call","tree"] (fL K au):=⟨⟨_,_,fW Ib (C:=ar) (wt:=false) aw aE,LN,⟨bJ,G7,LM⟩⟩,aE.cl⟩;have yV:uP l.prog w K mg base cf au "Call" 1 ["self","depth","known"] (fc K au):=⟨⟨_,_,iY Ic aw,LQ,⟨m9,cG,LP,nc⟩,CC⟩⟩;have i3:ml l.prog w K mg base cf ar "given" 3 ["self","part","values","depth"] (kq K ar):=⟨⟨_,_,iZ Ie (C:=ar) (wt:=false) CB AW aw aE iE fZ yV,LV,⟨cH,LS,LU⟩⟩,aE.cl⟩;have iF:ml l.prog w K mg base cf ar "end_at" 4 ["self","part","inputs"] (iV K ar):=⟨⟨_,_,iz Ig (C:=ar) (wt:=false) aw aE i3,LZ,⟨cw,LX,LY⟩⟩,aE.cl⟩;have qb:uP l.prog w K mg base cf ar "Reading" 1 ["self","program","budget"] (cZ K ar):=⟨⟨_,_,fY Ih (C:=ar) (wt:=false) aw aE,L5,⟨gP,bK,L4,gQ⟩,sR⟩⟩;have oN:gW l.prog w K mg base (nv l.prog w) "plain_run" 5 ["program","part","inputs","budget"] (du K ai):=⟨_,_,mX Ii aw aE nk qa iF qb,L9,L8,Nn X G L7⟩;have oO:gW l.prog w K mg base cf "_law_told" 6 ["_law_program","_law_p","_law_inputs","_law_budget"] (eh K):=⟨_,_,mZ Ij ng fh vZ iB oJ cT dJ v5 iD kU cK cL aw oN vT dO dP dQ dR dU dW vU vV vW vX,Md,Mc,Nn X G Mb⟩;exact Cz (P:=l.prog) (w:=w) (base:=base) Me oH lK vY FG rq aw oK p9 oM nj oO ji
theorem walk{l:PySem.W.OpenLaw}{q:Program}{loose:List Str}{XP:(Str->Option Value)->Heap->Prop}{YP:World->Heap->Prop}{d:DefRec}{K:Params->aC}(hn:l.most=some 63)(hdf:d.params.defaults=[])
  (hY:∀(w:World) (h:Heap),YP w h->(K w.params).In h)
  (F:∀(w:World) (mg:Str->Option Value) (fa:Addr) (h:Heap),(K w.params).In h->h.Ns mainGlobals mg->mg d.name=some (.ref fa) ->
   ∃fd:FuncData,(∀(s:Shared) (u:Value),BindsTo s fd ⟨[u],[]⟩ [("_law_script",u)])/\∀base:Heap,(K w.params).In base->base.Ns mainGlobals mg->bB l.prog w (K w.params) mg base cf 7 fa fd ["_law_script"] (mS (K w.params))) :
  PySem.W.WalkO q loose XP YP l.row.toRowW d [] (λf vs=>PySem.call f vs) :=
 L2.xM (n:=63) (k:=7) (x:="_law_script") (CX:=λ_=>cf) (sp:=λw=>mS (K w.params)) hn (by decide) hdf ⟨rfl,by decide,by decide,rfl⟩ hY F (λ_ _ a ns hl _ hS=>⟨a,ns,rfl,hS,hl,λ_=>rfl⟩) λ_ _ _ _ _ z=>z
end Mine
noncomputable section
namespace MH
open PySem PySem.W L2 Mine
abbrev OF:=Program->Params->Obj
abbrev TF:=Program->Params->BT
abbrev r(a:Nat):Value:=.ref a
abbrev s(x:Str)(t:Tok):Value:=.str x t
abbrev i(n:Int):Value:=.int n 0
abbrev cF:Str:="/claim/cut.py"
def de(P:Params)(x:Str)(t:Tok)(v:Value):DictEntry:=⟨PyData.keyHash P x,.str x t,v⟩
abbrev fn(a b:Str)(e:Stmt)(dV kV doc pm:Value)(an:Option Addr)(cd ct:Value):FuncData:=PySem.W.fnOf a b (dA e) (dB e) (dS e) dV kV doc pm an cd ct
abbrev fx(g u:Nat)(a b:Str)(e:Stmt)(dV kV doc pm:Value)(an:Option Addr)(cd ct:Value):FuncData:=⟨a,b,dA e,.stmts (dB e),dS e,g,[],dV,kV,doc,pm,an,cd,ct,u⟩
abbrev tu(l:List Value):Obj:=⟨.type "tuple",none,.seq l.toArray 0,#[]⟩
abbrev nf(l:List Value):Obj:=⟨.none,none,.fields l.toArray,#[]⟩
abbrev co(l:List Value):Obj:=⟨.type "code",none,.fields l.toArray,#[]⟩
abbrev fm(l:List (Option Value)):Obj:=⟨.type "frame",none,.plain,l.toArray⟩
abbrev di(l:List DictEntry)(n:Nat):Obj:=⟨.type "dict",none,.dict l.toArray n,#[]⟩
abbrev fo(f:FuncData):Obj:=⟨.type "function",none,.func f,#[]⟩
abbrev no(f:FuncData):Obj:=⟨.none,none,.func f,#[]⟩
abbrev bn(o:Obj)(l r:BT):BT:=.node o l r
abbrev bl(o:Obj):BT:=.node o .nil .nil
abbrev aa(o:OF)(l r:TF):TF:=λp P=>.node (o p P) (l p P) (r p P)
abbrev ae(o:OF):TF:=λp P=>.node (o p P) .nil .nil
abbrev aj:TF:=λ_ _=>.nil
abbrev M3(a b:Str)(e:Stmt):FuncData:=fn a b e .none .none .none .none none .none .none
abbrev fw(g u:Nat)(a b:Str)(e:Stmt):FuncData:=fx g u a b e .none .none .none .none none .none .none
abbrev rz:OF:=λ_ P=>boot_o_0 P
abbrev rA:OF:=λ_ P=>boot_o_1 P
abbrev iG:OF:=λ_ P=>boot_o_10 P
abbrev CD:OF:=λ_ P=>boot_o_2 P
abbrev Mf:OF:=λ_ P=>boot_o_3 P
abbrev rB:OF:=λ_ P=>boot_o_4 P
abbrev rC:OF:=λ_ P=>boot_o_5 P
abbrev rD:OF:=λ_ P=>boot_o_6 P
abbrev rE:OF:=λ_ P=>boot_o_7 P
abbrev rF:OF:=λ_ P=>boot_o_8 P
abbrev rG:OF:=λ_ P=>boot_o_9 P
abbrev pw:Program:=PySem.Challenge.pw_stackwarden_k60_doors
def gc(p:Program):Env:={scope:=p.main.scope,locals:=mainNs,globals:=mainNs,cells:=[],code:=(.ref 13),frame:=some 14}
def aX(p:Program):Code:=.body (behindTheImports p) (gc p)
abbrev BF:List Frame:=[topFrame ⟨0,0,0,0⟩]
def bu(p:Program)(i n:Nat):List Stmt:=((behindTheImports p).drop i).take n
def bf(p:Program):Program:={p with main:={p.main with body:=[tf p 1,tf p 2,tf p 3,tf p 4,tf p 5,tf p 7,tf p 8,tf p 10,tf p 11,tf p 12,tf p 14,tf p 15,tf p 16,tf p 17,tf p 18,tf p 19,tf p 20,tf p 22,tf p 23,tf p 25,tf p 26,tf p 27,tf p 28,tf p 29,tf p 30,tf p 31,tf p 33,tf p 34,tf p 35,tf p 36,tf p 37,tf p 38,tf p 39,tf p 40]}}
abbrev ST(t:BT)(n k:Nat)(os:OsState):SharedT:=⟨t,n,{},Array.mk [],{},k,os⟩
abbrev SH(h:Heap)(k:Nat)(os:OsState):Shared:=⟨h,Array.mk [],{},k,os⟩
local macro_rules | `(tactic| walk_at "qk")=>`(tactic| ((try rewrite [Fast.te14364793385576792824]); (try rewrite [Fast.te10110043849684766642]); (try rewrite [Fast.te14374325043358763698]); (try rewrite [Fast.te15667345088766844465]); (try rewrite [Fast.te14082659384304107361]); (try rewrite [Fast.te11892475500146522536]); (try rewrite [Fast.te5160383126252970620]); (try rewrite [Fast.te3399658132070893891]); (try rewrite [Fast.te5991557255702980513]); (try rewrite [Fast.te10880121769531294198]); (try rewrite [Fast.te821141287760084731]); (try rewrite [Fast.te7409074990110511671]); (try rewrite [Fast.te13664370479719496447]); (try rewrite [Fast.te5923862056798008813]); (try rewrite [Fast.te14722251495701143533]); (try rewrite [Fast.te10994771534591457954]); (try rewrite [Fast.te479339242167458305]); (try rewrite [Fast.te16090120013241838585]); (try rewrite [Fast.te3247288618530077131]); (try rewrite [Fast.te2386780881361962483]); (try rewrite [Fast.te11698064438423848299]); (try rewrite [Fast.te7317090234206586261]); (try rewrite [Fast.te7369524293546568484]); (try rewrite [Fast.te8920871248978507458]); (try rewrite [PySem.W.R.mapR_eq]); (try rewrite [Fast.te2741413199508094100]); kernel_rfl))
def o0:OF:=λp P=>tu []
def o1:OF:=λp P=>nf []
noncomputable def o2:OF:=λp P=>co [(s "<module>" 182),(s "<module>" 183),(s cF 184),(i 1),(i 0),(i 0),(i 0),(i 0),(r 11),(.bool false),(i 181),(r 12),.none,.none,.none,.none,(i 185),(i 1),(s cF 186)]
def o3:OF:=λp P=>fm [(some (r 13)),(some (r 3)),(some (r 3)),none,(some (s "__main__" 164)),none,(some (r 0))]
def H0(p:Program)(P:Params):Heap:=⟨Array.mk [boot_o_0 P,boot_o_1 P,boot_o_2 P,boot_o_3 P,boot_o_4 P,boot_o_5 P,boot_o_6 P,boot_o_7 P,boot_o_8 P,boot_o_9 P,boot_o_10 P,o0 p P,o1 p P,o2 p P,o3 p P],{}⟩
def dq0_(P:Params):List DictEntry:=[de P "__doc__" 166 .none,de P "__package__" 167 .none,de P "__loader__" 168 (.builtin "__main__.__loader__#opaque"),de P "__spec__" 169 .none,de P "__annotations__" 170 (r 6),de P "__builtins__" 171 (r 4),de P "__file__" 173 (s cF 172),de P "__cached__" 174 .none,de P "WardenError" 206 (r 24)]
def dq1_(P:Params):List DictEntry:=dq0_ P++[de P "Nought" 222 (r 37)]
def dq2_(P:Params):List DictEntry:=dq1_ P++[de P "NoBook" 249 (r 56)]
def dq3_(P:Params):List DictEntry:=dq2_ P++[de P "NoDoor" 265 (r 68)]
def dq4_(P:Params):List DictEntry:=dq3_ P++[de P "NoTree" 290 (r 87),de P "is_door" 298 (r 94),de P "check_door" 308 (r 101),de P "elders_of" 319 (r 108),de P "is_under" 328 (r 115),de P "MOST_FRAMES" 330 (.int 12 329)]
def dq5_(P:Params):List DictEntry:=dq4_ P++[de P "HALF" 334 (.int 2147483648 333),de P "TURN" 336 (.int 4294967296 335),de P "wrapped" 343 (r 122),de P "reckoned" 352 (r 129),de P "divided" 361 (r 136),de P "BY_NOUGHT" 363 (.int 1 362),de P "TOO_DEEP" 365 (.int 2 364),de P "kinds_taken" 373 (r 141),de P "heads_of" 379 (r 146)]
def dq6_(P:Params):List DictEntry:=dq5_ P++[de P "Fault" 410 (r 163)]
def dq7_(P:Params):List DictEntry:=dq6_ P++[de P "Gave" 439 (r 183)]
def dq8_(P:Params):List DictEntry:=dq7_ P++[de P "Weary" 459 (r 196)]
def dq9_(P:Params):List DictEntry:=dq8_ P++[de P "Record" 490 (r 216)]
def dq10_(P:Params):List DictEntry:=dq9_ P++[de P "Call" 521 (r 237)]
def dq11_(P:Params):List DictEntry:=dq10_ P++[de P "Reading" 665 (r 338)]
def dq12_(P:Params):List DictEntry:=dq11_ P++[de P "plain_run" 677 (r 349),de P "_law_cell" 689 (r 356),de P "_law_whole" 696 (r 363),de P "_law_word" 703 (r 370),de P "_law_part" 709 (r 375),de P "_law_due" 721 (r 382),de P "_law_told" 735 (r 389),de P "_law_right" 747 (r 396),de P "law" 753 (r 401)]
def o4:OF:=λp P=>di (de P "__name__" 165 (s "stackwarden.errors" 187)::dq0_ P) 10
def o5:OF:=λp P=>nf [(i 2),(i 0),(r 20)]
def o6:OF:=λp P=>tu [(.type "ValueError")]
def o7:OF:=λp P=>⟨(.type "builtin_function_or_method"),none,(.fields #[(.builtin "type.__prepare__"),(.type "type")]),#[]⟩
noncomputable def o8:OF:=λp P=>di [de P "__module__" 196 (s "stackwarden.errors" 187),de P "__qualname__" 198 (s "WardenError" 197),de P "__firstlineno__" 200 (.int 2 199),de P "__static_attributes__" 201 (r 22)] 4
noncomputable def o9:OF:=λp P=>co [(s "WardenError" 191),(s "WardenError" 192),(s cF 193),(i 2),(i 0),(i 0),(i 0),(i 0),(r 18),(.bool false),(i 181),(r 19),.none,.none,.none,.none,(i 194),(i 2),(s cF 195)]
def rH:OF:=λp P=>fm [(some (r 20)),(some (r 3)),(some (r 17)),none,(some (s "stackwarden.errors" 187)),none,(some (r 0))]
noncomputable def qc:OF:=λp P=>di [de P "__module__" 196 (s "stackwarden.errors" 187),de P "__firstlineno__" 200 (.int 2 199),de P "__static_attributes__" 201 (r 22),de P "__weakref__" 203 (r 25),de P "__doc__" 204 .none] 3
noncomputable def Mg:OF:=λp P=>⟨(.type "type"),none,(.cls {name:="WardenError",bases:=[(.type "ValueError")],mro:=[(r 24),(.type "ValueError"),(.type "Exception"),(.type "BaseException"),(.type "object")],ns:=23,qualname:="WardenError"}),#[(some (r 15)),none,(some (s "WardenError" 189)),(some (s "WardenError" 197)),(some (.builtin "ValueError.__new__")),(some (.bool true))]⟩
def rJ:OF:=λp P=>⟨(.type "getset_descriptor"),none,(.fields #[(s "__weakref__" 202),(r 24),(.builtin "ExceptionGroup.__weakref__"),.none]),#[]⟩
def sT:OF:=λp P=>⟨(.type "super"),none,(.fields #[(r 24),(r 24),(r 24)]),#[]⟩
def rK:OF:=λp P=>⟨(.type "builtin_function_or_method"),none,(.fields #[(.builtin "object.__init_subclass__"),(r 24)]),#[]⟩
def Mh:OF:=λp P=>di (de P "__name__" 165 (s "stackwarden.errors" 187)::dq1_ P) 11
def Mi:OF:=λp P=>nf [(i 2),(i 0),(r 20),(i 4),(i 0),(r 33)]
noncomputable def Mj:OF:=λp P=>⟨(.type "type"),none,(.cls {name:="WardenError",bases:=[(.type "ValueError")],mro:=[(r 24),(.type "ValueError"),(.type "Exception"),(.type "BaseException"),(.type "object")],ns:=23,qualname:="WardenError",subclasses:=[(r 37)]}),#[(some (r 15)),none,(some (s "WardenError" 189)),(some (s "WardenError" 197)),(some (.builtin "ValueError.__new__")),(some (.bool true))]⟩
def dX:OF:=λp P=>tu [(r 24)]
noncomputable def sU:OF:=λp P=>di [de P "__module__" 214 (s "stackwarden.errors" 187),de P "__qualname__" 216 (s "Nought" 215),de P "__firstlineno__" 218 (.int 4 217),de P "__static_attributes__" 219 (r 35)] 4
noncomputable def v7:OF:=λp P=>co [(s "Nought" 209),(s "Nought" 210),(s cF 211),(i 4),(i 0),(i 0),(i 0),(i 0),(r 31),(.bool false),(i 181),(r 32),.none,.none,.none,.none,(i 212),(i 4),(s cF 213)]
def v8:OF:=λp P=>fm [(some (r 33)),(some (r 3)),(some (r 30)),none,(some (s "stackwarden.errors" 187)),none,(some (r 0))]
noncomputable def tT:OF:=λp P=>di [de P "__module__" 214 (s "stackwarden.errors" 187),de P "__firstlineno__" 218 (.int 4 217),de P "__static_attributes__" 219 (r 35),de P "__doc__" 220 .none] 2
noncomputable def tU:OF:=λp P=>⟨(.type "type"),none,(.cls {name:="Nought",bases:=[(r 24)],mro:=[(r 37),(r 24),(.type "ValueError"),(.type "Exception"),(.type "BaseException"),(.type "object")],ns:=36,qualname:="Nought"}),#[(some (r 28)),none,(some (s "Nought" 207)),(some (s "Nought" 215)),(some (.builtin "ValueError.__new__")),(some (.bool true))]⟩
def v9:OF:=λp P=>⟨(.type "super"),none,(.fields #[(r 37),(r 37),(r 37)]),#[]⟩
def tV:OF:=λp P=>⟨(.type "builtin_function_or_method"),none,(.fields #[(.builtin "object.__init_subclass__"),(r 37)]),#[]⟩
def Ml:OF:=λp P=>di (de P "__name__" 165 (s "stackwarden.errors" 187)::dq2_ P) 12
def Mm:OF:=λp P=>nf [(i 2),(i 0),(r 20),(i 4),(i 0),(r 33),(i 6),(i 0),(r 45)]
noncomputable def Mn:OF:=λp P=>⟨(.type "type"),none,(.cls {name:="WardenError",bases:=[(.type "ValueError")],mro:=[(r 24),(.type "ValueError"),(.type "Exception"),(.type "BaseException"),(.type "object")],ns:=23,qualname:="WardenError",subclasses:=[(r 37),(r 56)]}),#[(some (r 15)),none,(some (s "WardenError" 189)),(some (s "WardenError" 197)),(some (.builtin "ValueError.__new__")),(some (.bool true))]⟩
noncomputable def wa:OF:=λp P=>di [de P "__module__" 230 (s "stackwarden.errors" 187),de P "__qualname__" 232 (s "NoBook" 231),de P "__firstlineno__" 234 (.int 6 233),de P "__init__" 243 (r 53),de P "__static_attributes__" 246 (r 54)] 5
def wb:OF:=λp P=>nf [(i 8),(i 4),(r 52)]
noncomputable def wc:OF:=λp P=>co [(s "NoBook" 225),(s "NoBook" 226),(s cF 227),(i 6),(i 0),(i 0),(i 0),(i 0),(r 43),(.bool false),(i 181),(r 44),.none,.none,.none,.none,(i 228),(i 6),(s cF 229)]
def wd:OF:=λp P=>fm [(some (r 45)),(some (r 3)),(some (r 42)),none,(some (s "stackwarden.errors" 187)),none,(some (r 0))]
def tW:OF:=λp P=>tu [(s "self" 238),(s "part" 239),(s "at" 240)]
def w9:OF:=λp P=>no (fw 0 0 "__init__" "NoBook.__init__" (inner (tf p 3)))
noncomputable def we:OF:=λp P=>co [(s "__init__" 235),(s "NoBook.__init__" 236),(s cF 237),(i 8),(i 3),(i 0),(i 0),(i 3),(r 47),(.bool true),(i 181),(r 48),.none,(r 49),(r 50),(r 51),(i 241),(i 8),(s cF 242)]
def wg:OF:=λp P=>fo (fn "__init__" "NoBook.__init__" (inner (tf p 3)) .none .none .none (s "stackwarden.errors" 187) none (r 52) .none)
def wj:OF:=λp P=>tu [(s "at" 244),(s "part" 245)]
noncomputable def wk:OF:=λp P=>di [de P "__module__" 230 (s "stackwarden.errors" 187),de P "__firstlineno__" 234 (.int 6 233),de P "__init__" 243 (r 53),de P "__static_attributes__" 246 (r 54),de P "__doc__" 247 .none] 2
noncomputable def wm:OF:=λp P=>⟨(.type "type"),none,(.cls {name:="NoBook",bases:=[(r 24)],mro:=[(r 56),(r 24),(.type "ValueError"),(.type "Exception"),(.type "BaseException"),(.type "object")],ns:=55,qualname:="NoBook"}),#[(some (r 40)),none,(some (s "NoBook" 223)),(some (s "NoBook" 231)),(some (.builtin "ValueError.__new__")),(some (.bool true))]⟩
def xa:OF:=λp P=>⟨(.type "super"),none,(.fields #[(r 56),(r 56),(r 56)]),#[]⟩
def xb:OF:=λp P=>⟨(.type "builtin_function_or_method"),none,(.fields #[(.builtin "object.__init_subclass__"),(r 56)]),#[]⟩
def Mo:OF:=λp P=>di (de P "__name__" 165 (s "stackwarden.errors" 187)::dq3_ P) 13
def Mp:OF:=λp P=>nf [(i 2),(i 0),(r 20),(i 4),(i 0),(r 33),(i 6),(i 0),(r 45),(i 11),(i 0),(r 64)]
noncomputable def Mq:OF:=λp P=>⟨(.type "type"),none,(.cls {name:="WardenError",bases:=[(.type "ValueError")],mro:=[(r 24),(.type "ValueError"),(.type "Exception"),(.type "BaseException"),(.type "object")],ns:=23,qualname:="WardenError",subclasses:=[(r 37),(r 56),(r 68)]}),#[(some (r 15)),none,(some (s "WardenError" 189)),(some (s "WardenError" 197)),(some (.builtin "ValueError.__new__")),(some (.bool true))]⟩
noncomputable def xc:OF:=λp P=>di [de P "__module__" 257 (s "stackwarden.errors" 187),de P "__qualname__" 259 (s "NoDoor" 258),de P "__firstlineno__" 261 (.int 11 260),de P "__static_attributes__" 262 (r 66)] 4
noncomputable def yW:OF:=λp P=>co [(s "NoDoor" 252),(s "NoDoor" 253),(s cF 254),(i 11),(i 0),(i 0),(i 0),(i 0),(r 62),(.bool false),(i 181),(r 63),.none,.none,.none,.none,(i 255),(i 11),(s cF 256)]
def yX:OF:=λp P=>fm [(some (r 64)),(some (r 3)),(some (r 61)),none,(some (s "stackwarden.errors" 187)),none,(some (r 0))]
noncomputable def xf:OF:=λp P=>di [de P "__module__" 257 (s "stackwarden.errors" 187),de P "__firstlineno__" 261 (.int 11 260),de P "__static_attributes__" 262 (r 66),de P "__doc__" 263 .none] 2
noncomputable def xg:OF:=λp P=>⟨(.type "type"),none,(.cls {name:="NoDoor",bases:=[(r 24)],mro:=[(r 68),(r 24),(.type "ValueError"),(.type "Exception"),(.type "BaseException"),(.type "object")],ns:=67,qualname:="NoDoor"}),#[(some (r 59)),none,(some (s "NoDoor" 250)),(some (s "NoDoor" 258)),(some (.builtin "ValueError.__new__")),(some (.bool true))]⟩
def yY:OF:=λp P=>⟨(.type "super"),none,(.fields #[(r 68),(r 68),(r 68)]),#[]⟩
def yZ:OF:=λp P=>⟨(.type "builtin_function_or_method"),none,(.fields #[(.builtin "object.__init_subclass__"),(r 68)]),#[]⟩
def Mr:OF:=λp P=>di (de P "__name__" 165 (s "stackwarden.kinds" 309)::dq4_ P) 19
noncomputable def Ms:OF:=λp P=>nf [(i 2),(i 0),(r 20),(i 4),(i 0),(r 33),(i 6),(i 0),(r 45),(i 11),(i 0),(r 64),(i 13),(i 0),(r 76),(i 18),(i 0),(r 93),(i 20),(i 0),(r 100),(i 27),(i 0),(r 107),(i 33),(i 0),(r 114)]
noncomputable def xh:OF:=λp P=>⟨(.type "type"),none,(.cls {name:="WardenError",bases:=[(.type "ValueError")],mro:=[(r 24),(.type "ValueError"),(.type "Exception"),(.type "BaseException"),(.type "object")],ns:=23,qualname:="WardenError",subclasses:=[(r 37),(r 56),(r 68),(r 87)]}),#[(some (r 15)),none,(some (s "WardenError" 189)),(some (s "WardenError" 197)),(some (.builtin "ValueError.__new__")),(some (.bool true))]⟩
noncomputable def y1:OF:=λp P=>di [de P "__module__" 273 (s "stackwarden.errors" 187),de P "__qualname__" 275 (s "NoTree" 274),de P "__firstlineno__" 277 (.int 13 276),de P "__init__" 285 (r 84),de P "__static_attributes__" 287 (r 85)] 5
def y2:OF:=λp P=>nf [(i 15),(i 4),(r 83)]
noncomputable def y3:OF:=λp P=>co [(s "NoTree" 268),(s "NoTree" 269),(s cF 270),(i 13),(i 0),(i 0),(i 0),(i 0),(r 74),(.bool false),(i 181),(r 75),.none,.none,.none,.none,(i 271),(i 13),(s cF 272)]
def y4:OF:=λp P=>fm [(some (r 76)),(some (r 3)),(some (r 73)),none,(some (s "stackwarden.errors" 187)),none,(some (r 0))]
def xi:OF:=λp P=>tu [(s "self" 281),(s "part" 282)]
def CF:OF:=λp P=>no (fw 0 0 "__init__" "NoTree.__init__" (inner (tf p 5)))
noncomputable def AX:OF:=λp P=>co [(s "__init__" 278),(s "NoTree.__init__" 279),(s cF 280),(i 15),(i 2),(i 0),(i 0),(i 3),(r 78),(.bool true),(i 181),(r 79),.none,(r 80),(r 81),(r 82),(i 283),(i 15),(s cF 284)]
def AY:OF:=λp P=>fo (fn "__init__" "NoTree.__init__" (inner (tf p 5)) .none .none .none (s "stackwarden.errors" 187) none (r 83) .none)
def AZ:OF:=λp P=>tu [(s "part" 286)]
noncomputable def A1:OF:=λp P=>di [de P "__module__" 273 (s "stackwarden.errors" 187),de P "__firstlineno__" 277 (.int 13 276),de P "__init__" 285 (r 84),de P "__static_attributes__" 287 (r 85),de P "__doc__" 288 .none] 2
noncomputable def y6:OF:=λp P=>⟨(.type "type"),none,(.cls {name:="NoTree",bases:=[(r 24)],mro:=[(r 87),(r 24),(.type "ValueError"),(.type "Exception"),(.type "BaseException"),(.type "object")],ns:=86,qualname:="NoTree"}),#[(some (r 71)),none,(some (s "NoTree" 266)),(some (s "NoTree" 274)),(some (.builtin "ValueError.__new__")),(some (.bool true))]⟩
def A2:OF:=λp P=>⟨(.type "super"),none,(.fields #[(r 87),(r 87),(r 87)]),#[]⟩
def A4:OF:=λp P=>⟨(.type "builtin_function_or_method"),none,(.fields #[(.builtin "object.__init_subclass__"),(r 87)]),#[]⟩
def y8:OF:=λp P=>no (fw 0 0 "is_door" "is_door" (tf p 7))
noncomputable def xj:OF:=λp P=>co [(s "is_door" 293),(s "is_door" 294),(s cF 295),(i 18),(i 2),(i 0),(i 0),(i 3),(r 90),(.bool true),(i 181),(r 91),.none,.none,.none,(r 92),(i 296),(i 18),(s cF 297)]
def xk:OF:=λp P=>fo (fn "is_door" "is_door" (tf p 7) .none .none .none (s "stackwarden.doors" 291) none (r 93) .none)
def y9:OF:=λp P=>tu [(s "parts" 302),(s "part" 303),(s "inputs" 304),(s "takes" 305)]
def A5:OF:=λp P=>no (fw 0 0 "check_door" "check_door" (tf p 8))
noncomputable def za:OF:=λp P=>co [(s "check_door" 299),(s "check_door" 300),(s cF 301),(i 20),(i 3),(i 0),(i 0),(i 3),(r 95),(.bool true),(i 181),(r 96),.none,(r 97),(r 98),(r 99),(i 306),(i 20),(s cF 307)]
def zb:OF:=λp P=>fo (fn "check_door" "check_door" (tf p 8) .none .none .none (s "stackwarden.doors" 291) none (r 100) .none)
def xl:OF:=λp P=>tu [(s "makes" 314),(s "c" 315),(s "elders" 316)]
def zc:OF:=λp P=>no (fw 0 0 "elders_of" "elders_of" (tf p 10))
noncomputable def xm:OF:=λp P=>co [(s "elders_of" 311),(s "elders_of" 312),(s cF 313),(i 27),(i 2),(i 0),(i 0),(i 3),(r 102),(.bool true),(i 181),(r 103),.none,(r 104),(r 105),(r 106),(i 317),(i 27),(s cF 318)]
def xn:OF:=λp P=>fo (fn "elders_of" "elders_of" (tf p 10) .none .none .none (s "stackwarden.kinds" 309) none (r 107) .none)
def xo:OF:=λp P=>tu [(s "makes" 323),(s "c" 324),(s "other" 325)]
def zd:OF:=λp P=>no (fw 0 0 "is_under" "is_under" (tf p 11))
noncomputable def ze:OF:=λp P=>co [(s "is_under" 320),(s "is_under" 321),(s cF 322),(i 33),(i 3),(i 0),(i 0),(i 3),(r 109),(.bool true),(i 181),(r 110),.none,(r 111),(r 112),(r 113),(i 326),(i 33),(s cF 327)]
def zf:OF:=λp P=>fo (fn "is_under" "is_under" (tf p 11) .none .none .none (s "stackwarden.kinds" 309) none (r 114) .none)
def Mt:OF:=λp P=>di (de P "__name__" 165 (s "stackwarden.reading" 380)::dq5_ P) 28
noncomputable def Mu:OF:=λp P=>nf [(i 2),(i 0),(r 20),(i 4),(i 0),(r 33),(i 6),(i 0),(r 45),(i 11),(i 0),(r 64),(i 13),(i 0),(r 76),(i 18),(i 0),(r 93),(i 20),(i 0),(r 100),(i 27),(i 0),(r 107),(i 33),(i 0),(r 114),(i 39),(i 0),(r 121),(i 41),(i 0),(r 128),(i 53),(i 0),(r 135),(i 62),(i 0),(r 140),(i 64),(i 0),(r 145)]
def A6:OF:=λp P=>tu [(s "number" 340)]
def CG:OF:=λp P=>no (fw 0 0 "wrapped" "wrapped" (tf p 16))
noncomputable def A7:OF:=λp P=>co [(s "wrapped" 337),(s "wrapped" 338),(s cF 339),(i 39),(i 1),(i 0),(i 0),(i 3),(r 116),(.bool true),(i 181),(r 117),.none,(r 118),(r 119),(r 120),(i 341),(i 39),(s cF 342)]
def A8:OF:=λp P=>fo (fn "wrapped" "wrapped" (tf p 16) .none .none .none (s "stackwarden.words" 331) none (r 121) .none)
def zg:OF:=λp P=>tu [(s "sign" 347),(s "one" 348),(s "other" 349)]
def CH:OF:=λp P=>no (fw 0 0 "reckoned" "reckoned" (tf p 17))
noncomputable def A9:OF:=λp P=>co [(s "reckoned" 344),(s "reckoned" 345),(s cF 346),(i 41),(i 3),(i 0),(i 0),(i 3),(r 123),(.bool true),(i 181),(r 124),.none,(r 125),(r 126),(r 127),(i 350),(i 41),(s cF 351)]
def Ba:OF:=λp P=>fo (fn "reckoned" "reckoned" (tf p 17) .none .none .none (s "stackwarden.words" 331) none (r 128) .none)
def Bb:OF:=λp P=>tu [(s "sign" 356),(s "one" 357),(s "other" 358)]
def CI:OF:=λp P=>no (fw 0 0 "divided" "divided" (tf p 18))
noncomputable def zh:OF:=λp P=>co [(s "divided" 353),(s "divided" 354),(s cF 355),(i 53),(i 3),(i 0),(i 0),(i 3),(r 130),(.bool true),(i 181),(r 131),.none,(r 132),(r 133),(r 134),(i 359),(i 53),(s cF 360)]
def zi:OF:=λp P=>fo (fn "divided" "divided" (tf p 18) .none .none .none (s "stackwarden.words" 331) none (r 135) .none)
def Bd:OF:=λp P=>no (fw 0 0 "kinds_taken" "kinds_taken" (tf p 22))
noncomputable def zj:OF:=λp P=>co [(s "kinds_taken" 368),(s "kinds_taken" 369),(s cF 370),(i 62),(i 1),(i 0),(i 0),(i 3),(r 137),(.bool true),(i 181),(r 138),.none,.none,.none,(r 139),(i 371),(i 62),(s cF 372)]
def nq:OF:=λp P=>fo (fn "kinds_taken" "kinds_taken" (tf p 22) .none .none .none (s "stackwarden.trees" 366) none (r 140) .none)
def oP:OF:=λp P=>no (fw 0 0 "heads_of" "heads_of" (tf p 23))
noncomputable def nr:OF:=λp P=>co [(s "heads_of" 374),(s "heads_of" 375),(s cF 376),(i 64),(i 1),(i 0),(i 0),(i 3),(r 142),(.bool true),(i 181),(r 143),.none,.none,.none,(r 144),(i 377),(i 64),(s cF 378)]
def qe:OF:=λp P=>fo (fn "heads_of" "heads_of" (tf p 23) .none .none .none (s "stackwarden.trees" 366) none (r 145) .none)
def Ik:OF:=λp P=>⟨.none,none,(.dict #[de P "type.__subclasses__.Exception.0" 407 (i 163),de P "type.__subclasses__.Exception.n" 408 (i 1)] 2),#[]⟩
def Il:OF:=λp P=>di (de P "__name__" 165 (s "stackwarden.reading" 380)::dq6_ P) 29
noncomputable def Im:OF:=λp P=>nf [(i 2),(i 0),(r 20),(i 4),(i 0),(r 33),(i 6),(i 0),(r 45),(i 11),(i 0),(r 64),(i 13),(i 0),(r 76),(i 18),(i 0),(r 93),(i 20),(i 0),(r 100),(i 27),(i 0),(r 107),(i 33),(i 0),(r 114),(i 39),(i 0),(r 121),(i 41),(i 0),(r 128),(i 53),(i 0),(r 135),(i 62),(i 0),(r 140),(i 64),(i 0),(r 145),(i 67),(i 0),(r 152)]
def fi:OF:=λp P=>tu [(.type "Exception")]
noncomputable def wo:OF:=λp P=>di [de P "__module__" 389 (s "stackwarden.reading" 380),de P "__qualname__" 391 (s "Fault" 390),de P "__firstlineno__" 393 (.int 67 392),de P "__init__" 401 (r 160),de P "__static_attributes__" 403 (r 161)] 5
def sV:OF:=λp P=>nf [(i 69),(i 4),(r 159)]
noncomputable def sW:OF:=λp P=>co [(s "Fault" 384),(s "Fault" 385),(s cF 386),(i 67),(i 0),(i 0),(i 0),(i 0),(r 150),(.bool false),(i 181),(r 151),.none,.none,.none,.none,(i 387),(i 67),(s cF 388)]
def sX:OF:=λp P=>fm [(some (r 152)),(some (r 3)),(some (r 149)),none,(some (s "stackwarden.reading" 380)),none,(some (r 0))]
def oQ:OF:=λp P=>tu [(s "self" 397),(s "number" 398)]
def qf:OF:=λp P=>no (fw 0 0 "__init__" "Fault.__init__" (inner (tf p 25)))
noncomputable def qg:OF:=λp P=>co [(s "__init__" 394),(s "Fault.__init__" 395),(s cF 396),(i 69),(i 2),(i 0),(i 0),(i 3),(r 154),(.bool true),(i 181),(r 155),.none,(r 156),(r 157),(r 158),(i 399),(i 69),(s cF 400)]
def qh:OF:=λp P=>fo (fn "__init__" "Fault.__init__" (inner (tf p 25)) .none .none .none (s "stackwarden.reading" 380) none (r 159) .none)
def qi:OF:=λp P=>tu [(s "number" 402)]
noncomputable def qj:OF:=λp P=>di [de P "__module__" 389 (s "stackwarden.reading" 380),de P "__firstlineno__" 393 (.int 67 392),de P "__init__" 401 (r 160),de P "__static_attributes__" 403 (r 161),de P "__weakref__" 405 (r 164),de P "__doc__" 406 .none] 3
noncomputable def qk:OF:=λp P=>⟨(.type "type"),none,(.cls {name:="Fault",bases:=[(.type "Exception")],mro:=[(r 163),(.type "Exception"),(.type "BaseException"),(.type "object")],ns:=162,qualname:="Fault"}),#[(some (r 147)),none,(some (s "Fault" 382)),(some (s "Fault" 390)),(some (.builtin "Exception.__new__")),(some (.bool true))]⟩
def ql:OF:=λp P=>⟨(.type "getset_descriptor"),none,(.fields #[(s "__weakref__" 404),(r 163),(.builtin "ExceptionGroup.__weakref__"),.none]),#[]⟩
def sY:OF:=λp P=>⟨(.type "super"),none,(.fields #[(r 163),(r 163),(r 163)]),#[]⟩
def sZ:OF:=λp P=>⟨(.type "builtin_function_or_method"),none,(.fields #[(.builtin "object.__init_subclass__"),(r 163)]),#[]⟩
noncomputable def Io:OF:=λp P=>⟨.none,none,(.dict #[de P "type.__subclasses__.Exception.0" 407 (i 163),de P "type.__subclasses__.Exception.n" 408 (i 2),de P "type.__subclasses__.Exception.1" 436 (i 183)] 3),#[]⟩
def Ip:OF:=λp P=>di (de P "__name__" 165 (s "stackwarden.reading" 380)::dq7_ P) 30
noncomputable def Iq:OF:=λp P=>nf [(i 2),(i 0),(r 20),(i 4),(i 0),(r 33),(i 6),(i 0),(r 45),(i 11),(i 0),(r 64),(i 13),(i 0),(r 76),(i 18),(i 0),(r 93),(i 20),(i 0),(r 100),(i 27),(i 0),(r 107),(i 33),(i 0),(r 114),(i 39),(i 0),(r 121),(i 41),(i 0),(r 128),(i 53),(i 0),(r 135),(i 62),(i 0),(r 140),(i 64),(i 0),(r 145),(i 67),(i 0),(r 152),(i 71),(i 0),(r 172)]
noncomputable def tm:OF:=λp P=>di [de P "__module__" 418 (s "stackwarden.reading" 380),de P "__qualname__" 420 (s "Gave" 419),de P "__firstlineno__" 422 (.int 71 421),de P "__init__" 430 (r 180),de P "__static_attributes__" 432 (r 181)] 5
def tq:OF:=λp P=>nf [(i 73),(i 4),(r 179)]
noncomputable def tw:OF:=λp P=>co [(s "Gave" 413),(s "Gave" 414),(s cF 415),(i 71),(i 0),(i 0),(i 0),(i 0),(r 170),(.bool false),(i 181),(r 171),.none,.none,.none,.none,(i 416),(i 71),(s cF 417)]
def tD:OF:=λp P=>fm [(some (r 172)),(some (r 3)),(some (r 169)),none,(some (s "stackwarden.reading" 380)),none,(some (r 0))]
def qm:OF:=λp P=>tu [(s "self" 426),(s "value" 427)]
def wq:OF:=λp P=>no (fw 0 0 "__init__" "Gave.__init__" (inner (tf p 26)))
noncomputable def tE:OF:=λp P=>co [(s "__init__" 423),(s "Gave.__init__" 424),(s cF 425),(i 73),(i 2),(i 0),(i 0),(i 3),(r 174),(.bool true),(i 181),(r 175),.none,(r 176),(r 177),(r 178),(i 428),(i 73),(s cF 429)]
def tF:OF:=λp P=>fo (fn "__init__" "Gave.__init__" (inner (tf p 26)) .none .none .none (s "stackwarden.reading" 380) none (r 179) .none)
def tG:OF:=λp P=>tu [(s "value" 431)]
noncomputable def tH:OF:=λp P=>di [de P "__module__" 418 (s "stackwarden.reading" 380),de P "__firstlineno__" 422 (.int 71 421),de P "__init__" 430 (r 180),de P "__static_attributes__" 432 (r 181),de P "__weakref__" 434 (r 184),de P "__doc__" 435 .none] 3
noncomputable def tI:OF:=λp P=>⟨(.type "type"),none,(.cls {name:="Gave",bases:=[(.type "Exception")],mro:=[(r 183),(.type "Exception"),(.type "BaseException"),(.type "object")],ns:=182,qualname:="Gave"}),#[(some (r 167)),none,(some (s "Gave" 411)),(some (s "Gave" 419)),(some (.builtin "Exception.__new__")),(some (.bool true))]⟩
def tJ:OF:=λp P=>⟨(.type "getset_descriptor"),none,(.fields #[(s "__weakref__" 433),(r 183),(.builtin "ExceptionGroup.__weakref__"),.none]),#[]⟩
def wu:OF:=λp P=>⟨(.type "super"),none,(.fields #[(r 183),(r 183),(r 183)]),#[]⟩
def wx:OF:=λp P=>⟨(.type "builtin_function_or_method"),none,(.fields #[(.builtin "object.__init_subclass__"),(r 183)]),#[]⟩
noncomputable def qo:OF:=λp P=>⟨.none,none,(.dict #[de P "type.__subclasses__.Exception.0" 407 (i 163),de P "type.__subclasses__.Exception.n" 408 (i 3),de P "type.__subclasses__.Exception.1" 436 (i 183),de P "type.__subclasses__.Exception.2" 456 (i 196)] 4),#[]⟩
def Ir:OF:=λp P=>di (de P "__name__" 165 (s "stackwarden.reading" 380)::dq8_ P) 31
noncomputable def Iu:OF:=λp P=>nf [(i 2),(i 0),(r 20),(i 4),(i 0),(r 33),(i 6),(i 0),(r 45),(i 11),(i 0),(r 64),(i 13),(i 0),(r 76),(i 18),(i 0),(r 93),(i 20),(i 0),(r 100),(i 27),(i 0),(r 107),(i 33),(i 0),(r 114),(i 39),(i 0),(r 121),(i 41),(i 0),(r 128),(i 53),(i 0),(r 135),(i 62),(i 0),(r 140),(i 64),(i 0),(r 145),(i 67),(i 0),(r 152),(i 71),(i 0),(r 172),(i 75),(i 0),(r 192)]
noncomputable def wz:OF:=λp P=>di [de P "__module__" 447 (s "stackwarden.reading" 380),de P "__qualname__" 449 (s "Weary" 448),de P "__firstlineno__" 451 (.int 75 450),de P "__static_attributes__" 452 (r 194)] 4
noncomputable def wA:OF:=λp P=>co [(s "Weary" 442),(s "Weary" 443),(s cF 444),(i 75),(i 0),(i 0),(i 0),(i 0),(r 190),(.bool false),(i 181),(r 191),.none,.none,.none,.none,(i 445),(i 75),(s cF 446)]
def wB:OF:=λp P=>fm [(some (r 192)),(some (r 3)),(some (r 189)),none,(some (s "stackwarden.reading" 380)),none,(some (r 0))]
noncomputable def tK:OF:=λp P=>di [de P "__module__" 447 (s "stackwarden.reading" 380),de P "__firstlineno__" 451 (.int 75 450),de P "__static_attributes__" 452 (r 194),de P "__weakref__" 454 (r 197),de P "__doc__" 455 .none] 3
noncomputable def tL:OF:=λp P=>⟨(.type "type"),none,(.cls {name:="Weary",bases:=[(.type "Exception")],mro:=[(r 196),(.type "Exception"),(.type "BaseException"),(.type "object")],ns:=195,qualname:="Weary"}),#[(some (r 187)),none,(some (s "Weary" 440)),(some (s "Weary" 448)),(some (.builtin "Exception.__new__")),(some (.bool true))]⟩
def tM:OF:=λp P=>⟨(.type "getset_descriptor"),none,(.fields #[(s "__weakref__" 453),(r 196),(.builtin "ExceptionGroup.__weakref__"),.none]),#[]⟩
def wC:OF:=λp P=>⟨(.type "super"),none,(.fields #[(r 196),(r 196),(r 196)]),#[]⟩
def wD:OF:=λp P=>⟨(.type "builtin_function_or_method"),none,(.fields #[(.builtin "object.__init_subclass__"),(r 196)]),#[]⟩
def Iw:OF:=λp P=>di (de P "__name__" 165 (s "stackwarden.reading" 380)::dq9_ P) 32
noncomputable def Iy:OF:=λp P=>nf [(i 2),(i 0),(r 20),(i 4),(i 0),(r 33),(i 6),(i 0),(r 45),(i 11),(i 0),(r 64),(i 13),(i 0),(r 76),(i 18),(i 0),(r 93),(i 20),(i 0),(r 100),(i 27),(i 0),(r 107),(i 33),(i 0),(r 114),(i 39),(i 0),(r 121),(i 41),(i 0),(r 128),(i 53),(i 0),(r 135),(i 62),(i 0),(r 140),(i 64),(i 0),(r 145),(i 67),(i 0),(r 152),(i 71),(i 0),(r 172),(i 75),(i 0),(r 192),(i 77),(i 0),(r 205)]
noncomputable def wF:OF:=λp P=>di [de P "__module__" 467 (s "stackwarden.reading" 380),de P "__qualname__" 469 (s "Record" 468),de P "__firstlineno__" 471 (.int 77 470),de P "__init__" 480 (r 213),de P "__static_attributes__" 483 (r 214)] 5
def wG:OF:=λp P=>nf [(i 79),(i 4),(r 212)]
noncomputable def wH:OF:=λp P=>co [(s "Record" 462),(s "Record" 463),(s cF 464),(i 77),(i 0),(i 0),(i 0),(i 0),(r 203),(.bool false),(i 181),(r 204),.none,.none,.none,.none,(i 465),(i 77),(s cF 466)]
def wI:OF:=λp P=>fm [(some (r 205)),(some (r 3)),(some (r 202)),none,(some (s "stackwarden.reading" 380)),none,(some (r 0))]
def tN:OF:=λp P=>tu [(s "self" 475),(s "make" 476),(s "fields" 477)]
def CJ:OF:=λp P=>no (fw 0 0 "__init__" "Record.__init__" (iC (tf p 28) 0))
noncomputable def zk:OF:=λp P=>co [(s "__init__" 472),(s "Record.__init__" 473),(s cF 474),(i 79),(i 3),(i 0),(i 0),(i 3),(r 207),(.bool true),(i 181),(r 208),.none,(r 209),(r 210),(r 211),(i 478),(i 79),(s cF 479)]
def zm:OF:=λp P=>fo (fn "__init__" "Record.__init__" (iC (tf p 28) 0) .none .none .none (s "stackwarden.reading" 380) none (r 212) .none)
def zo:OF:=λp P=>tu [(s "fields" 481),(s "make" 482)]
noncomputable def wJ:OF:=λp P=>di [de P "__module__" 467 (s "stackwarden.reading" 380),de P "__firstlineno__" 471 (.int 77 470),de P "__init__" 480 (r 213),de P "__static_attributes__" 483 (r 214),de P "__dict__" 485 (r 217),de P "__weakref__" 487 (r 218),de P "__doc__" 488 .none] 4
noncomputable def wK:OF:=λp P=>⟨(.type "type"),none,(.cls {name:="Record",bases:=[(.type "object")],mro:=[(r 216),(.type "object")],ns:=215,qualname:="Record"}),#[none,none,(some (s "Record" 460)),(some (s "Record" 468)),(some (.builtin "object.__new__")),(some (.bool true))]⟩
noncomputable def wL:OF:=λp P=>⟨(.type "getset_descriptor"),none,(.fields #[(s "__dict__" 484),(r 216),(.builtin "function.__dict__"),(.builtin "function.__dict__#set")]),#[]⟩
def wM:OF:=λp P=>⟨(.type "getset_descriptor"),none,(.fields #[(s "__weakref__" 486),(r 216),(.builtin "ExceptionGroup.__weakref__"),.none]),#[]⟩
def zp:OF:=λp P=>⟨(.type "super"),none,(.fields #[(r 216),(r 216),(r 216)]),#[]⟩
def zq:OF:=λp P=>⟨(.type "builtin_function_or_method"),none,(.fields #[(.builtin "object.__init_subclass__"),(r 216)]),#[]⟩
def Iz:OF:=λp P=>di (de P "__name__" 165 (s "stackwarden.reading" 380)::dq10_ P) 33
noncomputable def IA:OF:=λp P=>nf [(i 2),(i 0),(r 20),(i 4),(i 0),(r 33),(i 6),(i 0),(r 45),(i 11),(i 0),(r 64),(i 13),(i 0),(r 76),(i 18),(i 0),(r 93),(i 20),(i 0),(r 100),(i 27),(i 0),(r 107),(i 33),(i 0),(r 114),(i 39),(i 0),(r 121),(i 41),(i 0),(r 128),(i 53),(i 0),(r 135),(i 62),(i 0),(r 140),(i 64),(i 0),(r 145),(i 67),(i 0),(r 152),(i 71),(i 0),(r 172),(i 75),(i 0),(r 192),(i 77),(i 0),(r 205),(i 82),(i 0),(r 226)]
noncomputable def zr:OF:=λp P=>di [de P "__module__" 498 (s "stackwarden.reading" 380),de P "__qualname__" 500 (s "Call" 499),de P "__firstlineno__" 502 (.int 82 501),de P "__init__" 511 (r 234),de P "__static_attributes__" 514 (r 235)] 5
def zt:OF:=λp P=>nf [(i 84),(i 4),(r 233)]
noncomputable def zu:OF:=λp P=>co [(s "Call" 493),(s "Call" 494),(s cF 495),(i 82),(i 0),(i 0),(i 0),(i 0),(r 224),(.bool false),(i 181),(r 225),.none,.none,.none,.none,(i 496),(i 82),(s cF 497)]
def zv:OF:=λp P=>fm [(some (r 226)),(some (r 3)),(some (r 223)),none,(some (s "stackwarden.reading" 380)),none,(some (r 0))]
def wN:OF:=λp P=>tu [(s "self" 506),(s "depth" 507),(s "known" 508)]
def zw:OF:=λp P=>no (fw 0 0 "__init__" "Call.__init__" (iC (tf p 29) 0))
noncomputable def wO:OF:=λp P=>co [(s "__init__" 503),(s "Call.__init__" 504),(s cF 505),(i 84),(i 3),(i 0),(i 0),(i 3),(r 228),(.bool true),(i 181),(r 229),.none,(r 230),(r 231),(r 232),(i 509),(i 84),(s cF 510)]
def wQ:OF:=λp P=>fo (fn "__init__" "Call.__init__" (iC (tf p 29) 0) .none .none .none (s "stackwarden.reading" 380) none (r 233) .none)
def wR:OF:=λp P=>tu [(s "depth" 512),(s "known" 513)]
noncomputable def wU:OF:=λp P=>di [de P "__module__" 498 (s "stackwarden.reading" 380),de P "__firstlineno__" 502 (.int 82 501),de P "__init__" 511 (r 234),de P "__static_attributes__" 514 (r 235),de P "__dict__" 516 (r 238),de P "__weakref__" 518 (r 239),de P "__doc__" 519 .none] 4
noncomputable def wV:OF:=λp P=>⟨(.type "type"),none,(.cls {name:="Call",bases:=[(.type "object")],mro:=[(r 237),(.type "object")],ns:=236,qualname:="Call"}),#[none,none,(some (s "Call" 491)),(some (s "Call" 499)),(some (.builtin "object.__new__")),(some (.bool true))]⟩
def wW:OF:=λp P=>⟨(.type "getset_descriptor"),none,(.fields #[(s "__dict__" 515),(r 237),(.builtin "function.__dict__"),(.builtin "function.__dict__#set")]),#[]⟩
def wX:OF:=λp P=>⟨(.type "getset_descriptor"),none,(.fields #[(s "__weakref__" 517),(r 237),(.builtin "ExceptionGroup.__weakref__"),.none]),#[]⟩
def zx:OF:=λp P=>⟨(.type "super"),none,(.fields #[(r 237),(r 237),(r 237)]),#[]⟩
def zy:OF:=λp P=>⟨(.type "builtin_function_or_method"),none,(.fields #[(.builtin "object.__init_subclass__"),(r 237)]),#[]⟩
def IC:OF:=λp P=>di (de P "__name__" 165 (s "stackwarden.reading" 380)::dq11_ P) 34
noncomputable def ID:OF:=λp P=>nf [(i 2),(i 0),(r 20),(i 4),(i 0),(r 33),(i 6),(i 0),(r 45),(i 11),(i 0),(r 64),(i 13),(i 0),(r 76),(i 18),(i 0),(r 93),(i 20),(i 0),(r 100),(i 27),(i 0),(r 107),(i 33),(i 0),(r 114),(i 39),(i 0),(r 121),(i 41),(i 0),(r 128),(i 53),(i 0),(r 135),(i 62),(i 0),(r 140),(i 64),(i 0),(r 145),(i 67),(i 0),(r 152),(i 71),(i 0),(r 172),(i 75),(i 0),(r 192),(i 77),(i 0),(r 205),(i 82),(i 0),(r 226),(i 87),(i 0),(r 247)]
noncomputable def CK:OF:=λp P=>di [de P "__module__" 529 (s "stackwarden.reading" 380),de P "__qualname__" 531 (s "Reading" 530),de P "__firstlineno__" 533 (.int 87 532),de P "__init__" 542 (r 255),de P "end_at" 552 (r 262),de P "given" 558 (r 267),de P "spend" 565 (r 274),de P "value_of" 576 (r 281),de P "values_of" 582 (r 286),de P "value_of_call" 592 (r 293),de P "value_of_two" 602 (r 300),de P "do_all" 612 (r 307),de P "do_statement" 624 (r 314),de P "do_nesting" 634 (r 321),de P "do_kin" 644 (r 328),de P "do_try" 654 (r 335),de P "__static_attributes__" 658 (r 336)] 17
noncomputable def CL:OF:=λp P=>nf [(i 89),(i 4),(r 254),(i 94),(i 4),(r 261),(i 102),(i 4),(r 266),(i 112),(i 4),(r 273),(i 117),(i 4),(r 280),(i 134),(i 4),(r 285),(i 137),(i 4),(r 292),(i 144),(i 4),(r 299),(i 151),(i 4),(r 306),(i 155),(i 4),(r 313),(i 176),(i 4),(r 320),(i 189),(i 4),(r 327),(i 197),(i 4),(r 334)]
noncomputable def CM:OF:=λp P=>co [(s "Reading" 524),(s "Reading" 525),(s cF 526),(i 87),(i 0),(i 0),(i 0),(i 0),(r 245),(.bool false),(i 181),(r 246),.none,.none,.none,.none,(i 527),(i 87),(s cF 528)]
def CN:OF:=λp P=>fm [(some (r 247)),(some (r 3)),(some (r 244)),none,(some (s "stackwarden.reading" 380)),none,(some (r 0))]
def zz:OF:=λp P=>tu [(s "self" 537),(s "program" 538),(s "budget" 539)]
def CO:OF:=λp P=>no (fw 0 0 "__init__" "Reading.__init__" (iC (tf p 30) 0))
noncomputable def zA:OF:=λp P=>co [(s "__init__" 534),(s "Reading.__init__" 535),(s cF 536),(i 89),(i 3),(i 0),(i 0),(i 3),(r 249),(.bool true),(i 181),(r 250),.none,(r 251),(r 252),(r 253),(i 540),(i 89),(s cF 541)]
def zB:OF:=λp P=>fo (fn "__init__" "Reading.__init__" (iC (tf p 30) 0) .none .none .none (s "stackwarden.reading" 380) none (r 254) .none)
def zC:OF:=λp P=>tu [(s "self" 546),(s "part" 547),(s "inputs" 548),(s "fault" 549)]
def CP:OF:=λp P=>no (fw 0 0 "end_at" "Reading.end_at" (iC (tf p 30) 1))
noncomputable def zD:OF:=λp P=>co [(s "end_at" 543),(s "Reading.end_at" 544),(s cF 545),(i 94),(i 3),(i 0),(i 0),(i 3),(r 256),(.bool true),(i 181),(r 257),.none,(r 258),(r 259),(r 260),(i 550),(i 94),(s cF 551)]
def zE:OF:=λp P=>fo (fn "end_at" "Reading.end_at" (iC (tf p 30) 1) .none .none .none (s "stackwarden.reading" 380) none (r 261) .none)
def CQ:OF:=λp P=>no (fw 0 0 "given" "Reading.given" (iC (tf p 30) 2))
noncomputable def zF:OF:=λp P=>co [(s "given" 553),(s "Reading.given" 554),(s cF 555),(i 102),(i 4),(i 0),(i 0),(i 3),(r 263),(.bool true),(i 181),(r 264),.none,.none,.none,(r 265),(i 556),(i 102),(s cF 557)]
def zG:OF:=λp P=>fo (fn "given" "Reading.given" (iC (tf p 30) 2) .none .none .none (s "stackwarden.reading" 380) none (r 266) .none)
def zH:OF:=λp P=>tu [(s "self" 562)]
def CS:OF:=λp P=>no (fw 0 0 "spend" "Reading.spend" (iC (tf p 30) 3))
noncomputable def zI:OF:=λp P=>co [(s "spend" 559),(s "Reading.spend" 560),(s cF 561),(i 112),(i 1),(i 0),(i 0),(i 3),(r 268),(.bool true),(i 181),(r 269),.none,(r 270),(r 271),(r 272),(i 563),(i 112),(s cF 564)]
def CT:OF:=λp P=>fo (fn "spend" "Reading.spend" (iC (tf p 30) 3) .none .none .none (s "stackwarden.reading" 380) none (r 273) .none)
def CU:OF:=λp P=>tu [(s "self" 569),(s "call" 570),(s "tree" 571),(s "word" 572),(s "chosen" 573)]
def CV:OF:=λp P=>no (fw 0 0 "value_of" "Reading.value_of" (iC (tf p 30) 4))
noncomputable def zJ:OF:=λp P=>co [(s "value_of" 566),(s "Reading.value_of" 567),(s cF 568),(i 117),(i 3),(i 0),(i 0),(i 3),(r 275),(.bool true),(i 181),(r 276),.none,(r 277),(r 278),(r 279),(i 574),(i 117),(s cF 575)]
def zK:OF:=λp P=>fo (fn "value_of" "Reading.value_of" (iC (tf p 30) 4) .none .none .none (s "stackwarden.reading" 380) none (r 280) .none)
def CY:OF:=λp P=>no (fw 0 0 "values_of" "Reading.values_of" (iC (tf p 30) 5))
noncomputable def zL:OF:=λp P=>co [(s "values_of" 577),(s "Reading.values_of" 578),(s cF 579),(i 134),(i 3),(i 0),(i 0),(i 3),(r 282),(.bool true),(i 181),(r 283),.none,.none,.none,(r 284),(i 580),(i 134),(s cF 581)]
def zM:OF:=λp P=>fo (fn "values_of" "Reading.values_of" (iC (tf p 30) 5) .none .none .none (s "stackwarden.reading" 380) none (r 285) .none)
def zN:OF:=λp P=>tu [(s "self" 586),(s "call" 587),(s "tree" 588),(s "values" 589)]
def CZ:OF:=λp P=>no (fw 0 0 "value_of_call" "Reading.value_of_call" (iC (tf p 30) 6))
noncomputable def zO:OF:=λp P=>co [(s "value_of_call" 583),(s "Reading.value_of_call" 584),(s cF 585),(i 137),(i 3),(i 0),(i 0),(i 3),(r 287),(.bool true),(i 181),(r 288),.none,(r 289),(r 290),(r 291),(i 590),(i 137),(s cF 591)]
def zP:OF:=λp P=>fo (fn "value_of_call" "Reading.value_of_call" (iC (tf p 30) 6) .none .none .none (s "stackwarden.reading" 380) none (r 292) .none)
def zQ:OF:=λp P=>tu [(s "self" 596),(s "call" 597),(s "tree" 598),(s "pair" 599)]
def C0:OF:=λp P=>no (fw 0 0 "value_of_two" "Reading.value_of_two" (iC (tf p 30) 7))
noncomputable def zR:OF:=λp P=>co [(s "value_of_two" 593),(s "Reading.value_of_two" 594),(s cF 595),(i 144),(i 3),(i 0),(i 0),(i 3),(r 294),(.bool true),(i 181),(r 295),.none,(r 296),(r 297),(r 298),(i 600),(i 144),(s cF 601)]
def zS:OF:=λp P=>fo (fn "value_of_two" "Reading.value_of_two" (iC (tf p 30) 7) .none .none .none (s "stackwarden.reading" 380) none (r 299) .none)
def zT:OF:=λp P=>tu [(s "self" 606),(s "call" 607),(s "trees" 608),(s "tree" 609)]
def C1:OF:=λp P=>no (fw 0 0 "do_all" "Reading.do_all" (iC (tf p 30) 8))
noncomputable def zU:OF:=λp P=>co [(s "do_all" 603),(s "Reading.do_all" 604),(s cF 605),(i 151),(i 3),(i 0),(i 0),(i 3),(r 301),(.bool true),(i 181),(r 302),.none,(r 303),(r 304),(r 305),(i 610),(i 151),(s cF 611)]
def zV:OF:=λp P=>fo (fn "do_all" "Reading.do_all" (iC (tf p 30) 8) .none .none .none (s "stackwarden.reading" 380) none (r 306) .none)
def zW:OF:=λp P=>tu [(s "self" 616),(s "call" 617),(s "tree" 618),(s "word" 619),(s "record" 620),(s "value" 621)]
def C2:OF:=λp P=>no (fw 0 0 "do_statement" "Reading.do_statement" (iC (tf p 30) 9))
noncomputable def zX:OF:=λp P=>co [(s "do_statement" 613),(s "Reading.do_statement" 614),(s cF 615),(i 155),(i 3),(i 0),(i 0),(i 3),(r 308),(.bool true),(i 181),(r 309),.none,(r 310),(r 311),(r 312),(i 622),(i 155),(s cF 623)]
def zY:OF:=λp P=>fo (fn "do_statement" "Reading.do_statement" (iC (tf p 30) 9) .none .none .none (s "stackwarden.reading" 380) none (r 313) .none)
def zZ:OF:=λp P=>tu [(s "self" 628),(s "call" 629),(s "tree" 630),(s "word" 631)]
def C3:OF:=λp P=>no (fw 0 0 "do_nesting" "Reading.do_nesting" (iC (tf p 30) 10))
noncomputable def z7:OF:=λp P=>co [(s "do_nesting" 625),(s "Reading.do_nesting" 626),(s cF 627),(i 176),(i 3),(i 0),(i 0),(i 3),(r 315),(.bool true),(i 181),(r 316),.none,(r 317),(r 318),(r 319),(i 632),(i 176),(s cF 633)]
def z8:OF:=λp P=>fo (fn "do_nesting" "Reading.do_nesting" (iC (tf p 30) 10) .none .none .none (s "stackwarden.reading" 380) none (r 320) .none)
def z9:OF:=λp P=>tu [(s "self" 638),(s "call" 639),(s "tree" 640),(s "record" 641)]
def C4:OF:=λp P=>no (fw 0 0 "do_kin" "Reading.do_kin" (iC (tf p 30) 11))
noncomputable def Aa:OF:=λp P=>co [(s "do_kin" 635),(s "Reading.do_kin" 636),(s cF 637),(i 189),(i 3),(i 0),(i 0),(i 3),(r 322),(.bool true),(i 181),(r 323),.none,(r 324),(r 325),(r 326),(i 642),(i 189),(s cF 643)]
def Ab:OF:=λp P=>fo (fn "do_kin" "Reading.do_kin" (iC (tf p 30) 11) .none .none .none (s "stackwarden.reading" 380) none (r 327) .none)
def Ac:OF:=λp P=>tu [(s "self" 648),(s "call" 649),(s "tree" 650),(s "fault" 651)]
def C5:OF:=λp P=>no (fw 0 0 "do_try" "Reading.do_try" (iC (tf p 30) 12))
noncomputable def Ad:OF:=λp P=>co [(s "do_try" 645),(s "Reading.do_try" 646),(s cF 647),(i 197),(i 3),(i 0),(i 0),(i 3),(r 329),(.bool true),(i 181),(r 330),.none,(r 331),(r 332),(r 333),(i 652),(i 197),(s cF 653)]
def Ae:OF:=λp P=>fo (fn "do_try" "Reading.do_try" (iC (tf p 30) 12) .none .none .none (s "stackwarden.reading" 380) none (r 334) .none)
def Af:OF:=λp P=>tu [(s "left" 655),(s "program" 656),(s "said" 657)]
noncomputable def Ag:OF:=λp P=>di [de P "__module__" 529 (s "stackwarden.reading" 380),de P "__firstlineno__" 533 (.int 87 532),de P "__init__" 542 (r 255),de P "end_at" 552 (r 262),de P "given" 558 (r 267),de P "spend" 565 (r 274),de P "value_of" 576 (r 281),de P "values_of" 582 (r 286),de P "value_of_call" 592 (r 293),de P "value_of_two" 602 (r 300),de P "do_all" 612 (r 307),de P "do_statement" 624 (r 314),de P "do_nesting" 634 (r 321),de P "do_kin" 644 (r 328),de P "do_try" 654 (r 335),de P "__static_attributes__" 658 (r 336),de P "__dict__" 660 (r 339),de P "__weakref__" 662 (r 340),de P "__doc__" 663 .none] 4
noncomputable def C6:OF:=λp P=>⟨(.type "type"),none,(.cls {name:="Reading",bases:=[(.type "object")],mro:=[(r 338),(.type "object")],ns:=337,qualname:="Reading"}),#[none,none,(some (s "Reading" 522)),(some (s "Reading" 530)),(some (.builtin "object.__new__")),(some (.bool true))]⟩
def C7:OF:=λp P=>⟨(.type "getset_descriptor"),none,(.fields #[(s "__dict__" 659),(r 338),(.builtin "function.__dict__"),(.builtin "function.__dict__#set")]),#[]⟩
def C8:OF:=λp P=>⟨(.type "getset_descriptor"),none,(.fields #[(s "__weakref__" 661),(r 338),(.builtin "ExceptionGroup.__weakref__"),.none]),#[]⟩
def FH:OF:=λp P=>⟨(.type "super"),none,(.fields #[(r 338),(r 338),(r 338)]),#[]⟩
def FI:OF:=λp P=>⟨(.type "builtin_function_or_method"),none,(.fields #[(.builtin "object.__init_subclass__"),(r 338)]),#[]⟩
def C9:OF:=λp P=>di (de P "__name__" 165 (s "law_stackwarden_k60_doors" 678)::dq12_ P) 43
noncomputable def FJ:OF:=λp P=>nf [(i 2),(i 0),(r 20),(i 4),(i 0),(r 33),(i 6),(i 0),(r 45),(i 11),(i 0),(r 64),(i 13),(i 0),(r 76),(i 18),(i 0),(r 93),(i 20),(i 0),(r 100),(i 27),(i 0),(r 107),(i 33),(i 0),(r 114),(i 39),(i 0),(r 121),(i 41),(i 0),(r 128),(i 53),(i 0),(r 135),(i 62),(i 0),(r 140),(i 64),(i 0),(r 145),(i 67),(i 0),(r 152),(i 71),(i 0),(r 172),(i 75),(i 0),(r 192),(i 77),(i 0),(r 205),(i 82),(i 0),(r 226),(i 87),(i 0),(r 247),(i 204),(i 0),(r 348),(i 210),(i 0),(r 355),(i 217),(i 0),(r 362),(i 219),(i 0),(r 369),(i 223),(i 0),(r 374),(i 242),(i 0),(r 381),(i 254),(i 0),(r 388),(i 264),(i 0),(r 395),(i 273),(i 0),(r 400)]
def Dc:OF:=λp P=>tu [(s "program" 669),(s "part" 670),(s "inputs" 671),(s "budget" 672),(s "reading" 673),(s "end" 674)]
def FK:OF:=λp P=>no (fw 0 0 "plain_run" "plain_run" (tf p 31))
noncomputable def Dd:OF:=λp P=>co [(s "plain_run" 666),(s "plain_run" 667),(s cF 668),(i 204),(i 4),(i 0),(i 0),(i 3),(r 343),(.bool true),(i 181),(r 344),.none,(r 345),(r 346),(r 347),(i 675),(i 204),(s cF 676)]
def De:OF:=λp P=>fo (fn "plain_run" "plain_run" (tf p 31) .none .none .none (s "stackwarden.reading" 380) none (r 348) .none)
def Df:OF:=λp P=>tu [(s "_law_script" 683),(s "_law_k" 684),(s "_law_far" 685),(s "_law_cell_here" 686)]
def FL:OF:=λp P=>no (fw 0 0 "_law_cell" "_law_cell" (tf p 33))
noncomputable def Dg:OF:=λp P=>co [(s "_law_cell" 680),(s "_law_cell" 681),(s cF 682),(i 210),(i 2),(i 0),(i 0),(i 3),(r 350),(.bool true),(i 181),(r 351),.none,(r 352),(r 353),(r 354),(i 687),(i 210),(s cF 688)]
def Dh:OF:=λp P=>fo (fn "_law_cell" "_law_cell" (tf p 33) .none .none .none (s "law_stackwarden_k60_doors" 678) none (r 355) .none)
def Di:OF:=λp P=>tu [(s "_law_found" 693)]
def FN:OF:=λp P=>no (fw 0 0 "_law_whole" "_law_whole" (tf p 34))
noncomputable def Dj:OF:=λp P=>co [(s "_law_whole" 690),(s "_law_whole" 691),(s cF 692),(i 217),(i 1),(i 0),(i 0),(i 3),(r 357),(.bool true),(i 181),(r 358),.none,(r 359),(r 360),(r 361),(i 694),(i 217),(s cF 695)]
def Dl:OF:=λp P=>fo (fn "_law_whole" "_law_whole" (tf p 34) .none .none .none (s "law_stackwarden_k60_doors" 678) none (r 362) .none)
def Dm:OF:=λp P=>tu [(s "_law_cell_here" 700)]
def FO:OF:=λp P=>no (fw 0 0 "_law_word" "_law_word" (tf p 35))
noncomputable def Dn:OF:=λp P=>co [(s "_law_word" 697),(s "_law_word" 698),(s cF 699),(i 219),(i 1),(i 0),(i 0),(i 3),(r 364),(.bool true),(i 181),(r 365),.none,(r 366),(r 367),(r 368),(i 701),(i 219),(s cF 702)]
def Dp:OF:=λp P=>fo (fn "_law_word" "_law_word" (tf p 35) .none .none .none (s "law_stackwarden_k60_doors" 678) none (r 369) .none)
def FP:OF:=λp P=>no (fw 0 0 "_law_part" "_law_part" (tf p 36))
noncomputable def Dq:OF:=λp P=>co [(s "_law_part" 704),(s "_law_part" 705),(s cF 706),(i 223),(i 2),(i 0),(i 0),(i 3),(r 371),(.bool true),(i 181),(r 372),.none,.none,.none,(r 373),(i 707),(i 223),(s cF 708)]
def Dr:OF:=λp P=>fo (fn "_law_part" "_law_part" (tf p 36) .none .none .none (s "law_stackwarden_k60_doors" 678) none (r 374) .none)
def Ds:OF:=λp P=>tu [(s "_law_part_here" 713),(s "_law_inputs" 714),(s "_law_name" 715),(s "_law_kind" 716),(s "_law_pair" 717),(s "_law_word_here" 718)]
def FQ:OF:=λp P=>no (fw 0 0 "_law_due" "_law_due" (tf p 37))
noncomputable def Dt:OF:=λp P=>co [(s "_law_due" 710),(s "_law_due" 711),(s cF 712),(i 242),(i 2),(i 0),(i 0),(i 3),(r 376),(.bool true),(i 181),(r 377),.none,(r 378),(r 379),(r 380),(i 719),(i 242),(s cF 720)]
def Du:OF:=λp P=>fo (fn "_law_due" "_law_due" (tf p 37) .none .none .none (s "law_stackwarden_k60_doors" 678) none (r 381) .none)
noncomputable def Dv:OF:=λp P=>tu [(s "_law_program" 725),(s "_law_p" 726),(s "_law_inputs" 727),(s "_law_budget" 728),(s "_law_told_here" 729),(s "_law_found" 730),(s "e" 731),(s "_law_above" 732)]
def FR:OF:=λp P=>no (fw 0 0 "_law_told" "_law_told" (tf p 38))
noncomputable def Dw:OF:=λp P=>co [(s "_law_told" 722),(s "_law_told" 723),(s cF 724),(i 254),(i 4),(i 0),(i 0),(i 3),(r 383),(.bool true),(i 181),(r 384),.none,(r 385),(r 386),(r 387),(i 733),(i 254),(s cF 734)]
def Dx:OF:=λp P=>fo (fn "_law_told" "_law_told" (tf p 38) .none .none .none (s "law_stackwarden_k60_doors" 678) none (r 388) .none)
def Dy:OF:=λp P=>tu [(s "_law_told_here" 739),(s "_law_due_here" 740),(s "_law_budget" 741),(s "_law_end" 742),(s "_law_said" 743),(s "_law_left" 744)]
def FT:OF:=λp P=>no (fw 0 0 "_law_right" "_law_right" (tf p 39))
noncomputable def Dz:OF:=λp P=>co [(s "_law_right" 736),(s "_law_right" 737),(s cF 738),(i 264),(i 3),(i 0),(i 0),(i 3),(r 390),(.bool true),(i 181),(r 391),.none,(r 392),(r 393),(r 394),(i 745),(i 264),(s cF 746)]
def DA:OF:=λp P=>fo (fn "_law_right" "_law_right" (tf p 39) .none .none .none (s "law_stackwarden_k60_doors" 678) none (r 395) .none)
def FU:OF:=λp P=>no (fw 0 0 "law" "law" (tf p 40))
noncomputable def DB:OF:=λp P=>co [(s "law" 748),(s "law" 749),(s cF 750),(i 273),(i 1),(i 0),(i 0),(i 3),(r 397),(.bool true),(i 181),(r 398),.none,.none,.none,(r 399),(i 751),(i 273),(s cF 752)]
def DE:OF:=λp P=>fo (fn "law" "law" (tf p 40) .none .none .none (s "law_stackwarden_k60_doors" 678) none (r 400) .none)
noncomputable def T0:TF:=(aa rz (aa rA (aa Mf (ae rE) (ae o0)) (aa rC (ae rG) (ae o2))) (aa CD (aa rB (ae rF) (ae o1)) (aa rD (ae iG) (ae o3))))
noncomputable def T1:TF:=(aa rz (aa rA (aa o4 (aa rE (ae o6) (ae qc)) (aa o0 (ae o1) (ae rK))) (aa rC (aa rG (ae o8) (ae rJ)) (aa o2 (ae rH) aj))) (aa CD (aa rB (aa rF (ae o7) (ae Mg)) (aa o5 (ae o9) aj)) (aa rD (aa iG (ae o0) (ae sT)) (aa o3 (ae o0) aj))))
noncomputable def T2:TF:=(aa rz (aa rA (aa Mh (aa rE (aa o6 (ae o0) aj) (aa qc (ae tV) aj)) (aa o0 (aa o1 (ae o0) aj) (ae rK))) (aa rC (aa rG (aa o8 (ae v7) aj) (ae rJ)) (aa o2 (aa rH (ae tU) aj) (ae o7)))) (aa CD (aa rB (aa rF (aa o7 (ae o1) aj) (ae Mj)) (aa Mi (aa o9 (ae tT) aj) (ae dX))) (aa rD (aa iG (aa o0 (ae v8) aj) (ae sT)) (aa o3 (aa o0 (ae v9) aj) (ae sU)))))
noncomputable def T3:TF:=(aa rz (aa rA (aa Ml (aa rE (aa o6 (ae o0) (ae o0)) (aa qc (ae tV) (ae wk))) (aa o0 (aa o1 (ae o0) (ae w9)) (aa rK (ae o0) aj))) (aa rC (aa rG (aa o8 (ae v7) (ae tW)) (aa rJ (ae o7) (ae xa))) (aa o2 (aa rH (ae tU) (ae wg)) (aa o7 (ae wc) aj)))) (aa CD (aa rB (aa rF (aa o7 (ae o1) (ae o1)) (aa Mn (ae dX) (ae wm))) (aa Mm (aa o9 (ae tT) (ae we)) (aa dX (ae wb) aj))) (aa rD (aa iG (aa o0 (ae v8) (ae o0)) (aa sT (ae wa) (ae xb))) (aa o3 (aa o0 (ae v9) (ae wj)) (aa sU (ae wd) aj)))))
noncomputable def T4:TF:=(aa rz (aa rA (aa Mo (aa rE (aa o6 (aa o0 (ae o1) aj) (ae o0)) (aa qc (ae tV) (ae wk))) (aa o0 (aa o1 (aa o0 (ae xf) aj) (ae w9)) (aa rK (ae o0) (ae dX)))) (aa rC (aa rG (aa o8 (aa v7 (ae yX) aj) (ae tW)) (aa rJ (ae o7) (ae xa))) (aa o2 (aa rH (aa tU (ae yY) aj) (ae wg)) (aa o7 (ae wc) (ae xc))))) (aa CD (aa rB (aa rF (aa o7 (aa o1 (ae yW) aj) (ae o1)) (aa Mq (ae dX) (ae wm))) (aa Mp (aa o9 (aa tT (ae xg) aj) (ae we)) (aa dX (ae wb) (ae o7)))) (aa rD (aa iG (aa o0 (aa v8 (ae o0) aj) (ae o0)) (aa sT (ae wa) (ae xb))) (aa o3 (aa o0 (aa v9 (ae yZ) aj) (ae wj)) (aa sU (ae wd) (ae o0))))))
noncomputable def T5:TF:=(aa rz (aa rA (aa Mr (aa rE (aa o6 (aa o0 (ae o1) (ae o0)) (aa o0 (ae o1) (ae xo))) (aa qc (aa tV (ae dX) (ae o1)) (aa wk (ae y6) aj))) (aa o0 (aa o1 (aa o0 (ae xf) (ae A5)) (aa w9 (ae AX) (ae zf))) (aa rK (aa o0 (ae y2) (ae xm)) (aa dX (ae o1) aj)))) (aa rC (aa rG (aa o8 (aa v7 (ae yX) (ae y9)) (aa tW (ae o0) (ae zd))) (aa rJ (aa o7 (ae y1) (ae o0)) (aa xa (ae A4) aj))) (aa o2 (aa rH (aa tU (ae yY) (ae zb)) (aa wg (ae AZ) aj)) (aa o7 (aa wc (ae y4) (ae o0)) (aa xc (ae xj) aj))))) (aa CD (aa rB (aa rF (aa o7 (aa o1 (ae yW) (ae o1)) (aa o1 (ae xi) (ae o0))) (aa xh (aa dX (ae o7) (ae xl)) (aa wm (ae A2) aj))) (aa Ms (aa o9 (aa tT (ae xg) (ae za)) (aa we (ae AY) aj)) (aa dX (aa wb (ae y3) (ae xn)) (aa o7 (ae y8) aj)))) (aa rD (aa iG (aa o0 (aa v8 (ae o0) (ae o0)) (aa o0 (ae CF) (ae ze))) (aa sT (aa wa (ae o0) (ae zc)) (aa xb (ae o0) aj))) (aa o3 (aa o0 (aa v9 (ae yZ) (ae o0)) (aa wj (ae A1) aj)) (aa sU (aa wd (ae o0) (ae o1)) (aa o0 (ae xk) aj))))))
noncomputable def T6:TF:=(aa rz (aa rA (aa Mt (aa rE (aa o6 (aa o0 (aa o1 (ae CH) aj) (ae o0)) (aa o0 (aa o1 (ae o1) aj) (ae xo))) (aa qc (aa tV (aa dX (ae zh) aj) (ae o1)) (aa wk (ae y6) (ae o0)))) (aa o0 (aa o1 (aa o0 (aa xf (ae o1) aj) (ae A5)) (aa w9 (ae AX) (ae zf))) (aa rK (aa o0 (aa y2 (ae Bd) aj) (ae xm)) (aa dX (ae o1) (ae o0))))) (aa rC (aa rG (aa o8 (aa v7 (aa yX (ae Ba) aj) (ae y9)) (aa tW (aa o0 (ae nr) aj) (ae zd))) (aa rJ (aa o7 (aa y1 (ae o0) aj) (ae o0)) (aa xa (ae A4) (ae A7)))) (aa o2 (aa rH (aa tU (aa yY (ae o0) aj) (ae zb)) (aa wg (ae AZ) (ae o1))) (aa o7 (aa wc (aa y4 (ae nq) aj) (ae o0)) (aa xc (ae xj) (ae zg)))))) (aa CD (aa rB (aa rF (aa o7 (aa o1 (aa yW (ae A9) aj) (ae o1)) (aa o1 (aa xi (ae oP) aj) (ae o0))) (aa xh (aa dX (aa o7 (ae zi) aj) (ae xl)) (aa wm (ae A2) (ae CG)))) (aa Mu (aa o9 (aa tT (aa xg (ae Bb) aj) (ae za)) (aa we (ae AY) (ae o0))) (aa dX (aa wb (aa y3 (ae zj) aj) (ae xn)) (aa o7 (ae y8) (ae o1))))) (aa rD (aa iG (aa o0 (aa v8 (aa o0 (ae o0) aj) (ae o0)) (aa o0 (aa CF (ae qe) aj) (ae ze))) (aa sT (aa wa (aa o0 (ae o1) aj) (ae zc)) (aa xb (ae o0) (ae A8)))) (aa o3 (aa o0 (aa v9 (aa yZ (ae CI) aj) (ae o0)) (aa wj (ae A1) (ae A6))) (aa sU (aa wd (aa o0 (ae o0) aj) (ae o1)) (aa o0 (ae xk) (ae o0)))))))
noncomputable def u0:TF:=(aa o0 (aa o1 (ae CH) aj) (aa o0 (ae qg) aj))
noncomputable def u1:TF:=(aa o0 (aa xf (ae o1) aj) (aa A5 (ae qk) aj))
noncomputable def u2:TF:=(aa v7 (aa yX (ae Ba) aj) (aa y9 (ae qi) aj))
noncomputable def u3:TF:=(aa tU (aa yY (ae o0) aj) (aa zb (ae sY) aj))
noncomputable def u4:TF:=(aa o1 (aa yW (ae A9) aj) (aa o1 (ae qh) aj))
noncomputable def u5:TF:=(aa tT (aa xg (ae Bb) aj) (aa za (ae ql) aj))
noncomputable def u6:TF:=(aa v8 (aa o0 (ae o0) aj) (aa o0 (ae qj) aj))
noncomputable def u7:TF:=(aa v9 (aa yZ (ae CI) aj) (aa o0 (ae sZ) aj))
noncomputable def T7:TF:=(aa rz (aa rA (aa Il (aa rE (aa o6 u0 (aa o0 (aa o1 (ae o1) aj) (ae xo))) (aa qc (aa tV (aa dX (ae zh) aj) (ae o1)) (aa wk (aa y6 (ae sV) aj) (ae o0)))) (aa o0 (aa o1 u1 (aa w9 (aa AX (ae fi) aj) (ae zf))) (aa rK (aa o0 (aa y2 (ae Bd) aj) (ae xm)) (aa dX (aa o1 (ae o1) aj) (ae o0))))) (aa rC (aa rG (aa o8 u2 (aa tW (aa o0 (ae nr) aj) (ae zd))) (aa rJ (aa o7 (aa y1 (ae o0) aj) (ae o0)) (aa xa (aa A4 (ae sX) aj) (ae A7)))) (aa o2 (aa rH u3 (aa wg (aa AZ (ae wo) aj) (ae o1))) (aa o7 (aa wc (aa y4 (ae nq) aj) (ae o0)) (aa xc (aa xj (ae o0) aj) (ae zg)))))) (aa Ik (aa rB (aa rF (aa o7 u4 (aa o1 (aa xi (ae oP) aj) (ae o0))) (aa xh (aa dX (aa o7 (ae zi) aj) (ae xl)) (aa wm (aa A2 (ae sW) aj) (ae CG)))) (aa Im (aa o9 u5 (aa we (aa AY (ae o7) aj) (ae o0))) (aa dX (aa wb (aa y3 (ae zj) aj) (ae xn)) (aa o7 (aa y8 (ae oQ) aj) (ae o1))))) (aa rD (aa iG (aa o0 u6 (aa o0 (aa CF (ae qe) aj) (ae ze))) (aa sT (aa wa (aa o0 (ae o1) aj) (ae zc)) (aa xb (aa o0 (ae o0) aj) (ae A8)))) (aa o3 (aa o0 u7 (aa wj (aa A1 (ae o0) aj) (ae A6))) (aa sU (aa wd (aa o0 (ae o0) aj) (ae o1)) (aa o0 (aa xk (ae qf) aj) (ae o0)))))))
noncomputable def u8:TF:=(aa o0 (aa o1 (ae o1) aj) (aa xo (ae o1) aj))
noncomputable def u9:TF:=(aa wk (aa y6 (ae sV) aj) (aa o0 (ae tI) aj))
noncomputable def JH:TF:=(aa w9 (aa AX (ae fi) aj) (aa zf (ae tE) aj))
noncomputable def JI:TF:=(aa o0 (aa y2 (ae Bd) aj) (aa xm (ae tq) aj))
noncomputable def JJ:TF:=(aa tW (aa o0 (ae nr) aj) (aa zd (ae o0) aj))
noncomputable def Mv:TF:=(aa o7 (aa y1 (ae o0) aj) (aa o0 (ae tm) aj))
noncomputable def Mw:TF:=(aa xa (aa A4 (ae sX) aj) (aa A7 (ae wu) aj))
noncomputable def JK:TF:=(aa rJ Mv Mw)
noncomputable def JL:TF:=(aa wg (aa AZ (ae wo) aj) (aa o1 (ae tG) aj))
noncomputable def JM:TF:=(aa wc (aa y4 (ae nq) aj) (aa o0 (ae tD) aj))
noncomputable def JN:TF:=(aa o1 (aa xi (ae oP) aj) (aa o0 (ae qm) aj))
noncomputable def Mx:TF:=(aa dX (aa o7 (ae zi) aj) (aa xl (ae o7) aj))
noncomputable def My:TF:=(aa wm (aa A2 (ae sW) aj) (aa CG (ae tJ) aj))
noncomputable def JO:TF:=(aa xh Mx My)
noncomputable def JP:TF:=(aa we (aa AY (ae o7) aj) (aa o0 (ae tF) aj))
noncomputable def JQ:TF:=(aa wb (aa y3 (ae zj) aj) (aa xn (ae tw) aj))
noncomputable def JR:TF:=(aa o0 (aa CF (ae qe) aj) (aa ze (ae wq) aj))
noncomputable def Mz:TF:=(aa wa (aa o0 (ae o1) aj) (aa zc (ae o0) aj))
noncomputable def MA:TF:=(aa xb (aa o0 (ae o0) aj) (aa A8 (ae wx) aj))
noncomputable def JS:TF:=(aa sT Mz MA)
noncomputable def JT:TF:=(aa wj (aa A1 (ae o0) aj) (aa A6 (ae tH) aj))
noncomputable def JU:TF:=(aa wd (aa o0 (ae o0) aj) (aa o1 (ae o0) aj))
noncomputable def T8:TF:=(aa rz (aa rA (aa Ip (aa rE (aa o6 u0 u8) (aa qc (aa tV (aa dX (ae zh) aj) (aa o1 (ae fi) aj)) u9)) (aa o0 (aa o1 u1 JH) (aa rK JI (aa dX (aa o1 (ae o1) aj) (ae o0))))) (aa rC (aa rG (aa o8 u2 JJ) JK) (aa o2 (aa rH u3 JL) (aa o7 JM (aa xc (aa xj (ae o0) aj) (ae zg)))))) (aa Io (aa rB (aa rF (aa o7 u4 JN) JO) (aa Iq (aa o9 u5 JP) (aa dX JQ (aa o7 (aa y8 (ae oQ) aj) (ae o1))))) (aa rD (aa iG (aa o0 u6 JR) JS) (aa o3 (aa o0 u7 JT) (aa sU JU (aa o0 (aa xk (ae qf) aj) (ae o0)))))))
noncomputable def JV:TF:=(aa o0 (aa o1 (ae CH) (ae o1)) (aa o0 (ae qg) aj))
noncomputable def JW:TF:=(aa tV (aa dX (ae zh) (ae wD)) (aa o1 (ae fi) aj))
noncomputable def JX:TF:=(aa o0 (aa xf (ae o1) (ae tK)) (aa A5 (ae qk) aj))
noncomputable def JY:TF:=(aa v7 (aa yX (ae Ba) (ae wB)) (aa y9 (ae qi) aj))
noncomputable def JZ:TF:=(aa tU (aa yY (ae o0) (ae tM)) (aa zb (ae sY) aj))
noncomputable def J0:TF:=(aa xc (aa xj (ae o0) aj) (aa zg (ae wz) aj))
noncomputable def J1:TF:=(aa o1 (aa yW (ae A9) (ae wA)) (aa o1 (ae qh) aj))
noncomputable def J2:TF:=(aa tT (aa xg (ae Bb) (ae tL)) (aa za (ae ql) aj))
noncomputable def J3:TF:=(aa v8 (aa o0 (ae o0) (ae o0)) (aa o0 (ae qj) aj))
noncomputable def J4:TF:=(aa v9 (aa yZ (ae CI) (ae wC)) (aa o0 (ae sZ) aj))
noncomputable def J5:TF:=(aa o0 (aa xk (ae qf) aj) (aa o0 (ae o0) aj))
noncomputable def T9:TF:=(aa rz (aa rA (aa Ir (aa rE (aa o6 JV u8) (aa qc JW u9)) (aa o0 (aa o1 JX JH) (aa rK JI (aa dX (aa o1 (ae o1) aj) (aa o0 (ae fi) aj))))) (aa rC (aa rG (aa o8 JY JJ) JK) (aa o2 (aa rH JZ JL) (aa o7 JM J0)))) (aa qo (aa rB (aa rF (aa o7 J1 JN) JO) (aa Iu (aa o9 J2 JP) (aa dX JQ (aa o7 (aa y8 (ae oQ) aj) (aa o1 (ae o7) aj))))) (aa rD (aa iG (aa o0 J3 JR) JS) (aa o3 (aa o0 J4 JT) (aa sU JU J5)))))
noncomputable def J6:TF:=(aa wk (aa y6 (ae sV) (ae wJ)) (aa o0 (ae tI) aj))
noncomputable def J7:TF:=(aa w9 (aa AX (ae fi) (ae CJ)) (aa zf (ae tE) aj))
noncomputable def J8:TF:=(aa dX (aa o1 (ae o1) (ae zp)) (aa o0 (ae fi) aj))
noncomputable def J9:TF:=(aa xa (aa A4 (ae sX) (ae wL)) (aa A7 (ae wu) aj))
noncomputable def Ka:TF:=(aa wg (aa AZ (ae wo) (ae zm)) (aa o1 (ae tG) aj))
noncomputable def Kb:TF:=(aa wm (aa A2 (ae sW) (ae wK)) (aa CG (ae tJ) aj))
noncomputable def Kc:TF:=(aa we (aa AY (ae o7) (ae zk)) (aa o0 (ae tF) aj))
noncomputable def Ke:TF:=(aa o7 (aa y8 (ae oQ) (ae zq)) (aa o1 (ae o7) aj))
noncomputable def Kf:TF:=(aa o0 (aa CF (ae qe) (ae o0)) (aa ze (ae wq) aj))
noncomputable def Kg:TF:=(aa xb (aa o0 (ae o0) (ae wM)) (aa A8 (ae wx) aj))
noncomputable def Kh:TF:=(aa wj (aa A1 (ae o0) (ae zo)) (aa A6 (ae tH) aj))
noncomputable def Ki:TF:=(aa rz (aa rA (aa Iw (aa rE (aa o6 JV (aa o0 (aa o1 (ae o1) (ae o0)) (aa xo (ae o1) aj))) (aa qc JW J6)) (aa o0 (aa o1 JX J7) (aa rK (aa o0 (aa y2 (ae Bd) (ae o0)) (aa xm (ae tq) aj)) J8))) (aa rC (aa rG (aa o8 JY (aa tW (aa o0 (ae nr) (ae tN)) (aa zd (ae o0) aj))) (aa rJ (aa o7 (aa y1 (ae o0) (ae o7)) (aa o0 (ae tm) aj)) J9)) (aa o2 (aa rH JZ Ka) (aa o7 (aa wc (aa y4 (ae nq) (ae wH)) (aa o0 (ae tD) aj)) J0)))) (aa qo (aa rB (aa rF (aa o7 J1 (aa o1 (aa xi (ae oP) (ae o1)) (aa o0 (ae qm) aj))) (aa xh (aa dX (aa o7 (ae zi) (ae o0)) (aa xl (ae o7) aj)) Kb)) (aa Iy (aa o9 J2 Kc) (aa dX (aa wb (aa y3 (ae zj) (ae wG)) (aa xn (ae tw) aj)) Ke))) (aa rD (aa iG (aa o0 J3 Kf) (aa sT (aa wa (aa o0 (ae o1) (ae wF)) (aa zc (ae o0) aj)) Kg)) (aa o3 (aa o0 J4 Kh) (aa sU (aa wd (aa o0 (ae o0) (ae wI)) (aa o1 (ae o0) aj)) J5)))))
noncomputable def Kj:TF:=(aa rz (aa rA (aa Iz (aa rE (aa o6 (aa o0 (aa o1 (ae CH) (ae o1)) (aa o0 (ae qg) (ae zr))) (aa o0 (aa o1 (ae o1) (ae o0)) (aa xo (ae o1) (ae wX)))) (aa qc (aa tV (aa dX (ae zh) (ae wD)) (aa o1 (ae fi) (ae o0))) J6)) (aa o0 (aa o1 (aa o0 (aa xf (ae o1) (ae tK)) (aa A5 (ae qk) (ae zv))) J7) (aa rK (aa o0 (aa y2 (ae Bd) (ae o0)) (aa xm (ae tq) (ae wR))) J8))) (aa rC (aa rG (aa o8 (aa v7 (aa yX (ae Ba) (ae wB)) (aa y9 (ae qi) (ae zt))) (aa tW (aa o0 (ae nr) (ae tN)) (aa zd (ae o0) (ae zy)))) (aa rJ (aa o7 (aa y1 (ae o0) (ae o7)) (aa o0 (ae tm) (ae wO))) J9)) (aa o2 (aa rH (aa tU (aa yY (ae o0) (ae tM)) (aa zb (ae sY) (ae o1))) Ka) (aa o7 (aa wc (aa y4 (ae nq) (ae wH)) (aa o0 (ae tD) (ae wV))) (aa xc (aa xj (ae o0) (ae o0)) (aa zg (ae wz) aj)))))) (aa qo (aa rB (aa rF (aa o7 (aa o1 (aa yW (ae A9) (ae wA)) (aa o1 (ae qh) (ae o0))) (aa o1 (aa xi (ae oP) (ae o1)) (aa o0 (ae qm) (ae zx)))) (aa xh (aa dX (aa o7 (ae zi) (ae o0)) (aa xl (ae o7) (ae zw))) Kb)) (aa IA (aa o9 (aa tT (aa xg (ae Bb) (ae tL)) (aa za (ae ql) (ae o0))) Kc) (aa dX (aa wb (aa y3 (ae zj) (ae wG)) (aa xn (ae tw) (ae wU))) Ke))) (aa rD (aa iG (aa o0 (aa v8 (aa o0 (ae o0) (ae o0)) (aa o0 (ae qj) (ae zu))) Kf) (aa sT (aa wa (aa o0 (ae o1) (ae wF)) (aa zc (ae o0) (ae wQ))) Kg)) (aa o3 (aa o0 (aa v9 (aa yZ (ae CI) (ae wC)) (aa o0 (ae sZ) (ae wN))) Kh) (aa sU (aa wd (aa o0 (ae o0) (ae wI)) (aa o1 (ae o0) (ae wW))) (aa o0 (aa xk (ae qf) (ae o7)) (aa o0 (ae o0) aj)))))))
noncomputable def Kk:TF:=(aa AX (aa fi (ae o0) aj) (aa CJ (ae C7) aj))
noncomputable def Kl:TF:=(aa AZ (aa wo (ae CU) aj) (aa zm (ae FH) aj))
noncomputable def Km:TF:=(aa AY (aa o7 (ae o1) aj) (aa zk (ae C8) aj))
noncomputable def Ko:TF:=(aa CF (aa qe (ae CT) aj) (aa o0 (ae C6) aj))
noncomputable def Kp:TF:=(aa A1 (aa o0 (ae o0) aj) (aa zo (ae FI) aj))
noncomputable def Kq:TF:=(aa rz (aa rA (aa IC (aa rE (aa o6 (aa o0 (aa o1 (aa CH (ae zB) aj) (aa o1 (ae C3) aj)) (aa o0 (aa qg (ae o0) aj) (ae zr))) (aa o0 (aa o1 (aa o1 (ae o0) aj) (aa o0 (ae Ae) aj)) (aa xo (aa o1 (ae zT) aj) (ae wX)))) (aa qc (aa tV (aa dX (aa zh (ae o0) aj) (aa wD (ae Aa) aj)) (aa o1 (aa fi (ae o1) aj) (ae o0))) (aa wk (aa y6 (aa sV (ae CV) aj) (ae wJ)) (aa o0 (aa tI (ae o0) aj) (ae CM))))) (aa o0 (aa o1 (aa o0 (aa xf (aa o1 (ae o0) aj) (aa tK (ae o1) aj)) (aa A5 (aa qk (ae CZ) aj) (ae zv))) (aa w9 Kk (aa zf (aa tE (ae zV) aj) (ae o7)))) (aa rK (aa o0 (aa y2 (aa Bd (ae zG) aj) (aa o0 (ae Ac) aj)) (aa xm (aa tq (ae zR) aj) (ae wR))) (aa dX (aa o1 (aa o1 (ae o1) aj) (ae zp)) (aa o0 (aa fi (ae o0) aj) (ae zz)))))) (aa rC (aa rG (aa o8 (aa v7 (aa yX (aa Ba (ae o1) aj) (aa wB (ae z8) aj)) (aa y9 (aa qi (ae zN) aj) (ae zt))) (aa tW (aa o0 (aa nr (ae zI) aj) (aa tN (ae Ag) aj)) (aa zd (aa o0 (ae C1) aj) (ae zy)))) (aa rJ (aa o7 (aa y1 (aa o0 (ae CQ) aj) (aa o7 (ae o0) aj)) (aa o0 (aa tm (ae o0) aj) (ae wO))) (aa xa (aa A4 (aa sX (ae zK) aj) (ae wL)) (aa A7 (aa wu (ae zX) aj) (ae o0))))) (aa o2 (aa rH (aa tU (aa yY (aa o0 (ae zD) aj) (aa tM (ae o0) aj)) (aa zb (aa sY (ae zP) aj) (ae o1))) (aa wg Kl (aa o1 (aa tG (ae o1) aj) (ae o0)))) (aa o7 (aa wc (aa y4 (aa nq (ae o1) aj) (aa wH (ae C5) aj)) (aa o0 (aa tD (ae o0) aj) (ae wV))) (aa xc (aa xj (aa o0 (ae zL) aj) (ae o0)) (aa zg (aa wz (ae zZ) aj) (ae CO))))))) (aa qo (aa rB (aa rF (aa o7 (aa o1 (aa yW (aa A9 (ae o0) aj) (aa wA (ae z7) aj)) (aa o1 (aa qh (ae o1) aj) (ae o0))) (aa o1 (aa xi (aa oP (ae CS) aj) (aa o1 (ae Af) aj)) (aa o0 (aa qm (ae o0) aj) (ae zx)))) (aa xh (aa dX (aa o7 (aa zi (ae o1) aj) (aa o0 (ae Ab) aj)) (aa xl (aa o7 (ae zQ) aj) (ae zw))) (aa wm (aa A2 (aa sW (ae zJ) aj) (ae wK)) (aa CG (aa tJ (ae C2) aj) (ae CN))))) (aa ID (aa o9 (aa tT (aa xg (aa Bb (ae CP) aj) (aa tL (ae z9) aj)) (aa za (aa ql (ae zO) aj) (ae o0))) (aa we Km (aa o0 (aa tF (ae o0) aj) (ae CK)))) (aa dX (aa wb (aa y3 (aa zj (ae o0) aj) (aa wG (ae o0) aj)) (aa xn (aa tw (ae zS) aj) (ae wU))) (aa o7 (aa y8 (aa oQ (ae CY) aj) (ae zq)) (aa o1 (aa o7 (ae o1) aj) (ae o0)))))) (aa rD (aa iG (aa o0 (aa v8 (aa o0 (aa o0 (ae zC) aj) (aa o0 (ae o0) aj)) (aa o0 (aa qj (ae o0) aj) (ae zu))) (aa o0 Ko (aa ze (aa wq (ae zU) aj) (ae o0)))) (aa sT (aa wa (aa o0 (aa o1 (ae zF) aj) (aa wF (ae o1) aj)) (aa zc (aa o0 (ae C0) aj) (ae wQ))) (aa xb (aa o0 (aa o0 (ae o0) aj) (ae wM)) (aa A8 (aa wx (ae zY) aj) (ae o1))))) (aa o3 (aa o0 (aa v9 (aa yZ (aa CI (ae zE) aj) (aa wC (ae C4) aj)) (aa o0 (aa sZ (ae o0) aj) (ae wN))) (aa wj Kp (aa A6 (aa tH (ae zW) aj) (ae CL)))) (aa sU (aa wd (aa o0 (aa o0 (ae zH) aj) (aa wI (ae Ad) aj)) (aa o1 (aa o0 (ae o1) aj) (ae wW))) (aa o0 (aa xk (aa qf (ae zM) aj) (ae o7)) (aa o0 (aa o0 (ae o0) aj) (ae zA))))))))
noncomputable def Kr:TF:=(aa rz (aa rA (aa C9 (aa rE (aa o6 (aa o0 (aa o1 (aa CH (ae zB) (ae o0)) (aa o1 (ae C3) aj)) (aa o0 (aa qg (ae o0) aj) (aa zr (ae o1) aj))) (aa o0 (aa o1 (aa o1 (ae o0) (ae FU)) (aa o0 (ae Ae) aj)) (aa xo (aa o1 (ae zT) aj) (aa wX (ae o0) aj)))) (aa qc (aa tV (aa dX (aa zh (ae o0) (ae o1)) (aa wD (ae Aa) aj)) (aa o1 (aa fi (ae o1) aj) (aa o0 (ae Di) aj))) (aa wk (aa y6 (aa sV (ae CV) aj) (aa wJ (ae o0) aj)) (aa o0 (aa tI (ae o0) aj) (aa CM (ae Dr) aj))))) (aa o0 (aa o1 (aa o0 (aa xf (aa o1 (ae o0) (ae FR)) (aa tK (ae o1) aj)) (aa A5 (aa qk (ae CZ) aj) (aa zv (ae Dg) aj))) (aa w9 Kk (aa zf (aa tE (ae zV) aj) (aa o7 (ae o0) aj)))) (aa rK (aa o0 (aa y2 (aa Bd (ae zG) (ae Dz)) (aa o0 (ae Ac) aj)) (aa xm (aa tq (ae zR) aj) (aa wR (ae Dl) aj))) (aa dX (aa o1 (aa o1 (ae o1) aj) (aa zp (ae FK) aj)) (aa o0 (aa fi (ae o0) aj) (aa zz (ae o0) aj)))))) (aa rC (aa rG (aa o8 (aa v7 (aa yX (aa Ba (ae o1) (ae Dv)) (aa wB (ae z8) aj)) (aa y9 (aa qi (ae zN) aj) (aa zt (ae o0) aj))) (aa tW (aa o0 (aa nr (ae zI) (ae DE)) (aa tN (ae Ag) aj)) (aa zd (aa o0 (ae C1) aj) (aa zy (ae Dn) aj)))) (aa rJ (aa o7 (aa y1 (aa o0 (ae CQ) (ae o0)) (aa o7 (ae o0) aj)) (aa o0 (aa tm (ae o0) aj) (aa wO (ae FN) aj))) (aa xa (aa A4 (aa sX (ae zK) aj) (aa wL (ae Dc) aj)) (aa A7 (aa wu (ae zX) aj) (aa o0 (ae o1) aj))))) (aa o2 (aa rH (aa tU (aa yY (aa o0 (ae zD) (ae Dx)) (aa tM (ae o0) aj)) (aa zb (aa sY (ae zP) aj) (aa o1 (ae o0) aj))) (aa wg Kl (aa o1 (aa tG (ae o1) aj) (aa o0 (ae FP) aj)))) (aa o7 (aa wc (aa y4 (aa nq (ae o1) (ae o0)) (aa wH (ae C5) aj)) (aa o0 (aa tD (ae o0) aj) (aa wV (ae o1) aj))) (aa xc (aa xj (aa o0 (ae zL) aj) (aa o0 (ae De) aj)) (aa zg (aa wz (ae zZ) aj) (aa CO (ae Dt) aj))))))) (aa qo (aa rB (aa rF (aa o7 (aa o1 (aa yW (aa A9 (ae o0) (ae o1)) (aa wA (ae z7) aj)) (aa o1 (aa qh (ae o1) aj) (aa o0 (ae Df) aj))) (aa o1 (aa xi (aa oP (ae CS) (ae DB)) (aa o1 (ae Af) aj)) (aa o0 (aa qm (ae o0) aj) (aa zx (ae FO) aj)))) (aa xh (aa dX (aa o7 (aa zi (ae o1) (ae Dy)) (aa o0 (ae Ab) aj)) (aa xl (aa o7 (ae zQ) aj) (aa zw (ae o0) aj))) (aa wm (aa A2 (aa sW (ae zJ) aj) (aa wK (ae o1) aj)) (aa CG (aa tJ (ae C2) aj) (aa CN (ae o0) aj))))) (aa FJ (aa o9 (aa tT (aa xg (aa Bb (ae CP) (ae Dw)) (aa tL (ae z9) aj)) (aa za (aa ql (ae zO) aj) (aa o0 (ae Dh) aj))) (aa we Km (aa o0 (aa tF (ae o0) aj) (aa CK (ae o1) aj)))) (aa dX (aa wb (aa y3 (aa zj (ae o0) (ae DA)) (aa wG (ae o0) aj)) (aa xn (aa tw (ae zS) aj) (aa wU (ae o0) aj))) (aa o7 (aa y8 (aa oQ (ae CY) aj) (aa zq (ae Dd) aj)) (aa o1 (aa o7 (ae o1) aj) (aa o0 (ae FQ) aj)))))) (aa rD (aa iG (aa o0 (aa v8 (aa o0 (aa o0 (ae zC) (ae o0)) (aa o0 (ae o0) aj)) (aa o0 (aa qj (ae o0) aj) (aa zu (ae FL) aj))) (aa o0 Ko (aa ze (aa wq (ae zU) aj) (aa o0 (ae Dp) aj)))) (aa sT (aa wa (aa o0 (aa o1 (ae zF) (ae FT)) (aa wF (ae o1) aj)) (aa zc (aa o0 (ae C0) aj) (aa wQ (ae Dj) aj))) (aa xb (aa o0 (aa o0 (ae o0) aj) (aa wM (ae o0) aj)) (aa A8 (aa wx (ae zY) aj) (aa o1 (ae Ds) aj))))) (aa o3 (aa o0 (aa v9 (aa yZ (aa CI (ae zE) (ae o0)) (aa wC (ae C4) aj)) (aa o0 (aa sZ (ae o0) aj) (aa wN (ae o1) aj))) (aa wj Kp (aa A6 (aa tH (ae zW) aj) (aa CL (ae Dq) aj)))) (aa sU (aa wd (aa o0 (aa o0 (ae zH) (ae o1)) (aa wI (ae Ad) aj)) (aa o1 (aa o0 (ae o1) aj) (aa wW (ae Dm) aj))) (aa o0 (aa xk (aa qf (ae zM) aj) (aa o7 (ae o0) aj)) (aa o0 (aa o0 (ae o0) aj) (aa zA (ae Du) aj))))))))
noncomputable def HF(p:Program)(P:Params):Heap:=⟨Array.mk [boot_o_0 P,boot_o_1 P,qo p P,C9 p P,boot_o_4 P,boot_o_5 P,boot_o_6 P,boot_o_7 P,boot_o_8 P,boot_o_9 P,boot_o_10 P,o0 p P,FJ p P,o2 p P,o3 p P,o6 p P,o7 p P,o8 p P,o0 p P,o1 p P,o9 p P,rH p P,o0 p P,qc p P,xh p P,rJ p P,sT p P,rK p P,dX p P,o7 p P,sU p P,o0 p P,o1 p P,v7 p P,v8 p P,o0 p P,tT p P,tU p P,v9 p P,tV p P,dX p P,o7 p P,wa p P,o0 p P,wb p P,wc p P,wd p P,o0 p P,o1 p P,tW p P,o0 p P,w9 p P,we p P,wg p P,wj p P,wk p P,wm p P,xa p P,xb p P,dX p P,o7 p P,xc p P,o0 p P,o1 p P,yW p P,yX p P,o0 p P,xf p P,xg p P,yY p P,yZ p P,dX p P,o7 p P,y1 p P,o0 p P,y2 p P,y3 p P,y4 p P,o0 p P,o1 p P,xi p P,o0 p P,CF p P,AX p P,AY p P,AZ p P,A1 p P,y6 p P,A2 p P,A4 p P,o0 p P,o1 p P,y8 p P,xj p P,xk p P,o0 p P,o1 p P,y9 p P,o0 p P,A5 p P,za p P,zb p P,o0 p P,o1 p P,xl p P,o0 p P,zc p P,xm p P,xn p P,o0 p P,o1 p P,xo p P,o0 p P,zd p P,ze p P,zf p P,o0 p P,o1 p P,A6 p P,o0 p P,CG p P,A7 p P,A8 p P,o0 p P,o1 p P,zg p P,o0 p P,CH p P,A9 p P,Ba p P,o0 p P,o1 p P,Bb p P,o0 p P,CI p P,zh p P,zi p P,o0 p P,o1 p P,Bd p P,zj p P,nq p P,o0 p P,o1 p P,oP p P,nr p P,qe p P,fi p P,o7 p P,wo p P,o0 p P,sV p P,sW p P,sX p P,o0 p P,o1 p P,oQ p P,o0 p P,qf p P,qg p P,qh p P,qi p P,qj p P,qk p P,ql p P,sY p P,sZ p P,fi p P,o7 p P,tm p P,o0 p P,tq p P,tw p P,tD p P,o0 p P,o1 p P,qm p P,o0 p P,wq p P,tE p P,tF p P,tG p P,tH p P,tI p P,tJ p P,wu p P,wx p P,fi p P,o7 p P,wz p P,o0 p P,o1 p P,wA p P,wB p P,o0 p P,tK p P,tL p P,tM p P,wC p P,wD p P,o0 p P,o7 p P,wF p P,o0 p P,wG p P,wH p P,wI p P,o0 p P,o1 p P,tN p P,o0 p P,CJ p P,zk p P,zm p P,zo p P,wJ p P,wK p P,wL p P,wM p P,zp p P,zq p P,o0 p P,o7 p P,zr p P,o0 p P,zt p P,zu p P,zv p P,o0 p P,o1 p P,wN p P,o0 p P,zw p P,wO p P,wQ p P,wR p P,wU p P,wV p P,wW p P,wX p P,zx p P,zy p P,o0 p P,o7 p P,CK p P,o0 p P,CL p P,CM p P,CN p P,o0 p P,o1 p P,zz p P,o0 p P,CO p P,zA p P,zB p P,o0 p P,o1 p P,zC p P,o0 p P,CP p P,zD p P,zE p P,o0 p P,o1 p P,CQ p P,zF p P,zG p P,o0 p P,o1 p P,zH p P,o0 p P,CS p P,zI p P,CT p P,o0 p P,o1 p P,CU p P,o0 p P,CV p P,zJ p P,zK p P,o0 p P,o1 p P,CY p P,zL p P,zM p P,o0 p P,o1 p P,zN p P,o0 p P,CZ p P,zO p P,zP p P,o0 p P,o1 p P,zQ p P,o0 p P,C0 p P,zR p P,zS p P,o0 p P,o1 p P,zT p P,o0 p P,C1 p P,zU p P,zV p P,o0 p P,o1 p P,zW p P,o0 p P,C2 p P,zX p P,zY p P,o0 p P,o1 p P,zZ p P,o0 p P,C3 p P,z7 p P,z8 p P,o0 p P,o1 p P,z9 p P,o0 p P,C4 p P,Aa p P,Ab p P,o0 p P,o1 p P,Ac p P,o0 p P,C5 p P,Ad p P,Ae p P,Af p P,Ag p P,C6 p P,C7 p P,C8 p P,FH p P,FI p P,o0 p P,o1 p P,Dc p P,o0 p P,FK p P,Dd p P,De p P,o0 p P,o1 p P,Df p P,o0 p P,FL p P,Dg p P,Dh p P,o0 p P,o1 p P,Di p P,o0 p P,FN p P,Dj p P,Dl p P,o0 p P,o1 p P,Dm p P,o0 p P,FO p P,Dn p P,Dp p P,o0 p P,o1 p P,FP p P,Dq p P,Dr p P,o0 p P,o1 p P,Ds p P,o0 p P,FQ p P,Dt p P,Du p P,o0 p P,o1 p P,Dv p P,o0 p P,FR p P,Dw p P,Dx p P,o0 p P,o1 p P,Dy p P,o0 p P,FT p P,Dz p P,DA p P,o0 p P,o1 p P,FU p P,DB p P,DE p P],{}⟩
noncomputable def K(P:Params):PySem.W.Frag:=(nat_lit 2,qo pw P)::(nat_lit 3,C9 pw P)::(nat_lit 15,o6 pw P)::(nat_lit 22,o0 pw P)::(nat_lit 23,qc pw P)::(nat_lit 24,xh pw P)::(nat_lit 25,rJ pw P)::(nat_lit 28,dX pw P)::(nat_lit 35,o0 pw P)::(nat_lit 36,tT pw P)::(nat_lit 37,tU pw P)::(nat_lit 40,dX pw P)::(nat_lit 47,o0 pw P)::(nat_lit 49,tW pw P)::(nat_lit 50,o0 pw P)::(nat_lit 52,we pw P)::(nat_lit 53,wg pw P)::(nat_lit 54,wj pw P)::(nat_lit 55,wk pw P)::(nat_lit 56,wm pw P)::(nat_lit 59,dX pw P)::(nat_lit 66,o0 pw P)::(nat_lit 67,xf pw P)::(nat_lit 68,xg pw P)::(nat_lit 71,dX pw P)::(nat_lit 78,o0 pw P)::(nat_lit 80,xi pw P)::(nat_lit 81,o0 pw P)::(nat_lit 83,AX pw P)::(nat_lit 84,AY pw P)::(nat_lit 85,AZ pw P)::(nat_lit 86,A1 pw P)::(nat_lit 87,y6 pw P)::(nat_lit 90,o0 pw P)::(nat_lit 93,xj pw P)::(nat_lit 94,xk pw P)::(nat_lit 95,o0 pw P)::(nat_lit 97,y9 pw P)::(nat_lit 98,o0 pw P)::(nat_lit 100,za pw P)::(nat_lit 101,zb pw P)::(nat_lit 102,o0 pw P)::(nat_lit 104,xl pw P)::(nat_lit 105,o0 pw P)::(nat_lit 107,xm pw P)::(nat_lit 108,xn pw P)::(nat_lit 109,o0 pw P)::(nat_lit 111,xo pw P)::(nat_lit 112,o0 pw P)::(nat_lit 114,ze pw P)::(nat_lit 115,zf pw P)::(nat_lit 116,o0 pw P)::(nat_lit 118,A6 pw P)::(nat_lit 119,o0 pw P)::(nat_lit 121,A7 pw P)::(nat_lit 122,A8 pw P)::(nat_lit 123,o0 pw P)::(nat_lit 125,zg pw P)::(nat_lit 126,o0 pw P)::(nat_lit 128,A9 pw P)::(nat_lit 129,Ba pw P)::(nat_lit 130,o0 pw P)::(nat_lit 132,Bb pw P)::(nat_lit 133,o0 pw P)::(nat_lit 135,zh pw P)::(nat_lit 136,zi pw P)::(nat_lit 137,o0 pw P)::(nat_lit 140,zj pw P)::(nat_lit 141,nq pw P)::(nat_lit 142,o0 pw P)::(nat_lit 145,nr pw P)::(nat_lit 146,qe pw P)::(nat_lit 147,fi pw P)::(nat_lit 154,o0 pw P)::(nat_lit 156,oQ pw P)::(nat_lit 157,o0 pw P)::(nat_lit 159,qg pw P)::(nat_lit 160,qh pw P)::(nat_lit 161,qi pw P)::(nat_lit 162,qj pw P)::(nat_lit 163,qk pw P)::(nat_lit 164,ql pw P)::(nat_lit 167,fi pw P)::(nat_lit 174,o0 pw P)::(nat_lit 176,qm pw P)::(nat_lit 177,o0 pw P)::(nat_lit 179,tE pw P)::(nat_lit 180,tF pw P)::(nat_lit 181,tG pw P)::(nat_lit 182,tH pw P)::(nat_lit 183,tI pw P)::(nat_lit 184,tJ pw P)::(nat_lit 187,fi pw P)::(nat_lit 194,o0 pw P)::(nat_lit 195,tK pw P)::(nat_lit 196,tL pw P)::(nat_lit 197,tM pw P)::(nat_lit 207,o0 pw P)::(nat_lit 209,tN pw P)::(nat_lit 210,o0 pw P)::(nat_lit 212,zk pw P)::(nat_lit 213,zm pw P)::(nat_lit 214,zo pw P)::(nat_lit 215,wJ pw P)::(nat_lit 216,wK pw P)::(nat_lit 217,wL pw P)::(nat_lit 218,wM pw P)::(nat_lit 228,o0 pw P)::(nat_lit 230,wN pw P)::(nat_lit 231,o0 pw P)::(nat_lit 233,wO pw P)::(nat_lit 234,wQ pw P)::(nat_lit 235,wR pw P)::(nat_lit 236,wU pw P)::(nat_lit 237,wV pw P)::(nat_lit 238,wW pw P)::(nat_lit 239,wX pw P)::(nat_lit 249,o0 pw P)::(nat_lit 251,zz pw P)::(nat_lit 252,o0 pw P)::(nat_lit 254,zA pw P)::(nat_lit 255,zB pw P)::(nat_lit 256,o0 pw P)::(nat_lit 258,zC pw P)::(nat_lit 259,o0 pw P)::(nat_lit 261,zD pw P)::(nat_lit 262,zE pw P)::(nat_lit 263,o0 pw P)::(nat_lit 266,zF pw P)::(nat_lit 267,zG pw P)::(nat_lit 268,o0 pw P)::(nat_lit 270,zH pw P)::(nat_lit 271,o0 pw P)::(nat_lit 273,zI pw P)::(nat_lit 274,CT pw P)::(nat_lit 275,o0 pw P)::(nat_lit 277,CU pw P)::(nat_lit 278,o0 pw P)::(nat_lit 280,zJ pw P)::(nat_lit 281,zK pw P)::(nat_lit 282,o0 pw P)::(nat_lit 285,zL pw P)::(nat_lit 286,zM pw P)::(nat_lit 287,o0 pw P)::(nat_lit 289,zN pw P)::(nat_lit 290,o0 pw P)::(nat_lit 292,zO pw P)::(nat_lit 293,zP pw P)::(nat_lit 294,o0 pw P)::(nat_lit 296,zQ pw P)::(nat_lit 297,o0 pw P)::(nat_lit 299,zR pw P)::(nat_lit 300,zS pw P)::(nat_lit 301,o0 pw P)::(nat_lit 303,zT pw P)::(nat_lit 304,o0 pw P)::(nat_lit 306,zU pw P)::(nat_lit 307,zV pw P)::(nat_lit 308,o0 pw P)::(nat_lit 310,zW pw P)::(nat_lit 311,o0 pw P)::(nat_lit 313,zX pw P)::(nat_lit 314,zY pw P)::(nat_lit 315,o0 pw P)::(nat_lit 317,zZ pw P)::(nat_lit 318,o0 pw P)::(nat_lit 320,z7 pw P)::(nat_lit 321,z8 pw P)::(nat_lit 322,o0 pw P)::(nat_lit 324,z9 pw P)::(nat_lit 325,o0 pw P)::(nat_lit 327,Aa pw P)::(nat_lit 328,Ab pw P)::(nat_lit 329,o0 pw P)::(nat_lit 331,Ac pw P)::(nat_lit 332,o0 pw P)::(nat_lit 334,Ad pw P)::(nat_lit 335,Ae pw P)::(nat_lit 336,Af pw P)::(nat_lit 337,Ag pw P)::(nat_lit 338,C6 pw P)::(nat_lit 339,C7 pw P)::(nat_lit 340,C8 pw P)::(nat_lit 343,o0 pw P)::(nat_lit 345,Dc pw P)::(nat_lit 346,o0 pw P)::(nat_lit 348,Dd pw P)::(nat_lit 349,De pw P)::(nat_lit 350,o0 pw P)::(nat_lit 352,Df pw P)::(nat_lit 353,o0 pw P)::(nat_lit 355,Dg pw P)::(nat_lit 356,Dh pw P)::(nat_lit 357,o0 pw P)::(nat_lit 359,Di pw P)::(nat_lit 360,o0 pw P)::(nat_lit 362,Dj pw P)::(nat_lit 363,Dl pw P)::(nat_lit 364,o0 pw P)::(nat_lit 366,Dm pw P)::(nat_lit 367,o0 pw P)::(nat_lit 369,Dn pw P)::(nat_lit 370,Dp pw P)::(nat_lit 371,o0 pw P)::(nat_lit 374,Dq pw P)::(nat_lit 375,Dr pw P)::(nat_lit 376,o0 pw P)::(nat_lit 378,Ds pw P)::(nat_lit 379,o0 pw P)::(nat_lit 381,Dt pw P)::(nat_lit 382,Du pw P)::(nat_lit 383,o0 pw P)::(nat_lit 385,Dv pw P)::(nat_lit 386,o0 pw P)::(nat_lit 388,Dw pw P)::(nat_lit 389,Dx pw P)::(nat_lit 390,o0 pw P)::(nat_lit 392,Dy pw P)::(nat_lit 393,o0 pw P)::(nat_lit 395,Dz pw P)::(nat_lit 396,DA pw P)::(nat_lit 397,o0 pw P)::(nat_lit 400,DB pw P)::(nat_lit 401,DE pw P)::[]
abbrev Be:List Addr:=[2,3,15,22,23,24,25,28,35,36,37,40,47,49,50,52,53,54,55,56,59,66,67,68,71,78,80,81,83,84,85,86,87,90,93,94,95,97,98,100,101,102,104,105,107,108,109,111,112,114,115,116,118,119,121,122,123,125,126,128,129,130,132,133,135,136,137,140,141,142,145,146,147,154,156,157,159,160,161,162,163,164,167,174,176,177,179,180,181,182,183,184,187,194,195,196,197,207,209,210,212,213,214,215,216,217,218,228,230,231,233,234,235,236,237,238,239,249,251,252,254,255,256,258,259,261,262,263,266,267,268,270,271,273,274,275,277,278,280,281,282,285,286,287,289,290,292,293,294,296,297,299,300,301,303,304,306,307,308,310,311,313,314,315,317,318,320,321,322,324,325,327,328,329,331,332,334,335,336,337,338,339,340,343,345,346,348,349,350,352,353,355,356,357,359,360,362,363,364,366,367,369,370,371,374,375,376,378,379,381,382,383,385,386,388,389,390,392,393,395,396,397,400,401]
theorem i4:∀P,Be=(K P).map (·.1):=λ_=>by kernel_rfl
abbrev hK:Hook:=kHook K Be i4
theorem IE(w:World):(λos=>topGo treeTable pw w 11 (some (.ref 6)) 12 ⟨boot_heap w.params,Array.mk [],boot_drawn,boot_toks,os⟩ (topStub pw))=λos=>some (SH (H0 pw w.params) 187 os,(⟨denote treeTable (aX pw),aX pw,⟨0,0,0,0⟩,BF⟩:Thread)):=by
 walk_at "qk"
theorem DF(w:World):(λos=>segRun treeTable pw w 11 (some (.ref 6)) 1 1 (SH (H0 pw w.params) 187 os) (blockOf (behindTheImports pw) (gc pw) (aX pw) ⟨0,0,0,0⟩ BF))=λos=>some (.next,(ST (T0 pw w.params) 15 187 os).abs,aX pw,⟨0,0,0,0⟩):=by
 walk_at "qk"
theorem IF(w:World):(λos=>segRunT treeTable pw w 11 (some (.ref 6)) 1 196 (ST (T0 pw w.params) 15 187 os) (piecesOf (bu pw 0 2) (gc pw) (aX pw) ⟨0,0,0,0⟩ BF))=λos=>some (.next,ST (T1 pw w.params) 28 207 os,aX pw,⟨2,0,3,8⟩):=by
 walk_at "qk"
theorem IG(w:World):(λos=>segRunT treeTable pw w 11 (some (.ref 6)) 1 214 (ST (T1 pw w.params) 28 207 os) (piecesOf (bu pw 2 1) (gc pw) (aX pw) ⟨2,0,3,8⟩ BF))=λos=>some (.next,ST (T2 pw w.params) 40 223 os,aX pw,⟨4,0,5,8⟩):=by
 walk_at "qk"
theorem IH(w:World):(λos=>segRunT treeTable pw w 11 (some (.ref 6)) 1 248 (ST (T2 pw w.params) 40 223 os) (piecesOf (bu pw 3 1) (gc pw) (aX pw) ⟨4,0,5,8⟩ BF))=λos=>some (.next,ST (T3 pw w.params) 59 250 os,aX pw,⟨6,0,10,20⟩):=by
 walk_at "qk"
theorem II(w:World):(λos=>segRunT treeTable pw w 11 (some (.ref 6)) 1 214 (ST (T3 pw w.params) 59 250 os) (piecesOf (bu pw 4 1) (gc pw) (aX pw) ⟨6,0,10,20⟩ BF))=λos=>some (.next,ST (T4 pw w.params) 71 266 os,aX pw,⟨11,0,12,8⟩):=by
 walk_at "qk"
theorem IJ(w:World):(λos=>segRunT treeTable pw w 11 (some (.ref 6)) 1 393 (ST (T4 pw w.params) 71 266 os) (piecesOf (bu pw 5 8) (gc pw) (aX pw) ⟨11,0,12,8⟩ BF))=λos=>some (.next,ST (T5 pw w.params) 116 331 os,aX pw,⟨35,0,35,11⟩):=by
 walk_at "qk"
theorem IK(w:World):(λos=>segRunT treeTable pw w 11 (some (.ref 6)) 1 207 (ST (T5 pw w.params) 116 331 os) (piecesOf (bu pw 13 12) (gc pw) (aX pw) ⟨35,0,35,11⟩ BF))=λos=>some (.next,ST (T6 pw w.params) 147 382 os,aX pw,⟨66,0,66,8⟩):=by
 walk_at "qk"
theorem IL(w:World):(λos=>segRunT treeTable pw w 11 (some (.ref 6)) 1 229 (ST (T6 pw w.params) 147 382 os) (piecesOf (bu pw 25 1) (gc pw) (aX pw) ⟨66,0,66,8⟩ BF))=λos=>some (.next,ST (T7 pw w.params) 167 411 os,aX pw,⟨67,0,70,28⟩):=by
 walk_at "qk"
theorem IM(w:World):(λos=>segRunT treeTable pw w 11 (some (.ref 6)) 1 229 (ST (T7 pw w.params) 167 411 os) (piecesOf (bu pw 26 1) (gc pw) (aX pw) ⟨67,0,70,28⟩ BF))=λos=>some (.next,ST (T8 pw w.params) 187 440 os,aX pw,⟨71,0,74,26⟩):=by
 walk_at "qk"
theorem IP(w:World):(λos=>segRunT treeTable pw w 11 (some (.ref 6)) 1 197 (ST (T8 pw w.params) 187 440 os) (piecesOf (bu pw 27 1) (gc pw) (aX pw) ⟨71,0,74,26⟩ BF))=λos=>some (.next,ST (T9 pw w.params) 200 460 os,aX pw,⟨75,0,76,8⟩):=by
 walk_at "qk"
theorem FV(w:World):(λos=>segRunT treeTable pw w 11 (some (.ref 6)) 1 225 (ST (T9 pw w.params) 200 460 os) (piecesOf (bu pw 28 1) (gc pw) (aX pw) ⟨75,0,76,8⟩ BF))=λos=>some (.next,ST (Ki pw w.params) 221 491 os,aX pw,⟨77,0,81,28⟩):=by
 walk_at "qk"
theorem FW(w:World):(λos=>segRunT treeTable pw w 11 (some (.ref 6)) 1 225 (ST (Ki pw w.params) 221 491 os) (piecesOf (bu pw 29 1) (gc pw) (aX pw) ⟨77,0,81,28⟩ BF))=λos=>some (.next,ST (Kj pw w.params) 242 522 os,aX pw,⟨82,0,86,26⟩):=by
 walk_at "qk"
theorem FX(w:World):(λos=>segRunT treeTable pw w 11 (some (.ref 6)) 1 622 (ST (Kj pw w.params) 242 522 os) (piecesOf (bu pw 30 1) (gc pw) (aX pw) ⟨82,0,86,26⟩ BF))=λos=>some (.next,ST (Kq pw w.params) 343 666 os,aX pw,⟨87,0,203,34⟩):=by
 walk_at "qk"
theorem FY(w:World):(λos=>segRunT treeTable pw w 11 (some (.ref 6)) 1 290 (ST (Kq pw w.params) 343 666 os) (piecesOf (bu pw 31 10) (gc pw) (aX pw) ⟨87,0,203,34⟩ BF))=λos=>some (.next,ST (Kr pw w.params) 402 754 os,aX pw,⟨273,0,300,36⟩):=by
 walk_at "qk"
theorem IQ(w:World):(λos=>topRun treeTable pw w 11 (some (.ref 6)) 2 (ST (Kr pw w.params) 402 754 os).abs ⟨doneF .next,aX pw,⟨273,0,300,36⟩,BF⟩)=λos=>some (SH (HF pw w.params) 754 os):=by
 walk_at "qk"
theorem FZ:behindTheImports pw=bu pw 0 2++(bu pw 2 1++(bu pw 3 1++(bu pw 4 1++(bu pw 5 8++(bu pw 13 12++(bu pw 25 1++(bu pw 26 1++(bu pw 27 1++(bu pw 28 1++(bu pw 29 1++(bu pw 30 1++(bu pw 31 10++([]))))))))))))):=by
 kernel_rfl
theorem IS(w:World)(os:OsState):topRun treeTable pw w 11 (some (.ref 6)) (12 + (1 + (196 + (214 + (248 + (214 + (393 + (207 + (229 + (229 + (197 + (225 + (225 + (622 + (290 + 2))))))))))))))) ⟨boot_heap w.params,Array.mk [],boot_drawn,boot_toks,os⟩ (topStub pw)=some (SH (HF pw w.params) 754 os):=by
 have k:topRun treeTable pw w 11 (some (.ref 6)) (196 + (214 + (248 + (214 + (393 + (207 + (229 + (229 + (197 + (225 + (225 + (622 + (290 + 2))))))))))))) (ST (T0 pw w.params) 15 187 os).abs (restOf (bu pw 0 2++(bu pw 2 1++(bu pw 3 1++(bu pw 4 1++(bu pw 5 8++(bu pw 13 12++(bu pw 25 1++(bu pw 26 1++(bu pw 27 1++(bu pw 28 1++(bu pw 29 1++(bu pw 30 1++(bu pw 31 10++([])))))))))))))) (gc pw) (aX pw) ⟨0,0,0,0⟩ BF)=some (SH (HF pw w.params) 754 os):=piece_app (segRun_of (congrFun (IF w) os)) (piece_app (segRun_of (congrFun (IG w) os)) (piece_app (segRun_of (congrFun (IH w) os)) (piece_app (segRun_of (congrFun (II w) os)) (piece_app (segRun_of (congrFun (IJ w) os)) (piece_app (segRun_of (congrFun (IK w) os)) (piece_app (segRun_of (congrFun (IL w) os)) (piece_app (segRun_of (congrFun (IM w) os)) (piece_app (segRun_of (congrFun (IP w) os)) (piece_app (segRun_of (congrFun (FV w) os)) (piece_app (segRun_of (congrFun (FW w) os)) (piece_app (segRun_of (congrFun (FX w) os)) (piece_app (segRun_of (congrFun (FY w) os)) (congrFun (IQ w) os)))))))))))))
 rw[← FZ]at k
 exact go_top (congrFun (IE w) os) (piece_block (congrFun (DF w) os) k)
theorem l0(w:World):(λos=>staticsOk (importedModules pw.main.body) (boot_heap w.params) (HF pw w.params)&&namesBound pw (HF pw w.params)&&gensDone (SH (HF pw w.params) 754 os)&&laidKept (boot_heap w.params) (HF pw w.params))=λ_=>true:=by
 walk_at "qk"
theorem l1(w:World):(λos=>PyProof.Rows.seen ((PyProof.Rows.recsOf (bf pw)).map (·.name)) (PyProof.Rows.ownsOf (bf pw)) [] {(SH (HF pw w.params) 754 os)with gens:=#[]})=λ_=>PyProof.Rows.expectedOf (bf pw):=by
 walk_at "qk"
theorem l2(w:World):(λos=>(SH (HF pw w.params) 754 os).heap.bltView)=λ_=>bltViewBooted:=by
 walk_at "qk"
theorem l3(w:World):(λos=>(SH (HF pw w.params) 754 os).heap.keysOk (looseW (bf pw) []) ((PyProof.Rows.recsOf (bf pw)).map (·.name)) ((PyProof.Rows.litsOf (bf pw)).map (·.1)) ((PyProof.Rows.clssOf (bf pw) (looseW (bf pw) [])).map (·.name))&&(SH (HF pw w.params) 754 os).heap.accountedOkI (importedModules pw.main.body)&&(SH (HF pw w.params) 754 os).heap.isNs mainGlobals&&(SH (HF pw w.params) 754 os).heap.isNs builtinsNs&&PyProof.Rows.tablesOk (bf pw) (SH (HF pw w.params) 754 os).heap&&(λs=>xlAt (bf pw) [] s&&recOk (RowW.records (OpenRow.toRowW PySem.Challenge.rw_stackwarden_k60_doors.row)) s) (SH (HF pw w.params) 754 os)&&(if true then(SH (HF pw w.params) 754 os).gens.size == 0 else !leftWithCleanup (SH (HF pw w.params) 754 os).gens))=λ_=>true:=by
 walk_at "qk"
theorem l4(w:World):(λos=>PyProof.Rows.tabsOk (bf pw) (SH (HF pw w.params) 754 os))=λ_=>true:=by
 walk_at "qk"
theorem l5(w:World):(λos=>pinSeenD (bf pw) (PyProof.Rows.drecsOf (bf pw)) (SH (HF pw w.params) 754 os))=λ_=>pinGoodD (PyProof.Rows.drecsOf (bf pw)):=by
 walk_at "qk"
theorem l6(w:World):(λos=>PyProof.Rows.plainSeenE (bf pw) (looseW (bf pw) []) (SH (HF pw w.params) 754 os))=λ_=>PyProof.Rows.plainGoodE (bf pw) (looseW (bf pw) []):=by
 walk_at "qk"
theorem l7(w:World):(λos=>PyProof.Rows.plainSeenD (bf pw) [] (SH (HF pw w.params) 754 os))=λ_=>PyProof.Rows.plainGoodD (bf pw) []:=by
 walk_at "qk"
theorem l8(w:World):(λos=>wideSeen (bf pw) (SH (HF pw w.params) 754 os))=λ_=>wideGood (bf pw):=by
 walk_at "qk"
theorem l9(w:World):(λos=>clsSeenW (bf pw) [] (SH (HF pw w.params) 754 os))=λ_=>clsGoodW (bf pw) []:=by
 walk_at "qk"
theorem lY(w:World):(λos=>hK.obs (SH (HF pw w.params) 754 os))=λ_=>hK.val w:=by
 show(λos=>Be.map (SH (HF pw w.params) 754 os).heap.get?)=λ_=>(K w.params).map λp=>some p.2
 unfold K
 walk_at "qk"
theorem hl:LeftO pw (bf pw) [] (λs=>xlAt (bf pw) [] s&&recOk (RowW.records (OpenRow.toRowW PySem.Challenge.rw_stackwarden_k60_doors.row)) s) hK.obs hK.val 7078:=by
 refine LeftO.of_pieces (m₀:=11) (ann:=(some (.ref 6))) (M:=(12 + (1 + (196 + (214 + (248 + (214 + (393 + (207 + (229 + (229 + (197 + (225 + (225 + (622 + (290 + 2)))))))))))))))) (boot_open (by kernel_rfl) (by decide) (λs=>by kernel_rfl)) (λw=>?_) IS (by decide) (λw=>?_)
 ·walk_at "qk"
 ·funext os
  exact looks_pair (congrFun (l0 w) os) (looks_pair (looks_pair (congrFun (l1 w) os) (looks_pair (congrFun (l2 w) os) (looks_pair (congrFun (l3 w) os) (looks_pair (congrFun (l4 w) os) (looks_pair (congrFun (l5 w) os) (looks_pair (congrFun (l6 w) os) (looks_pair (congrFun (l7 w) os) (looks_pair (congrFun (l8 w) os) (congrFun (l9 w) os))))))))) (congrFun (lY w) os))
end MH
end
open PySem PySem.W PyProof.Rows
local macro_rules | `(tactic| walk_at "dk") => `(tactic| (refine' ⟨_, _, ?w, L2.pC ?x ?y ?z⟩; (case w => k_is); (case x => k_is); (case y => k_is); (case z => k_is)))
local macro_rules | `(tactic| walk_at "mk") => `(tactic| (refine' ⟨⟨_, L2.pC ?x ?y ?z⟩, ?w⟩; (case x => k_is); (case y => k_is); (case z => k_is); (case w => k_is)))
set_option maxRecDepth 100000 in
set_option maxHeartbeats 0 in
theorem PySem.Challenge.cw_stackwarden_k60_doors_holds : PySem.Challenge.rw_stackwarden_k60_doors.Holds := by
  w_on; o_law
  refine PySem.W.holds_open (q := (MH.bf PySem.Challenge.pw_stackwarden_k60_doors)) (loose := []) (Xt := (fun s => xlAt (MH.bf PySem.Challenge.pw_stackwarden_k60_doors) [] s && recOk (RowW.records (OpenRow.toRowW PySem.Challenge.rw_stackwarden_k60_doors.row)) s)) (XP := XL (MH.bf PySem.Challenge.pw_stackwarden_k60_doors) []) (Yf := Hook.obs (kHook MH.K MH.Be MH.i4)) (Ya := Hook.val (kHook MH.K MH.Be MH.i4)) (YP := Hook.says (kHook MH.K MH.Be MH.i4)) (N := 7078) MH.hl (Hook.of (kHook MH.K MH.Be MH.i4)) (Hook.keeps (kHook MH.K MH.Be MH.i4)) (fun s e => xl_of s (Bool.and_eq_true_iff.mp e).1) XL.keeps (by rfl) (by rfl) (by rfl) (fun s e => recFacts_of (Bool.and_eq_true_iff.mp e).2) (by rfl) (by first | assumption | decide +kernel) (by decide +kernel) ⟨rfl, rfl, rfl, rfl, rfl, by decide +kernel⟩ ?hw ?hc
  case hw => w_witness2
  k_fill
  refine Mine.walk (l := PySem.Challenge.rw_stackwarden_k60_doors) rfl rfl (fun w h Y => PySem.W.kIn_of Y) ?F
  case F =>
    intro w mg fa h KX G hmg
    refine' Mine.all_mk KX G hmg ?m4 ?m5 ?m6 ?m7 ?m8 ?m9 ?nc ?eE ?eF ?cG ?gJ ?gK ?gL ?gM ?gO ?gP ?gQ ?bW ?c6 ?c8 ?cv ?bJ ?cH ?cw ?bK ?d0 ?d1 ?d2 ?d3 ?d4 ?d5 ?d6 ?d7 ?d8 ?d9 ?HL ?HM ?HN ?HP ?HQ ?HR ?HS ?HU ?HV ?HW ?HY ?HZ ?fO ?iB ?cS ?cT ?dJ ?fP ?iD ?bN ?cK ?cL ?iq ?ky ?iv ?dI ?vT ?dO ?dP ?dQ ?dR ?dU ?dW ?vU ?vV ?vW ?vX ?cu ?oy ?ku ?kB ?cq ?ox ?aB ?bZ ?fN ?oE ?dz ?fe ?kr
    (case m4 => k_is)
    (case m5 => k_is)
    (case m6 => k_is)
    (case m7 => k_is)
    (case m8 => k_is)
    (case m9 => k_is)
    (case nc => k_is)
    (case eE => k_is)
    (case eF => k_is)
    (case cG => k_is)
    (case gJ => k_is)
    (case gK => k_is)
    (case gL => k_is)
    (case gM => k_is)
    (case gO => k_is)
    (case gP => k_is)
    (case gQ => k_is)
    (case bW => k_is)
    (case c6 => k_is)
    (case c8 => k_is)
    (case cv => k_is)
    (case bJ => k_is)
    (case cH => k_is)
    (case cw => k_is)
    (case bK => k_is)
    (case d0 => walk_at "dk")
    (case d1 => walk_at "dk")
    (case d2 => walk_at "dk")
    (case d3 => walk_at "dk")
    (case d4 => walk_at "dk")
    (case d5 => walk_at "dk")
    (case d6 => walk_at "dk")
    (case d7 => walk_at "dk")
    (case d8 => walk_at "dk")
    (case d9 => walk_at "dk")
    (case HL => walk_at "mk")
    (case HM => walk_at "mk")
    (case HN => walk_at "mk")
    (case HP => walk_at "mk")
    (case HQ => walk_at "mk")
    (case HR => walk_at "mk")
    (case HS => walk_at "dk")
    (case HU => walk_at "dk")
    (case HV => k_is)
    (case HW => k_is)
    (case HY => k_is)
    (case HZ => k_is)
    (case fO => k_is)
    (case iB => kts_isx)
    (case cS => k_is)
    (case cT => k_exc)
    (case dJ => kts_isx)
    (case fP => k_is)
    (case iD => kts_isx)
    (case bN => k_is)
    (case cK => k_exc)
    (case cL => kts_isx)
    (case iq => refine L2.mD ?_ ?_ ?_ ?_ ?_ ?_ <;> first | (show _ = some true; kit_is) | (show _ = some false; kit_is))
    (case ky => refine L2.mD ?_ ?_ ?_ ?_ ?_ ?_ <;> first | (show _ = some true; kit_is) | (show _ = some false; kit_is))
    (case iv => refine L2.mD ?_ ?_ ?_ ?_ ?_ ?_ <;> first | (show _ = some true; kit_is) | (show _ = some false; kit_is))
    (case dI => refine L2.mD ?_ ?_ ?_ ?_ ?_ ?_ <;> first | (show _ = some true; kit_is) | (show _ = some false; kit_is))
    (case vT => k_is)
    (case dO => k_is)
    (case dP => k_is)
    (case dQ => k_is)
    (case dR => k_is)
    (case dU => k_is)
    (case dW => k_is)
    (case vU => kit_is)
    (case vV => kit_is)
    (case vW => kit_is)
    (case vX => kit_is)
    (case cu => k_is)
    (case oy => k_is)
    (case ku => k_is)
    (case kB => k_is)
    (case cq => k_is)
    (case ox => k_is)
    (case aB => k_is)
    (case bZ => k_is)
    (case fN => k_is)
    (case oE => k_is)
    (case dz => k_is)
    (case fe => k_is)
    (case kr => k_is)
#print axioms PySem.Challenge.cw_stackwarden_k60_doors_holds
