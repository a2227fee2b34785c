import PyProof.Rows.All
import Wide.All
import OpenK.AllK
import Wide.FinOn
import Lean
import PyProof.EqAt
import PyProof.EqKinds
import PyProof.TupleCall
import PyProof.ZipIter
import KE.KTryDeep
import KE.KIsAll
import KE.KIntText
import PyProof.ExcArgsOwn
import PySem.Challenge.RW_stackwarden_k67_loops_and_budget
def WS:=@PySem.wpAny_bind
def WT:=@PySem.Heap.lt_size
def WU:=@Nat.le_refl
def WV:=@Nat.lt_of_lt_of_le
def WW:=@PySem.Heap.get?_push_of_some
def WX:=@PySem.wpAny_pure
def WY:=@List.length_map
def WZ:=@PySem.W.mg_of
def W0:=@Option.some.inj
def W2:=@if_neg
def W3:=@List.getElem?_set_self
def W4:=@if_pos
def W5:=@Nat.ne_of_lt
def W6:=@Bool.false_ne_true
def W7:=@List.mem_cons_self
def W8:=@List.getElem?_set_ne
def W9:=@List.mem_cons_of_mem
def Xa:=@PySem.wpAny_mono
def Xc:=@List.getElem?_append_left
def Xd:=@List.mem_append_right
def Xe:=@Or.inl
def Xf:=@PySem.Heap.get?_push_size
def Xg:=@List.mem_of_getElem?
def Xh:=@Nat.le_trans
def Xi:=@List.length_cons
def Xj:=@List.mem_cons
def Xk:=@List.getElem?_append_right
def Xl:=@PySem.W.mg_none_of
def Xm:=@Nat.lt_irrefl
def Xn:=@List.size_toArray
def Xo:=@PySem.wpAny_loadPart_at
def Xp:=@List.length_set
def Xq:=@List.mem_singleton
def Xr:=@List.length_append
def Xs:=@List.getElem?_of_mem
def Xu:=@PySem.wpAny_holding
def Xv:=@List.getElem?_map
def Xw:=@Nat.ne_of_gt
def Xx:=@Nat.lt_of_le_of_lt
def Xy:=@PySem.F.plainAttrs_list
def Xz:=@Int.le_refl
def XA:=@decide_eq_false
def XB:=@True.intro
def XC:=@List.append_nil
def XF:=@PySem.F.slot_list_append
def XH:=@PySem.F.type_list_append
def XI:=@Int.le_trans
def XJ:=@List.length_take
def XM:=@decide_eq_true
def XN:=@PyProof.Rows.callWith_type1
def XO:=@PySem.wpAny_Call_Name_kw
def XQ:=@PySem.W.callWith_K
def XR:=@PySem.wpAny_execs_nil
def XS:=@PySem.wpAny_passesOwn
def XT:=@PySem.W.kia_one
def XU:=@List.take_append_drop
def XW:=@List.map_cons
def XX:=@PySem.wpAny_newObj_type
def XY:=@List.drop_eq_getElem_cons
def XZ:=@Nat.zero_le
def X0:=@PySem.W.hideAll_get
def X1:=@congrArg
def X2:=@List.mem_flatten
def X3:=@Nat.le_add_right
def X4:=@Nat.succ_ne_zero
def X5:=@Nat.succ.inj
def X6:=@PySem.mem_of_lookup
def X7:=@PyProof.Rows.slot_tuple_getitem
def X8:=@List.getElem?_cons_zero
def X9:=@List.mem_append
def Yb:=@List.mem_filterMap
def Yc:=@List.getElem?_drop
def Yd:=@List.map_append
def Ye:=@PySem.PassesOwn.never
def Yg:=@Nat.le_succ
def Yh:=@PySem.wpAny_truthy_bool
def Yi:=@Nat.le_of_lt
def Yj:=@PySem.Heap.size_push
def Yk:=@PySem.codeAny_mono
def Yl:=@PySem.Heap.get?_update_self
def Ym:=@List.pairwise_flatten
def Yn:=@PySem.wpAny_execs_cons
def Yo:=@PySem.wpAny_standAt
def Yp:=@List.map_map
def Yq:=@List.getElem?_cons_succ
def Yr:=@PySem.Heap.get?_update_other
def Ys:=@Bool.not_eq_true
def Yt:=@List.all_eq_true
def Yu:=@Ne.symm
def Yv:=@PySem.W.methodCall_KW
def Yw:=@PySem.plainObj_wpAny_Assign_Attribute
def Yx:=@List.eraseIdx_eq_take_drop_succ
def Yy:=@PySem.wpAny_call
def Yz:=@Option.map_some
def YA:=@List.mem_map
def YB:=@PySem.W.plainGet_of
def YC:=@PySem.Calls.spliced_cons
def YD:=@PySem.Heap.get?_some_iff
def YE:=@Nat.add_right_comm
def YF:=@PySem.Calls.Name_function_global
def YG:=@PySem.Calls.spliced_nil
def YH:=@List.take_add_one
def YI:=@List.mem_or_eq_of_mem_set
def YJ:=@Option.isSome_iff_exists
def YL:=@List.getElem?_take_of_lt
def YM:=@PySem.F.args_tuple_add_2
def YN:=@List.length_drop
def YO:=@PySem.wpAny_call_entry
def YQ:=@Nat.succ_le_succ
def YR:=@List.lookup_cons
def YS:=@PySem.wpAny_comprehension_free
def YT:=@List.getElem_mem
def YU:=@PySem.W.looks_findIn
def YV:=@Nat.sub_self
def YW:=@List.take_length
def YX:=@List.drop_length
def YY:=@PySem.F.entry_tuple_add
def YZ:=@PyProof.Rows.intBits_le
def Y0:=@Nat.lt_add_of_pos_right
def Y1:=@Int.emod_nonneg
def Y2:=@List.nodup_cons
def Y3:=@Sum.inr.inj
def Y4:=@PySem.sizeLine_eq
def Y5:=@PySem.W.cellsFrom_some
def Y6:=@PySem.F.slot_tuple_add
def Y8:=@PySem.codeAny_compStart_list
def Y9:=@List.flatten_singleton
def Za:=@PySem.wpAny_nextOf_list_item
def Zb:=@List.mem_range
def Zc:=@PySem.W.funFrames_hide
def Zd:=@PySem.builtinLookup_eq_fast
def Ze:=@PySem.codeAny_handlers_test
def Zf:=@PySem.Paired.length
def Zg:=@List.any_cons
def Zi:=@PySem.concat_meets
def Zj:=@PySem.seqIndex_neg
def Zk:=@Nat.le_of_eq
def Zo:=@beq_iff_eq
abbrev aE:=PySem.W.Frag
theorem Oo:0<=PySem.sizeLine:=by decide
theorem LP:1<=PySem.sizeLine:=by decide
theorem AL:2<=PySem.sizeLine:=by decide
theorem OX:3<=PySem.sizeLine:=by decide
theorem TU:4<=PySem.sizeLine:=by decide
theorem v8{α:Type}{a b:α}(h:a∈[b]):a=b:=Xq.mp h
theorem er{α:Type}{l:List α}{i:Nat}{a:α}(h:l[i]?=some a):∃h:i < l.length,l[i]=a:=List.getElem?_eq_some_iff.mp h
theorem jL{α:Type}{l:List α}{i:Nat}(h:i < l.length):l[i]?=some l[i]:=List.getElem?_eq_getElem h
set_option Elab.async false
set_option compiler.extract_closed false
set_option linter.all false
set_option maxRecDepth 100000
namespace L2
open PySem PySem.Spec PyProof.Rows
abbrev Key:=Sum Int Str
def qW:Key->Value->Bool
 | .inl k,v=>Value.isInt k v
 | .inr x,v=>Value.isStrOf x v
def OY(w:World):Key->Int
 | .inl k=>hashInt k
 | .inr x=>hashStr w x
theorem bQ:∀{k:Key} {v:Value},qW k v=true->(∃i t,k=Sum.inl i/\v=Value.int i t)∨(∃x t,k=Sum.inr x/\v=Value.str x t)
 | .inl i,v,h=>by
  obtain⟨t,e⟩:=Value.isInt_shape (k:=i) (v:=v) h;exact .inl ⟨i,t,rfl,e⟩
 | .inr x,v,h=>by
  obtain⟨t,e⟩:=Value.isStrOf_shape (x:=x) (v:=v) h;exact .inr ⟨x,t,rfl,e⟩
theorem y9(i:Int)(t:Tok):qW (.inl i) (.int i t)=true:=by simp[qW,Value.isInt]
theorem za(x:Str)(t:Tok):qW (.inr x) (.str x t)=true:=by simp[qW,Value.isStrOf]
theorem Io(a b:Int):decide ((Sum.inl a:Key)=Sum.inl b)=(a == b):=by
 by_cases e:a=b
 ·subst e;simp
 ·have h:¬ (Sum.inl a:Key)=Sum.inl b:=λq=>e (Sum.inl.inj q)
  rw[XA h];exact(beq_eq_false_iff_ne.mpr e).symm
theorem Ip(a b:Str):decide ((Sum.inr a:Key)=Sum.inr b)=decide (a=b):=by
 by_cases e:a=b
 ·subst e;simp
 ·have h:¬ (Sum.inr a:Key)=Sum.inr b:=λq=>e (Y3 q)
  rw[XA h,XA e]
theorem Iq(a:Int)(b:Str):decide ((Sum.inl a:Key)=Sum.inr b)=false:=XA (λq=>nomatch q)
theorem Ir(a:Str)(b:Int):decide ((Sum.inr a:Key)=Sum.inl b)=false:=XA (λq=>nomatch q)
def ck(prog:Program)(w:World):PySem.KeyKind prog w Key where
 is:=qW
 hash:=OY w
 inj:=λv a b ha hb=>by
  rcases bQ ha with⟨i,t,rfl,rfl⟩ | ⟨x,t,rfl,rfl⟩
  ·rcases bQ hb with⟨j,u,rfl,e⟩ | ⟨y,u,rfl,e⟩
   ·injection e with e1 _;rw[e1]
   ·exact nomatch e
  ·rcases bQ hb with⟨j,u,rfl,e⟩ | ⟨y,u,rfl,e⟩
   ·exact nomatch e
   ·injection e with e1 _;rw[e1]
 byValue:=λk v h=>by
  rcases bQ h with⟨i,t,rfl,rfl⟩ | ⟨x,t,rfl,rfl⟩<;>rfl
 pyHash:=λhv h=>by
  rcases bQ hv with⟨i,t,rfl,rfl⟩ | ⟨x,t,rfl,rfl⟩
  ·exact wpAny_pyHash_int h
  ·exact wpAny_pyHash_str h
 eqBool:=λhu hv h=>by
  rcases bQ hu with⟨i,t,rfl,rfl⟩ | ⟨x,t,rfl,rfl⟩
  ·rcases bQ hv with⟨j,u,rfl,rfl⟩ | ⟨y,u,rfl,rfl⟩
   ·rw[Io]at h;exact wpAny_eqBool_int h
   ·rw[Iq]at h;exact SeqAt.EqAt.int_str i t y u _ _ _ _ h
  ·rcases bQ hv with⟨j,u,rfl,rfl⟩ | ⟨y,u,rfl,rfl⟩
   ·rw[Ir]at h;exact SeqAt.EqAt.str_int x t j u _ _ _ _ h
   ·rw[Ip]at h;exact wpAny_eqBool_str h
 «strs»:=λk x t v h=>by
  rcases bQ h with⟨i,u,rfl,e⟩ | ⟨y,u,rfl,e⟩
  ·exact nomatch e
  ·injection e with e1 _
   subst e1;cases v<;>rfl
theorem uy(prog:Program)(w:World)(i:Int)(t:Tok):(ck prog w).is (.inl i) (.int i t)=true:=y9 i t
theorem nT(prog:Program)(w:World)(x:Str)(t:Tok):(ck prog w).is (.inr x) (.str x t)=true:=za x t
inductive V where
 | non | bl (b:Bool) | int (i:Int) | str (x:Str) | byt (b:Array UInt8) | flt (b:UInt64) | ref (a:Addr) | ty (n:String)
 deriving DecidableEq
def RelV:V->Value->Prop
 | .non,u=>u=Value.none
 | .bl b,u=>u=Value.bool b
 | .int i,u=>∃t,u=Value.int i t
 | .str x,u=>∃t,u=Value.str x t
 | .byt b,u=>∃t,u=Value.bytes b t
 | .flt b,u=>∃t,u=Value.float b t
 | .ref a,u=>u=Value.ref a
 | .ty n,u=>u=Value.type n
abbrev Vals:List V->List Value->Prop:=Paired RelV
theorem Vals.length{xs:List V}{us:List Value}(r:Vals xs us):xs.length=us.length:=Zf r
theorem Vals.get:∀{xs:List V} {us:List Value} {i:Nat} {x:V},Vals xs us->xs[i]?=some x->∃u,us[i]?=some u/\RelV x u
 | _,_,_,_,.nil,e=>by simp at e
 | _,_,0,_,.cons r _,e=>by simp at e;subst e;exact⟨_,rfl,r⟩
 | _,_,i + 1,x,.cons _ t,e=>by
  obtain⟨u,h1,h2⟩:=Vals.get (i:=i) (x:=x) t (by simpa using e);exact⟨u,by simpa using h1,h2⟩
theorem Vals.set{x:V}{u:Value}(r:RelV x u):∀{xs:List V} {us:List Value} (i:Nat),Vals xs us->Vals (xs.set i x) (us.set i u)
 | _,_,_,.nil=>.nil
 | _,_,0,.cons _ t=>.cons r t
 | _,_,i + 1,.cons q t=>.cons q (Vals.set r i t)
theorem Vals.append:∀{xs ys:List V} {us ws:List Value},Vals xs us->Vals ys ws->Vals (xs++ys) (us++ws)
 | _,_,_,_,.nil,s=>s
 | _,_,_,_,.cons r t,s=>.cons r (Vals.append t s)
theorem Vals.take:∀{xs:List V} {us:List Value} (n:Nat),Vals xs us->Vals (xs.take n) (us.take n)
 | _,_,0,_=>.nil
 | _,_,_ + 1,.nil=>.nil
 | _,_,n + 1,.cons r t=>.cons r (Vals.take n t)
theorem Vals.drop:∀{xs:List V} {us:List Value} (n:Nat),Vals xs us->Vals (xs.drop n) (us.drop n)
 | _,_,0,r=>r
 | _,_,_ + 1,.nil=>.nil
 | _,_,n + 1,.cons _ t=>Vals.drop n t
def iL:Option V->Option Value->Prop
 | some v,some u=>RelV v u
 | none,none=>True
 | _,_=>False
def KV{κ:Type}:List (κ×V)->List (κ×Value)->Prop:=Paired λ(p:κ×V) (q:κ×Value)=>p.1=q.1/\RelV p.2 q.2
def kV:Key->V
 | .inl i=>.int i
 | .inr x=>.str x
inductive HO where
 | lst (xs:List V)
 | tup (xs:List V)
 | dK (kvs:List (Key×V)) | dT (kvs:List (List Key×V))
 | set (S:Int->Bool) (n:Nat)
 | ins (C dx:Addr) (fs:List (Str×V))
 | own (x:Addr)
 | xd (fs:List (Str×V))
 | met (f x:Addr)
 | rng (lo hi:Int)
 | kS (o:Obj) (u:HO)
 | tbl (ps:Array Value)
 | ext (φ:Heap->Prop)
abbrev Hp:=Addr->Option HO
def upd(H:Hp)(a:Addr)(o:HO):Hp:=λb=>if b=a then some o else H b
theorem uS{H:Hp}{a:Addr}{o:HO}:upd H a o a=some o:=by unfold upd;rw[if_pos rfl]
theorem uN{H:Hp}{a b:Addr}{o:HO}(h:b≠a):upd H a o b=H b:=by unfold upd;rw[if_neg h]
theorem cz{H:Hp}{a b:Addr}{o u:HO}(h:H a=some o)(h':H b=some u)(d:o≠u):a≠b:=by
 intro e;subst e;rw[h]at h';exact d (W0 h')
theorem nN{H:Hp}{a b:Addr}{o:HO}(h:H a=some o)(h':H b=none):a≠b:=by
 intro e;subst e;rw[h]at h';cases h'
section
variable (P:Program) (w:World)
def dn(H:Hp)(h:Heap)(a:Addr):HO->Prop
 | .lst xs=>xs.length<=sizeLine/\∃(its:List Value) (n:Nat),Vals xs its/\h.get? a=some {cls:=.type "list",data:=.seq its.toArray n}
 | .tup xs=>xs.length<=sizeLine/\∃its:List Value,Vals xs its/\IsTup h a its.toArray
 | .dK kvs=>kvs.length<=sizeLine/\(a == sysModules)=false/\∃vs,KV kvs vs/\h.DictOf (ck P w) a vs
 | .dT kvs=>kvs.length<=sizeLine/\(a == sysModules)=false/\∃xs:List (List Key×Addr×Value),
   Paired (λ(p:List Key×V) (q:List Key×Addr×Value)=>p.1=q.1/\H q.2.1=some (.tup (p.1.map kV))/\RelV p.2 q.2.2) kvs xs /\
   ∃o es ep,h.get? a=some o/\o.ExactDict/\o.data=.dict es ep/\es.toList=xs.map (entryOfKey (tupleKind (ck P w)))/\(xs.map (·.1)).Nodup
 | .set S n=>h.SetOf (intKind P w) a S n
 | .ins C dx fs=>H dx=some (.own a)/\fs.length<=1000/\dx≠a/\h.get? a=some (PySem.W.instObj C dx) /\
   ∃mA,h.Ns1 dx mA/\(∀f,iL (fs.lookup f) (mA f))/\PySem.Within mA (fs.map (·.1))
 | .own _=>∃o,h.get? a=some o
 | .xd fs=>∃mA,h.Ns1 a mA/\∀f,iL (fs.lookup f) (mA f)
 | .rng lo hi=>∃t u v,h.get? a=some {cls:=.type "range",data:=.fields #[.int lo t,.int hi u,.int 1 v]}
 | .kS o u=>h.get? a=some o/\dn H h a u
 | .tbl ps=>h.get? a=some {cls:=.none,data:=.fields ps}
 | .met f x=>h.get? a=some (PySem.W.methodObj (.ref f) (.ref x))
 | .ext φ=>φ h/\(∃o,h.get? a=some o)/\∀h1 h2:Heap,φ h1->(∀o,h1.get? a=some o->h2.get? a=some o)->φ h2
def jW(H:Hp)(h:Heap):Prop:=∀a o,H a=some o->dn P w H h a o
end
section
variable {P:Program} {w:World} {H H':Hp} {h h':Heap} {a:Addr} {o:HO}
theorem dn.lt(x:dn P w H h a o):a < h.objs.size:=by
 cases o with
 | lst xs=>obtain⟨_,_,_,_,e⟩:=x;exact WT e
 | tup xs=>obtain⟨_,_,_,p⟩:=x;exact p.lt
 | dK kvs=>obtain⟨_,_,_,_,o,_,_,e,_⟩:=x;exact WT e
 | dT kvs=>obtain⟨_,_,_,_,o,_,_,e,_⟩:=x;exact WT e
 | set S n=>obtain⟨o,_,_,_,e,_⟩:=x;exact WT e
 | ins C dx fs=>obtain⟨_,_,_,e,_⟩:=x;exact WT e
 | own y=>obtain⟨_,e⟩:=x;exact WT e
 | xd fs=>obtain⟨_,⟨_,_,_,e,_⟩,_⟩:=x;exact WT e
 | rng lo hi=>obtain⟨_,_,_,e⟩:=x;exact WT e
 | kS ob u=>obtain⟨e,_⟩:=x;exact WT e
 | tbl ps=>exact WT (show h.get? a=some _ from x)
 | met f y=>exact WT (show h.get? a=some _ from x)
 | ext φ=>obtain⟨_,⟨_,e⟩,_⟩:=x;exact WT e
theorem Paired.Iu{α β:Type}{F G:α->β->Prop}:∀{l₁:List α} {l₂:List β},Paired F l₁ l₂->(∀a b,F a b->G a b)->Paired G l₁ l₂
 | _,_,.nil,_=>.nil
 | _,_,.cons r t,f=>.cons (f _ _ r) (Paired.Iu t f)
theorem dn.qA(x:dn P w H h a o)(k:∀b u,(b=a∨H b=some (.own a))->h.get? b=some u->h'.get? b=some u)
  (ho:∀b,H b=some (.own a)->H' b=some (.own a)) (ht:∀b xs,H b=some (.tup xs)->H' b=some (.tup xs)):dn P w H' h' a o:=by
 induction o with
 | lst xs=>obtain⟨z,its,n,r,e⟩:=x;exact⟨z,its,n,r,k _ _ (.inl rfl) e⟩
 | tup xs=>obtain⟨z,its,r,ob,e,c⟩:=x;exact⟨z,its,r,ob,k _ _ (.inl rfl) e,c⟩
 | dK kvs=>obtain⟨z,y,vs,r,ob,es,ep,e,c⟩:=x;exact⟨z,y,vs,r,ob,es,ep,k _ _ (.inl rfl) e,c⟩
 | dT kvs =>
  obtain⟨z,y,xs,r,ob,es,ep,e,c⟩:=x;exact⟨z,y,xs,Paired.Iu r λp q z=>⟨z.1,ht _ _ z.2.1,z.2.2⟩,ob,es,ep,k _ _ (.inl rfl) e,c⟩
 | set S n=>obtain⟨ob,es,ep,t,e,c⟩:=x;exact⟨ob,es,ep,t,k _ _ (.inl rfl) e,c⟩
 | ins C dx fs =>
  obtain⟨d,z,ne,e,mA,⟨od,es,ep,e2,c⟩,r⟩:=x;exact⟨ho _ d,z,ne,k _ _ (.inl rfl) e,mA,⟨od,es,ep,k _ _ (.inr d) e2,c⟩,r⟩
 | own y=>obtain⟨ob,e⟩:=x;exact⟨ob,k _ _ (.inl rfl) e⟩
 | xd fs=>obtain⟨mA,⟨od,es,ep,e,c⟩,r⟩:=x;exact⟨mA,⟨od,es,ep,k _ _ (.inl rfl) e,c⟩,r⟩
 | rng lo hi=>obtain⟨t,u,v,e⟩:=x;exact⟨t,u,v,k _ _ (.inl rfl) e⟩
 | kS ob u ih=>obtain⟨e,q⟩:=x;exact⟨k _ _ (.inl rfl) e,ih q⟩
 | tbl ps =>
  have e:h.get? a=some {cls:=.none,data:=.fields ps}:=x;show h'.get? a=some {cls:=.none,data:=.fields ps};exact k a _ (.inl rfl) e
 | met f y =>
  have e:h.get? a=some (PySem.W.methodObj (.ref f) (.ref y)):=x;show h'.get? a=some (PySem.W.methodObj (.ref f) (.ref y));exact k a _ (.inl rfl) e
 | ext φ=>obtain⟨p,⟨o,e⟩,st⟩:=x;exact⟨st _ _ p λo q=>k _ _ (.inl rfl) q,⟨o,k _ _ (.inl rfl) e⟩,st⟩
theorem jW.lt(x:jW P w H h)(e:H a=some o):a < h.objs.size:=(x a o e).lt
theorem jW.fresh(x:jW P w H h)(e:h.objs.size<=a):H a=none:=by
 cases q:H a with
 | none=>rfl
 | some u=>exact absurd (WV (x.lt q) e) (Xm _)
theorem jW.kept(x:jW P w H h)(k:∀b u,h.get? b=some u->h'.get? b=some u):jW P w H h':=λa o e =>
 (x a o e).qA (λb u _ q=>k b u q) (λ_ q=>q) λ_ _ q=>q
theorem jW.laid(x:jW P w H h)(k:∀b u,h.get? b=some u->h'.get? b=some u)(hp:h.objs.size<=a)(new:dn P w (upd H a o) h' a o):jW P w (upd H a o) h':=λb u e=>by
 have hn:=x.fresh hp;by_cases hb:b=a
 ·subst hb;rw[uS]at e;cases e;exact new
 ·rw[uN hb]at e;exact(x b u e).qA (λc v _ q=>k c v q) (λc q=>by rw[uN (nN q hn)];exact q) λc xs q=>by rw[uN (nN q hn)];exact q
end
def Rd(H:Hp)(a:Addr)(u:HO):Prop:=H a=some u∨∃o,H a=some (.kS o u)
theorem Rd.ok{P:Program}{w:World}{H:Hp}{h:Heap}{a:Addr}{u:HO}(r:Rd H a u)(x:jW P w H h):dn P w H h a u:=by
 rcases r with r | ⟨o,r⟩
 ·exact x a u r
 ·obtain⟨_,q⟩:=x a _ r;exact q
def Mh:Option HO->Prop
 | some (.lst _)=>True
 | some (.dK _)=>True
 | some (.dT _)=>True
 | some (.set _ _)=>True
 | some (.ins _ _ _)=>True
 | some (.ext _)=>True
 | _=>False
section
variable {P:Program} {w:World} {H:Hp} {h h':Heap} {x e:Addr} {o':HO}
theorem jW.write(ok:jW P w H h)(mu:Mh (H x))(he:e=x∨H e=some (.own x))(k:∀b u,b≠e->h.get? b=some u->h'.get? b=some u)(heo:∃u,h'.get? e=some u)
  (new:dn P w (upd H x o') h' x o'):jW P w (upd H x o') h':=λb u q=>by
 have nown:∀c y,H c=some (.own y)->c≠x:=λc y r z=>by subst z;rw[r]at mu;exact mu
 have ntup:∀c xs,H c=some (.tup xs)->c≠x:=λc xs r z=>by subst z;rw[r]at mu;exact mu
 by_cases hb:b=x
 ·subst hb;rw[uS]at q;cases q;exact new
 ·rw[uN hb]at q;by_cases hbe:b=e
  ·have q':H b=some (.own x):=by
    rcases he with z | z
    ·exact absurd (hbe.trans z) hb
    ·rw[hbe];exact z
   rw[q]at q';cases q';obtain⟨v,hv⟩:=heo;exact⟨v,by rw[hbe];exact hv⟩
  ·refine(ok b u q).qA (λc v hc r=>k c v ?_ r) (λc r=>by rw[uN (nown c b r)];exact r) λc xs r=>by rw[uN (ntup c xs r)];exact r
   rcases hc with rfl | hc
   ·exact hbe
   ·rintro rfl;rcases he with z | z
    ·exact nown c b hc z
    ·rw[hc]at z;cases z;exact hb rfl
end
structure Un(fs ex:List Addr)(H H':Hp)(h h':Heap):Prop where
 keep:∀b o,h.get? b=some o->H b=none->b∉fs->b∉ex->h'.get? b=some o
 slot:∀b o,h.get? b=some o->H b=none->b∈fs->b∉ex->∃sl,h'.get? b=some {o with slots:=sl}
 free:∀b o,h.get? b=some o->H b=none->b∉ex->H' b=none
 there:∀b o,h.get? b=some o->b∉ex->∃o',h'.get? b=some o'
 tups:∀b xs,H b=some (.tup xs)->H' b=some (.tup xs)
 eA:∀b o u,H b=some (.kS o u)->H' b=some (.kS o u)
 tbls:∀b ps,H b=some (.tbl ps)->∃more,H' b=some (.tbl (ps++more))
section
variable {fs fs' ex ex':List Addr} {H H1 H2:Hp} {h h1 h2 h':Heap} {a x e:Addr} {o:HO}
theorem Un.any(u:Un fs ex H H1 h h1){b:Addr}{ob:Obj}(q:h.get? b=some ob)(n:H b=none)(hx:b∉ex):∃sl,h1.get? b=some {ob with slots:=sl}:=by
 by_cases hb:b∈fs
 ·exact u.slot b ob q n hb hx
 ·exact⟨ob.slots,u.keep b ob q n hb hx⟩
theorem Un.kept(k:∀b u,h.get? b=some u->h'.get? b=some u):Un fs ex H H h h' :=
 ⟨λb ob q _ _ _=>k b ob q,λb ob q _ _ _=>⟨ob.slots,k b ob q⟩,λ_ _ _ n _=>n,λb ob q _=>⟨ob,k b ob q⟩,λ_ _ q=>q,λ_ _ _ q=>q,λ_ ps q=>⟨#[],by rw[q];simp⟩⟩
theorem Un.refl:Un fs ex H H h h:=Un.kept λ_ _ q=>q
theorem Un.laid(k:∀b u,h.get? b=some u->h'.get? b=some u)(hp:h.objs.size<=a)(hn:H a=none):Un fs ex H (upd H a o) h h' where
 keep:=λb u q _ _ _=>k b u q
 slot:=λb u q _ _ _=>⟨u.slots,k b u q⟩
 free:=λb u q n _=>by rw[uN (W5 (WV (WT q) hp))];exact n
 there:=λb u q _=>⟨u,k b u q⟩
 tups:=λb xs q=>by rw[uN (nN q hn)];exact q
 eA:=λb u xs q=>by rw[uN (nN q hn)];exact q
 tbls:=λb ps q=>⟨#[],by rw[uN (nN q hn),q];simp⟩
theorem Un.write(mu:Mh (H x))(he:e=x∨H e=some (.own x))(k:∀b u,b≠e->h.get? b=some u->h'.get? b=some u)(heo:∃u,h'.get? e=some u):Un fs ex H (upd H x o) h h':=by
 have hx:∀b,H b=none->b≠x:=λb n z=>by subst z;rw[n]at mu;exact mu
 have hb:∀b,H b=none->b≠e:=λb n z=>by
  subst z;rcases he with r | r
  ·exact hx b n r
  ·rw[n]at r;cases r
 have hm:∀b u,H b=some u->¬ Mh (some u)->b≠x:=λb u q nm z=>by subst z;rw[q]at mu;exact nm mu
 refine⟨λb u q n _ _=>k b u (hb b n) q,λb u q n _ _=>⟨u.slots,k b u (hb b n) q⟩,λb u q n _=>by rw[uN (hx b n)];exact n,λb u q _=>?_,
  λb xs q=>by rw[uN (hm b _ q λz=>z)];exact q,λb u xs q=>by rw[uN (hm b _ q λz=>z)];exact q,λb ps q=>⟨#[],by rw[uN (hm b _ q λz=>z),q];simp⟩⟩
 by_cases hbe:b=e
 ·subst hbe;exact heo
 ·exact⟨u,k b u hbe q⟩
end
def Oq(h:Heap)(H:Hp):List Addr:=(List.range h.objs.size).filter λa=>(H a).isSome
def r8(h:Heap)(H:Hp):Heap:=PySem.W.hideAll h (Oq h H)
theorem zb(h:Heap)(H:Hp):(r8 h H).objs.size=h.objs.size:=PySem.W.hideAll_size _ _
theorem AM{h:Heap}{H:Hp}{b:Addr}{o:Obj}(e:h.get? b=some o)(n:H b=none):(r8 h H).get? b=some o :=
 PySem.W.hideAll_get _ e λhm=>by
  have q:(H b).isSome=true:=(List.mem_filter.mp hm).2;rw[n]at q;simp at q
theorem D5{h:Heap}{H:Hp}{b:Addr}{o:Obj}(e:(r8 h H).get? b=some o):h.get? b=some o/\H b=none:=by
 have e':h.get? b=some o:=PySem.W.of_hideAll (Oq h H) e;refine⟨e',?_⟩
 cases q:H b with
 | none=>rfl
 | some x =>
  have hm:b∈Oq h H:=List.mem_filter.mpr ⟨List.mem_range.mpr (Heap.lt_size e'),by simp[q]⟩;have z:(r8 h H).get? b=none:=PySem.W.hideAll_none (Oq h H) hm;rw[z]at e;cases e
def D6(g h:Heap)(L:Addr):List (Addr×Obj):=(List.range h.objs.size).filterMap λa=>if a=L∨(g.get? a).isSome=true then none else(h.get? a).map λo=>(a,o)
def rest(g h:Heap)(L d:Addr):List (Addr×Obj):=(D6 g h L).filter λp=>decide (p.1≠d)
structure Mod(K:aE)(mg:Str->Option Value)(base:Heap):Prop where
 kin:K.In base
 glob:base.Ns mainGlobals mg
 blt:∃mb,base.Ns builtinsNs mb/\∀x:Str,x≠"__name__"->mb x=bootBuiltins x
 nolimit:base.NoLimit
structure Cx where
 prog:Program
 w:World
 K:aE
 mg:Str->Option Value
 base:Heap
 A:Around
 N:List Str
 s₀:Shared
 H₀:Hp
 env:Env
 outer:List Env
 stack:List Env
 ex:List Addr
 fn:Str->Bool
 calm:Bool
 pn:List (Addr×Obj)
 xe:Value->Shared->Prop
def gQ(l:List Env):List Addr:=l.filterMap (·.frame)
abbrev Cx.fs(X:Cx):List Addr:=gQ X.outer
def Ot(sc:Scope)(x:Str):Prop:=sc.names.lookup x=some .local∨sc.names.lookup x=some .cell∨sc.names.lookup x=some .free
def Loc(sc:Scope)(x:Str):Prop:=sc.names.lookup x=some .local∨sc.names.lookup x=some .cell
def Look(env:Env)(h:Heap)(m:Str->Option Value)(x:Str)(u:Value):Prop :=
 (env.kindOf x=some .local/\m x=some u)∨((env.kindOf x=some .cell∨env.kindOf x=some .free)/\∃c,env.cells.lookup x=some c/\h.IsCell c (some u))
structure Cx.Ok(X:Cx):Prop where
 mod:Mod X.K X.mg X.base
 kind:X.env.scope.kind=.function
 glob:X.env.globals=mainGlobals
 blt:X.env.builtins=builtinsNs
 above:X.s₀.heap.objs.size<=X.env.locals
 inj:∀x y c,X.env.cells.lookup x=some c->X.env.cells.lookup y=some c->x=y
 has:∀x,(X.env.kindOf x=some .cell∨X.env.kindOf x=some .free)->∃c,X.env.cells.lookup x=some c
 cab:∀x c,X.fn x=true->X.env.cells.lookup x=some c->X.s₀.heap.objs.size<=c
 hd:X.calm=true->X.A.handled=none
 frames:X.A.frames=some X.stack
 stk:X.stack=X.outer∨(X.stack=X.env::X.outer/\X.env.frame=some X.env.locals)
 exf:∀b∈X.ex,b≠X.env.locals/\∀x c,X.env.cells.lookup x=some c->c≠b
 bs:∀b o,X.base.get? b=some o->X.s₀.heap.get? b=some o/\X.H₀ b=none
 bsz:X.base.objs.size<=X.s₀.heap.objs.size
 noex:∀b o,X.base.get? b=some o->b∉X.ex
 exfs:∀b∈X.ex,b∉X.fs
 mQ:X.s₀.heap.FunFrames X.base X.outer
 frf:∀b∈X.fs,X.H₀ b=none
structure Inv(X:Cx)(pins:List (Addr×Obj))(σ:List (Option V))(H:Hp)(s:Shared):Prop where
 ok:X.Ok
 os:s.os=X.s₀.os
 bare:AllBare s.gens
 base:Un X.fs X.ex X.H₀ H X.s₀.heap s.heap
 loc:∃m,s.heap.Ns X.env.locals m/\∀(i:Nat) (x:Str) (v:V),X.N[i]?=some x->σ[i]?=some (some v)->Ot X.env.scope x->∃u,RelV v u/\Look X.env s.heap m x u
 cell:∀x c,X.env.cells.lookup x=some c->∃v,s.heap.IsCell c v
 free:H X.env.locals=none
 freeC:∀x c,X.env.cells.lookup x=some c->H c=none
 pin:∀p∈X.pn++pins,s.heap.get? p.1=some p.2/\H p.1=none/\p.1≠X.env.locals/\p.1∉X.fs/\∀v,p.2.data≠.cell v
 hok:jW X.prog X.w H s.heap
 len:σ.length=X.N.length
section
variable {X:Cx} {pins:List (Addr×Obj)} {σ:List (Option V)} {H H':Hp} {s:Shared} {h':Heap}
theorem Cx.Ok.OZ(ok:X.Ok){b:Addr}{o:Obj}(e:X.base.get? b=some o):b∉X.fs:=λhb=>by
 have:=(ok.mQ.mem hb).1;rw[e]at this;cases this
theorem Inv.bs(I:Inv X pins σ H s):∀b o,X.base.get? b=some o->s.heap.get? b=some o/\H b=none:=λb o e =>
 ⟨I.base.keep b o (I.ok.bs b o e).1 (I.ok.bs b o e).2 (I.ok.OZ e) (I.ok.noex b o e),I.base.free b o (I.ok.bs b o e).1 (I.ok.bs b o e).2 (I.ok.noex b o e)⟩
theorem Inv.bk(I:Inv X pins σ H s):∀b o,X.base.get? b=some o->s.heap.get? b=some o:=λb o e=>(I.bs b o e).1
theorem Inv.mod(I:Inv X pins σ H s):Mod X.K X.mg X.base:=I.ok.mod
theorem Inv.iM(I:Inv X pins σ H s):X.K.In s.heap:=I.ok.mod.kin.keeps I.bk
theorem Inv.lt(I:Inv X pins σ H s):X.env.locals < s.heap.objs.size:=let ⟨_,hn,_⟩:=I.loc;hn.lt
theorem Inv.sz(I:Inv X pins σ H s):X.s₀.heap.objs.size<=s.heap.objs.size:=Xh I.ok.above (Yi I.lt)
theorem Inv.O0(I:Inv X pins σ H s){a:Addr}(h:s.heap.objs.size<=a):a∉X.fs:=λhb=>by
 obtain⟨_,o,ho,_⟩:=I.ok.mQ.mem hb;exact absurd (WV (WT ho) (Xh I.sz h)) (Xm _)
theorem Inv.D7(I:Inv X pins σ H s):∀x c,X.env.cells.lookup x=some c->c≠X.env.locals:=λx c e z=>by
 obtain⟨v,o,ho,hd⟩:=I.cell x c e;obtain⟨m,⟨o',es,ep,ho',hd',_⟩,_⟩:=I.loc;rw[z,ho']at ho;cases ho;rw[hd']at hd;cases hd
theorem Inv.mQ(I:Inv X pins σ H s):s.heap.FunFrames X.base X.outer:=by
 have all:∀(l:List Env),(∀b∈gQ l,b∈X.fs)->X.s₀.heap.FunFrames X.base l->s.heap.FunFrames X.base l:=by
  intro l
  induction l with
  | nil=>intro _ _;trivial
  | cons env r ih =>
   intro hs hl;obtain⟨hk,⟨L,o,hf,hn,ho,hd⟩,hr⟩:=hl;have hL:L∈X.fs:=hs L (by unfold gQ;rw[List.filterMap_cons,hf];exact List.mem_cons_self);obtain⟨sl,e⟩:=I.base.slot L o ho (I.ok.frf L hL) hL λz=>I.ok.exfs L z hL
   exact⟨hk,⟨L,_,hf,hn,e,hd⟩,ih (λb hb=>hs b (by unfold gQ;rw[List.filterMap_cons,hf];exact List.mem_cons_of_mem _ hb)) hr⟩
 exact all X.outer (λ_ hb=>hb) I.ok.mQ
theorem Inv.stack(I:Inv X pins σ H s):s.heap.FunFrames X.base X.stack:=by
 rcases I.ok.stk with e | ⟨e,hf⟩
 ·rw[e];exact I.mQ
 ·rw[e];obtain⟨m,hn,_⟩:=I.loc;refine .cons (by rw[I.ok.kind];decide) hf hn ?_ I.mQ;exact Heap.get?_none_of_le (Xh I.ok.bsz I.ok.above)
theorem Inv.wa(I:Inv X pins σ H s):∀b∈gQ X.stack,b∈X.env.locals::X.fs:=λb hb=>by
 rcases I.ok.stk with e | ⟨e,hf⟩
 ·rw[e]at hb;exact W9 _ hb
 ·rw[e]at hb;unfold gQ at hb;rw[List.filterMap_cons,hf]at hb;exact hb
theorem Inv.kD(I:Inv X pins σ H s):∀b∈gQ X.stack,H b=none:=λb hb=>by
 rcases Xj.mp (I.wa b hb)with e | hb
 ·rw[e];exact I.free
 ·obtain⟨_,o,ho,_⟩:=I.ok.mQ.mem hb;exact I.base.free b o ho (I.ok.frf b hb) λz=>I.ok.exfs b z hb
theorem Inv.step{g':Array GenState}{t':Nat}{d':Drawn}{ch:List Addr}(I:Inv X pins σ H s)
  (hch:∀b∈ch,(b∈X.ex∨X.s₀.heap.objs.size<=b)/\b≠X.env.locals/\(∀x c,X.env.cells.lookup x=some c->c≠b)/\∀p∈X.pn++pins,p.1≠b)
  (keep:∀b o,b≠X.env.locals->b∉X.fs->b∉ch->s.heap.get? b=some o->H b=none->h'.get? b=some o)
  (slot:∀b o,b≠X.env.locals->b∈X.fs->b∉ch->s.heap.get? b=some o->H b=none->∃sl,h'.get? b=some {o with slots:=sl}) (free:∀b o,b∉ch->s.heap.get? b=some o->H b=none->H' b=none)
  (there:∀b o,b∉ch->s.heap.get? b=some o->∃o',h'.get? b=some o')
  (tups:∀b xs,H b=some (.tup xs)->H' b=some (.tup xs)) (eA:∀b o u,H b=some (.kS o u)->H' b=some (.kS o u)) (tbls:∀b ps,H b=some (.tbl ps)->∃more,H' b=some (.tbl (ps++more)))
  (ns:∀m,s.heap.Ns X.env.locals m->h'.Ns X.env.locals m) (hok:jW X.prog X.w H' h') (hg:AllBare g') :
  Inv X pins σ H' {s with heap:=h',gens:=g',drawn:=d',toks:=t'}:=by
 have neL:∀b o,X.s₀.heap.get? b=some o->b≠X.env.locals:=λb o e=>W5 (WV (WT e) I.ok.above)
 have neC:∀b o,X.s₀.heap.get? b=some o->b∉X.ex->b∉ch:=λb o e hx hb=>by
  rcases (hch b hb).1 with z | z
  ·exact hx z
  ·exact absurd (WV (WT e) z) (Xm _)
 have cellK:∀x c,X.env.cells.lookup x=some c->∀v,s.heap.IsCell c v->h'.IsCell c v:=λx c e v ⟨o,ho,hd⟩=>by
  have nch:c∉ch:=λz=>(hch c z).2.2.1 x c e rfl
  by_cases hc:c∈X.fs
  ·obtain⟨sl,q⟩:=slot c o (I.D7 x c e) hc nch ho (I.freeC x c e);exact⟨_,q,hd⟩
  ·exact⟨o,keep c o (I.D7 x c e) hc nch ho (I.freeC x c e),hd⟩
 refine⟨I.ok,I.os,hg,⟨λb o e n hb hx=>?_,λb o e n hb hx=>?_,λb o e n hx=>?_,λb o e hx=>?_,λb xs e=>tups b xs (I.base.tups b xs e),λb o xs e=>eA b o xs (I.base.eA b o xs e),λb ps e=>?_⟩,?_,λx c e=>?_,?_,λx c e=>?_,λp hp=>?_,hok,I.len⟩
 ·exact keep b o (neL b o e) hb (neC b o e hx) (I.base.keep b o e n hb hx) (I.base.free b o e n hx)
 ·obtain⟨sl,e1⟩:=I.base.slot b o e n hb hx;obtain⟨sl',e2⟩:=slot b _ (neL b o e) hb (neC b o e hx) e1 (I.base.free b o e n hx);exact⟨sl',e2⟩
 ·obtain⟨o',e1⟩:=I.base.there b o e hx;exact free b o' (neC b o e hx) e1 (I.base.free b o e n hx)
 ·obtain⟨o',e1⟩:=I.base.there b o e hx;exact there b o' (neC b o e hx) e1
 ·obtain⟨m1,e1⟩:=I.base.tbls b ps e;obtain⟨m2,e2⟩:=tbls b _ e1;exact⟨m1++m2,by rw[e2,Array.append_assoc]⟩
 ·obtain⟨m,hn,hl⟩:=I.loc;refine⟨m,ns m hn,λi x v e1 e2 e3=>?_⟩;obtain⟨u,r,l⟩:=hl i x v e1 e2 e3;refine⟨u,r,?_⟩;rcases l with l | ⟨k,c,e,z⟩
  ·exact .inl l
  ·exact .inr ⟨k,c,e,cellK x c e _ z⟩
 ·obtain⟨v,z⟩:=I.cell x c e;exact⟨v,cellK x c e v z⟩
 ·obtain⟨m,⟨o,_,_,ho,_⟩,_⟩:=I.loc;exact free _ o (λz=>(hch _ z).2.1 rfl) ho I.free
 ·obtain⟨v,o,ho,hd⟩:=I.cell x c e;exact free c o (λz=>(hch c z).2.2.1 x c e rfl) ho (I.freeC x c e)
 ·obtain⟨e,n,ne,nf,d⟩:=I.pin p hp;have nch:p.1∉ch:=λz=>(hch p.1 z).2.2.2 p hp rfl
  exact⟨keep p.1 p.2 ne nf nch e n,free p.1 p.2 nch e n,ne,nf,d⟩
theorem Inv.un{t':Nat}(I:Inv X pins σ H s)(u:Un X.fs [] H H' s.heap h')(hok:jW X.prog X.w H' h'):Inv X pins σ H' {s with heap:=h',toks:=t'}:=by
 obtain⟨m,⟨o,es,ep,ho,r⟩,_⟩:=id I.loc;obtain⟨sl,hL⟩:=u.any ho I.free (by simp)
 exact I.step (g':=s.gens) (d':=s.drawn) (ch:=[]) (λ_ z=>nomatch z) (λb o _ hb _ e n=>u.keep b o e n hb (by simp)) (λb o _ hb _ e n=>u.slot b o e n hb (by simp)) (λb o _ e n=>u.free b o e n (by simp)) (λb o _ e=>u.there b o e (by simp)) u.tups u.eA u.tbls (λm' hm=>by
  obtain⟨o',es',ep',ho',r'⟩:=hm;rw[ho]at ho';cases ho';exact⟨_,es',ep',hL,r'⟩) hok I.bare
theorem Inv.call{g':Array GenState}{t':Nat}{d':Drawn}{ch:List Addr}(I:Inv X pins σ H s)(u:Un (gQ X.stack) ch H H' s.heap h')(hok:jW X.prog X.w H' h')(hg:AllBare g')
  (hch:∀b∈ch,(b∈X.ex∨X.s₀.heap.objs.size<=b)/\b≠X.env.locals/\(∀x c,X.env.cells.lookup x=some c->c≠b)/\∀p∈X.pn++pins,p.1≠b) :
  Inv X pins σ H' {s with heap:=h',gens:=g',drawn:=d',toks:=t'}:=by
 obtain⟨m,⟨o,es,ep,ho,r⟩,_⟩:=id I.loc;obtain⟨sl,hL⟩:=u.any ho I.free λz=>(hch _ z).2.1 rfl
 exact I.step (ch:=ch) hch (λb o hL hb hc e n=>u.keep b o e n (λz=>(Xj.mp (I.wa b z)).elim hL hb) hc) (λb o _ _ hc e n=>u.any e n hc) (λb o hc e n=>u.free b o e n hc) (λb o hc e=>u.there b o e hc) u.tups u.eA u.tbls (λm' hm=>by
  obtain⟨o',es',ep',ho',r'⟩:=hm;rw[ho]at ho';cases ho';exact⟨_,es',ep',hL,r'⟩) hok hg
theorem Inv.turned{t':Nat}{it:Addr}(I:Inv X pins σ H s)(k:∀b o,b≠it->s.heap.get? b=some o->h'.get? b=some o)(hn:H it=none)(hL:it≠X.env.locals)
  (h1:it∈X.ex∨X.s₀.heap.objs.size<=it) (h2:∀x c,X.env.cells.lookup x=some c->c≠it) (h3:∀p∈X.pn++pins,p.1≠it):Inv X pins σ H {s with heap:=h',toks:=t'}:=by
 have nit:∀b u,H b=some u->b≠it:=λb u e z=>by rw[z,hn]at e;cases e
 refine I.step (g':=s.gens) (d':=s.drawn) (ch:=[it]) (λb hb=>?_) (λb o _ _ hc e _=>k b o (λz=>hc (by simp[z])) e) (λb o _ _ hc e _=>⟨o.slots,k b o (λz=>hc (by simp[z])) e⟩) (λ_ _ _ _ n=>n)
  (λb o hc e=>⟨o,k b o (λz=>hc (by simp[z])) e⟩) (λ_ _ e=>e) (λ_ _ _ e=>e) (λb ps e=>⟨#[],by rw[e];simp⟩) (λm hm=>?_) (λb u e=>?_) I.bare
 ·have e:b=it:=by simpa using hb
  subst e;exact⟨h1,hL,h2,h3⟩
 ·obtain⟨o,es,ep,ho,r⟩:=hm;exact⟨o,es,ep,k _ o (Yu hL) ho,r⟩
 ·refine(I.hok b u e).qA (λc v hc q=>k c v ?_ q) (λ_ q=>q) λ_ _ q=>q
  rcases hc with z | z
  ·rw[z];exact nit b u e
  ·exact nit c _ z
theorem Inv.tok(I:Inv X pins σ H s)(t:Nat):Inv X pins σ H {s with toks:=t}:=I.un (h':=s.heap) (t':=t) Un.refl I.hok
theorem Inv.kept{t':Nat}(I:Inv X pins σ H s)(k:∀b u,s.heap.get? b=some u->h'.get? b=some u):Inv X pins σ H {s with heap:=h',toks:=t'}:=I.un (Un.kept k) (I.hok.kept k)
theorem Inv.laid{a:Addr}{o:HO}{t':Nat}(I:Inv X pins σ H s)(k:∀b u,s.heap.get? b=some u->h'.get? b=some u)(hp:s.heap.objs.size<=a)(new:dn X.prog X.w (upd H a o) h' a o):
  Inv X pins σ (upd H a o) {s with heap:=h',toks:=t'}:=I.un (Un.laid k hp (I.hok.fresh hp)) (I.hok.laid k hp new)
theorem Inv.write{x e:Addr}{o:HO}{t':Nat}(I:Inv X pins σ H s)(mu:Mh (H x))(he:e=x∨H e=some (.own x))(k:∀b u,b≠e->s.heap.get? b=some u->h'.get? b=some u)(heo:∃u,h'.get? e=some u)
  (new:dn X.prog X.w (upd H x o) h' x o):Inv X pins σ (upd H x o) {s with heap:=h',toks:=t'}:=I.un (Un.write mu he k heo) (I.hok.write mu he k heo new)
theorem Inv.weak{σ':List (Option V)}(I:Inv X pins σ H s)(hl:σ'.length=σ.length)(w:∀(i:Nat) v,σ'[i]?=some (some v)->σ[i]?=some (some v)):Inv X pins σ' H s :=
 ⟨I.ok,I.os,I.bare,I.base,let ⟨m,hn,hl'⟩:=I.loc;⟨m,hn,λi x v e1 e2 e3=>hl' i x v e1 (w i v e2) e3⟩,I.cell,I.free,I.freeC,I.pin,I.hok,hl.trans I.len⟩
theorem Inv.xW{pins':List (Addr×Obj)}(I:Inv X pins σ H s)(h:∀p∈pins',s.heap.get? p.1=some p.2/\H p.1=none/\p.1≠X.env.locals/\p.1∉X.fs/\∀v,p.2.data≠.cell v):Inv X pins' σ H s :=
 ⟨I.ok,I.os,I.bare,I.base,I.loc,I.cell,I.free,I.freeC,λp hp=>(X9.mp hp).elim (λz=>I.pin p (List.mem_append_left _ z)) (h p),I.hok,I.len⟩
theorem oP{N:List Str}(hN:N.Nodup){i j:Nat}{x:Str}(a:N[i]?=some x)(b:N[j]?=some x):i=j:=by
 obtain⟨h1,e1⟩:=er a;obtain⟨h2,e2⟩:=er b;exact(List.getElem_inj hN).mp (e1.trans e2.symm)
theorem mR{M:Model}{A:Around}{E:Value->Shared->Prop}{i:Nat}{x:Str}{v:V}{u:Value}{Q:Unit->Shared->Prop}(I:Inv X pins σ H s)(hN:X.N.Nodup)(hi:X.N[i]?=some x)(hx:Loc X.env.scope x)(r:RelV v u)
  (h:∀s',Inv X pins (σ.set i (some v)) H s'->(∃a,Heap.SameBut a s.heap s'.heap/\(a=X.env.locals∨X.env.cells.lookup x=some a))->Q () s') (hf:X.fn x=true∨X.env.scope.names.lookup x=some .local:=by first | exact .inl rfl | exact .inr rfl | assumption):wpAny M A (storeName X.env x u) Q E s:=by
 obtain⟨m,hn,hl⟩:=id I.loc;have hcls:(X.env.scope.kind == .class||(X.env.scope.kind == .module&&X.env.locals != X.env.globals))=false:=by rw[I.ok.kind];rfl
 have hiσ:i < σ.length:=by rw[I.len];exact(er hi).1
 have D7:=I.D7
 have tracked:∀{a:Addr} {h':Heap},(∃o,s.heap.get? a=some o/\H a=none)->Heap.SameBut a s.heap h'->jW X.prog X.w H h':=λ{a h'} ha hs b ob e=>by
  obtain⟨_,_,hfree⟩:=ha;refine(I.hok b ob e).qA (λc w' hc q=>(hs.2 c ?_).trans q) (λ_ q=>q) λ_ _ q=>q
  rintro rfl;rcases hc with rfl | hc
  ·rw[hfree]at e;cases e
  ·rw[hfree]at hc;cases hc
 rcases hx with hk | hk
 ·refine wpAny_storeName_local hk hn (λh' hn' hs=>?_) hcls;obtain⟨oL,_,_,hoL,_⟩:=id hn;refine h _ ⟨I.ok,I.os,I.bare,⟨λb o e n hb hx=>?_,λb o e n hb hx=>?_,I.base.free,λb o e hx=>?_,I.base.tups,I.base.eA,I.base.tbls⟩,⟨_,hn',λj y v' e1 e2 e3=>?_⟩,λy c e=>?_,I.free,I.freeC,λp hp=>?_,tracked ⟨oL,hoL,I.free⟩ hs,by simpa using I.len⟩ ⟨_,hs,.inl rfl⟩
  ·exact(hs.2 b (W5 (WV (WT e) I.ok.above))).trans (I.base.keep b o e n hb hx)
  ·obtain⟨sl,e1⟩:=I.base.slot b o e n hb hx;exact⟨sl,(hs.2 b (W5 (WV (WT e) I.ok.above))).trans e1⟩
  ·obtain⟨o',e1⟩:=I.base.there b o e hx;exact⟨o',(hs.2 b (W5 (WV (WT e) I.ok.above))).trans e1⟩
  ·by_cases hj:j=i
   ·subst hj;rw[hi]at e1;cases e1;rw[List.getElem?_set_self hiσ]at e2;cases e2;exact⟨u,r,.inl ⟨hk,by simp⟩⟩
   ·rw[W8 (Yu hj)]at e2;obtain⟨u',r',q⟩:=hl j y v' e1 e2 e3;refine⟨u',r',?_⟩;rcases q with⟨k,e⟩ | ⟨k,c,e,z⟩
    ·refine .inl ⟨k,?_⟩;have:y≠x:=λe=>hj (oP hN e1 (e ▸ hi))
     simp[this,e]
    ·exact .inr ⟨k,c,e,z.sameBut hs (D7 y c e)⟩
  ·obtain⟨w',z⟩:=I.cell y c e;exact⟨w',z.sameBut hs (D7 y c e)⟩
  ·obtain⟨e,n,ne,nf,d⟩:=I.pin p hp;exact⟨(hs.2 p.1 ne).trans e,n,ne,nf,d⟩
 ·have hfn:X.fn x=true:=by
   rcases hf with z | z
   ·exact z
   ·rw[z]at hk;cases hk
  obtain⟨c,hc⟩:=I.ok.has x (.inl hk);obtain⟨w',z⟩:=I.cell x c hc;refine wpAny_storeName_cell I.ok.kind hk hc z (λh' hc' hs=>?_);obtain⟨oc,hoc,hocd⟩:=id z;refine h {s with heap:=h'} ⟨I.ok,I.os,I.bare,⟨λb o e n hb hx=>?_,λb o e n hb hx=>?_,I.base.free,λb o e hx=>?_,I.base.tups,I.base.eA,I.base.tbls⟩,⟨m,hn.sameBut hs (Ne.symm (D7 x c hc)),λj y v' e1 e2 e3=>?_⟩,λy c' e=>?_,I.free,I.freeC,λp hp=>?_,tracked ⟨oc,hoc,I.freeC x c hc⟩ hs,by simpa using I.len⟩ ⟨c,hs,.inr hc⟩
  ·exact(hs.2 b (W5 (WV (WT e) (I.ok.cab x c hfn hc)))).trans (I.base.keep b o e n hb hx)
  ·obtain⟨sl,e1⟩:=I.base.slot b o e n hb hx;exact⟨sl,(hs.2 b (W5 (WV (WT e) (I.ok.cab x c hfn hc)))).trans e1⟩
  ·obtain⟨o',e1⟩:=I.base.there b o e hx;exact⟨o',(hs.2 b (W5 (WV (WT e) (I.ok.cab x c hfn hc)))).trans e1⟩
  ·by_cases hj:j=i
   ·subst hj;rw[hi]at e1;cases e1;rw[W3 hiσ]at e2;cases e2;exact⟨u,r,.inr ⟨.inl hk,c,hc,hc'⟩⟩
   ·rw[W8 (Yu hj)]at e2;obtain⟨u',r',q⟩:=hl j y v' e1 e2 e3;refine⟨u',r',?_⟩;rcases q with q | ⟨k,c',e,z'⟩
    ·exact .inl q
    ·refine .inr ⟨k,c',e,z'.sameBut hs ?_⟩;rintro rfl;exact hj (oP hN e1 (I.ok.inj _ _ _ e hc ▸ hi))
  ·by_cases hcc:c'=c
   ·subst hcc;exact⟨_,hc'⟩
   ·obtain⟨w2,z2⟩:=I.cell y c' e;exact⟨w2,z2.sameBut hs hcc⟩
  ·obtain⟨e,n,ne,nf,d⟩:=I.pin p hp;refine⟨(hs.2 p.1 ?_).trans e,n,ne,nf,d⟩;intro q;rw[q,hoc]at e;have q':oc=p.2:=W0 e;exact d w' (by rw[← q'];exact hocd)
theorem uz{M:Model}{A:Around}{E:Value->Shared->Prop}{i:Nat}{x:Str}{v:V}{u:Value}{Q:Unit->Shared->Prop}(I:Inv X pins σ H s)(hN:X.N.Nodup)(hi:X.N[i]?=some x)(hx:Loc X.env.scope x)(r:RelV v u)
  (h:∀s',Inv X pins (σ.set i (some v)) H s'->Q () s') (hf:X.fn x=true∨X.env.scope.names.lookup x=some .local:=by first | exact .inl rfl | exact .inr rfl | assumption):wpAny M A (storeName X.env x u) Q E s :=
 mR I hN hi hx r (λs' I' _=>h s' I') hf
theorem Inv.xX{s':Shared}{ch:List Addr}(I:Inv X pins σ H s)(ho:s'.os=s.os)(u:Un (gQ X.stack) ch H H' s.heap s'.heap)(hok:jW X.prog X.w H' s'.heap)(hg:AllBare s'.gens)
  (hch:∀b∈ch,(b∈X.ex∨X.s₀.heap.objs.size<=b)/\b≠X.env.locals/\(∀x c,X.env.cells.lookup x=some c->c≠b)/\∀p∈X.pn++pins,p.1≠b):Inv X pins σ H' s':=by
 obtain⟨h',g',d',t',o'⟩:=s';have e:o'=s.os:=ho;subst e;exact I.call (g':=g') (t':=t') (d':=d') u hok hg hch
end
abbrev XK:=Value->Option Addr->Hp->Prop
abbrev St:=List (Option V)
abbrev VK:=V->Hp->Prop
abbrev TE:=St->Hp->VK->Prop
abbrev TT:=St->Hp->(Bool->Hp->Prop)->Prop
abbrev TA:=St->Hp->(List V->Hp->Prop)->Prop
structure Ends where
 nx:St->Hp->Prop
 rt:VK
 bk:St->Hp->Prop:=λ_ _=>False
 ct:St->Hp->Prop:=λ_ _=>False
abbrev TS:=Ends->St->Hp->Prop
def EP(X:Cx)(pins:List (Addr×Obj))(σ:St)(Q:VK)(u:Value)(s':Shared):Prop:=∃v H',Inv X pins σ H' s'/\RelV v u/\Q v H'
def TP(X:Cx)(pins:List (Addr×Obj))(σ:St)(Q:Bool->Hp->Prop)(b:Bool)(s':Shared):Prop:=∃H',Inv X pins σ H' s'/\Q b H'
def AP(X:Cx)(pins:List (Addr×Obj))(σ:St)(Q:List V->Hp->Prop)(us:List Value)(s':Shared):Prop:=∃vs H',Inv X pins σ H' s'/\Vals vs us/\Q vs H'
def SP(X:Cx)(pins:List (Addr×Obj))(D:Ends)(f:Flow)(s':Shared):Prop :=
 match f with
 | .next=>∃σ' H',Inv X pins σ' H' s'/\D.nx σ' H'
 | .brk=>∃σ' H',Inv X pins σ' H' s'/\D.bk σ' H'
 | .cont=>∃σ' H',Inv X pins σ' H' s'/\D.ct σ' H'
 | .ret u=>∃v σ' H',Inv X pins σ' H' s'/\RelV v u/\D.rt v H'
def PE(X:Cx)(e:Expr)(t:TE):Prop :=
 ∀(pins:List (Addr×Obj)) (s:Shared) (σ:St) (H:Hp) (Q:VK),Inv X pins σ H s->t σ H Q->wpAny (model X.prog X.w) X.A (eval e X.env) (EP X pins σ Q) X.xe s
def PT(X:Cx)(e:Expr)(t:TT):Prop :=
 ∀(pins:List (Addr×Obj)) (s:Shared) (σ:St) (H:Hp) (Q:Bool->Hp->Prop),Inv X pins σ H s->t σ H Q->wpAny (model X.prog X.w) X.A (isTrue e X.env (eval e X.env)) (TP X pins σ Q) X.xe s
def PW(X:Cx)(e:Expr)(t:TT):Prop :=
 ∀(whole:Sem Value) (pins:List (Addr×Obj)) (s:Shared) (σ:St) (H:Hp) (Q:Bool->Hp->Prop),Inv X pins σ H s->t σ H Q->wpAny (model X.prog X.w) X.A (isTrue e X.env whole) (TP X pins σ Q) X.xe s
theorem PW.pt{X:Cx}{e:Expr}{t:TT}(h:PW X e t):PT X e t:=h _
def PA(X:Cx)(es:List Expr)(t:TA):Prop :=
 ∀(pos:Pos) (pins:List (Addr×Obj)) (s:Shared) (σ:St) (H:Hp) (Q:List V->Hp->Prop),Inv X pins σ H s->t σ H Q->wpAny (model X.prog X.w) X.A (spliced (backTo pos (starEach es X.env))) (AP X pins σ Q) X.xe s
def PS(X:Cx)(st:Stmt)(t:TS):Prop :=
 ∀(pins:List (Addr×Obj)) (s:Shared) (σ:St) (H:Hp) (D:Ends),Inv X pins σ H s->t D σ H->wpAny (model X.prog X.w) X.A (exec st X.env) (SP X pins D) X.xe s
def oy(X:Cx)(st:List Stmt)(t:TS):Prop :=
 ∀(pins:List (Addr×Obj)) (s:Shared) (σ:St) (H:Hp) (D:Ends),Inv X pins σ H s->t D σ H->wpAny (model X.prog X.w) X.A (execs st X.env) (SP X pins D) X.xe s
theorem bD{α:Type}{t:Sem α}{Q Q':α->Shared->Prop}{M:Model}{A:Around}{E:Value->Shared->Prop}{s:Shared}(h:wpAny M A t Q E s)(hQ:∀a s,Q a s->Q' a s):wpAny M A t Q' E s:=Xa h hQ λ_ _ x=>x
section
variable {X:Cx}
def D8(i:Nat):TE:=λσ H Q=>∃v,σ[i]?=some (some v)/\Q v H
def tC(v:V):TE:=λ_ H Q=>Q v H
theorem AN{i:Nat}{x:Str}{pos:Pos}(hN:X.N[i]?=some x)(hv:Ot X.env.scope x)(hd:(x == ("__debug__" : Str))=false:=by decide)(hcd:(x == ("__classdict__" : Str))=false:=by decide):PE X (.Name x pos) (D8 i):=by
 intro pins s σ H Q I h;obtain⟨v,e,h⟩:=h;obtain⟨m,hn,hl⟩:=I.loc;obtain⟨u,r,l⟩:=hl i x v hN e hv;have fin:EP X pins σ Q u s:=⟨v,H,I,r,h⟩;rcases l with⟨hk,hm⟩ | ⟨hk,c,hc,hcell⟩
 ·exact wpAny_Name (wpAny_loadName_local I.ok.kind hk hn hm fin) hd
 ·rcases hk with hk | hk
  ·exact wpAny_Name (wpAny_loadName_cell I.ok.kind hk hc hcell fin) hd
  ·exact wpAny_Name (wpAny_loadName_free I.ok.kind hk hc hcell fin hcd) hd
theorem pI{i j pos}:PE X (.Constant (.int i) j pos) (tC (.int i)):=λ_ _ _ H _ I h=>wpAny_Constant_int ⟨.int i,H,I.tok _,⟨_,rfl⟩,h⟩
theorem xY{b j pos}:PE X (.Constant (.bool b) j pos) (tC (.bl b)):=λ_ _ _ H _ I h=>Constant_bool ⟨.bl b,H,I,rfl,h⟩
theorem kY{j pos}:PE X (.Constant .none j pos) (tC .non):=λ_ _ _ H _ I h=>Constant_none ⟨.non,H,I,rfl,h⟩
theorem aW{x j pos}:PE X (.Constant (.str x) j pos) (tC (.str x)):=λ_ _ _ H _ I h=>Calls.Constant_str ⟨.str x,H,I.tok _,⟨_,rfl⟩,h⟩
def Gl(X:Cx)(x:Str):Prop:=X.env.kindOf x=some .globalImplicit
theorem gR{E:Value->Shared->Prop}{pins:List (Addr×Obj)}{s:Shared}{σ:St}{H:Hp}{x:Str}{u:Value}{pos:Pos}{Q:Value->Shared->Prop}(I:Inv X pins σ H s)(hg:Gl X x)(hm:X.mg x=some u)(h:Q u s)
  (hd:(x == ("__debug__" : Str))=false:=by decide):wpAny (model X.prog X.w) X.A (eval (.Name x pos) X.env) Q E s :=
 YF I.ok.kind hg (Calls.loadGlobal_global (by rw[I.ok.glob];exact I.mod.glob.keeps I.bk) hm h) hd
theorem mS{E:Value->Shared->Prop}{pins:List (Addr×Obj)}{s:Shared}{σ:St}{H:Hp}{x:Str}{u:Value}{pos:Pos}{Q:Value->Shared->Prop}(I:Inv X pins σ H s)(hg:Gl X x)(hm:X.mg x=none)(hv:bootBuiltins x=some u)(h:Q u s)
  (hn:x≠"__name__":=by decide) (hd:(x == ("__debug__" : Str))=false:=by decide):wpAny (model X.prog X.w) X.A (eval (.Name x pos) X.env) Q E s:=by
 obtain⟨mb,h1,h2⟩:=I.mod.blt;exact YF I.ok.kind hg (Calls.loadGlobal_builtin (by rw[I.ok.glob];exact I.mod.glob.keeps I.bk) hm (by rw[I.ok.blt];exact h1.keeps I.bk) ((h2 x hn).trans hv) h) hd
theorem lR{x:Str}{v:V}{u:Value}{pos:Pos}(hg:Gl X x)(hm:X.mg x=some u)(r:RelV v u)(hd:(x == ("__debug__" : Str))=false:=by decide):PE X (.Name x pos) (tC v) :=
 λ_ _ _ H _ I h=>gR I hg hm ⟨v,H,I,r,h⟩ hd
theorem D9{x:Str}{v:V}{u:Value}{pos:Pos}(hg:Gl X x)(hm:X.mg x=none)(hv:bootBuiltins x=some u)(r:RelV v u)(hn:x≠"__name__":=by decide)(hd:(x == ("__debug__" : Str))=false:=by decide):PE X (.Name x pos) (tC v) :=
 λ_ _ _ H _ I h=>mS I hg hm hv ⟨v,H,I,r,h⟩ hn hd
variable {a b:Expr} {ta tb:TE} {pos:Pos}
def tB(t:TE):TT:=λσ H Q=>t σ H λx H1=>∃c,x=.bl c/\Q c H1
theorem kZ{e:Expr}{t:TE}(h:PE X e t)(he:∀whole,isTrue e X.env whole=(do let v ← whole;standAt e.pos;holding [v] (truthy v)):=by intro _;rfl):PT X e (tB t):=by
 intro pins s σ H Q I hw;refine isTrue_plain (bD (h pins s σ H _ I hw) λv s1 ⟨x,H1,I1,r1,q1⟩=>?_) (he _);obtain⟨d,rfl,q⟩:=q1;cases r1;exact Yh ⟨H1,I1,q⟩
variable {tA tB':TT} {rest:List Expr}
def Mi(t u:TT):TT:=λσ H Q=>t σ H λc H1=>if c=true then u σ H1 Q else Q false H1
def RF(t u:TT):TT:=λσ H Q=>t σ H λc H1=>if c=true then Q true H1 else u σ H1 Q
def O1(t:TT):TT:=λσ H Q=>t σ H λc H1=>Q (!c) H1
theorem pw_and1(ha:PT X a tA):PW X (.BoolOp .And [a] pos) tA:=by
 intro wh pins s σ H Q I h;refine isTrue_and (bD (ha pins s σ H Q I h) λc s1 e=>?_)
 cases c with
 | true=>exact isTrue_and_nil e
 | false=>exact e
theorem pw_or1(ha:PT X a tA):PW X (.BoolOp .Or [a] pos) tA:=by
 intro wh pins s σ H Q I h;refine isTrue_or (bD (ha pins s σ H Q I h) λc s1 e=>?_)
 cases c with
 | false=>exact isTrue_or_nil e
 | true=>exact e
theorem pw_and(ha:PT X a tA)(hb:PW X (.BoolOp .And (b::rest) pos) tB'):PW X (.BoolOp .And (a::b::rest) pos) (Mi tA tB'):=by
 intro wh pins s σ H Q I h;refine isTrue_and (bD (ha pins s σ H _ I h) λc s1 ⟨H1,I1,q1⟩=>?_)
 cases c with
 | true=>exact hb wh pins s1 σ H1 Q I1 q1
 | false=>exact⟨H1,I1,q1⟩
theorem pw_or(ha:PT X a tA)(hb:PW X (.BoolOp .Or (b::rest) pos) tB'):PW X (.BoolOp .Or (a::b::rest) pos) (RF tA tB'):=by
 intro wh pins s σ H Q I h;refine isTrue_or (bD (ha pins s σ H _ I h) λc s1 ⟨H1,I1,q1⟩=>?_)
 cases c with
 | true=>exact⟨H1,I1,q1⟩
 | false=>exact hb wh pins s1 σ H1 Q I1 q1
theorem oQ(ha:PT X a tA):PT X (.UnaryOp .Not a pos) (O1 tA):=by
 intro pins s σ H Q I h;exact isTrue_not (ha pins s σ H (λc H1=>Q (!c) H1) I h)
def TV(t:TT)(ta tb:TE):TE:=λσ H Q=>t σ H λc H1=>if c=true then ta σ H1 Q else tb σ H1 Q
theorem oR{c:Expr}(hc:PT X c tA)(ha:PE X a ta)(hb:PE X b tb):PE X (.IfExp c a b pos) (TV tA ta tb):=by
 intro pins s σ H Q I h;refine wpAny_IfExp (bD (hc pins s σ H _ I h) λd s1 ⟨H1,I1,q1⟩=>?_)
 cases d with
 | true=>exact ha pins s1 σ H1 Q I1 q1
 | false=>exact hb pins s1 σ H1 Q I1 q1
end
def bK(K:aE)(H:Hp)(a:Addr)(xs:List V):Prop :=
 Rd H a (.lst xs) ∨
  ∃(o:Obj) (its:Array Value) (n:Nat),K.lookup a=some o/\o.cls=.type "list"/\o.dict=none/\o.data=.seq its n/\its.size<=sizeLine/\Vals xs its.toList
def cg(K:aE)(H:Hp)(a:Addr)(xs:List V):Prop :=
 Rd H a (.tup xs) ∨
  ∃(o:Obj) (its:Array Value) (n:Nat),K.lookup a=some o/\o.cls=.type "tuple"/\o.data=.seq its n/\its.size<=sizeLine/\Vals xs its.toList
def O2:Value->Option V
 | .none=>some .non
 | .bool b=>some (.bl b)
 | .int i _=>some (.int i)
 | .str x _=>some (.str x)
 | .bytes b _=>some (.byt b)
 | .float b _=>some (.flt b)
 | .ref a=>some (.ref a)
 | .type n=>some (.ty n)
 | _=>none
theorem RelV.abs{x:V}{u:Value}(r:RelV x u):O2 u=some x:=by
 cases x with
 | non=>cases r;rfl
 | bl _=>cases r;rfl
 | int _=>obtain⟨t,rfl⟩:=r;rfl
 | str _=>obtain⟨t,rfl⟩:=r;rfl
 | byt _=>obtain⟨t,rfl⟩:=r;rfl
 | flt _=>obtain⟨t,rfl⟩:=r;rfl
 | ref _=>cases r;rfl
 | ty _=>cases r;rfl
theorem RelV.inj{x y:V}{u:Value}(r:RelV x u)(q:RelV y u):x=y:=W0 (r.abs.symm.trans q.abs)
theorem Vals.inj:∀{xs ys:List V} {us:List Value},Vals xs us->Vals ys us->xs=ys
 | _,_,_,.nil,.nil=>rfl
 | _,_,_,.cons r t,.cons r' t'=>by rw[r.inj r',Vals.inj t t']
section
variable {X:Cx} {pins:List (Addr×Obj)} {σ:St} {H:Hp} {s:Shared} {a:Addr} {xs ys:List V}
theorem bK.of{K:aE}(h:H a=some (.lst xs)):bK K H a xs:=.inl (.inl h)
theorem cg.of{K:aE}(h:H a=some (.tup xs)):cg K H a xs:=.inl (.inl h)
theorem Inv.list(I:Inv X pins σ H s)(h:bK X.K H a xs):∃its:List Value,Vals xs its/\PlainL s.heap a its.toArray/\xs.length<=sizeLine:=by
 rcases h with h | ⟨o,its,n,hk,hc,hd,hs,hz,r⟩
 ·obtain⟨z,its,n,r,e⟩:=h.ok I.hok;exact⟨its,r,⟨_,n,e,rfl,rfl,rfl⟩,z⟩
 ·refine⟨its.toList,r,⟨o,n,I.iM a o hk,hc,hd,by simpa using hs⟩,?_⟩;have e:=r.length;simp only[Array.length_toList]at e;omega
theorem Inv.tuple(I:Inv X pins σ H s)(h:cg X.K H a xs):∃its:List Value,Vals xs its/\IsTup s.heap a its.toArray/\xs.length<=sizeLine:=by
 rcases h with h | ⟨o,its,n,hk,hc,hs,hz,r⟩
 ·obtain⟨z,its,r,p⟩:=h.ok I.hok;exact⟨its,r,p,z⟩
 ·refine⟨its.toList,r,⟨o,I.iM a o hk,hc,n,by simpa using hs⟩,?_⟩;have e:=r.length;simp only[Array.length_toList]at e;omega
theorem Inv.AQ(I:Inv X pins σ H s)(h:bK X.K H a xs)(h':bK X.K H a ys):xs=ys:=by
 obtain⟨its,r,⟨o,n,e,_,_,d⟩,_⟩:=I.list h;obtain⟨its',r',⟨o',n',e',_,_,d'⟩,_⟩:=I.list h';rw[e]at e';cases e';rw[d]at d'
 injection d' with d1 _
 have:its=its':=by simpa using congrArg Array.toList d1
 subst this;exact r.inj r'
theorem Inv.zc(I:Inv X pins σ H s)(h:cg X.K H a xs)(h':cg X.K H a ys):xs=ys:=by
 obtain⟨its,r,⟨o,e,_,n,d⟩,_⟩:=I.tuple h;obtain⟨its',r',⟨o',e',_,n',d'⟩,_⟩:=I.tuple h';rw[e]at e';cases e';rw[d]at d'
 injection d' with d1 _
 have:its=its':=by simpa using congrArg Array.toList d1
 subst this;exact r.inj r'
end
abbrev Cx.en(X:Cx)(E:Value->Shared->Prop):Cx:={X with xe:=E}
abbrev Cx.Ou(X:Cx):Cx:=X.en λ_ _=>False
theorem Cx.Ok.en{X:Cx}(ok:X.Ok)(E:Value->Shared->Prop):(X.en E).Ok :=
 ⟨ok.mod,ok.kind,ok.glob,ok.blt,ok.above,ok.inj,ok.has,ok.cab,ok.hd,ok.frames,ok.stk,ok.exf,ok.bs,ok.bsz,ok.noex,ok.exfs,ok.mQ,ok.frf⟩
theorem Cx.Ok.e9{X:Cx}{E:Value->Shared->Prop}(ok:(X.en E).Ok):X.Ok :=
 ⟨ok.mod,ok.kind,ok.glob,ok.blt,ok.above,ok.inj,ok.has,ok.cab,ok.hd,ok.frames,ok.stk,ok.exf,ok.bs,ok.bsz,ok.noex,ok.exfs,ok.mQ,ok.frf⟩
section
variable {X:Cx} {pins:List (Addr×Obj)} {σ:St} {H:Hp} {s:Shared} {E:Value->Shared->Prop}
theorem Inv.en(I:Inv X pins σ H s)(E:Value->Shared->Prop):Inv (X.en E) pins σ H s:=⟨I.ok.en E,I.os,I.bare,I.base,I.loc,I.cell,I.free,I.freeC,I.pin,I.hok,I.len⟩
theorem Inv.e9(I:Inv (X.en E) pins σ H s):Inv X pins σ H s:=⟨I.ok.e9,I.os,I.bare,I.base,I.loc,I.cell,I.free,I.freeC,I.pin,I.hok,I.len⟩
theorem SP.e9{D:Ends}{f:Flow}{s':Shared}(h:SP (X.en E) pins D f s'):SP X pins D f s':=by
 cases f with
 | next=>obtain⟨σ',H',I,q⟩:=h;exact⟨σ',H',I.e9,q⟩
 | brk=>obtain⟨σ',H',I,q⟩:=h;exact⟨σ',H',I.e9,q⟩
 | cont=>obtain⟨σ',H',I,q⟩:=h;exact⟨σ',H',I.e9,q⟩
 | ret u=>obtain⟨v,σ',H',I,r,q⟩:=h;exact⟨v,σ',H',I.e9,r,q⟩
theorem oy.Ou{st:List Stmt}{t:TS}(h:oy X.Ou st t):oy X st t:=λpins s σ H D I hw =>
 Xa (h pins s σ H D (I.en _) hw) (λ_ _ q=>q.e9) λ_ _ z=>False.elim z
end
section
variable {X:Cx} {st:Stmt} {rest:List Stmt} {t u:TS} {e:Expr} {te:TE} {pos:Pos}
def dq:TS:=λD σ H=>D.nx σ H
def Ea(t u:TS):TS:=λD σ H=>t {D with nx:=u D} σ H
theorem ba:oy X [] dq:=λ_ _ σ H _ I h=>XR ⟨σ,H,I,h⟩
theorem qK(h1:PS X st t)(h2:oy X rest u):oy X (st::rest) (Ea t u):=by
 intro pins s σ H D I h;refine Yn (bD (h1 pins s σ H {D with nx:=u D} I h) λf s1 q=>?_)
 cases f with
 | next =>
  obtain⟨σ',H',I',q⟩:=q;exact h2 pins s1 σ' H' D I' q
 | ret v=>exact q
 | brk=>exact q
 | cont=>exact q
theorem qO(h1:PS X st t):oy X [st] t:=by
 intro pins s σ H D I h;refine Yn (bD (h1 pins s σ H D I h) λf s1 q=>?_)
 cases f with
 | next=>exact XR q
 | ret v=>exact q
 | brk=>exact q
 | cont=>exact q
theorem Inv.quiet{pins:List (Addr×Obj)}{σ:St}{H:Hp}{s:Shared}(I:Inv X pins σ H s):interactive X.env=false:=by simp[interactive,I.ok.kind]
def Hg(te:TE):TS:=λD σ H=>te σ H λ_ H1=>D.nx σ H1
theorem bL(he:PE X e te)(hs:swapsWith e none pos.line X.env=pure false:=by rfl):PS X (.Expr e pos) (Hg te):=by
 intro pins s σ H D I h;exact wpAny_Expr_any (bD (he pins s σ H _ I h) λv s1 ⟨x,H1,I1,r1,q1⟩=>⟨σ,H1,I1,q1⟩) I.quiet hs
def Iw(te:TE):TS:=λD σ H=>te σ H D.rt
theorem aX(he:PE X e te):PS X (.Return (some e) pos) (Iw te):=by
 intro pins s σ H D I h;exact wpAny_Return_some (bD (he pins s σ H _ I h) λv s1 ⟨x,H1,I1,r1,q1⟩=>⟨x,σ,H1,I1,r1,q1⟩)
def Mj:TS:=λD _ H=>D.rt .non H
def O3(c:TT)(t u:TS):TS:=λD σ H=>c σ H λb H1=>if b=true then t D σ H1 else u D σ H1
theorem bf{c:Expr}{a b:List Stmt}{tc:TT}(hc:PT X c tc)(ha:oy X a t)(hb:oy X b u):PS X (.If c a b pos) (O3 tc t u):=by
 intro pins s σ H D I h;refine wpAny_If (bD (hc pins s σ H _ I h) λd s1 ⟨H1,I1,q1⟩=>?_)
 cases d with
 | true=>exact ha pins s1 σ H1 D I1 q1
 | false=>exact hb pins s1 σ H1 D I1 q1
def Iy:TS:=λ_ _ _=>False
theorem eB:PS X st Iy:=λ_ _ _ _ _ _ h=>h.elim
end
abbrev TG:=V->St->Hp->(St->Hp->Prop)->Prop
abbrev Dv:=List V->St->Hp->(St->Hp->Prop)->Prop
def PG(X:Cx)(target:Expr)(t:TG):Prop :=
 ∀(pins:List (Addr×Obj)) (s:Shared) (σ:St) (H:Hp) (v:V) (u:Value) (Q:St->Hp->Prop),Inv X pins σ H s->RelV v u->t v σ H Q ->
  wpAny (model X.prog X.w) X.A (assign target X.env u) (λ_ s'=>∃σ' H',Inv X pins σ' H' s'/\Q σ' H') X.xe s
def Ml(X:Cx)(ts:List Expr)(t:Dv):Prop :=
 ∀(pins:List (Addr×Obj)) (s:Shared) (σ:St) (H:Hp) (vs:List V) (us:List Value) (Q:St->Hp->Prop),Inv X pins σ H s->Vals vs us->t vs σ H Q ->
  wpAny (model X.prog X.w) X.A (assignInOrder ((assignEach ts X.env).map (·.2)) us) (λ_ s'=>∃σ' H',Inv X pins σ' H' s'/\Q σ' H') X.xe s
abbrev Iz:=V->V->V->Hp->(Hp->Prop)->Prop
def Mm(X:Cx)(t:Iz):Prop :=
 ∀(pins:List (Addr×Obj)) (s:Shared) (σ:St) (H:Hp) (o i v:V) (ov iv u:Value) (Q:Hp->Prop),Inv X pins σ H s->RelV o ov->RelV i iv->RelV v u->t o i v H Q ->
  wpAny (model X.prog X.w) X.A (setItem ov iv u) (λ_ s'=>∃H',Inv X pins σ H' s'/\Q H') X.xe s
section
variable {X:Cx} {pos:Pos}
def qX(i:Nat):TG:=λv σ H Q=>Q (σ.set i (some v)) H
theorem gU{i:Nat}{x:Str}(hN:X.N.Nodup)(hi:X.N[i]?=some x)(hx:Loc X.env.scope x)(hf:X.fn x=true∨X.env.scope.names.lookup x=some .local:=by first | exact .inl rfl | exact .inr rfl | assumption):PG X (.Name x pos) (qX i):=by
 intro pins s σ H v u Q I r h;exact wpAny_assign_Name (uz I hN hi hx r (λs' I'=>⟨_,H,I',h⟩) hf)
def O4:Dv:=λvs σ H Q=>vs=[]/\Q σ H
def Hh(t:TG)(u:Dv):Dv:=λvs σ H Q=>∃v r,vs=v::r/\t v σ H λσ' H'=>u r σ' H' Q
theorem Eb:Ml X [] O4:=by
 intro pins s σ H vs us Q I r h;obtain⟨e,h⟩:=h;subst e;cases r;exact assignInOrder_nil ⟨σ,H,I,h⟩
theorem AR{e:Expr}{es:List Expr}{t:TG}{u:Dv}(h1:PG X e t)(h2:Ml X es u)
  (hs:(assignEach (e::es) X.env).map (·.2)=assign e X.env::(assignEach es X.env).map (·.2):=by rfl):Ml X (e::es) (Hh t u):=by
 intro pins s σ H vs us Q I r h;obtain⟨v,vr,e1,h⟩:=h;subst e1
 cases r with
 | cons r rr =>
  rw[hs];refine assignInOrder_cons (bD (h1 pins s σ H _ _ _ I r h) λ_ s1 ⟨σ1,H1,I1,q1⟩=>?_);exact h2 pins s1 σ1 H1 _ _ Q I1 rr q1
def Mn(K:aE)(n:Nat)(t:Dv):TG:=λv σ H Q=>∃a xs,v=.ref a/\cg K H a xs/\xs.length=n/\t xs σ H Q
theorem IC{es:List Expr}{k:Nat}{t:Dv}{n:Nat}(hc:X.calm=true)(h:Ml X es t)
  (hn:(assignEach es X.env).length=n:=by rfl) (hst:(assignEach es X.env).findIdx? (·.1)=none:=by rfl):PG X (.Tuple es k pos) (Mn X.K n t):=by
 intro pins s σ H v u Q I r hw;obtain⟨a,xs,e1,hq,hl,hw⟩:=hw;subst e1;cases r;obtain⟨its,rv,ht,hz⟩:=I.tuple hq;refine assign_Tuple_tuple (I.ok.hd hc) ht (by simp[hn,← hl,rv.length]) hst λh' hx=>?_
 have I1:Inv X pins σ H {s with heap:=h'}:=I.kept (t':=s.toks) λb o e=>hx b o (W5 (WT e)) e
 exact h pins _ σ H xs _ Q I1 (by simpa using rv) hw
def Mo(to ti:TE)(t:Iz):TG:=λv σ H Q=>to σ H λo H1=>ti σ H1 λi H2=>t o i v H2 λH3=>Q σ H3
theorem oS{o i:Expr}{to ti:TE}{t:Iz}(ho:PE X o to)(hi:PE X i ti)(hs:Mm X t)
  (ha:∀v,assign (.Subscript o i pos) X.env v=(do
   let ov ← holding [v] (eval o X.env)
   let iv ← holding [v,ov] (eval i X.env)
   standAt pos
   holding [v,ov,iv] (setItem ov iv v)
   release [v,ov,iv] []):=by intro _;rfl):PG X (.Subscript o i pos) (Mo to ti t):=by
 intro pins s σ H v u Q I r h;rw[ha];refine WS (Xu (bD (ho pins s σ H _ I h) λov s1 ⟨x,H1,I1,r1,q1⟩=>?_));refine WS (Xu (bD (hi pins s1 σ H1 _ I1 q1) λiv s2 ⟨y,H2,I2,r2,q2⟩=>?_));refine WS (Yo (WS (Xu (bD (hs pins s2 σ H2 x y v ov iv u _ I2 r1 r2 r q2) λ_ s3 ⟨H3,I3,q3⟩=>?_))));exact wpAny_release ⟨σ,H3,I3,q3⟩
def Ec(te:TE)(g:TG):TS:=λD σ H=>te σ H λx H1=>g x σ H1 D.nx
theorem oU{tg e:Expr}{te:TE}{g:TG}(he:PE X e te)(hg:PG X tg g)(hs:swapsWithSole [tg] e pos.line X.env=pure false:=by rfl)(hw:swappedStores [tg] e X.env=pure none:=by rfl)
  (h1:(assignEach [tg] X.env).map (·.2)=[assign tg X.env]:=by rfl):PS X (.Assign [tg] e pos) (Ec te g):=by
 intro pins s σ H D I h;refine wpAny_Assign_stores (bD (he pins s σ H _ I h) λv s1 ⟨x,H1,I1,r1,q1⟩=>?_) hs hw;rw[h1];exact bD (hg pins s1 σ H1 x v _ I1 r1 q1) λ_ s2 q=>q
theorem c7{i:Nat}{x:Str}{e:Expr}{te:TE}{pos':Pos}(hN:X.N.Nodup)(hi:X.N[i]?=some x)(hx:Loc X.env.scope x)(he:PE X e te)(hs:swapsWith e (some (.Name x pos')) pos.line X.env=pure false:=by rfl)(hf:X.fn x=true∨X.env.scope.names.lookup x=some .local:=by first | exact .inl rfl | exact .inr rfl | assumption):
  PS X (.Assign [.Name x pos'] e pos) (Ec te (qX i)):=by
 intro pins s σ H D I h;refine wpAny_Assign_Name (bD (he pins s σ H _ I h) λv s1 ⟨y,H1,I1,r1,q1⟩=>?_) hs;exact uz I1 hN hi hx r1 (λs2 I2=>⟨_,H1,I2,q1⟩) hf
end
section
variable {X:Cx} {pos:Pos}
def ID(c:TT)(tb:TS):TS:=λD σ H=>∃W:Nat->St->Hp->Prop,(∃m,W m σ H)/\∀m σ H,W m σ H ->
 c σ H λb H1=>if b=true then ∃N:St->Hp->Prop,(∀σ' H',N σ' H'->∃m',m' < m/\W m' σ' H')/\tb {D with nx:=N,ct:=N,bk:=D.nx} σ H1 else D.nx σ H1
theorem uA{c:Expr}{body:List Stmt}{tc:TT}{tb:TS}(hp:PassesOwn (model X.prog X.w) X.A X.env X.xe)(hc:PT X c tc)(hb:oy X body tb):PS X (.While c body [] pos) (ID tc tb):=by
 intro pins s σ H D I h;obtain⟨W,⟨m0,w0⟩,turn⟩:=h;refine wpAny_While (codeAny_whileLoop (λn s'=>∃σ' H',Inv X pins σ' H' s'/\W n σ' H') ?_ m0 ⟨σ,H,I,w0⟩);rintro n s1 ⟨σ1,H1,I1,w1⟩;refine XS hp (bD (hc pins s1 σ1 H1 _ I1 (turn n σ1 H1 w1)) λb s2 ⟨H2,I2,q2⟩=>?_)
 cases b with
 | true =>
  obtain⟨N,hN,q2⟩:=q2;rw[W4 rfl];refine XS hp (bD (hb pins s2 σ1 H2 _ I2 q2) λf s3 q3=>?_)
  cases f with
  | next =>
   obtain⟨σ3,H3,I3,n3⟩:=q3;obtain⟨m',hm,w3⟩:=hN σ3 H3 n3;exact⟨m',hm,σ3,H3,I3,w3⟩
  | cont =>
   obtain⟨σ3,H3,I3,n3⟩:=q3;obtain⟨m',hm,w3⟩:=hN σ3 H3 n3;exact⟨m',hm,σ3,H3,I3,w3⟩
  | brk=>exact q3
  | ret v=>exact q3
 | false =>
  rw[W2 W6];exact XR ⟨σ1,H2,I2,q2⟩
end
structure It where
 go:Nat->Hp->Prop
 yld:Nat->Hp->V->Hp->Prop
 stop:Nat->Hp->Prop
def kM(X:Cx)(pins:List (Addr×Obj))(H:Hp)(b:Addr):Prop :=
 H b=none/\b≠X.env.locals/\b∉X.fs/\(b∈X.ex∨X.s₀.heap.objs.size<=b)/\(∀x c,X.env.cells.lookup x=some c->c≠b)/\∀p∈X.pn++pins,p.1≠b
theorem Inv.IE{X:Cx}{pins:List (Addr×Obj)}{σ:St}{H H':Hp}{s:Shared}{b:Addr}(I:Inv X pins σ H s)(hb:s.heap.objs.size<=b)(hn:H' b=none):kM X pins H' b:=by
 refine⟨hn,Xw (WV I.lt hb),I.O0 hb,.inr (Xh I.sz hb),λx c e z=>?_,λp hp z=>?_⟩
 ·obtain⟨v,q⟩:=I.cell x c e;exact absurd (WV q.lt (by rw[z];exact hb)) (Xm _)
 ·exact absurd (WV (WT (I.pin p hp).1) (by rw[z];exact hb)) (Xm _)
structure Turn(P:Program)(w:World)(K:aE)(tg:Expr)(J:It)(fp:List Addr)(it:Addr)(tn:Nat->Heap->Prop):Prop where
 mem:it∈fp
 obj:∀i h,tn i h->∀b∈fp,∃o,h.get? b=some o/\∀v,o.data≠.cell v
 keep:∀i h h',tn i h->(∀b∈fp,∀o,h.get? b=some o->h'.get? b=some o)->tn i h'
 item:∀(X:Cx),X.prog=P->X.w=w->X.K=K->X.calm=true->∀(i:Nat) (pins:List (Addr×Obj)) (s:Shared) (σ:St) (H:Hp) (E:Value->Shared->Prop),Inv X pins σ H s->(∀b∈fp,kM X pins H b)->tn i s.heap->J.go i H ->
  wpAny (model P w) X.A (pyNext (.ref it)) (λr s1=>∃u,r=some u /\
   wpAny (model P w) X.A (letOwnedTupleGo tg (.ref it) u) (λ_ s2=>∃x H',Inv X pins σ H' s2/\RelV x u/\J.yld i H x H'/\tn (i + 1) s2.heap/\∀b∈fp,H' b=none) E s1) E s
 done:∀(X:Cx),X.prog=P->X.w=w->X.K=K->X.calm=true->∀(i:Nat) (pins:List (Addr×Obj)) (s:Shared) (σ:St) (H:Hp) (E:Value->Shared->Prop),Inv X pins σ H s->(∀b∈fp,kM X pins H b)->tn i s.heap->J.stop i H ->
  wpAny (model P w) X.A (pyNext (.ref it)) (λr s1=>r=none/\Inv X pins σ H s1) E s
 self:∀(A:Around) (i:Nat) (s:Shared) (Q:Value->Shared->Prop) (E:Value->Shared->Prop),tn i s.heap->Q (.ref it) s->wpAny (model P w) A (pyIter (.ref it)) Q E s
abbrev TI:=St->Hp->(It->Hp->Prop)->Prop
def RG(X:Cx)(pins:List (Addr×Obj))(σ:St)(tg:Expr)(R:It->Hp->Prop)(itv:Value)(s2:Shared):Prop :=
 ∃(it:Addr) (fp:List Addr) (tn:Nat->Heap->Prop) (J:It) (H':Hp),itv=.ref it/\Inv X pins σ H' s2/\Turn X.prog X.w X.K tg J fp it tn/\tn 0 s2.heap/\(∀b∈fp,kM X pins H' b)/\R J H'
def PI(X:Cx)(tg iter:Expr)(wi:TI):Prop :=
 ∀(pins:List (Addr×Obj)) (s:Shared) (σ:St) (H:Hp) (R:It->Hp->Prop),Inv X pins σ H s->wi σ H R ->
  wpAny (model X.prog X.w) X.A (eval iter X.env) (λv s1=>wpAny (model X.prog X.w) X.A (pyIter v) (RG X pins σ tg R) X.xe s1) X.xe s
theorem AU{M:Model}{A:Around}{E:Value->Shared->Prop}{s:Shared}{tg:Expr}{it:Addr}{u:Value}{o:Obj}{n:String}{vs:Array Value}{Q:Unit->Shared->Prop}(ho:s.heap.get? it=some o)(hc:o.cls=.type n)(hd:o.data=.fields vs)
  (hn:["enumerate","zip","dict_itemiterator","dict_reverseitemiterator","odict_iterator","itertools.zip_longest","itertools.pairwise"].contains n=false) (hQ:Q () s):wpAny M A (letOwnedTupleGo tg (.ref it) u) Q E s:=by
 unfold letOwnedTupleGo;cases tg<;>first
  | exact WX hQ
  | (cases u<;>first
    | exact WX hQ
    | (refine WS (wpAny_load ho ?_)
       rw[hc,hd];show wpAny M A (if (["enumerate","zip","dict_itemiterator","dict_reverseitemiterator","odict_iterator","itertools.zip_longest","itertools.pairwise"].contains n&&vs[0]? == some (rawInt _))=true then _ else _) Q E s;rw[W2 (by intro h;rw[hn,Bool.false_and]at h;cases h)];exact WX hQ))
def Dw(K:aE)(a:Addr):It :=
 ⟨λi H=>∃xs x,bK K H a xs/\xs[i]?=some x,λi H x H'=>H'=H/\∀xs,bK K H a xs->xs[i]?=some x,λi H=>∃xs,bK K H a xs/\xs.length<=i⟩
def LQ(K:aE)(a:Addr):It :=
 ⟨λi H=>∃xs x,cg K H a xs/\xs[i]?=some x,λi H x H'=>H'=H/\∀xs,cg K H a xs->xs[i]?=some x,λi H=>∃xs,cg K H a xs/\xs.length<=i⟩
def Ov(lo:Int)(n:Nat):It:=⟨λi _=>i < n,λi H x H'=>H'=H/\x=.int (lo + i),λi _=>n<=i⟩
theorem qY{P:Program}{w:World}{K:aE}{tg:Expr}(a it:Addr):Turn P w K tg (Dw K a) [it] it (λi h=>h.IsListIter it a i) where
 mem:=by simp
 obj:=λi h st b hb=>by
  have e:b=it:=by simpa using hb
  subst e;obtain⟨o,e,c,d⟩:=st;exact⟨o,e,λv z=>by rw[d]at z;cases z⟩
 keep:=λi h h' st k=>st.at λo e=>k it (by simp) o e
 item:=by
  intro X hP hw hK hc i pins s σ H E I hf st hg;subst hP hw hK;obtain⟨xs,x,hq,hx⟩:=hg;obtain⟨its,rv,p,hz⟩:=I.list hq;obtain⟨u,hu,ru⟩:=rv.get hx;obtain⟨f0,f1,f2,f3,f4,f5⟩:=hf it (by simp);refine wpAny_pyNext_list_item st p.isList (x:=u) (by simpa using hu) λh' st' sb=>?_
  have I1:Inv X pins σ H {s with heap:=h'}:=I.turned (t':=s.toks) (λb o hb e=>(sb.2 b hb).trans e) f0 f1 f3 f4 f5;obtain⟨o,e,c,d⟩:=id st';exact⟨u,rfl,AU (s:={s with heap:=h'}) e c d (by decide) ⟨x,H,I1,ru,⟨rfl,λys hy=>by rw[I.AQ hy hq];exact hx⟩,st',λb hb=>(hf b hb).1⟩⟩
 done:=by
  intro X hP hw hK hc i pins s σ H E I hf st hg;subst hP hw hK;obtain⟨xs,hq,hx⟩:=hg;obtain⟨its,rv,p,hz⟩:=I.list hq;obtain⟨f0,f1,f2,f3,f4,f5⟩:=hf it (by simp);have hl:=rv.length;exact wpAny_pyNext_list_end (I.ok.hd hc) st p.isList (by simp;omega) λh' eb=>⟨rfl,I.turned (t':=s.toks) (λb o hb e=>eb b o hb e) f0 f1 f3 f4 f5⟩
 self:=λ_ _ _ _ _ st h=>wpAny_pyIter_listiter st h
theorem wb{P:Program}{w:World}{K:aE}{tg:Expr}(a it:Addr):Turn P w K tg (LQ K a) [it] it (λi h=>h.IsTupleIter it a i) where
 mem:=by simp
 obj:=λi h st b hb=>by
  have e:b=it:=by simpa using hb
  subst e;obtain⟨o,e,c,d⟩:=st;exact⟨o,e,λv z=>by rw[d]at z;cases z⟩
 keep:=λi h h' st k=>st.at λo e=>k it (by simp) o e
 item:=by
  intro X hP hw hK hc i pins s σ H E I hf st hg;subst hP hw hK;obtain⟨xs,x,hq,hx⟩:=hg;obtain⟨its,rv,p,hz⟩:=I.tuple hq;obtain⟨u,hu,ru⟩:=rv.get hx;obtain⟨f0,f1,f2,f3,f4,f5⟩:=hf it (by simp);refine wpAny_pyNext_tuple_item st (show s.heap.IsTuple a its.toArray from p) (x:=u) (by simpa using hu) λh' st' sb=>?_
  have I1:Inv X pins σ H {s with heap:=h'}:=I.turned (t':=s.toks) (λb o hb e=>(sb.2 b hb).trans e) f0 f1 f3 f4 f5;obtain⟨o,e,c,d⟩:=id st';exact⟨u,rfl,AU (s:={s with heap:=h'}) e c d (by decide) ⟨x,H,I1,ru,⟨rfl,λys hy=>by rw[I.zc hy hq];exact hx⟩,st',λb hb=>(hf b hb).1⟩⟩
 done:=by
  intro X hP hw hK hc i pins s σ H E I hf st hg;subst hP hw hK;obtain⟨xs,hq,hx⟩:=hg;obtain⟨its,rv,p,hz⟩:=I.tuple hq;obtain⟨f0,f1,f2,f3,f4,f5⟩:=hf it (by simp);have hl:=rv.length;exact wpAny_pyNext_tuple_end (I.ok.hd hc) st (show s.heap.IsTuple a its.toArray from p) (by simp;omega) λh' eb=>⟨rfl,I.turned (t':=s.toks) (λb o hb e=>eb b o hb e) f0 f1 f3 f4 f5⟩
 self:=λ_ _ _ _ _ st h=>wpAny_pyIter_tupleiter st h
theorem wc{P:Program}{w:World}{K:aE}{tg:Expr}(it:Addr)(lo:Int)(n:Nat):Turn P w K tg (Ov lo n) [it] it (λi h=>IsRangeIter h it (lo + (i:Nat) * 1) ((n:Int) - (i:Nat)) 1) where
 mem:=by simp
 obj:=λi h st b hb=>by
  have e:b=it:=by simpa using hb
  subst e
  exact⟨_,st,λv z=>by
   have z':Data.fields _=Data.cell v:=z;cases z'⟩
 keep:=λi h h' st k=>k it (by simp) _ st
 item:=by
  intro X hP hw hK hc i pins s σ H E I hf st hg;subst hP hw hK;obtain⟨f0,f1,f2,f3,f4,f5⟩:=hf it (by simp);have W:=Walks.range (prog:=X.prog) (w:=X.w) (I.ok.hd hc) it lo 1 n;refine W.item i s _ _ hg st λv h' tk hv st' kk=>?_
  obtain⟨t,rfl⟩:=hv;have I1:Inv X pins σ H {s with heap:=h',toks:=tk}:=I.turned (λb o hb e=>kk b o (by simpa using hb) e) f0 f1 f3 f4 f5;refine⟨_,rfl,AU (s:={s with heap:=h',toks:=tk}) (n:="range_iterator") st' rfl rfl (by decide) ⟨.int (lo + i),H,I1,⟨t,?_⟩,⟨rfl,rfl⟩,st',λb hb=>(hf b hb).1⟩⟩;rw[Int.mul_one]
 done:=by
  intro X hP hw hK hc i pins s σ H E I hf st hg;subst hP hw hK;obtain⟨f0,f1,f2,f3,f4,f5⟩:=hf it (by simp);exact wpAny_pyNext_range_end (I.ok.hd hc) st (by have:n<=i:=hg;omega) λh' eb=>⟨rfl,I.turned (t':=s.toks) (λb o hb e=>eb b o hb e) f0 f1 f3 f4 f5⟩
 self:=λ_ _ _ _ _ st h=>wpAny_pyIter_rangeiter st h
section
variable {X:Cx} {tg:Expr}
def Mp(K:aE)(tl:TE):TI:=λσ H R=>tl σ H λx H1=>∃a,x=.ref a/\(∃xs,bK K H1 a xs)/\R (Dw K a) H1
theorem oz{l:Expr}{tl:TE}(hl:PE X l tl):PI X tg l (Mp X.K tl):=by
 intro pins s σ H R I h;refine bD (hl pins s σ H _ I h) λv s1 ⟨x,H1,I1,r1,q1⟩=>?_
 obtain⟨a,e,⟨xs,hq⟩,q⟩:=q1;subst e;cases r1;obtain⟨its,rv,p,hz⟩:=I1.list hq;refine wpAny_pyIter_list p.isList ?_;refine⟨s1.heap.objs.size,[s1.heap.objs.size],_,_,H1,rfl,I1.kept (t':=s1.toks) λb o e=>Heap.get?_push_of_some _ e,qY a _,⟨_,Heap.get?_push_size _ rfl,rfl,rfl⟩,λb hb=>?_,q⟩;have e:b=s1.heap.objs.size:=by simpa using hb
 subst e;exact I1.IE (WU _) (I1.hok.fresh (WU _))
theorem AV{pins:List (Addr×Obj)}{σ:St}{H:Hp}{s:Shared}{R:It->Hp->Prop}{E:Value->Shared->Prop}{lo hi:Int}{t u v:Tok}{tk:Nat}(I:Inv X pins σ H s)(h1:-(2 ^ 62)<=lo)(h2:lo < 2 ^ 62)(h3:-(2 ^ 62)<=hi)(h4:hi < 2 ^ 62)
  (q:R (Ov lo (hi - lo).toNat) H):wpAny (model X.prog X.w) X.A (pyIter (.ref s.heap.objs.size)) (RG X pins σ tg R) E {s with heap:=s.heap.push {cls:=.type "range",data:=.fields #[.int lo t,.int hi u,.int 1 v]},toks:=tk}:=by
 refine wpAny_pyIter_range (IsRange.new ..) (small_one h1 h2 h3 h4) ?_;have I1:Inv X pins σ H {s with heap:=s.heap.push {cls:=.type "range",data:=.fields #[.int lo t,.int hi u,.int 1 v]},toks:=tk}:=I.kept λb o e=>WW _ e
 refine⟨(s.heap.push {cls:=.type "range",data:=.fields #[.int lo t,.int hi u,.int 1 v]}).objs.size,[(s.heap.push {cls:=.type "range",data:=.fields #[.int lo t,.int hi u,.int 1 v]}).objs.size],_,_,H,rfl,
  I1.kept (t':=tk) λb o e=>WW _ e,wc _ lo (hi - lo).toNat,?_,λb hb=>?_,q⟩
 ·have e1:lo + ((0:Nat):Int) * 1=lo:=by simp
  have e2:(((hi - lo).toNat:Nat):Int) - ((0:Nat):Int)=Builtin.Range.rangeSize lo hi 1:=by rw[rangeSize_one];split<;>omega
  show IsRangeIter _ _ (lo + ((0:Nat):Int) * 1) ((((hi - lo).toNat:Nat):Int) - ((0:Nat):Int)) 1;rw[e1,e2];exact Xf _ rfl
 ·have e:b=(s.heap.push {cls:=.type "range",data:=.fields #[.int lo t,.int hi u,.int 1 v]}).objs.size:=by simpa using hb
  subst e;exact I1.IE (WU _) (I1.hok.fresh (WU _))
def Mq(ta:TA):TI:=λσ H R=>ta σ H λvs H1=>∃j:Int,vs=[.int j]/\-(2 ^ 62)<=j/\j < 2 ^ 62/\R (Ov 0 j.toNat) H1
theorem zd{a:Expr}{ta:TA}{p pos:Pos}(hg:Gl X "range")(hm:X.mg "range"=none)(ha:PA X [a] ta)(hs:starEach [a] X.env=[(false,eval a X.env)]:=by rfl):PI X tg (.Call (.Name "range" p) [a] [] pos) (Mq ta):=by
 intro pins s σ H R I h;refine Call_ (mS I hg hm boot_range (XN (bD (ha pos pins s σ H _ I h) λus s1 ⟨vs,H1,I1,r1,q1⟩=>?_) hs rfl));obtain⟨j,e,q1,q2,q⟩:=q1;subst e
 cases r1 with
 | cons r rr =>
  cases rr;obtain⟨t,rfl⟩:=r;exact call_range_1 (AV I1 (by omega) (by omega) q1 q2 (by simpa using q))
def O5(wi:TI)(g:TG)(tb:TS):TS:=λD σ H=>wi σ H λJ H1=>∃W:Nat->Nat->St->Hp->Prop,(∃m,W 0 m σ H1)/\∀i m σ H,W i m σ H ->
 (J.stop i H/\D.nx σ H)∨(J.go i H/\∃N:St->Hp->Prop,(∀σ' H',N σ' H'->∃m',m' < m/\W (i + 1) m' σ' H')/\∀x H',J.yld i H x H'->g x σ H' λσ2 H2=>tb {D with nx:=N,ct:=N,bk:=D.nx} σ2 H2)
def mT(fp:List Addr)(h:Heap):List (Addr×Obj):=fp.filterMap λb=>(h.get? b).map λo=>(b,o)
theorem fe{fp:List Addr}{h:Heap}{b:Addr}{o:Obj}(hb:b∈fp)(e:h.get? b=some o):(b,o)∈mT fp h:=Yb.mpr ⟨b,hb,by rw[e];rfl⟩
theorem ze{fp:List Addr}{h:Heap}{p:Addr×Obj}(hp:p∈mT fp h):p.1∈fp/\h.get? p.1=some p.2:=by
 obtain⟨b,hb,e⟩:=Yb.mp hp
 cases q:h.get? b with
 | none=>rw[q]at e;cases e
 | some o =>
  rw[q]at e;have e':(b,o)=p:=W0 e;subst e';exact⟨hb,q⟩
theorem Inv.pinned{pins:List (Addr×Obj)}{σ:St}{H:Hp}{s:Shared}{fp:List Addr}(I:Inv X pins σ H s)(hf:∀b∈fp,kM X pins H b)(ho:∀b∈fp,∃o,s.heap.get? b=some o/\∀v,o.data≠.cell v):Inv X (pins++mT fp s.heap) σ H s :=
 I.xW λp hp=>(X9.mp hp).elim (λz=>I.pin p (Xd _ z)) λz=>by
  obtain⟨hb,e⟩:=ze z;obtain⟨f0,f1,f2,_⟩:=hf p.1 hb;obtain⟨o,e',d⟩:=ho p.1 hb;rw[e]at e';cases e';exact⟨e,f0,f1,f2,d⟩
theorem Inv.jX{pins pl:List (Addr×Obj)}{σ:St}{H:Hp}{s:Shared}(I:Inv X (pins++pl) σ H s):Inv X pins σ H s:=I.xW λp hp=>I.pin p (Xd _ (List.mem_append_left _ hp))
theorem we{iter:Expr}{body:List Stmt}{wi:TI}{g:TG}{tb:TS}{pos:Pos}(hp:PassesOwn (model X.prog X.w) X.A X.env X.xe)(hc:X.calm=true)(hi:PI X tg iter wi)(hg:PG X tg g)(hb:oy X body tb)
  (hs:∀x,foldedSetIterable iter X.env x=pure x:=by intro _;rfl):PS X (.For tg iter body [] pos) (O5 wi g tb):=by
 intro pins s σ H D I h;refine wpAny_For (bD (hi pins s σ H _ I h) λv s1 h1=>bD h1 λitv s2 h2=>?_) hs;obtain⟨it,fp,tn,J,H2,e,I2,T,bO,f2,W,⟨m0,w0⟩,turn⟩:=h2;subst e;have stat:∀{H':Hp},(∀b∈fp,H' b=none)->∀b∈fp,kM X pins H' b:=λhn b hb=>⟨hn b hb,(f2 b hb).2⟩
 refine codeAny_forLoop_any (λn s'=>∃i σ' H',Inv X pins σ' H' s'/\tn i s'.heap/\(∀b∈fp,H' b=none)/\W i n σ' H') ?_ m0 ⟨0,σ,H2,I2,bO,λb hb=>(f2 b hb).1,w0⟩;rintro n s3 ⟨i,σ3,H3,I3,jY,RH,w3⟩;rcases turn i n σ3 H3 w3 with⟨stop,qn⟩ | ⟨go,N,hN,step⟩
 ·refine XS hp (bD (T.done X rfl rfl rfl hc i pins s3 σ3 H3 X.xe I3 (stat RH) jY stop) λr s4 ⟨hr,I4⟩=>?_);subst hr;exact XR ⟨σ3,H3,I4,qn⟩
 ·refine XS hp (bD (T.item X rfl rfl rfl hc i pins s3 σ3 H3 X.xe I3 (stat RH) jY go) λr s4 ⟨u,hr,h4⟩=>?_);subst hr;refine XS hp (bD h4 λ_ s5 ⟨x,H5,I5,r5,y5,v9,IF⟩=>?_);have I5':=I5.pinned (stat IF) (T.obj _ _ v9);refine XS hp (bD (hg _ s5 σ3 H5 x u _ I5' r5 (step x H5 y5)) λ_ s6 ⟨σ6,H6,I6,q6⟩=>?_);refine XS hp (bD (hb _ s6 σ6 H6 _ I6 q6) λf s7 q7=>?_)
  have again:∀{σ7:St} {H7:Hp},Inv X (pins++mT fp s5.heap) σ7 H7 s7->N σ7 H7->∃m,m < n/\∃i σ' H',Inv X pins σ' H' s7/\tn i s7.heap/\(∀b∈fp,H' b=none)/\W i m σ' H':=λ{σ7 H7} I7 n7=>by
   obtain⟨m',hm,w7⟩:=hN σ7 H7 n7;refine⟨m',hm,i + 1,σ7,H7,I7.jX,T.keep _ _ _ v9 λb hb o e=>(I7.pin (b,o) (Xd _ (Xd _ (fe hb e)))).1,λb hb=>?_,w7⟩;obtain⟨o,e,d⟩:=T.obj _ _ v9 b hb;exact(I7.pin (b,o) (Xd _ (Xd _ (fe hb e)))).2.1
  cases f with
  | next=>obtain⟨σ7,H7,I7,n7⟩:=q7;exact again I7 n7
  | cont=>obtain⟨σ7,H7,I7,n7⟩:=q7;exact again I7 n7
  | brk=>obtain⟨σ7,H7,I7,q7⟩:=q7;exact⟨σ7,H7,I7.jX,q7⟩
  | ret v=>obtain⟨x7,σ7,H7,I7,r7,q7⟩:=q7;exact⟨x7,σ7,H7,I7.jX,r7,q7⟩
end
theorem uB{K:aE}{a:Addr}{xs:List V}{g:TG}{tb:TS}{D:Ends}{σ:St}{H:Hp}(Pv:Nat->St->Hp->Prop)(h0:Pv 0 σ H)(hl:∀i σ H,i<=xs.length->Pv i σ H->bK K H a xs)
  (hs:∀i x σ H,xs[i]?=some x->Pv i σ H->g x σ H λσ2 H2=>tb {D with nx:=Pv (i + 1),ct:=Pv (i + 1),bk:=D.nx} σ2 H2) (hd:∀σ H,Pv xs.length σ H->D.nx σ H) :
  ∃W:Nat->Nat->St->Hp->Prop,(∃m,W 0 m σ H)/\∀i m σ H,W i m σ H ->
   ((Dw K a).stop i H/\D.nx σ H)∨((Dw K a).go i H/\∃N:St->Hp->Prop,(∀σ' H',N σ' H'->∃m',m' < m/\W (i + 1) m' σ' H')/\∀x H',(Dw K a).yld i H x H'->g x σ H' λσ2 H2=>tb {D with nx:=N,ct:=N,bk:=D.nx} σ2 H2):=by
 refine⟨λi m σ H=>m=xs.length - i/\i<=xs.length/\Pv i σ H,⟨xs.length,by simp,Nat.zero_le _,h0⟩,?_⟩;rintro i m σ H ⟨rfl,hi,p⟩;have q:=hl i σ H hi p;by_cases hlt:i < xs.length
 ·refine .inr ⟨⟨xs,xs[i],q,by simp[hlt]⟩,Pv (i + 1),λσ' H' p'=>⟨xs.length - (i + 1),by omega,rfl,hlt,p'⟩,λx H' y=>?_⟩;obtain⟨e,y⟩:=y;subst e;exact hs i x σ _ (y xs q) p
 ·have e:i=xs.length:=by omega
  subst e;exact .inl ⟨⟨xs,q,WU _⟩,hd σ H p⟩
abbrev R2:=V->V->Hp->VK->Prop
def i6(X:Cx)(f:Value->Value->Sem Value)(r:R2):Prop :=
 ∀(pins:List (Addr×Obj)) (s:Shared) (σ:St) (H:Hp) (x y:V) (v u:Value) (Q:VK),Inv X pins σ H s->RelV x v->RelV y u->r x y H Q ->
  wpAny (model X.prog X.w) X.A (f v u) (EP X pins σ Q) X.xe s
def O6(X:Cx)(f:Value->Sem Value)(r:V->Hp->VK->Prop):Prop :=
 ∀(pins:List (Addr×Obj)) (s:Shared) (σ:St) (H:Hp) (x:V) (v:Value) (Q:VK),Inv X pins σ H s->RelV x v->r x H Q ->
  wpAny (model X.prog X.w) X.A (f v) (EP X pins σ Q) X.xe s
def iN(X:Cx)(f:Value)(r:List V->Hp->VK->Prop):Prop :=
 ∀(pins:List (Addr×Obj)) (s:Shared) (σ:St) (H:Hp) (xs:List V) (us:List Value) (Q:VK),Inv X pins σ H s->Vals xs us->r xs H Q ->
  wpAny (model X.prog X.w) X.A (call f us) (EP X pins σ Q) X.xe s
def Mr(r:R2)(ta tb:TE):TE:=λσ H Q=>ta σ H λx H1=>tb σ H1 λy H2=>r x y H2 Q
def TX(r:V->Hp->VK->Prop)(ta:TE):TE:=λσ H Q=>ta σ H λx H1=>r x H1 Q
def rI(C:Int->Int->Prop)(g:Int->Int->V):R2:=λx y H Q=>∃i j,x=.int i/\y=.int j/\C i j/\Q (g i j) H
def Dx(g:Int->Int->V):R2:=λx y H Q=>∃i j,x=.int i/\y=.int j/\Q (g i j) H
def rU(g:Int->V):V->Hp->VK->Prop:=λx H Q=>∃i,x=.int i/\Q (g i) H
section
variable {X:Cx} {a b c:Expr} {ta tb tc:TE} {pos:Pos}
theorem IG(ha:PE X a ta)(hb:PE X b tb){pins:List (Addr×Obj)}{s:Shared}{σ:St}{H:Hp}{R:V->V->Hp->Prop}(I:Inv X pins σ H s)
  (h:ta σ H λx H1=>tb σ H1 λy H2=>R x y H2) {Q:Value->Shared->Prop} {f:Value->Value->Sem Value}
  (hf:∀v u s2 x y H2,Inv X pins σ H2 s2->RelV x v->RelV y u->R x y H2->wpAny (model X.prog X.w) X.A (f v u) Q X.xe s2) :
  wpAny (model X.prog X.w) X.A (eval a X.env) (λv s₁=>wpAny (model X.prog X.w) X.A (eval b X.env) (λu s₂=>wpAny (model X.prog X.w) X.A (f v u) Q X.xe s₂) X.xe s₁) X.xe s:=by
 refine bD (ha pins s σ H _ I h) λv s1 ⟨x,H1,I1,r1,q1⟩=>?_
 refine bD (hb pins s1 σ H1 _ I1 q1) λu s2 ⟨y,H2,I2,r2,q2⟩=>?_
 exact hf v u s2 x y H2 I2 r1 r2 q2
theorem eD{op:Operator}{r:R2}(ho:i6 X (binaryOp op) r)(ha:PE X a ta)(hb:PE X b tb):PE X (.BinOp a op b pos) (Mr r ta tb):=by
 intro pins s σ H Q I h;exact wpAny_BinOp (IG ha hb I h λv u s2 x y H2 I2 rx ry q=>ho pins s2 σ H2 x y v u Q I2 rx ry q)
theorem Ms{op:UnaryOp}{r:V->Hp->VK->Prop}(ho:O6 X (unaryOp op) r)(ha:PE X a ta):PE X (.UnaryOp op a pos) (TX r ta):=by
 intro pins s σ H Q I h;exact UnaryOp_ (bD (ha pins s σ H _ I h) λv s1 ⟨x,H1,I1,r1,q1⟩=>ho pins s1 σ H1 x v Q I1 r1 q1)
theorem IH{f:Value->Value->Sem Value}{C:Int->Int->Prop}{g:Int->Int->Int}
  (rule:∀(i j:Int) (t u:Tok) (s:Shared) (Q:Value->Shared->Prop) (E:Value->Shared->Prop),C i j->Q (.int (g i j) s.toks) {s with toks:=s.toks + 1}->wpAny (model X.prog X.w) X.A (f (.int i t) (.int j u)) Q E s) :
  i6 X f (rI C λi j=>.int (g i j)):=by
 intro pins s σ H x y v u Q I rx ry h;obtain⟨i,j,rfl,rfl,hc,q⟩:=h;obtain⟨t,rfl⟩:=rx;obtain⟨t',rfl⟩:=ry;exact rule i j t t' s _ _ hc ⟨.int (g i j),H,I.tok _,⟨_,rfl⟩,q⟩
theorem Mt{f:Value->Value->Sem Value}{g:Int->Int->Int}
  (rule:∀(i j:Int) (t u:Tok) (s:Shared) (Q:Value->Shared->Prop) (E:Value->Shared->Prop),Q (.int (g i j) s.toks) {s with toks:=s.toks + 1}->wpAny (model X.prog X.w) X.A (f (.int i t) (.int j u)) Q E s) :
  i6 X f (Dx λi j=>.int (g i j)):=by
 intro pins s σ H x y v u Q I rx ry h;obtain⟨i,j,rfl,rfl,q⟩:=h;obtain⟨t,rfl⟩:=rx;obtain⟨t',rfl⟩:=ry;exact rule i j t t' s _ _ ⟨.int (g i j),H,I.tok _,⟨_,rfl⟩,q⟩
theorem Ed{f:Value->Value->Sem Value}{g:Int->Int->Bool}
  (rule:∀(i j:Int) (t u:Tok) (s:Shared) (Q:Value->Shared->Prop) (E:Value->Shared->Prop),Q (.bool (g i j)) s->wpAny (model X.prog X.w) X.A (f (.int i t) (.int j u)) Q E s) :
  i6 X f (Dx λi j=>.bl (g i j)):=by
 intro pins s σ H x y v u Q I rx ry h;obtain⟨i,j,rfl,rfl,q⟩:=h;obtain⟨t,rfl⟩:=rx;obtain⟨t',rfl⟩:=ry;exact rule i j t t' s _ _ ⟨.bl (g i j),H,I,rfl,q⟩
def Mu(i j:Int):Prop:=0 < j/\j < 1073741824
def Mv(i j:Int):Prop:=0<=j/\j<=1000000/\i.natAbs < 2 ^ 64
def AW(i j:Int):Prop:=(-(2 ^ 64) < i/\i < 2 ^ 64)∨(-(2 ^ 64) < j/\j < 2 ^ 64)
theorem AW.ok{i j:Int}(h:AW i j):IntMulOk i j:=by
 rcases h with⟨h1,h2⟩ | ⟨h1,h2⟩
 ·exact .of_left (intBits_le_64 h1 h2)
 ·exact .of_right (intBits_le_64 h1 h2)
theorem oV:i6 X (binaryOp .Add) (Dx λi j=>.int (i + j)):=Mt λ_ _ _ _ _ _ _ q=>add_int q
theorem i8:i6 X (binaryOp .Sub) (Dx λi j=>.int (i - j)):=Mt λ_ _ _ _ _ _ _ q=>sub_int q
theorem II:i6 X (binaryOp .Mult) (rI AW λi j=>.int (i * j)):=IH λ_ _ _ _ _ _ _ hc q=>mul_int q hc.ok
theorem wg:i6 X (binaryOp .Mod) (rI (λ_ j=>0 < j) λi j=>.int (i % j)):=IH λi j _ _ _ _ _ hc q=>by
 have h1:(0:Int) < j:=hc;exact mod_int' (by omega) (by rw[Int.fmod_eq_emod_of_nonneg i (by omega)];exact q)
theorem Ee:i6 X (binaryOp .Mod) (rI (λ_ j=>j≠0) λi j=>.int (i.fmod j)):=IH λ_ _ _ _ _ _ _ hc q=>mod_int' hc q
theorem IJ:i6 X (binaryOp .Pow) (rI Mv λi j=>.int (i ^ j.toNat)):=IH λ_ _ _ _ _ _ _ hc q=>pow_int_small hc.1 hc.2.1 hc.2.2 q
theorem TY{f:Value->Sem Value}{g:Int->Int}
  (rule:∀(i:Int) (t:Tok) (s:Shared) (Q:Value->Shared->Prop) (E:Value->Shared->Prop),Q (.int (g i) s.toks) {s with toks:=s.toks + 1}->wpAny (model X.prog X.w) X.A (f (.int i t)) Q E s) :
  O6 X f (rU λi=>.int (g i)):=by
 intro pins s σ H x v Q I rx h;obtain⟨i,rfl,q⟩:=h;obtain⟨t,rfl⟩:=rx;exact rule i t s _ _ ⟨.int (g i),H,I.tok _,⟨_,rfl⟩,q⟩
theorem IK:O6 X (unaryOp .USub) (rU λi=>.int (-i)):=TY λ_ _ _ _ _ q=>neg_int q
end
def Mw:V->V->Bool
 | .non,.non=>true | .non,.int _=>true | .int _,.non=>true | .non,.bl _=>true | .bl _,.non=>true | .non,.str _=>true | .str _,.non=>true
 | .int _,.int _=>true | .bl _,.bl _=>true | .str _,.str _=>true | .byt _,.byt _=>true
 | .int _,.str _=>true | .str _,.int _=>true | .bl _,.str _=>true | .str _,.bl _=>true
 | _,_=>false
def RI:R2:=λx y H Q=>Mw x y=true/\Q (.bl (decide (x=y))) H
def RJ:R2:=λx y H Q=>Mw x y=true/\Q (.bl (!decide (x=y))) H
theorem xZ{i j:Int}:decide (V.int i=V.int j)=(i == j):=by
 rw[Bool.eq_iff_iff];simp
theorem AX{i j:Bool}:decide (V.bl i=V.bl j)=(i == j):=by
 rw[Bool.eq_iff_iff];simp
theorem x9{i j:Str}:decide (V.str i=V.str j)=(i == j):=by
 rw[Bool.eq_iff_iff];simp
theorem ya{i j:Array UInt8}:decide (V.byt i=V.byt j)=(i.toList == j.toList):=by
 rw[Bool.eq_iff_iff];cases i;cases j;simp
section
variable {X:Cx} {a b c:Expr} {ta tb tc:TE} {pos:Pos}
theorem aY{pins:List (Addr×Obj)}{σ:St}{H:Hp}{s:Shared}{Q:VK}{k k':Bool}(I:Inv X pins σ H s)(q:Q (.bl k) H)(e:k=k'):EP X pins σ Q (.bool k') s:=by
 subst e;exact⟨.bl k,H,I,rfl,q⟩
theorem bz:i6 X (compareOp .Eq) RI:=by
 intro pins s σ H x y v u Q I rx ry h;obtain⟨hs,q⟩:=h
 cases x with
 | non =>
  cases rx
  cases y with
  | non=>cases ry;exact PySem.EqNone.eq_none_none (aY I q (by simp))
  | bl j=>cases ry;exact PySem.EqNone.eq_none_bool (aY I q (by simp))
  | int j=>obtain⟨t',rfl⟩:=ry;exact PySem.EqNone.eq_none_int (aY I q (by simp))
  | str j=>obtain⟨t',rfl⟩:=ry;exact PySem.EqNone.eq_none_str (aY I q (by simp))
  | _=>exact absurd (show false=true from hs) W6
 | bl i =>
  cases rx
  cases y with
  | non=>cases ry;exact PySem.EqNone.eq_bool_none (aY I q (by simp))
  | bl j=>cases ry;exact eq_bool (aY I q AX)
  | str j=>obtain⟨t',rfl⟩:=ry;exact PySem.EqMixed.eq_bool_str (aY I q (by simp))
  | _=>exact absurd (show false=true from hs) W6
 | int i =>
  obtain⟨t,rfl⟩:=rx
  cases y with
  | non=>cases ry;exact PySem.EqNone.eq_int_none (aY I q (by simp))
  | int j=>obtain⟨t',rfl⟩:=ry;exact eq_int (aY I q xZ)
  | str j=>obtain⟨t',rfl⟩:=ry;exact PySem.EqMixed.eq_int_str (aY I q (by simp))
  | _=>exact absurd (show false=true from hs) W6
 | str i =>
  obtain⟨t,rfl⟩:=rx
  cases y with
  | non=>cases ry;exact PySem.EqNone.eq_str_none (aY I q (by simp))
  | bl j=>cases ry;exact PySem.EqMixed.eq_str_bool (aY I q (by simp))
  | int j=>obtain⟨t',rfl⟩:=ry;exact PySem.EqMixed.eq_str_int (aY I q (by simp))
  | str j=>obtain⟨t',rfl⟩:=ry;exact eq_str (aY I q x9)
  | _=>exact absurd (show false=true from hs) W6
 | byt i =>
  obtain⟨t,rfl⟩:=rx
  cases y with
  | byt j=>obtain⟨t',rfl⟩:=ry;exact PySem.W.eq_bytes (aY I q ya)
  | _=>exact absurd (show false=true from hs) W6
 | _=>cases y<;>exact absurd (show false=true from hs) W6
theorem uC:i6 X (compareOp .NotEq) RJ:=by
 intro pins s σ H x y v u Q I rx ry h;obtain⟨hs,q⟩:=h
 cases x with
 | non =>
  cases rx
  cases y with
  | non=>cases ry;exact PySem.EqNone.ne_none_none (aY I q (by simp))
  | bl j=>cases ry;exact PySem.EqNone.ne_none_bool (aY I q (by simp))
  | int j=>obtain⟨t',rfl⟩:=ry;exact PySem.EqNone.ne_none_int (aY I q (by simp))
  | str j=>obtain⟨t',rfl⟩:=ry;exact PySem.EqNone.ne_none_str (aY I q (by simp))
  | _=>exact absurd (show false=true from hs) W6
 | bl i =>
  cases rx
  cases y with
  | non=>cases ry;exact PySem.EqNone.ne_bool_none (aY I q (by simp))
  | bl j=>cases ry;exact ne_bool (aY I q (X1 not AX))
  | str j=>obtain⟨t',rfl⟩:=ry;exact PySem.EqMixed.ne_bool_str (aY I q (by simp))
  | _=>exact absurd (show false=true from hs) W6
 | int i =>
  obtain⟨t,rfl⟩:=rx
  cases y with
  | non=>cases ry;exact PySem.EqNone.ne_int_none (aY I q (by simp))
  | int j=>obtain⟨t',rfl⟩:=ry;exact ne_int (aY I q (X1 not xZ))
  | str j=>obtain⟨t',rfl⟩:=ry;exact PySem.EqMixed.ne_int_str (aY I q (by simp))
  | _=>exact absurd (show false=true from hs) W6
 | str i =>
  obtain⟨t,rfl⟩:=rx
  cases y with
  | non=>cases ry;exact PySem.EqNone.ne_str_none (aY I q (by simp))
  | bl j=>cases ry;exact PySem.EqMixed.ne_str_bool (aY I q (by simp))
  | int j=>obtain⟨t',rfl⟩:=ry;exact PySem.EqMixed.ne_str_int (aY I q (by simp))
  | str j=>obtain⟨t',rfl⟩:=ry;exact ne_str (aY I q (X1 not x9))
  | _=>exact absurd (show false=true from hs) W6
 | byt i =>
  obtain⟨t,rfl⟩:=rx
  cases y with
  | byt j=>obtain⟨t',rfl⟩:=ry;exact PySem.W.ne_bytes (aY I q (X1 not ya))
  | _=>exact absurd (show false=true from hs) W6
 | _=>cases y<;>exact absurd (show false=true from hs) W6
theorem AY:i6 X (compareOp .Lt) (Dx λi j=>.bl (decide (i < j))):=Ed λ_ _ _ _ _ _ _ q=>lt_int q
theorem Hi:i6 X (compareOp .LtE) (Dx λi j=>.bl (decide (i<=j))):=Ed λ_ _ _ _ _ _ _ q=>le_int q
theorem Hj:i6 X (compareOp .Gt) (Dx λi j=>.bl (decide (j < i))):=Ed λ_ _ _ _ _ _ _ q=>gt_int q
theorem Mx:i6 X (compareOp .GtE) (Dx λi j=>.bl (decide (j<=i))):=Ed λ_ _ _ _ _ _ _ q=>ge_int q
theorem AZ:i6 X (compareOp .Is) (λx y H Q=>y=.non/\Q (.bl (decide (x=.non))) H):=by
 intro pins s σ H x y v u Q I rx ry h;obtain⟨rfl,q⟩:=h;cases ry;refine is_none_gen (aY I q ?_);cases x<;>first
  | (cases rx;rfl)
  | (obtain⟨t,rfl⟩:=rx;rfl)
theorem yb:i6 X (compareOp .IsNot) (λx y H Q=>y=.non/\Q (.bl (!decide (x=.non))) H):=by
 intro pins s σ H x y v u Q I rx ry h;obtain⟨rfl,q⟩:=h;cases ry;refine isnot_none_gen (aY I q ?_);cases x<;>first
  | (cases rx;rfl)
  | (obtain⟨t,rfl⟩:=rx;rfl)
theorem aC(b:Expr){op:CmpOp}(h:op≠.In:=by decide)(h2:op≠.NotIn:=by decide):behindInMarks op b=false:=by
 have e1:(op == CmpOp.In)=false:=by cases op<;>first | rfl | exact absurd rfl h
 have e2:(op == CmpOp.NotIn)=false:=by cases op<;>first | rfl | exact absurd rfl h2
 cases b<;>simp[behindInMarks,e1,e2]
theorem i9{op:CmpOp}{r:R2}(ho:i6 X (compareOp op) r)(ha:PE X a ta)(hb:PE X b tb)(hm:behindInMarks op b=false):PE X (.Compare a [op] [b] pos) (Mr r ta tb):=by
 intro pins s σ H Q I h;exact wpAny_Compare1 (IG ha hb I h λv u s2 x y H2 I2 rx ry q=>ho pins s2 σ H2 x y v u Q I2 rx ry q) hm
def A1(t:TE):TT:=λσ H Q=>t σ H λx H'=>∃k,x=.bl k/\Q k H'
theorem tR{op:CmpOp}{r:R2}(ho:i6 X (compareOp op) r)(ha:PE X a ta)(hb:PE X b tb)(hm:behindInMarks op b=false):PT X (.Compare a [op] [b] pos) (A1 (Mr r ta tb)):=by
 intro pins s σ H Q I h
 refine wpAny_isTrue_Compare1 (bD (ha pins s σ H _ I h) λv s1 ⟨x,H1,I1,r1,q1⟩=>bD (hb pins s1 σ H1 _ I1 q1) λu s2 ⟨y,H2,I2,r2,q2⟩ =>
  bD (ho pins s2 σ H2 x y v u _ I2 r1 r2 q2) λc s3 ⟨z,H3,I3,r3,k,e,q3⟩=>?_) hm
 subst e;cases r3;exact Yh ⟨H3,I3,q3⟩
def A2(r r':R2)(ta tb tc:TE):TE:=λσ H Q=>ta σ H λx H1=>tb σ H1 λy H2=>r x y H2 λz H3=>∃k,z=.bl k /\
 (if k=true then tc σ H3 λw' H4=>r' y w' H4 Q else Q (.bl false) H3)
theorem A4{op op':CmpOp}{r r':R2}(ho:i6 X (compareOp op) r)(ho':i6 X (compareOp op') r')(ha:PE X a ta)(hb:PE X b tb)(hc:PE X c tc)
  (hm:lastMarks [op,op'] [b,c]=false:=by with_unfolding_all rfl):PT X (.Compare a [op,op'] [b,c] pos) (A1 (A2 r r' ta tb tc)):=by
 intro pins s σ H Q I h
 refine isTrue_chain (bD (ha pins s σ H _ I h) λv s1 ⟨x,H1,I1,r1,q1⟩=>test_link (bD (hb pins s1 σ H1 _ I1 q1) λu s2 ⟨y,H2,I2,r2,q2⟩ =>
  bD (ho pins s2 σ H2 x y v u _ I2 r1 r2 q2) λd s3 ⟨z,H3,I3,r3,k,e,q3⟩=>?_)) hm
 subst e;cases r3;refine Yh ?_
 cases k with
 | false =>
  obtain⟨k',e',q'⟩:=q3;cases e';exact ite_ff ⟨H3,I3,q'⟩
 | true =>
  refine ite_tt (test_last (bD (hc pins s3 σ H3 _ I3 q3) λw' s4 ⟨z',H4,I4,r4,q4⟩=>bD (ho' pins s4 σ H4 y z' u w' _ I4 r2 r4 q4) λd' s5 ⟨z2,H5,I5,r5,k2,e2,q5⟩=>?_));subst e2;cases r5;exact Yh ⟨H5,I5,q5⟩
theorem mU:(sizeLine:Nat) < 2 ^ 63:=by rw[Y4];decide
theorem wj:i6 X (binaryOp .Add) (λx y H Q=>∃i j,x=.str i/\y=.str j/\i.length + j.length<=sizeLine/\Q (.str (i++j)) H):=by
 intro pins s σ H x y v u Q I rx ry h;obtain⟨i,j,rfl,rfl,hz,q⟩:=h;obtain⟨t,rfl⟩:=rx;obtain⟨t',rfl⟩:=ry;exact add_str (λt' tk=>⟨.str (i++j),H,I.tok _,⟨_,rfl⟩,q⟩) hz
theorem vals1{x:V}{us:List Value}(r:Vals [x] us):∃u,us=[u]/\RelV x u:=by
 cases r with
 | cons r1 r2=>cases r2;exact⟨_,rfl,r1⟩
theorem vals2{x y:V}{us:List Value}(r:Vals [x,y] us):∃u w',us=[u,w']/\RelV x u/\RelV y w':=by
 cases r with
 | cons r1 r2 =>
  cases r2 with
  | cons r3 r4=>cases r4;exact⟨_,_,rfl,r1,r3⟩
theorem uD:iN X (.builtin "divmod") (λxs H Q=>∃i j,xs=[.int i,.int j]/\Mu i j/\∀p,H p=none->Q (.ref p) (upd H p (.tup [.int (i / j),.int (i % j)]))):=by
 intro pins s σ H xs us Q I r h;obtain⟨i,j,rfl,⟨h1,h2⟩,q⟩:=h;obtain⟨u,w',rfl,⟨t,rfl⟩,⟨t',rfl⟩⟩:=vals2 r;refine divmod_int (by omega) ?_ (.inl (PyProof.noPylong_small (by omega)));rw[Int.fdiv_eq_ediv_of_nonneg i (by omega),Int.fmod_eq_emod_of_nonneg i (by omega)];have hn:H s.heap.objs.size=none:=I.hok.fresh (Nat.le_refl _);refine⟨.ref s.heap.objs.size,_,?_,rfl,q _ hn⟩;refine I.laid (λb o e=>Heap.get?_push_of_some _ e) (Nat.le_refl _) ⟨by simp only[List.length_cons,List.length_nil];rw[sizeLine_eq];decide,[.int (i / j) s.toks,.int (i % j) (s.toks + 1)],.cons ⟨_,rfl⟩ (.cons ⟨_,rfl⟩ .nil),?_⟩;exact⟨_,Heap.get?_push_size s.heap rfl,rfl,0,rfl⟩
end
structure wk(h:Heap)(x dx C:Addr)(mA:Str->Option Value):Prop where
 obj:h.get? x=some (PySem.W.instObj C dx)
 ns:h.Ns1 dx mA
 ne:dx≠x
theorem qZ{h:Heap}{dx:Addr}{mA:Str->Option Value}(n:h.Ns1 dx mA):∃od,h.get? dx=some od/\∀name,PySem.W.lookIn name od=some (mA name):=by
 obtain⟨o,es,ep,ho,hd,hk,_,hm⟩:=n;refine⟨o,ho,λname=>?_⟩;have e:=hm name;unfold nsFind findBy at e;rw[← Array.find?_toList]at e;unfold PySem.W.lookIn;rw[hd];dsimp only;split
 ·rename_i y q;rw[q]at e;exact X1 some e
 ·rename_i q;rw[q]at e
  have a:es.toList.any (·.refKey)=false:=by
   rw[List.any_eq_false];intro y hy;obtain⟨z,t,hkey⟩:=hk y (Array.mem_toList_iff.mp hy);simp[DictEntry.refKey,hkey]
  have a':¬ es.toList.any (·.refKey)=true:=by rw[a];exact W6
  rw[W2 a'];exact X1 some e
theorem wk.look{h:Heap}{x dx C:Addr}{mA:Str->Option Value}(I:wk h x dx C mA):∃od,PySem.W.InstAt h x (PySem.W.instObj C dx) C (some od)/\∀name,PySem.W.lookIn name od=some (mA name) :=
 let ⟨od,ho,hl⟩:=qZ I.ns
 ⟨od,⟨I.obj,rfl,rfl,ho⟩,hl⟩
section
variable {prog:Program} {w:World} {A:Around} {E:Value->Shared->Prop} {s:Shared} {K:aE} {x dx C f:Addr} {mA:Str->Option Value} {name:Str} {v:Value}
theorem get_map{expr:Bool}{Q:Value->Shared->Prop}(X:K.In s.heap)(I:wk s.heap x dx C mA)(hg:PySem.W.plainGet K C name=true)(hh:PySem.W.hasDictIn K C=true)
  (ha:PySem.W.findIn K (.ref C) name=some none) (hv:mA name=some v) (hv':PySem.W.handedIn v=true) (h:Q v {s with toks:=s.toks + 1}) :
  wpAny (model prog w) A (getAttr (.ref x) name expr) Q E s:=by
 obtain⟨od,J,hl⟩:=I.look;exact PySem.W.get_value X J (YB hg).1 (PySem.W.findObj_own hh ha rfl (by rw[hl,hv])) hv' h
theorem A5{pl:Sem Bool}{Q:Value×List Value->Shared->Prop}(X:K.In s.heap)(I:wk s.heap x dx C mA)(hg:PySem.W.plainGet K C name=true)
  (hf:PySem.W.findIn K (.ref C) name=some (some (.ref f))) (ht:PySem.W.isFn K (.ref f)=true) (hv:mA name=none) (h:Q (.ref f,[.ref x]) s) :
  wpAny (model prog w) A (getMethod (.ref x) name pl) Q E s:=by
 obtain⟨od,J,hl⟩:=I.look;exact PySem.W.method_fn X J (YB hg).1 (YB hg).2 hf (Zo.mp ht) (by show(PySem.W.lookIn name od).map (·.isSome)=some false;rw[hl,hv];rfl) h
theorem Ef{ns:List Str}{Q:Unit->Shared->Prop}(X:K.In s.heap)(I:wk s.heap x dx C mA)
  (hs:PySem.W.findIn K (.ref C) "__setattr__"=some (some (.builtin "object.__setattr__"))) (hp:PySem.W.plainOver K C=true) (ht:PySem.W.takerIn K C name=some none) (hh:PySem.W.hasDictIn K C=true)
  (hw:PySem.Within mA ns) (hsz:ns.length<=sizeLine)
  (h:∀h',wk h' x dx C (λy=>if y=name then some v else mA y)->Heap.SameBut dx s.heap h'->Q () {s with heap:=h',toks:=s.toks + 2}) :
  wpAny (model prog w) A (setAttr (.ref x) name v) Q E s:=by
 obtain⟨od,J,hl⟩:=I.look;refine PySem.W.set_plain X J hs (PySem.W.osa_open (s:={s with toks:=s.toks + 1}) (r:=none) X J hp ht λb=>?_);obtain⟨cd,hc,hd'⟩:=PySem.W.any_some hh;have hx:s.heap.get? x=some ⟨.ref C,some dx,.plain,#[]⟩:=I.obj;refine WS (WX (WS (WS (wpAny_loadPart hx (WS (PySem.W.Looks.here (s:={s with toks:=s.toks + 1}) (PySem.W.looks_clsIn X hc) ?_))))));rw[hd'];refine WX (a:=some dx) (WS (WX (WS ?_)));refine wpAny_nsSet1 (s:={s with toks:=s.toks + 1}) I.ns λh' Ow Eg=>?_
 obtain⟨oD,esD,epD,hoD,yc,hcD⟩:=Ow.count (PySem.Within.cons name v hw);refine WS (wpAny_lookBehind hoD (by rw[yc];exact pastItsLine_dict (Xh hcD (by rw[Xi];omega))) ?_);exact WX (h _ ⟨(Eg.2 _ (Yu I.ne)).trans I.obj,Ow,I.ne⟩ Eg)
theorem A6{R:Result->Shared->Prop}{vs:List Value}{kw:List (Str×Value)}(X:K.In s.heap)(hm:PySem.W.makesIn K C=true)
  (hi:PySem.W.findIn K (.ref C) "__init__"=some (some (.ref f))) (hf:PySem.W.typeIn K (.ref f)=some (.type "function"))
  (h:codeAny (model prog w) (A.under (.builtin "type.__call__" ⟨.ref C::vs,kw⟩)) (.call (.ref f) ⟨.ref (s.heap.objs.size + 1)::vs,kw⟩) (PySem.W.InitBack (s.heap.objs.size + 1) R)
   {s with heap:=(s.heap.push PySem.W.emptyDict).push (PySem.W.instObj C s.heap.objs.size)}) :
  codeAny (model prog w) A (.call (.ref C) ⟨vs,kw⟩) R s:=by
 obtain⟨hh,g,d,t,os⟩:=s;exact PySem.W.make_core (PySem.W.makes_of X hm) (PySem.W.looks_findIn X hi) (λself=>PySem.W.bind_fn X self hf) (.inl rfl) h
end
def cW(f:Str)(v:V):List (Str×V)->List (Str×V)
 | []=>[(f,v)]
 | (g,x)::r=>if g=f then(g,v)::r else(g,x)::cW f v r
theorem jZ(f g:Str)(v:V):∀fs:List (Str×V),(cW f v fs).lookup g=if g=f then some v else fs.lookup g
 | []=>by
  show List.lookup g [(f,v)]=_;by_cases h:g=f
  ·have hb:(g == f)=true:=beq_iff_eq.mpr h;simp only[List.lookup,hb,if_pos h]
  ·have hb:(g == f)=false:=beq_eq_false_iff_ne.mpr h;simp only[List.lookup,hb,if_neg h]
 | (k,x)::r=>by
  have ih:=jZ f g v r;rw[show cW f v ((k,x)::r)=(if k=f then(k,v)::r else(k,x)::cW f v r)from rfl];by_cases hk:k=f
  ·rw[W4 hk];by_cases h:g=k
   ·have hb:(g == k)=true:=beq_iff_eq.mpr h;simp only[List.lookup,hb,if_pos (h.trans hk)]
   ·have hb:(g == k)=false:=beq_eq_false_iff_ne.mpr h;simp only[List.lookup,hb,if_neg (λe:g=f=>h (e.trans hk.symm))]
  ·rw[W2 hk];by_cases h:g=k
   ·have hb:(g == k)=true:=beq_iff_eq.mpr h;simp only[List.lookup,hb,if_neg (λe:g=f=>hk (h.symm.trans e))]
   ·have hb:(g == k)=false:=beq_eq_false_iff_ne.mpr h;simp only[List.lookup,hb];exact ih
theorem iO(f:Str)(v:V):∀fs:List (Str×V),f∈(cW f v fs).map (·.1)/\∀g,g∈fs.map (·.1)->g∈(cW f v fs).map (·.1)
 | []=>⟨by simp[cW],λg h=>by simp at h⟩
 | (k,x)::r=>by
  obtain⟨i1,i2⟩:=iO f v r;rw[show cW f v ((k,x)::r)=(if k=f then(k,v)::r else(k,x)::cW f v r)from rfl];by_cases hk:k=f
  ·rw[if_pos hk];subst hk;exact⟨by simp,λg h=>by simpa using h⟩
  ·rw[W2 hk];refine⟨?_,λg h=>?_⟩
   ·rw[XW];exact W9 _ i1
   ·rw[XW]at h ⊢;rcases Xj.mp h with e | e
    ·exact Xj.mpr (.inl e)
    ·exact W9 _ (i2 g e)
theorem dO(f:Str)(v:V):∀fs:List (Str×V),(cW f v fs).length<=fs.length + 1
 | []=>by simp[cW]
 | (k,x)::r=>by
  have ih:=dO f v r;rw[show cW f v ((k,x)::r)=(if k=f then(k,v)::r else(k,x)::cW f v r)from rfl];by_cases hk:k=f
  ·rw[W4 hk,Xi,Xi];omega
  ·rw[W2 hk,Xi,Xi];omega
theorem iL.some_of{v:V}{o:Option Value}(r:iL (some v) o):∃u,o=some u/\RelV v u:=by
 cases o with
 | none=>exact(show False from r).elim
 | some u=>exact⟨u,rfl,r⟩
theorem iL.none_of{o:Option Value}(r:iL none o):o=none:=by
 cases o with
 | none=>rfl
 | some u=>exact(show False from r).elim
theorem ra{v:V}{u:Value}(r:RelV v u):PySem.W.handedIn u=true:=by
 cases v with
 | non=>cases (show u=Value.none from r);rfl
 | bl b=>cases (show u=Value.bool b from r);rfl
 | int i=>obtain⟨t,e⟩:=(show ∃t,u=Value.int i t from r);cases e;rfl
 | str x=>obtain⟨t,e⟩:=(show ∃t,u=Value.str x t from r);cases e;rfl
 | byt b=>obtain⟨t,e⟩:=(show ∃t,u=Value.bytes b t from r);cases e;rfl
 | flt b=>obtain⟨t,e⟩:=(show ∃t,u=Value.float b t from r);cases e;rfl
 | ref a=>cases (show u=Value.ref a from r);rfl
 | ty n=>cases (show u=Value.type n from r);rfl
section
variable {P:Program} {w:World} {H H':Hp} {h h':Heap} {a C dx:Addr} {fs fs':List (Str×V)}
theorem sf(hok:jW P w H h)(e:H a=some (.ins C dx fs)):∃mA,wk h a dx C mA/\(∀f,iL (fs.lookup f) (mA f))/\PySem.Within mA (fs.map (·.1))/\fs.length<=1000/\H dx=some (.own a):=by
 obtain⟨d,z,ne,ob,mA,n,r,q⟩:=(show dn P w H h a (.ins C dx fs)from hok a _ e);exact⟨mA,⟨ob,n,ne⟩,r,q,z,d⟩
end
structure yd(K:aE)(C:Addr):Prop where
 pg:PySem.W.plainGet K C Str.empty=true
 hd:PySem.W.hasDictIn K C=true
 po:PySem.W.plainOver K C=true
 sa:PySem.W.findIn K (.ref C) "__setattr__"=some (some (.builtin "object.__setattr__"))
theorem yd.get{K:aE}{C:Addr}(c:yd K C)(f:Str):PySem.W.plainGet K C f=true:=c.pg
def cO(K:aE)(C:Addr)(f:Str):Prop:=PySem.W.findIn K (.ref C) f=some none
theorem cO.My{K:aE}{C:Addr}{f:Str}(n:cO K C f):PySem.W.takerIn K C f=some none:=by
 unfold PySem.W.takerIn;rw[show PySem.W.findIn K (.ref C) f=some none from n];rfl
structure Wk(K:aE)(C:Addr)(f:Str)(v:V)(u:Value):Prop where
 at_:PySem.W.findIn K (.ref C) f=some (some u)
 rel:RelV v u
 get:PySem.W.specialIn K u "__get__"=some none
 cp:PySem.W.copiedNames.contains f=false
structure Meth(K:aE)(C:Addr)(m:Str)(f:Addr):Prop where
 at_:PySem.W.findIn K (.ref C) m=some (some (.ref f))
 fn:PySem.W.isFn K (.ref f)=true
 kp:PySem.W.keepIn K (.ref f)=true
section
variable {X:Cx} {pins:List (Addr×Obj)} {σ:St} {H:Hp} {s:Shared} {a C dx:Addr} {fs:List (Str×V)} {f:Str} {v:V} {A:Around} {E:Value->Shared->Prop}
theorem wm{b:Bool}{Q:Value->Shared->Prop}(I:Inv X pins σ H s)(e:H a=some (.ins C dx fs))(c:yd X.K C)(n:cO X.K C f)(l:fs.lookup f=some v)
  (h:∀u s',Inv X pins σ H s'->RelV v u->Q u s'):wpAny (model X.prog X.w) A (getAttr (.ref a) f b) Q E s:=by
 obtain⟨mA,O,r,_,_,_⟩:=sf I.hok e;obtain⟨u,hu,ru⟩:=iL.some_of (v:=v) (o:=mA f) (by rw[← l];exact r f);exact get_map I.iM O (c.get f) c.hd n hu (ra ru) (h u _ (I.tok _) ru)
theorem lh{m:Str}{g:Addr}{pl:Sem Bool}{Q:Value×List Value->Shared->Prop}(I:Inv X pins σ H s)(e:H a=some (.ins C dx fs))(c:yd X.K C)(k:Meth X.K C m g)(l:fs.lookup m=none)
  (h:Q (.ref g,[.ref a]) s):wpAny (model X.prog X.w) A (getMethod (.ref a) m pl) Q E s:=by
 obtain⟨mA,O,r,_,_,_⟩:=sf I.hok e;have hn:mA m=none:=iL.none_of (by rw[← l];exact r m);exact A5 I.iM O (c.get m) k.at_ k.fn hn h
theorem wo{y:V}{u:Value}{Q:Unit->Shared->Prop}(I:Inv X pins σ H s)(e:H a=some (.ins C dx fs))(c:yd X.K C)(n:cO X.K C f)(hl:fs.length < 1000)(ry:RelV y u)
  (h:∀s',Inv X pins σ (upd H a (.ins C dx (cW f y fs))) s'->Q () s'):wpAny (model X.prog X.w) A (setAttr (.ref a) f u) Q E s:=by
 obtain⟨mA,O,r,wi,_,ho⟩:=sf I.hok e;have hz:(fs.map (·.1)).length<=sizeLine:=by rw[WY,Y4];omega
 refine Ef I.iM O c.sa c.po n.My c.hd wi hz λh' O' sb=>h _ ?_
 have hd:∃o,h'.get? dx=some o:=let ⟨o,_,_,e',_⟩:=O'.ns;⟨o,e'⟩
 refine I.write (x:=a) (e:=dx) (by rw[e];exact XB) (.inr ho) (λb q hb z=>(sb.2 b hb).trans z) hd ?_;refine⟨by rw[uN O.ne];exact ho,?_,O.ne,O'.obj,_,O'.ns,λg=>?_,λg hg=>?_⟩
 ·have:=dO f y fs;omega
 ·show iL ((cW f y fs).lookup g) (if g=f then some u else mA g);rw[jZ];by_cases q:g=f
  ·rw[W4 q,W4 q];exact ry
  ·rw[W2 q,W2 q];exact r g
 ·by_cases q:g=f
  ·rw[q];exact(iO f y fs).1
  ·refine(iO f y fs).2 g (wi g λz=>hg ?_);show(if g=f then some u else mA g)=none;rw[W2 q];exact z
theorem Inv.made(I:Inv X pins σ H s):Inv X pins σ (upd (upd H s.heap.objs.size (.own (s.heap.objs.size + 1))) (s.heap.objs.size + 1) (.ins C s.heap.objs.size []))
  {s with heap:=(s.heap.push PySem.W.emptyDict).push (PySem.W.instObj C s.heap.objs.size)}:=by
 have e1:(s.heap.push PySem.W.emptyDict).get? s.heap.objs.size=some PySem.W.emptyDict:=Xf s.heap rfl
 have e2:((s.heap.push PySem.W.emptyDict).push (PySem.W.instObj C s.heap.objs.size)).get? (s.heap.objs.size + 1)=some (PySem.W.instObj C s.heap.objs.size):=by
  have:=Xf (s.heap.push PySem.W.emptyDict) (o:=PySem.W.instObj C s.heap.objs.size) rfl
  rwa [Yj]at this
 have e3:(s.heap.push PySem.W.emptyDict).Ns s.heap.objs.size (λ_=>none):=⟨PySem.W.emptyDict,#[],_,e1,rfl,(λe he=>absurd he (by simp)),λ_=>rfl⟩;have I1:=I.laid (a:=s.heap.objs.size) (o:=.own (s.heap.objs.size + 1)) (h':=s.heap.push PySem.W.emptyDict) (t':=s.toks) (λb u q=>Heap.get?_push_of_some _ q) (Nat.le_refl _) ⟨_,e1⟩;refine I1.laid (a:=s.heap.objs.size + 1) (o:=.ins C s.heap.objs.size []) (t':=s.toks) (λb u q=>Heap.get?_push_of_some _ q) (Nat.le_of_eq (Heap.size_push _ _)) ?_;have ne:s.heap.objs.size≠s.heap.objs.size + 1:=Nat.ne_of_lt (Nat.lt_succ_self _);refine⟨by rw[uN ne,uS],Nat.zero_le _,ne,e2,λ_=>none,(Heap.Ns1.of_empty e3).at λo q=>Heap.get?_push_of_some _ q,λ_=>True.intro,λy hy=>absurd rfl hy⟩
theorem ye{prog:Program}{w:World}{env:Env}{e:Expr}{f:Str}{pos:Pos}{s:Shared}{Q:Value->Shared->Prop}(hb:attributeBase e f env (eval e env)=eval e env)
  (h:wpAny (model prog w) A (eval e env) (λo s₁=>wpAny (model prog w) A (getAttr o f true) Q E s₁) E s):wpAny (model prog w) A (eval (.Attribute e f pos) env) Q E s :=
 Attribute_any_ h (by rw[arm_eval_Attribute,hb])
end
def Mz(K:aE)(ta:TE)(f:Str):TE:=λσ H Q=>ta σ H λx H1=>∃a C dx fs v,x=.ref a/\H1 a=some (.ins C dx fs)/\yd K C/\cO K C f/\fs.lookup f=some v/\Q v H1
def O7(K:aE)(ta tv:TE)(f:Str):TS:=λD σ H=>tv σ H λy H1=>ta σ H1 λx H2=>∃a C dx fs,x=.ref a/\H2 a=some (.ins C dx fs)/\yd K C/\cO K C f/\fs.length < 1000 /\
 D.nx σ (upd H2 a (.ins C dx (cW f y fs)))
section
variable {X:Cx} {o e value:Expr} {f:Str} {pos pos' tpos:Pos} {ta tv:TE}
theorem fU(he:PE X e ta)(hb:attributeBase e f X.env (eval e X.env)=eval e X.env):PE X (.Attribute e f pos) (Mz X.K ta f):=by
 intro pins s σ H Q I h;refine ye hb (bD (he pins s σ H _ I h) λu s1 ⟨x,H1,I1,rx,a,C,dx,fs,v,ex,ea,c,n,l,q⟩=>?_);subst ex;obtain rfl:u=Value.ref a:=rx;exact wm I1 ea c n l λu' s2 I2 ru=>⟨v,H1,I2,ru,q⟩
theorem mV(ha:PE X o ta)(hv:PE X value tv)(hs:swapsWith value (some (.Attribute o f pos')) pos.line X.env=pure false):PS X (.Assign [.Attribute o f pos'] value pos) (O7 X.K ta tv f):=by
 intro pins s σ H D I h;refine Yw (bD (hv pins s σ H _ I h) λu s1 ⟨y,H1,I1,ry,q⟩=>bD (ha pins s1 σ H1 _ I1 q) λov s2 ⟨x,H2,I2,rx,a,C,dx,fs,ex,ea,c,n,l,q2⟩=>?_) hs;subst ex;obtain rfl:ov=Value.ref a:=rx;exact wo I2 ea c n l ry λs3 I3=>⟨σ,_,I3,q2⟩
end
section
variable {X:Cx} {pins:List (Addr×Obj)} {σ:St} {H:Hp} {s:Shared} {A:Around} {E:Value->Shared->Prop} {Q:Value->Shared->Prop} {c:Value} {b:Bool}
inductive oW(K:aE)(H:Hp):V->Value->Prop where
 | non:oW K H .non (.type "NoneType")
 | bl (x:Bool):oW K H (.bl x) (.type "bool")
 | int (i:Int):oW K H (.int i) (.type "int")
 | str (x:Str):oW K H (.str x) (.type "str")
 | flt (x:UInt64):oW K H (.flt x) (.type "float")
 | lst {a:Addr} {xs:List V} (e:H a=some (.lst xs)):oW K H (.ref a) (.type "list")
 | kS {a:Addr} {o:Obj} {xs:List V} (e:H a=some (.kS o (.lst xs))):oW K H (.ref a) (.type "list")
 | tup {a:Addr} {xs:List V} (e:H a=some (.tup xs)):oW K H (.ref a) (.type "tuple")
 | dK {a:Addr} {kvs:List (Key×V)} (e:H a=some (.dK kvs)):oW K H (.ref a) (.type "dict")
 | dT {a:Addr} {kvs:List (List Key×V)} (e:H a=some (.dT kvs)):oW K H (.ref a) (.type "dict")
 | ins {a C dx:Addr} {fs:List (Str×V)} (e:H a=some (.ins C dx fs)) (cl:yd K C) (ha:PySem.W.findIn K (.ref C) "__class__"=some (some (.builtin "object.__class__")))
   (hn:PySem.W.specialIn K (.builtin "object.__class__") "__get__"=some (some (.builtin "getset_descriptor.__get__"))) (htk:PySem.W.takesIn K (.builtin "object.__class__")=some true)
   (hm:PySem.W.mroIn K C (.type "object")=some true):oW K H (.ref a) (.ref C)
end
structure cm(k:Nat)(A:Around):Prop where
 hd:A.handled=none
 dp:A.depth + 3 * k + 5 < recursionLimit
 un:A.units + 16 * k + 200 < cLine
 gd:A.guards=some []
theorem cm.mono{j k:Nat}{A:Around}(r:cm k A)(h:j<=k):cm j A:=⟨r.hd,by have:=r.dp;omega,by have:=r.un;omega,r.gd⟩
theorem cm.deeper{k:Nat}{A:Around}(r:cm (k + 1) A)(env:Env):cm k (A.deeper env) :=
 ⟨r.hd,by have:=r.dp;show A.depth + 1 + 3 * k + 5 < _;omega,by have:=r.un;show A.units + 3 + 16 * k + 200 < _;omega,r.gd⟩
theorem wq{A:Around}{C:Addr}{us:List Value}{kw:List (Str×Value)}:(A.under (.builtin "type.__call__" ⟨.ref C::us,kw⟩)).depth=A.depth + 1:=by
 first | rfl | simp[Around.under,Code.weight,Code.isCreation,Code.isGuard,Code.isCaller,Code.frames,Code.isFrame,guardIds]
theorem wu{A:Around}{C:Addr}{us:List Value}{kw:List (Str×Value)}:(A.under (.builtin "type.__call__" ⟨.ref C::us,kw⟩)).units=A.units + 1:=by
 first | rfl | simp[Around.under,Code.cUnits,Code.frames,Code.isFrame]
theorem cm.make{k:Nat}{A:Around}(r:cm (k + 1) A)(C:Addr)(us:List Value)(kw:List (Str×Value)):cm k (A.under (.builtin "type.__call__" ⟨.ref C::us,kw⟩)) :=
 ⟨r.hd,by have:=r.dp;rw[wq];omega,by have:=r.un;rw[wu];omega,r.gd⟩
theorem cm.depth{k:Nat}{A:Around}(r:cm k A):A.depth < recursionLimit:=by have:=r.dp;omega
theorem cm.units{k:Nat}{A:Around}(r:cm k A):A.units + 64 < cLine:=by have:=r.un;omega
def sk:TA:=λ_ H Q=>Q [] H
def A7(ta:TE)(tr:TA):TA:=λσ H Q=>ta σ H λx H1=>tr σ H1 λxs H2=>Q (x::xs) H2
section
variable {X:Cx} {e:Expr} {es:List Expr} {te:TE} {t:TA} {pos:Pos}
theorem pN:PA X [] sk:=λ_ _ _ _ H Q I h=>YG ⟨[],H,I,.nil,h⟩
theorem pK(ha:PE X e te)(hr:PA X es t)(hs:starEach (e::es) X.env=(false,eval e X.env)::starEach es X.env:=by rfl):PA X (e::es) (A7 te t):=by
 intro pos pins s σ H Q I h;rw[hs];show wpAny _ _ (spliced ((false,eval e X.env)::backTo pos (starEach es X.env))) _ _ s;refine YC (bD (ha pins s σ H _ I h) λu s1 ⟨x,H1,I1,r1,q1⟩=>?_);exact bD (hr pos pins s1 σ H1 _ I1 q1) λus s2 ⟨xs,H2,I2,r2,q2⟩=>⟨x::xs,H2,I2,.cons r1 r2,q2⟩
def IL(t:TA):TE:=λσ H Q=>t σ H λxs H1=>xs.length<=sizeLine/\∀p,H1 p=none->Q (.ref p) (upd H1 p (.tup xs))
def IM(t:TA):TE:=λσ H Q=>t σ H λxs H1=>xs.length<=sizeLine/\∀p,H1 p=none->Q (.ref p) (upd H1 p (.lst xs))
theorem ff{x1}(h:PA X es t):PE X (.Tuple es x1 pos) (IL t):=by
 intro pins s σ H Q I hq;refine wpAny_Tuple_spliced (bD (h pos pins s σ H _ I hq) λus s1 ⟨xs,H1,I1,r,z,q⟩=>⟨by rw[← r.length];exact z,?_⟩);have hf:H1 s1.heap.objs.size=none:=I1.hok.fresh (WU _);refine⟨.ref s1.heap.objs.size,upd H1 s1.heap.objs.size (.tup xs),I1.laid (t':=s1.toks) (λb u e=>WW _ e) (WU _) ?_,rfl,q _ hf⟩;exact⟨z,us,r,⟨_,Xf _ rfl,rfl,_,rfl⟩⟩
theorem eE(h:PA X es t):PE X (.List es pos) (IM t):=by
 intro pins s σ H Q I hq;refine wpAny_List_spliced (bD (h pos pins s σ H _ I hq) λus s1 ⟨xs,H1,I1,r,z,q⟩=>⟨by rw[← r.length];exact z,?_⟩);have hf:H1 s1.heap.objs.size=none:=I1.hok.fresh (WU _);refine⟨.ref s1.heap.objs.size,upd H1 s1.heap.objs.size (.lst xs),I1.laid (t':=s1.toks) (λb u e=>WW _ e) (WU _) ?_,rfl,q _ hf⟩;exact⟨z,us,0,r,Xf _ rfl⟩
end
abbrev Sp:=List V->Hp->VK->XK->Prop
abbrev uq:=List Env->Hp->Shared->XK->Value->Shared->Prop
structure wx(P:Program)(w:World)(K:aE)(mg:Str->Option Value)(base:Heap)(A:Around)(outer:List Env)(s:Shared)(H:Hp):Prop where
 frames:A.frames=some outer
 mod:Mod K mg base
 bs:∀b o,base.get? b=some o->s.heap.get? b=some o/\H b=none
 bsz:base.objs.size<=s.heap.objs.size
 mQ:s.heap.FunFrames base outer
 frf:∀b∈gQ outer,H b=none
 hok:jW P w H s.heap
 bare:AllBare s.gens
def CE(outer:List Env)(P:Program)(w:World)(H:Hp)(s:Shared)(Q:VK)(u:Value)(s':Shared):Prop :=
 ∃v H',s'.os=s.os/\AllBare s'.gens/\Un (gQ outer) [] H H' s.heap s'.heap/\jW P w H' s'.heap/\RelV v u/\Q v H'
def CR(CX:uq)(outer:List Env)(P:Program)(w:World)(H:Hp)(s:Shared)(Q:VK)(E:XK)(r:Result)(s':Shared):Prop :=
 match r with
 | .ok (.ret u)=>CE outer P w H s Q u s'
 | .ok _=>False
 | .error e=>CX outer H s E e s'
structure bw(P:Program)(w:World)(K:aE)(mg:Str->Option Value)(base:Heap)(CX:uq)(k:Nat)(f:Addr)(fd:FuncData)(ps:List Str)(sp:Sp):Prop where
 len:∀vs H Q E,sp vs H Q E->vs.length=ps.length
 run:∀(A:Around) (outer:List Env) (s:Shared) (H:Hp) (args:Args) (us:List Value) (vs:List V) (Q:VK) (E:XK),cm k A->wx P w K mg base A outer s H->BindsTo s fd args (ps.zip us)->Vals vs us->sp vs H Q E ->
  codeAny (model P w) A (.call (.ref f) args) (CR CX outer P w H s Q E) s
theorem wx.make{P:Program}{w:World}{K:aE}{mg:Str->Option Value}{base:Heap}{A:Around}{outer:List Env}{s:Shared}{H:Hp}(e:wx P w K mg base A outer s H)(C:Addr)(us:List Value)(kw:List (Str×Value)):
  wx P w K mg base (A.under (.builtin "type.__call__" ⟨.ref C::us,kw⟩)) outer s H:=⟨by first | exact e.frames | (simpa [Around.under,Code.envs,Code.isFrame,pushEnvs]using e.frames),e.mod,e.bs,e.bsz,e.mQ,e.frf,e.hok,e.bare⟩
section
variable {X:Cx} {pins:List (Addr×Obj)} {σ:St} {H:Hp} {s s':Shared}
theorem Inv.A8(I:Inv X pins σ H s):wx X.prog X.w X.K X.mg X.base X.A X.stack s H :=
 ⟨I.ok.frames,I.ok.mod,I.bs,Xh I.ok.bsz I.sz,I.stack,I.kD,I.hok,I.bare⟩
theorem Inv.after{Q:VK}{u:Value}(I:Inv X pins σ H s)(h:CE X.stack X.prog X.w H s Q u s'):EP X pins σ Q u s':=by
 obtain⟨v,H',os,bare,un,hok,r,q⟩:=h;obtain⟨hh,g,d,t,os'⟩:=s';obtain rfl:os'=s.os:=os;exact⟨v,H',I.call (h':=hh) (g':=g) (d':=d) (t':=t) (ch:=[]) un hok bare (λb z=>absurd z (by simp)),r,q⟩
end
def uE(sp:Sp)(dvs:List V)(E:XK)(t:TA):TE:=λσ H Q=>t σ H λvs H1=>sp (vs++dvs) H1 Q E
def rb(C:Addr)(m:Str)(sp:Sp)(dvs:List V)(E:XK)(ta:TE)(t:TA):TE:=λσ H Q=>ta σ H λx H1=>∃a dx fs,x=.ref a/\H1 a=some (.ins C dx fs)/\fs.lookup m=none /\
 t σ H1 λvs H2=>sp (x::(vs++dvs)) H2 Q E
def Hk(C:Addr)(sp:Sp)(dvs:List V)(E:XK)(t:TA):TE:=λσ H Q=>t σ H λvs H1=>∀x dx,H1 x=none->H1 dx=none->dx≠x ->
 sp (.ref x::(vs++dvs)) (upd (upd H1 dx (.own x)) x (.ins C dx [])) (λv H2=>v=.non/\Q (.ref x) H2) E
def Binds(K:aE)(fd:FuncData)(ps:List Str)(ds:List Value):Prop :=
 ∀(s:Shared) (us:List Value),K.In s.heap->(us++ds).length=ps.length->BindsTo s fd ⟨us,[]⟩ (ps.zip (us++ds))
theorem Binds.all{K:aE}{fd:FuncData}{ps:List Str}(h:∀us:List Value,us.length=ps.length->bindArgs fd ⟨us,[]⟩=pure (ps.zip us)):Binds K fd ps []:=λs us _ hl=>by
 rw[XC]at hl ⊢;exact .of_eq (h us hl)
def Passes(CX:uq)(X:Cx)(E:XK):Prop:=∀(pins:List (Addr×Obj)) (σ:St) (H:Hp) (s:Shared) (e:Value) (s':Shared),Inv X pins σ H s->CX X.stack H s E e s'->X.xe e s'
section
variable {X:Cx} {CX:uq} {k:Nat} {f C:Addr} {fd:FuncData} {ps:List Str} {sp:Sp} {dvs:List V} {ds:List Value} {E:XK} {x m:Str} {p pos apos:Pos} {e o:Expr} {es:List Expr} {ta:TE} {t:TA}
theorem wz{pins:List (Addr×Obj)}{σ:St}{H:Hp}{s:Shared}{Q:VK}{us:List Value}{vs:List V}(F:bw X.prog X.w X.K X.mg X.base CX k f fd ps sp)(hr:cm k X.A)(hb:Binds X.K fd ps ds)(hd:Vals dvs ds)(hx:Passes CX X E)
  (I:Inv X pins σ H s) (r:Vals vs us) (h:sp (vs++dvs) H Q E):wpAny (model X.prog X.w) X.A (call (.ref f) us) (EP X pins σ Q) X.xe s:=by
 have r2:Vals (vs++dvs) (us++ds):=r.append hd;have hl:(us++ds).length=ps.length:=by rw[← r2.length];exact F.len _ _ _ _ h
 refine Yy (Yk (F.run X.A X.stack s H ⟨us,[]⟩ (us++ds) (vs++dvs) Q E hr I.A8 (hb s us I.iM hl) r2 h) λr s' hq=>?_)
 cases r with
 | error e=>exact hx pins σ H s e s' I hq
 | ok fl =>
  cases fl with
  | ret u=>exact I.after hq
  | next=>exact False.elim hq
  | brk=>exact False.elim hq
  | cont=>exact False.elim hq
theorem yf(F:bw X.prog X.w X.K X.mg X.base CX k f fd ps sp)(hr:cm k X.A)(hg:Gl X x)(hm:X.mg x=some (.ref f))(hk:PySem.W.keepIn X.K (.ref f)=true)(hb:Binds X.K fd ps ds)(hd:Vals dvs ds)(hx:Passes CX X E)
  (ha:PA X (e::es) t) (hdb:(x == ("__debug__" : Str))=false:=by decide) (he:starEach (e::es) X.env=(false,eval e X.env)::starEach es X.env:=by rfl) (hpl:(backTo pos (starEach es X.env)).any (·.1)=false:=by rfl) :
  PE X (.Call (.Name x p) (e::es) [] pos) (uE sp dvs E t):=by
 intro pins s σ H Q I h;refine XO (gR I hg hm ?_ hdb);refine XQ (h₀:=X.base) I.ok.mod.kin hk (bD (ha pos pins s σ H _ I h) λus s1 ⟨vs,H1,I1,r,q⟩=>⟨I1.iM,?_⟩) he hpl;exact wz F hr hb hd hx I1 r q
theorem Eh{pl:Sem Bool}(he:PE X o ta)(c:yd X.K C)(hm:Meth X.K C m f)(F:bw X.prog X.w X.K X.mg X.base CX k f fd ps sp)(hr:cm k X.A)(hb:Binds X.K fd ps ds)(hd:Vals dvs ds)(hx:Passes CX X E)(ha:PA X (e::es) t)
  (hst:starEach (e::es) X.env=(false,eval e X.env)::starEach es X.env:=by rfl) (hpl:(backTo pos (starEach es X.env)).any (·.1)=false:=by rfl)
  (ht:eval (.Call (.Attribute o m apos) (e::es) [] pos) X.env=(do
   let ov ← eval o X.env
   standAt apos.atName
   let (f,first) ← holding [ov] (getMethod ov m pl)
   callWith pos f first (backTo pos (starEach (e::es) X.env)) (backToKw pos (keywordEach [] X.env))):=by rfl) :
  PE X (.Call (.Attribute o m apos) (e::es) [] pos) (rb C m sp dvs E ta t):=by
 intro pins s σ H Q I h;refine Yv (pl:=pl) (bD (he pins s σ H _ I h) λu s1 ⟨x,H1,I1,rx,a,dx,fs,ex,ea,l,q⟩=>?_) ht;subst ex;obtain rfl:u=Value.ref a:=rx;refine lh I1 ea c hm l ?_;refine XQ (first:=[.ref a]) (h₀:=X.base) I.ok.mod.kin hm.kp (bD (ha pos pins s1 σ H1 _ I1 q) λus s2 ⟨vs,H2,I2,r,q2⟩=>⟨I2.iM,?_⟩) hst hpl;exact wz (us:=.ref a::us) (vs:=.ref a::vs) F hr hb hd hx I2 (.cons rfl r) q2
theorem A9{pl:Sem Bool}(he:PE X o ta)(c:yd X.K C)(hm:Meth X.K C m f)(F:bw X.prog X.w X.K X.mg X.base CX k f fd ps sp)(hr:cm k X.A)(hb:Binds X.K fd ps ds)(hd:Vals dvs ds)(hx:Passes CX X E)
  (ht:eval (.Call (.Attribute o m apos) [] [] pos) X.env=(do
   let ov ← eval o X.env
   standAt apos.atName
   let (f,first) ← holding [ov] (getMethod ov m pl)
   callWith pos f first (backTo pos (starEach [] X.env)) (backToKw pos (keywordEach [] X.env))):=by rfl) :
  PE X (.Call (.Attribute o m apos) [] [] pos) (rb C m sp dvs E ta sk):=by
 intro pins s σ H Q I h;refine Yv (pl:=pl) (bD (he pins s σ H _ I h) λu s1 ⟨x,H1,I1,rx,a,dx,fs,ex,ea,l,q⟩=>?_) ht;subst ex;obtain rfl:u=Value.ref a:=rx;refine lh I1 ea c hm l ?_;exact PySem.W.callWith_K0 (first:=[.ref a]) I1.iM hm.kp (wz (us:=[.ref a]) (vs:=[.ref a]) F hr hb hd hx I1 (.cons rfl .nil) q)
structure Mk(K:aE)(C f:Addr):Prop where
 makes:PySem.W.makesIn K C=true
 init:PySem.W.findIn K (.ref C) "__init__"=some (some (.ref f))
 fn:PySem.W.isFn K (.ref f)=true
 kp:PySem.W.keepIn K (.ref C)=true
theorem Ba{pins:List (Addr×Obj)}{σ:St}{H:Hp}{s:Shared}{Q:VK}{us:List Value}{vs:List V}(M:Mk X.K C f)(F:bw X.prog X.w X.K X.mg X.base CX k f fd ps sp)(hr:cm (k + 1) X.A)(hb:Binds X.K fd ps ds)(hd:Vals dvs ds)
  (hx:Passes CX X E) (I:Inv X pins σ H s) (r:Vals vs us)
  (h:∀x dx,H x=none->H dx=none->dx≠x->sp (.ref x::(vs++dvs)) (upd (upd H dx (.own x)) x (.ins C dx [])) (λv H2=>v=.non/\Q (.ref x) H2) E) :
  wpAny (model X.prog X.w) X.A (call (.ref C) us) (EP X pins σ Q) X.xe s:=by
 have hq:=h (s.heap.objs.size + 1) s.heap.objs.size (I.hok.fresh (Yg _)) (I.hok.fresh (WU _)) (W5 (Nat.lt_succ_self _));have I2:=Inv.made (C:=C) I;have r2:Vals (V.ref (s.heap.objs.size + 1)::(vs++dvs)) (Value.ref (s.heap.objs.size + 1)::(us++ds)):=.cons rfl (r.append hd)
 have hl:(Value.ref (s.heap.objs.size + 1)::us++ds).length=ps.length:=by
  have e:=r2.length;rw[F.len _ _ _ _ hq]at e;exact e.symm
 refine Yy (A6 (f:=f) I.iM M.makes M.init (Zo.mp M.fn) (Yk (F.run _ X.stack _ _ ⟨Value.ref (s.heap.objs.size + 1)::us,[]⟩ (Value.ref (s.heap.objs.size + 1)::(us++ds)) _ _ E (hr.make C us [])
  (I2.A8.make C us []) (hb _ (Value.ref (s.heap.objs.size + 1)::us) I2.iM hl) r2 hq) λr s' hq'=>?_))
 cases r with
 | error e=>exact hx pins σ _ _ e s' I2 hq'
 | ok fl =>
  cases fl with
  | ret u =>
   obtain⟨v,H',I3,rv,ev,q3⟩:=I2.after hq';subst ev;exact⟨rv,⟨V.ref (s.heap.objs.size + 1),H',I3,rfl,q3⟩⟩
  | next=>exact False.elim hq'
  | brk=>exact False.elim hq'
  | cont=>exact False.elim hq'
theorem Ei(M:Mk X.K C f)(F:bw X.prog X.w X.K X.mg X.base CX k f fd ps sp)(hr:cm (k + 1) X.A)(hg:Gl X x)(hm:X.mg x=some (.ref C))(hb:Binds X.K fd ps ds)(hd:Vals dvs ds)(hx:Passes CX X E)
  (ha:PA X (e::es) t) (hdb:(x == ("__debug__" : Str))=false:=by decide) (he:starEach (e::es) X.env=(false,eval e X.env)::starEach es X.env:=by rfl) (hpl:(backTo pos (starEach es X.env)).any (·.1)=false:=by rfl) :
  PE X (.Call (.Name x p) (e::es) [] pos) (Hk C sp dvs E t):=by
 intro pins s σ H Q I h;refine XO (gR I hg hm ?_ hdb);refine XQ (h₀:=X.base) I.ok.mod.kin M.kp (bD (ha pos pins s σ H _ I h) λus s1 ⟨vs,H1,I1,r,q⟩=>⟨I1.iM,?_⟩) he hpl;exact Ba M F hr hb hd hx I1 r q
end
section
variable {X:Cx} {CX:uq} {k:Nat} {f C:Addr} {fd:FuncData} {ps ks:List Str} {sp:Sp} {E:XK} {x m:Str} {p pos apos kpos:Pos} {e o:Expr} {es:List Expr} {kws:List Keyword} {te ta:TE} {t tk:TA} {nm:Option Str}
structure O8(K:aE)(fd:FuncData)(ps ks:List Str)(g:List Value->List Value->List Value)(gV:List V->List V->List V):Prop where
 to:∀(s:Shared) (us ws:List Value),K.In s.heap->(g us ws).length=ps.length->BindsTo s fd ⟨us,ks.zip ws⟩ (ps.zip (g us ws))
 rel:∀{vs:List V} {us:List Value} {zs:List V} {ws:List Value},Vals vs us->Vals zs ws->Vals (gV vs zs) (g us ws)
variable {g:List Value->List Value->List Value} {gV:List V->List V->List V}
end
structure aI(N P:List Str)(sc:Scope):Prop where
 kind:sc.kind=.function
 co:sc.isCoroutine=false
 gen:sc.isGenerator=false
 nd:N.Nodup
 pre:N.take P.length=P
 par:∀x∈P,sc.names.lookup x=some .local∨sc.names.lookup x=some .cell
 nofree:∀y∈sc.names,y.2≠.free
theorem rf{kindOf:Str->Option NameKind}{x:Str}:∀{binds:List (Str×Value)} {m:Str->Option Value},(∀v,(x,v)∉binds)->bindL kindOf binds m x=m x
 | [],_,_=>rfl
 | (n,v)::r,m,h=>by
  unfold bindL;rw[rf λw hw=>h w (List.mem_cons_of_mem _ hw)];split
  ·have:x≠n:=by rintro rfl;exact h v W7
   simp[this]
  ·rfl
theorem rg{kindOf:Str->Option NameKind}{x:Str}:∀{binds:List (Str×Value)} {m:Str->Option Value},(∀v,(x,v)∉binds)->bindC kindOf binds m x=m x
 | [],_,_=>rfl
 | (n,v)::r,m,h=>by
  unfold bindC;rw[rg λw hw=>h w (List.mem_cons_of_mem _ hw)];split
  ·rfl
  ·have:x≠n:=by rintro rfl;exact h v W7
   simp[this]
theorem rh{kindOf:Str->Option NameKind}{x:Str}{v:Value}:∀{P:List Str} {vs:List Value} {i:Nat} {m:Str->Option Value},P.Nodup->P[i]?=some x->vs[i]?=some v->kindOf x=some .local ->
  bindL kindOf (P.zip vs) m x=some v
 | [],_,_,_,_,h,_,_=>by simp at h
 | _::_,[],_,_,_,_,h,_=>by simp at h
 | p::P,w::vs,0,m,nd,h1,h2,hk=>by
  simp at h1 h2;subst h1;subst h2;show bindL kindOf ((p,w)::P.zip vs) m p=_;unfold bindL;rw[rf λv hv=>(List.nodup_cons.mp nd).1 (List.of_mem_zip hv).1,if_pos hk];simp
 | p::P,w::vs,i + 1,m,nd,h1,h2,hk=>by
  show bindL kindOf ((p,w)::P.zip vs) m x=_;unfold bindL;exact rh (i:=i) (List.nodup_cons.mp nd).2 (by simpa using h1) (by simpa using h2) hk
theorem rj{kindOf:Str->Option NameKind}{x:Str}{v:Value}:∀{P:List Str} {vs:List Value} {i:Nat} {m:Str->Option Value},P.Nodup->P[i]?=some x->vs[i]?=some v->kindOf x≠some .local ->
  bindC kindOf (P.zip vs) m x=some v
 | [],_,_,_,_,h,_,_=>by simp at h
 | _::_,[],_,_,_,_,h,_=>by simp at h
 | p::P,w::vs,0,m,nd,h1,h2,hk=>by
  simp at h1 h2;subst h1;subst h2;show bindC kindOf ((p,w)::P.zip vs) m p=_;unfold bindC;rw[rg λv hv=>(List.nodup_cons.mp nd).1 (List.of_mem_zip hv).1,if_neg hk];simp
 | p::P,w::vs,i + 1,m,nd,h1,h2,hk=>by
  show bindC kindOf ((p,w)::P.zip vs) m x=_;unfold bindC;exact rj (i:=i) (List.nodup_cons.mp nd).2 (by simpa using h1) (by simpa using h2) hk
def start(N:List Str)(vs:List V):St:=vs.map some++List.replicate (N.length - vs.length) none
def lj(CX:uq)(P:Program)(w:World)(K:aE)(mg:Str->Option Value)(base:Heap)(N:List Str)(qual:Str)(scope:Scope)(f:Addr)(cd:Value)(A:Around)(outer:List Env)(s:Shared)(H:Hp)(E:XK):Cx where
 prog:=P
 w:=w
 K:=K
 mg:=mg
 base:=base
 A:=A.deeper (envOfC qual scope s.heap.objs.size f cd)
 N:=N
 s₀:=s
 H₀:=H
 env:=envOfC qual scope s.heap.objs.size f cd
 outer:=outer
 stack:=envOfC qual scope s.heap.objs.size f cd::outer
 ex:=[]
 calm:=true
 fn:=λ_=>true
 pn:=[]
 xe:=λe s'=>wpAny (model P w) (A.deeper (envOfC qual scope s.heap.objs.size f cd)) (leaving (envOfC qual scope s.heap.objs.size f cd) e) (λ_ s''=>CX outer H s E e s'') (λe' s''=>CX outer H s E e' s'') s'
theorem uF{sc:Scope}{n:Nat}{x:Str}(h:sc.names.lookup x=some .cell):∃c,(cellsFrom n sc.names []).lookup x=some c:=by
 have q:=Y5 sc.names n [] (.inl h);exact YJ.mp q
theorem zf{CX:uq}{P:Program}{w:World}{K:aE}{mg:Str->Option Value}{base:Heap}{N ps:List Str}{qual:Str}{scope:Scope}{f:Addr}{cd:Value}{A:Around}{outer:List Env}{s s1:Shared}{H:Hp}{E:XK}{us:List Value}{vs:List V}
  (S:aI N ps scope) (hd:A.handled=none) (e0:wx P w K mg base A outer s H) (hl:vs.length=ps.length) (r:Vals vs us)
  (x:InCallC s s.heap.objs.size (bindL (envOfC qual scope s.heap.objs.size f cd).kindOf (ps.zip us) λ_=>none) (cellsFrom (s.heap.objs.size + 1) scope.names []) (bindC (envOfC qual scope s.heap.objs.size f cd).kindOf (ps.zip us) λ_=>none) s1) :
  Inv (lj CX P w K mg base N qual scope f cd A outer s H E) [] (start N vs) H s1:=by
 have hpl:ps.length<=N.length:=by have:=X1 List.length S.pre;rw[XJ]at this;omega
 obtain⟨h1,tk,rfl,hk⟩:=x.done;have noA:∀b:Addr,b∉(lj CX P w K mg base N qual scope f cd A outer s H E).ex:=λb z=>absurd (show b∈([]:List Addr)from z) (by simp)
 refine⟨⟨e0.mod,S.kind,rfl,rfl,WU _,λy z c h1 h2=>?_,λy hy=>?_,λy c _ h=>?_,λ_=>hd,Around.frames_deeper e0.frames,.inr ⟨rfl,rfl⟩,λb z=>absurd z (noA b),e0.bs,e0.bsz,λb _ _=>noA b,λb z=>absurd z (noA b),e0.mQ,e0.frf⟩,
  rfl,e0.bare,Un.kept hk,⟨_,x.toInCall.ns,λi y v h1 h2 h3=>?_⟩,λy c h=>⟨_,x.cell y c h⟩,e0.hok.fresh (Nat.le_refl _),λy c h=>?_,λp hp=>absurd (show p∈([]:List (Addr×Obj))from hp) (by simp),e0.hok.kept hk,?_⟩
 ·exact name_of_addr x.apart (X6 h1) (X6 h2)
 ·have hy:scope.names.lookup y=some .cell∨scope.names.lookup y=some .free:=hy;rcases hy with hy | hy
  ·exact uF hy
  ·exact absurd rfl (S.nofree _ (X6 hy))
 ·exact Yi (x.above y c (X6 h))
 ·have hi:i < vs.length:=by
   unfold start at h2;by_cases hi:i < vs.length
   ·exact hi
   ·rw[List.getElem?_append_right (by simpa using hi)]at h2;rw[List.getElem?_replicate]at h2;split at h2<;>cases h2
  have ha:vs[i]?=some v:=by
   unfold start at h2;rw[List.getElem?_append_left (by simpa using hi),List.getElem?_map]at h2
   cases e:vs[i]? with
   | none=>rw[e]at h2;cases h2
   | some a=>rw[e]at h2;cases h2;rfl
  obtain⟨u,hu,rv⟩:=r.get ha
  have hp:ps[i]?=some y:=by
   rw[← S.pre,YL (by omega)];exact h1
  have ndP:ps.Nodup:=by rw[← S.pre];exact S.nd.sublist (List.take_sublist _ _)
  refine⟨u,rv,?_⟩;rcases S.par y (Xg hp)with k | k
  ·exact .inl ⟨k,rh ndP hp hu k⟩
  ·obtain⟨c,e⟩:=uF (n:=s.heap.objs.size + 1) k;refine .inr ⟨.inl k,c,e,?_⟩;have q:=x.cell y c e;rw[rj ndP hp hu (by show scope.names.lookup y≠_;rw[k];decide)]at q;exact q
 ·exact e0.hok.fresh (Yi (x.above y c (X6 h)))
 ·unfold start;show _=N.length;rw[List.length_append,List.length_map,List.length_replicate];omega
theorem Hl{CX:uq}{P:Program}{w:World}{K:aE}{mg:Str->Option Value}{base:Heap}{k:Nat}{f:Addr}{name qual:Str}{params:Arguments}{body:List Stmt}{scope:Scope}{dV kV doc pm cdv ct oc:Value}{an od:Option Addr}
  {osl:Array (Option Value)} {N ps:List Str} {sp:Sp} (lk:K.lookup f=some ⟨oc,od,.func (PySem.W.fnOf name qual params body scope dV kV doc pm an cdv ct),osl⟩) (hcd:PySem.W.codeIn K cdv qual=true) (S:aI N ps scope)
  (len:∀vs H Q E,sp vs H Q E->vs.length=ps.length)
  (hbody:∀(A:Around) (outer:List Env) (s:Shared) (H:Hp) (vs:List V) (Q:VK) (E:XK),cm k (A.deeper (envOfC qual scope s.heap.objs.size f cdv))->sp vs H Q E ->
   ∃t,oy (lj CX P w K mg base N qual scope f cdv A outer s H E) body t/\t {nx:=λ_ H'=>Q .non H',rt:=Q} (start N vs) H) :
  bw P w K mg base CX (k + 1) f (PySem.W.fnOf name qual params body scope dV kV doc pm an cdv ct) ps sp:=by
 refine⟨len,λA outer s H args us vs Q E hr e0 hb r hsp=>?_⟩;have hl:=len _ _ _ _ hsp;have KX:K.In s.heap:=e0.mod.kin.keeps λb o e=>(e0.bs b o e).1
 have lim:s.heap.NoLimit:=e0.mod.nolimit.keeps λb o e=>(e0.bs b o e).1
 have hkind:∀y∈ps.zip us,scope.names.lookup y.1=some .local∨(scope.names.lookup y.1=some .cell/\((cellsFrom (s.heap.objs.size + 1) scope.names []).lookup y.1).isSome=true):=λ⟨n,v⟩ hy=>by
  rcases S.par n (List.of_mem_zip hy).1 with q | q
  ·exact .inl q
  ·exact .inr ⟨q,Y5 _ _ _ (.inl q)⟩
 refine codeAny_call_function hr.depth (KX _ _ lk) rfl S.co S.gen rfl (PySem.W.codeRec_of KX hcd) (hb _ _ _ _ ?_);refine wpAny_newFunctionEnv_cells S.kind hkind λenv he s1 x=>?_
 subst he;refine⟨lim.keeps x.toInCall.keep,codeAny_func ?_⟩;obtain⟨t,ht,hq⟩:=hbody A outer s H vs Q E (hr.deeper _) hsp;have I:Inv (lj CX P w K mg base N qual scope f cdv A outer s H E) [] (start N vs) H s1:=zf S hr.hd e0 hl r x;refine Xa (ht [] s1 (start N vs) H _ I hq) (λfl s' hs=>?_) λe s' hs=>hs
 have fin:∀{σ':St} {H':Hp} {v:V} {u:Value},Inv (lj CX P w K mg base N qual scope f cdv A outer s H E) [] σ' H' s'->RelV v u->Q v H'->CE outer P w H s Q u s' :=
  λ{σ' H' v u} J rv q=>⟨v,H',J.os,J.bare,J.base,J.hok,rv,q⟩
 cases fl with
 | ret u =>
  obtain⟨v,σ',H',J,rv,q⟩:=hs;exact fin J rv q
 | next =>
  obtain⟨σ',H',J,q⟩:=hs;exact fin (v:=V.non) (u:=Value.none) J rfl q
 | brk =>
  obtain⟨_,_,_,q⟩:=hs;exact False.elim q
 | cont =>
  obtain⟨_,_,_,q⟩:=hs;exact False.elim q
section
variable {X:Cx} {x:Str} {p pos:Pos} {e:Expr} {es:List Expr} {t:TA} {id T:String} {r:List V->Hp->VK->Prop}
def O9(r:List V->Hp->VK->Prop)(t:TA):TE:=λσ H Q=>t σ H λvs H1=>r vs H1 Q
theorem oX(hc:iN X (.builtin id) r)(hg:Gl X x)(hm:X.mg x=none)(hv:bootBuiltins x=some (.builtin id))(ha:PA X (e::es) t)(hn:x≠"__name__":=by decide)(hdb:(x == ("__debug__" : Str))=false:=by decide)
  (he:starEach (e::es) X.env=(false,eval e X.env)::starEach es X.env:=by rfl) (hpl:(backTo pos (starEach es X.env)).any (·.1)=false:=by rfl):PE X (.Call (.Name x p) (e::es) [] pos) (O9 r t):=by
 intro pins s σ H Q I h;refine XO (mS I hg hm hv ?_ hn hdb);exact PyProof.Rows.callWith_builtin1 (bD (ha pos pins s σ H _ I h) λus s1 ⟨vs,H1,I1,r1,q1⟩=>hc pins s1 σ H1 vs us Q I1 r1 q1) he hpl
theorem mW(hc:iN X (.type T) r)(hg:Gl X x)(hm:X.mg x=none)(hv:bootBuiltins x=some (.type T))(ha:PA X (e::es) t)(hn:x≠"__name__":=by decide)(hdb:(x == ("__debug__" : Str))=false:=by decide)
  (he:starEach (e::es) X.env=(false,eval e X.env)::starEach es X.env:=by rfl) (hpl:(backTo pos (starEach es X.env)).any (·.1)=false:=by rfl):PE X (.Call (.Name x p) (e::es) [] pos) (O9 r t):=by
 intro pins s σ H Q I h;refine XO (mS I hg hm hv ?_ hn hdb);exact XN (bD (ha pos pins s σ H _ I h) λus s1 ⟨vs,H1,I1,r1,q1⟩=>hc pins s1 σ H1 vs us Q I1 r1 q1) he hpl
end
end L2
namespace HT
open PySem PyProof.Rows
section
open PySem.SeqAt
open PySem.AutoSeq1 (wpAny_loadPart')
open PySem.MeetsSeq PySem.MeetsSeq2 PySem.MeetsSeq3
end
section
variable {prog:Program} {w:World} {A:Around} {E:Value->Shared->Prop} {s:Shared}
theorem Ej{t b:Addr}{vs ws:List Value}{Q:Value->Shared->Prop}(ht:IsTup s.heap t vs.toArray)(hb:IsTup s.heap b ws.toArray)(hv:vs≠[])
  (h1:ws=[]->Q (.ref t) s) (h2:ws≠[]->Q (.ref s.heap.objs.size) {s with heap:=s.heap.push {cls:=.type "tuple",data:=.seq (vs++ws).toArray}})
  (hsz:vs.length + ws.length<=sizeLine):wpAny (model prog w) A (binaryOp .Add (.ref t) (.ref b)) Q E s:=by
 obtain⟨⟨cls,dd,data,sl⟩,ho,hc,n,hd⟩:=id ht;obtain⟨⟨TZ,RK,data2,IP⟩,Dy,LR,n2,hd2⟩:=id hb;simp only at hc hd LR hd2;subst hc hd LR hd2;have e:vs.toArray++ws.toArray=(vs++ws).toArray:=by simp
 by_cases hw:ws=[]
 ·exact Zi ⟨_,ho,rfl⟩ ⟨_,Dy,rfl⟩ noFill_tuple_add seq_tuple_add Y6 YY (YM _ _)
   (tuple_addW1 t b vs.toArray ws.toArray n n2 dd RK sl IP (by simpa using hv) (by simp[hw])) ⟨ho,Dy,h1 hw⟩
 ·refine Zi ⟨_,ho,rfl⟩ ⟨_,Dy,rfl⟩ noFill_tuple_add seq_tuple_add Y6 YY (YM _ _)
   (tuple_addW2 t b vs.toArray ws.toArray n n2 dd RK sl IP (by simpa using hv) (by simpa using hw) (by rw[List.size_toArray,List.size_toArray];exact hsz)) ⟨ho,Dy,?_⟩
  rw[e];exact h2 hw
def dI(n d:Nat):Option Int->Nat
 | none=>d
 | some v=>if v < 0 then(v + (n:Int)).toNat else min v.toNat n
theorem IQ(n d:Nat)(hd:d<=n)(o:Option Int):dI n d o<=n:=by
 cases o with
 | none=>exact hd
 | some v =>
  show(if v < 0 then(v + (n:Int)).toNat else min v.toNat n)<=n;by_cases hv:v < 0
  ·rw[W4 hv];omega
  ·rw[W2 hv];exact Nat.min_le_right _ _
theorem yg(v:Int)(n d:Nat):(if v < 0 then max (v + (n:Int)) 0 else min v (n:Int))=((dI n d (some v):Nat):Int):=by
 show(if v < 0 then max (v + (n:Int)) 0 else min v (n:Int))=(((if v < 0 then(v + (n:Int)).toNat else min v.toNat n):Nat):Int);by_cases hv:v < 0
 ·simp only[if_pos hv];omega
 ·simp only[if_neg hv];omega
theorem wA(lo hi:Option Int)(n:Nat):Builtin.Slice.sliceAdjust lo hi 1 (n:Int)=(((dI n 0 lo:Nat):Int),((dI n n hi:Nat):Int)):=by
 have h1:¬ ((1:Int) < 0):=by omega
 unfold Builtin.Slice.sliceAdjust;simp only[h1,if_false];refine Prod.ext ?_ ?_
 ·cases lo with
  | none=>rfl
  | some v=>exact yg v n 0
 ·cases hi with
  | none=>rfl
  | some v=>exact yg v n n
theorem wC(i j:Nat):Builtin.Slice.slicePlaces (i:Int) (j:Int) 1=j - i:=by
 unfold Builtin.Slice.slicePlaces;have h1:(1:Int) > 0:=by omega
 simp only[h1,if_true,Int.ediv_one];split<;>omega
theorem oY{v:Value}{o:Option Int}{Q:Option Int->Shared->Prop}(p:IsPart v o)(h:Q o s):wpAny (model prog w) A (Builtin.Slice.slicePartIndex v) Q E s:=by
 cases p with
 | none=>exact slicePart_none h
 | int i t=>exact slicePart_int h
theorem iP{sl:Addr}{vl vu:Value}{lo hi:Option Int}{n:Nat}{Q:Int×Int×Nat->Shared->Prop}(hs:s.heap.IsSliceOf sl vl vu .none)(pl:IsPart vl lo)(pu:IsPart vu hi)
  (h:Q (((dI n 0 lo:Nat):Int),1,dI n n hi - dI n 0 lo) s):wpAny (model prog w) A (Builtin.Slice.sliceApplied (.ref sl) (pure (n:Int))) Q E s:=by
 obtain⟨os,hos,hcs,hds⟩:=id hs;unfold Builtin.Slice.sliceApplied Builtin.Slice.sliceFields;refine wpAny_bind (wpAny_bind (wpAny_field hos hds (x:=vl) rfl (wpAny_bind (wpAny_field hos hds (x:=vu) rfl (wpAny_bind (wpAny_field hos hds (x:=.none) rfl (wpAny_pure ?_)))))));refine wpAny_bind (slicePart_none ?_);show wpAny _ _ (if ((1:Int) == 0)=true then _ else _) _ _ s;rw[if_neg (by decide)];refine wpAny_bind (oY pl (wpAny_bind (oY pu (wpAny_bind (wpAny_pure ?_)))));show wpAny _ _ (match Builtin.Slice.sliceAdjust lo hi 1 (n:Int)with | (lo,hi)=>pure (lo,(1:Int),Builtin.Slice.slicePlaces lo hi 1)) _ _ s;rw[wA lo hi n];show wpAny _ _ (pure (((dI n 0 lo:Nat):Int),(1:Int),Builtin.Slice.slicePlaces ((dI n 0 lo:Nat):Int) ((dI n n hi:Nat):Int) 1)) _ _ s;rw[wC];exact wpAny_pure h
theorem Bb(xs:Array Value)(i k:Nat):((List.range k).filterMap λ(m:Nat)=>xs[((i:Int) + (m:Int) * 1).toNat]?).toArray=((xs.toList.drop i).take k).toArray:=by
 have e:(λ(m:Nat)=>xs[((i:Int) + (m:Int) * 1).toNat]?)=λm=>xs[i + m]?:=by
  funext m
  have:((i:Int) + (m:Int) * 1).toNat=i + m:=by omega
  rw[this]
 rw[e];have:=pick_run xs i k;rw[List.filterMap_map]at this;have e2:((λx=>xs[x]?) ∘ λx=>i + x)=λm=>xs[i + m]?:=rfl
 rw[e2]at this;rw[this]
theorem lS{t sl:Addr}{items:Array Value}{vl vu:Value}{lo hi:Option Int}{Q:Value->Shared->Prop}(ht:IsTup s.heap t items)(hs:s.heap.IsSliceOf sl vl vu .none)(pl:IsPart vl lo)(pu:IsPart vu hi)
  (hw:¬ (dI items.size 0 lo=0/\dI items.size items.size hi=items.size))
  (h:Q (.ref s.heap.objs.size) {s with heap:=s.heap.push {cls:=.type "tuple",data:=.seq ((items.toList.drop (dI items.size 0 lo)).take (dI items.size items.size hi - dI items.size 0 lo)).toArray}})
  (hsz:items.size<=sizeLine):wpAny (model prog w) A (getItem (.ref t) (.ref sl)) Q E s:=by
 have htake:sizeOk (.seq ((items.toList.drop (dI items.size 0 lo)).take (dI items.size items.size hi - dI items.size 0 lo)).toArray):=by
  show((items.toList.drop (dI items.size 0 lo)).take (dI items.size items.size hi - dI items.size 0 lo)).toArray.size<=sizeLine;rw[Xn,XJ,YN,Array.length_toList];omega
 have hj:dI items.size items.size hi<=items.size:=IQ _ _ (Nat.le_refl _) hi;obtain⟨os,hos,hcs,hds⟩:=id hs;have hTs:s.TypeIs (.ref sl) "slice":=⟨os,hos,hcs⟩;unfold getItem
 try with_reducible refine Xu ?_
 first | refine WS (WX ?_) | skip
 refine WS (wpAny_sequenceKey ht.typeIs (by decide) ?_);refine WS (wpAny_callSpecial?_slot (name:=Str.ofString "__getitem__") ht.typeIs X7
  (YO X7 ht.typeIs entry_tuple_getitem ?_ (args_tuple_getitem _ _)))
 show wpAny _ _ (Builtin.Tuple.tupleItemsOf (.ref t) >>= _) _ _ s;refine WS (tupleItemsOf_ ht ?_);refine WS (wpAny_typeOf hTs ?_);rw[W4 (by decide)];refine WS (iP hs pl pu ?_)
 have hno:¬ ((((dI items.size 0 lo:Nat):Int) == 0&&(1:Int) == 1&&(dI items.size items.size hi - dI items.size 0 lo) == items.size)=true):=by
  intro q;rw[Bool.and_eq_true,Bool.and_eq_true]at q;have q1:((dI items.size 0 lo:Nat):Int)=0:=eq_of_beq q.1.1;have q2:dI items.size items.size hi - dI items.size 0 lo=items.size:=eq_of_beq q.2;exact hw ⟨by omega,by omega⟩
 show wpAny _ _ (if (((dI items.size 0 lo:Nat):Int) == 0&&(1:Int) == 1&&(dI items.size items.size hi - dI items.size 0 lo) == items.size)=true then _ else _) _ _ s;rw[W2 hno,Bb]
 first
  | exact WS (m:=Builtin.Tuple.tupleExact _) (XX (WX ⟨_,rfl,WX h⟩) htake)
  | exact WS (m:=Builtin.Tuple.tupleExact _) (XX (WS (WX (WX ⟨_,rfl,WX h⟩))) htake)
  | exact WS (WS (m:=Builtin.Tuple.tupleExact _) (XX (WX (WX ⟨_,rfl,WX h⟩)) htake))
  | exact WS (WS (m:=Builtin.Tuple.tupleExact _) (XX (WX ⟨_,rfl,WX h⟩) htake))
end
end HT
namespace L2
open PySem PySem.Spec PyProof.Rows
abbrev TO:=St->Hp->(Option Int->Hp->Prop)->Prop
def PO(X:Cx)(e:Option Expr)(t:TO):Prop :=
 ∀(pins:List (Addr×Obj)) (s:Shared) (σ:St) (H:Hp) (Q:Option Int->Hp->Prop),Inv X pins σ H s->t σ H Q ->
  wpAny (model X.prog X.w) X.A (evalPart e X.env) (λu s'=>∃o H',Inv X pins σ H' s'/\IsPart u o/\Q o H') X.xe s
def Ek:TO:=λ_ H Q=>Q none H
def MA(t:TE):TO:=λσ H Q=>t σ H λx H1=>∃i,x=.int i/\Q (some i) H1
section
variable {X:Cx} {e:Expr} {te:TE} {lo hi:Option Expr} {tl th:TO} {pos p2:Pos}
theorem yh:PO X none Ek:=by
 intro pins s σ H Q I h;rw[evalPart_none];exact WX ⟨none,H,I,.none,h⟩
theorem yi(h:PE X e te):PO X (some e) (MA te):=by
 intro pins s σ H Q I hw;rw[evalPart_some];refine bD (h pins s σ H _ I hw) λu s1 ⟨x,H1,I1,r1,q1⟩=>?_
 obtain⟨i,rfl,q⟩:=q1;obtain⟨t,rfl⟩:=r1;exact⟨some i,H1,I1,.int i t,q⟩
def Dz(X:Cx)(r:V->Option Int->Option Int->Hp->VK->Prop):Prop :=
 ∀(pins:List (Addr×Obj)) (s:Shared) (σ:St) (H:Hp) (x:V) (v vl vu:Value) (lo hi:Option Int) (sl:Addr) (Q:VK),Inv X pins σ H s->RelV x v->s.heap.IsSliceOf sl vl vu .none->IsPart vl lo->IsPart vu hi->r x lo hi H Q ->
  ∃T id,typeLookup (.type T) "__getitem__"=pure (some (.builtin id))/\s.TypeIs v T/\wpAny (model X.prog X.w) X.A (getItem v (.ref sl)) (EP X pins σ Q) X.xe s
def Ua(r:V->Option Int->Option Int->Hp->VK->Prop)(te:TE)(tl th:TO):TE:=λσ H Q=>te σ H λx H1=>tl σ H1 λl H2=>th σ H2 λu H3=>r x l u H3 Q
theorem uG{r:V->Option Int->Option Int->Hp->VK->Prop}(hr:Dz X r)(he:PE X e te)(hl:PO X lo tl)(hu:PO X hi th):PE X (.Subscript e (.Slice lo hi none p2) pos) (Ua r te tl th):=by
 intro pins s σ H Q I h;refine Subscript_ (bD (he pins s σ H _ I h) λv s1 ⟨x,H1,I1,r1,q1⟩=>?_);refine wpAny_Slice (bD (hl pins s1 σ H1 _ I1 q1) λvl s2 ⟨l,H2,I2,pl,q2⟩=>bD (hu pins s2 σ H2 _ I2 q2) λvu s3 ⟨u,H3,I3,pu,q3⟩=>?_);rw[evalPart_none];refine WX ?_;have I4:Inv X pins σ H3 {s3 with heap:=s3.heap.push {cls:=.type "slice",data:=.fields #[vl,vu,.none]}}:=I3.kept (t':=s3.toks) λb ob q=>WW _ q
 obtain⟨T,id,hT,ht,hg⟩:=hr pins {s3 with heap:=s3.heap.push {cls:=.type "slice",data:=.fields #[vl,vu,.none]}} σ H3 x v vl vu l u s3.heap.objs.size Q I4 r1 (Heap.IsSliceOf.new ..) pl pu q3;show wpAny (model X.prog X.w) X.A (subscriptTail e (.Slice lo hi none p2) v (.ref s3.heap.objs.size)) (EP X pins σ Q) X.xe {s3 with heap:=s3.heap.push {cls:=.type "slice",data:=.fields #[vl,vu,.none]}};exact tail_any (ops:=[.ref s3.heap.objs.size,v]) ht hT hg (by with_unfolding_all rfl)
def oZ(xs:List V)(lo hi:Option Int):List V:=(xs.drop (HT.dI xs.length 0 lo)).take (HT.dI xs.length xs.length hi - HT.dI xs.length 0 lo)
theorem nU(xs:List V)(lo hi:Option Int):(oZ xs lo hi).length<=xs.length:=by
 unfold oZ;rw[List.length_take,List.length_drop];omega
def Pa(K:aE):V->Option Int->Option Int->Hp->VK->Prop:=λx lo hi H Q=>∃a xs,x=.ref a/\cg K H a xs /\
 ¬ (HT.dI xs.length 0 lo=0/\HT.dI xs.length xs.length hi=xs.length)/\∀p,H p=none->Q (.ref p) (upd H p (.tup (oZ xs lo hi)))
theorem Bd:Dz X (Pa X.K):=by
 intro pins s σ H x v vl vu lo hi sl Q I rx hs pl pu h;obtain⟨a,xs,rfl,hx,hw,q⟩:=h;cases rx;obtain⟨its,r,ht,hz⟩:=I.tuple hx;have hlen:its.toArray.size=xs.length:=by rw[Xn];exact r.length.symm
 refine⟨"tuple",_,X7.lookup,ht.typeIs,?_⟩;refine HT.lS ht hs pl pu (by rw[hlen];exact hw) ?_ (by rw[hlen];exact hz);rw[hlen];refine⟨.ref s.heap.objs.size,_,I.laid (t':=s.toks) (o:=.tup (oZ xs lo hi)) (λb ob q=>WW _ q) (WU _) ?_,rfl,q _ (I.hok.fresh (WU _))⟩;exact⟨Xh (nU xs lo hi) hz,_,(r.drop (HT.dI xs.length 0 lo)).take (HT.dI xs.length xs.length hi - HT.dI xs.length 0 lo),IsTup.new _ _⟩
def MB(K:aE):R2:=λx y H Q=>∃a b xs ys,x=.ref a/\y=.ref b/\cg K H a xs/\cg K H b ys/\xs≠[]/\xs.length + ys.length<=sizeLine /\
 (ys=[]->Q (.ref a) H)/\(ys≠[]->∀p,H p=none->Q (.ref p) (upd H p (.tup (xs++ys))))
theorem Vals.so{xs:List V}{us:List Value}(r:Vals xs us):us=[]↔xs=[]:=by
 cases r with
 | nil=>simp
 | cons _ _=>simp
theorem El:i6 X (binaryOp .Add) (MB X.K):=by
 intro pins s σ H x y v u Q I rx ry h;obtain⟨a,b,xs,ys,rfl,rfl,ha,hb,hx,hz,q1,q2⟩:=h;cases rx;cases ry;obtain⟨its,r1,p1,_⟩:=I.tuple ha;obtain⟨zg,r2,p2,_⟩:=I.tuple hb;refine HT.Ej p1 p2 (λz=>hx (r1.so.mp z)) (λz=>⟨.ref a,H,I,rfl,q1 (r2.so.mp z)⟩) (λz=>?_) (by rw[← r1.length,← r2.length];exact hz);refine⟨.ref s.heap.objs.size,_,I.laid (t':=s.toks) (o:=.tup (xs++ys)) (λb ob q=>WW _ q) (WU _) ?_,rfl,q2 (λw=>z (r2.so.mpr w)) _ (I.hok.fresh (WU _))⟩;exact⟨by rw[Xr];exact hz,_,r1.append r2,IsTup.new _ _⟩
end
def Be(n:Nat)(i:Int):Option Nat:=if 0<=i then(if i < n then some i.toNat else none)else if -(n:Int)<=i then some (i + n).toNat else none
def oA{α:Type}(xs:List α)(i:Int):Option α:=(Be xs.length i).bind λj=>xs[j]?
theorem yj{n:Nat}{i:Int}{j:Nat}(h:Be n i=some j):seqIndex? i n=some j/\j < n/\-(n:Int)<=i/\i < n:=by
 unfold Be at h;by_cases h0:0<=i
 ·rw[W4 h0]at h;by_cases h1:i < n
  ·rw[W4 h1]at h;have e:i.toNat=j:=W0 h;exact⟨by rw[seqIndex_of h0 h1,e],by omega,by omega,h1⟩
  ·rw[W2 h1]at h;cases h
 ·rw[W2 h0]at h;by_cases h1:-(n:Int)<=i
  ·rw[W4 h1]at h;have e:(i + n).toNat=j:=W0 h;exact⟨by rw[Zj (by omega) h1,e],by omega,h1,by omega⟩
  ·rw[W2 h1]at h;cases h
theorem sq{α:Type}{xs:List α}{i:Int}{v:α}(h:oA xs i=some v):∃j,seqIndex? i xs.length=some j/\xs[j]?=some v/\j < xs.length/\-(xs.length:Int)<=i/\i < xs.length:=by
 unfold oA at h
 cases e:Be xs.length i with
 | none=>rw[e]at h;cases h
 | some j =>
  rw[e]at h;obtain⟨h1,h2,h3,h4⟩:=yj e;exact⟨j,h1,h,h2,h3,h4⟩
theorem aN{α:Type}{xs:List α}{j:Nat}{v:α}(h:xs[j]?=some v):oA xs (j:Int)=some v:=by
 have hj:j < xs.length:=(er h).1
 have e:Be xs.length (j:Int)=some j:=by
  unfold Be;rw[if_pos (by omega),if_pos (by omega)];simp
 unfold oA;rw[e];exact h
def sr(b:Expr):Prop:=∀o i,subscripted b false o i=operate [o,i] (getItem o i)
def Em(X:Cx)(r:R2):Prop :=
 ∀(value slice:Expr) (pins:List (Addr×Obj)) (s:Shared) (σ:St) (H:Hp) (x y:V) (v u:Value) (Q:VK),Inv X pins σ H s->RelV x v->RelV y u->r x y H Q ->
  subscripted slice false v u=operate [v,u] (getItem v u)->wpAny (model X.prog X.w) X.A (subscriptTail value slice v u) (EP X pins σ Q) X.xe s
def Ub(X:Cx)(id:String)(r:V->List V->Hp->VK->Prop):Prop :=
 ∀(pins:List (Addr×Obj)) (s:Shared) (σ:St) (H:Hp) (x:V) (xs:List V) (v:Value) (us:List Value) (Q:VK),Inv X pins σ H s->RelV x v->Vals xs us->r x xs H Q ->
  wpAny (model X.prog X.w) X.A (call (.builtin id) (v::us)) (EP X pins σ Q) X.xe s
section
variable {X:Cx} {a b:Expr} {ta tb:TE} {pos:Pos}
theorem Em.or{r r':R2}(h:Em X r)(h':Em X r'):Em X (λx y H Q=>r x y H Q∨r' x y H Q):=by
 intro value slice pins s σ H x y v u Q I rx ry q hs;rcases q with q | q
 ·exact h value slice pins s σ H x y v u Q I rx ry q hs
 ·exact h' value slice pins s σ H x y v u Q I rx ry q hs
theorem aF{r:R2}(hr:Em X r)(ha:PE X a ta)(hb:PE X b tb)(hs:sr b):PE X (.Subscript a b pos) (Mr r ta tb):=by
 intro pins s σ H Q I h;exact Subscript_ (IG ha hb I h λv u s2 x y H2 I2 rx ry q=>hr a b pins s2 σ H2 x y v u Q I2 rx ry q (hs _ _))
def Eo(K:aE):R2:=λx y H Q=>∃p xs i v,x=.ref p/\y=.int i/\bK K H p xs/\oA xs i=some v/\Q v H
def wD(K:aE):R2:=λx y H Q=>∃p xs i v,x=.ref p/\y=.int i/\cg K H p xs/\oA xs i=some v/\Q v H
def MC:R2:=λx y H Q=>∃z i c,x=.str z/\y=.int i/\z.length<=sizeLine/\oA z.cps.toList i=some c/\Q (.str ⟨#[c]⟩) H
theorem bA:Em X (Eo X.K):=by
 intro value slice pins s σ H x y v u Q I rx ry h hs;obtain⟨p,xs,i,z,rfl,rfl,hq,he,q⟩:=h;cases rx;obtain⟨t,rfl⟩:=ry;obtain⟨its,r,pl,hz⟩:=I.list hq;obtain⟨j,h1,h2,h3,h4,h5⟩:=sq he;obtain⟨w,ew,rw'⟩:=r.get h2;have hl:=r.length;have hn:=mU;have fin:EP X pins σ Q w s:=⟨z,H,I,rw',q⟩;by_cases h0:0<=i
 ·have hj:i.toNat=j:=by
   rw[seqIndex_of h0 h5]at h1;exact W0 h1
  exact item_listR pl.isList h0 (by omega) (by rw[hj];simpa using ew) fin hs
 ·have hj:(i + (its.toArray.size:Int)).toNat=j:=by
   rw[Zj (by omega) h4]at h1;rw[Xn,← hl];exact W0 h1
  exact subscriptTail_builtinR (x:=w) pl.isList.typeIs slot_list_getitem.lookup
   (wpAny_getItem_list_neg (Q:=λr s'=>r=w/\EP X pins σ Q r s') pl.isList (by omega) (by rw[List.size_toArray]<;>omega) (by omega) (by rw[hj];simpa using ew) ⟨rfl,fin⟩) hs
theorem aJ:Em X (wD X.K):=by
 intro value slice pins s σ H x y v u Q I rx ry h hs;obtain⟨p,xs,i,z,rfl,rfl,hq,he,q⟩:=h;cases rx;obtain⟨t,rfl⟩:=ry;obtain⟨its,r,pl,hz⟩:=I.tuple hq;obtain⟨j,h1,h2,h3,h4,h5⟩:=sq he;obtain⟨w,ew,rw'⟩:=r.get h2;have hl:=r.length;have hn:=mU;have fin:EP X pins σ Q w s:=⟨z,H,I,rw',q⟩;exact subscriptTail_builtinR (x:=w) pl.typeIs slot_tuple_getitem.lookup
  (getItem_tuple (j:=j) (Q:=λr s'=>r=w/\EP X pins σ Q r s') pl (by omega) (by omega) (by rw[List.size_toArray,← hl];exact h1) (by simpa using ew) ⟨rfl,fin⟩) hs
theorem IS:Em X MC:=by
 intro value slice pins s σ H x y v u Q I rx ry h hs;obtain⟨z,i,c,rfl,rfl,hz,he,q⟩:=h;obtain⟨t,rfl⟩:=rx;obtain⟨t',rfl⟩:=ry;obtain⟨j,h1,h2,h3,h4,h5⟩:=sq he;have hl:z.cps.toList.length=z.length:=by simp[Str.length]
 rw[hl]at h1 h4 h5;have hn:=mU
 exact tail_any (typeIs_str s z t) slot_str_getitem.lookup (getItem_str (c:=c) (by
  have e1:decide (i < -(2 ^ 63:Int))=false:=decide_eq_false (by omega);have e2:decide (i ≥ 2 ^ 63)=false:=decide_eq_false (by omega);rw[e1,e2,Bool.or_false]) (by rw[h1];simpa using h2) ⟨.str ⟨#[c]⟩,H,I.tok _,⟨_,rfl⟩,q⟩) hs
def RL(K:aE):R2:=λx y H Q=>Eo K x y H Q∨wD K x y H Q∨MC x y H Q
theorem Bf:Em X (RL X.K):=bA.or (aJ.or IS)
theorem wF(its:List Value)(n j:Nat)(u:Value):Obj.mapSeq (·.setIfInBounds j u) {cls:=.type "list",data:=.seq its.toArray n}={cls:=.type "list",data:=.seq (its.set j u).toArray n}:=by
 simp[Obj.mapSeq]
theorem Inv.lst{pins:List (Addr×Obj)}{σ:St}{H:Hp}{s:Shared}{p:Addr}{xs:List V}(I:Inv X pins σ H s)(h:H p=some (.lst xs)):
  ∃(its:List Value) (n:Nat),Vals xs its/\s.heap.get? p=some {cls:=.type "list",data:=.seq its.toArray n}/\xs.length<=sizeLine:=by
 obtain⟨z,its,n,r,e⟩:=I.hok p _ h;exact⟨its,n,r,e,z⟩
theorem Inv.IT{pins:List (Addr×Obj)}{σ:St}{H:Hp}{s:Shared}{p:Addr}{xs ys:List V}{its its':List Value}{n n':Nat}{f:Obj->Obj}(I:Inv X pins σ H s)(h:H p=some (.lst xs))
  (ho:s.heap.get? p=some {cls:=.type "list",data:=.seq its.toArray n}) (hf:f {cls:=.type "list",data:=.seq its.toArray n}={cls:=.type "list",data:=.seq its'.toArray n'}) (r:Vals ys its') (hz:ys.length<=sizeLine) (t:Nat) :
  Inv X pins σ (upd H p (.lst ys)) {s with heap:=s.heap.update p f,toks:=t}:=by
 have e:(s.heap.update p f).get? p=some {cls:=.type "list",data:=.seq its'.toArray n'}:=by
  rw[Yl f ho (by rw[hf]<;>rfl),hf]
 refine I.write (x:=p) (e:=p) (by rw[h];trivial) (.inl rfl) (λb u hb q=>(Yr _ _ (Yu hb)).trans q) ⟨_,e⟩ ?_;exact⟨hz,its',n',r,e⟩
def Hm:V->V->V->Hp->(Hp->Prop)->Prop:=λo i v H Q=>∃p xs k j,o=.ref p/\i=.int k/\H p=some (.lst xs)/\Be xs.length k=some j/\Q (upd H p (.lst (xs.set j v)))
theorem set_list:Mm X Hm:=by
 intro pins s σ H o i v ov iv u Q I ro ri rv h;obtain⟨p,xs,k,j,rfl,rfl,hp,hj,q⟩:=h;cases ro;obtain⟨t,rfl⟩:=ri;obtain⟨its,n,r,ho,hz⟩:=I.lst hp;obtain⟨h1,h2,h3,h4⟩:=yj hj;have hl:=r.length;have hn:=mU
 have I':Inv X pins σ (upd H p (.lst (xs.set j v))) {s with heap:=s.heap.update p (Obj.mapSeq (·.setIfInBounds j u))} :=
  I.IT hp ho (wF its n j u) (r.set rv j) (by rw[Xp];exact hz) s.toks
 by_cases h0:0<=k
 ·have hk:k.toNat=j:=by
   rw[seqIndex_of h0 h4]at h1;exact W0 h1
  exact PySem.W.ki_setAt ho h0 (by omega) (by rw[Xn,← hl];exact h4) (by rw[hk];exact⟨_,I',q⟩)
 ·have hk:(k + (its.toArray.size:Int)).toNat=j:=by
   rw[Zj (by omega) h3]at h1;rw[Xn,← hl];exact W0 h1
  exact PySem.W.ki_setBack ho (by omega) (by rw[Xn,← hl];exact h3) (by omega) (by rw[hk];exact⟨_,I',q⟩)
theorem su(lo hi:Option Int)(n:Nat):(sliceBounds lo hi none n).1=((HT.dI n 0 lo:Nat):Int)/\(sliceBounds lo hi none n).2.1=((HT.dI n n hi:Nat):Int)/\(sliceBounds lo hi none n).2.2=1:=by
 refine⟨?_,?_,rfl⟩
 ·cases lo with
  | none=>simp[sliceBounds,HT.dI]
  | some i =>
   simp only[sliceBounds,HT.dI,Option.getD_none,show(1:Int) > 0 by decide,if_true];by_cases h:i < 0
   ·simp only[h,if_true]<;>omega
   ·simp only[h,if_false]<;>omega
 ·cases hi with
  | none=>simp[sliceBounds,HT.dI]
  | some i =>
   simp only[sliceBounds,HT.dI,Option.getD_none,show(1:Int) > 0 by decide,if_true];by_cases h:i < 0
   ·simp only[h,if_true]<;>omega
   ·simp only[h,if_false]<;>omega
theorem qB(its:List Value)(lo hi:Option Int):slicePick its.toArray lo hi none=((its.drop (HT.dI its.length 0 lo)).take (HT.dI its.length its.length hi - HT.dI its.length 0 lo)).toArray:=by
 obtain⟨h1,h2,h3⟩:=su lo hi its.toArray.size;unfold slicePick;rw[h1,h2,h3];simp only[sliceRange_one,pick_run,List.size_toArray]<;>rfl
def MD(K:aE):V->Option Int->Option Int->Hp->VK->Prop:=λx lo hi H Q=>∃a xs,x=.ref a/\bK K H a xs/\∀p,H p=none->Q (.ref p) (upd H p (.lst (oZ xs lo hi)))
theorem Ep:Dz X (MD X.K):=by
 intro pins s σ H x v vl vu lo hi sl Q I rx hs pl pu h;obtain⟨a,xs,rfl,hx,q⟩:=h;cases rx;obtain⟨its,r,ht,hz⟩:=I.list hx;have hlen:=r.length;refine⟨"list",_,slot_list_getitem.lookup,ht.isList.typeIs,?_⟩;refine wpAny_getItem_list_slice ht.isList hs pl pu .none (by simp) ?_ (by rw[List.size_toArray]<;>omega)
 rw[qB,← hlen];refine⟨.ref s.heap.objs.size,_,I.laid (t':=s.toks) (o:=.lst (oZ xs lo hi)) (λb ob q=>WW _ q) (WU _) ?_,rfl,q _ (I.hok.fresh (WU _))⟩;exact⟨Xh (nU xs lo hi) hz,_,0,(r.drop (HT.dI xs.length 0 lo)).take (HT.dI xs.length xs.length hi - HT.dI xs.length 0 lo),Xf _ rfl⟩
theorem sv:iN X (.builtin "len") (λxs H Q=>∃p ys,xs=[.ref p]/\(bK X.K H p ys∨cg X.K H p ys)/\Q (.int ys.length) H):=by
 intro pins s σ H xs us Q I r h;obtain⟨p,ys,rfl,hq,q⟩:=h;obtain⟨u,rfl,rx⟩:=vals1 r;cases rx;have hn:=mU;rcases hq with hq | hq
 ·obtain⟨its,r',pl,hz⟩:=I.list hq;have hlen:=r'.length;exact Calls.call_len_list pl.isList (by simp only[List.size_toArray]<;>omega) ⟨.int ys.length,H,I.tok _,⟨s.toks + 1,by rw[List.size_toArray,hlen]⟩,q⟩
 ·obtain⟨its,r',pl,hz⟩:=I.tuple hq;have hlen:=r'.length;exact len_tuple pl (by simp only[List.size_toArray]<;>omega) ⟨.int ys.length,H,I.tok _,⟨s.toks + 1,by rw[List.size_toArray,hlen]⟩,q⟩
theorem sy:iN X (.builtin "len") (λxs H Q=>∃z,xs=[.str z]/\z.length<=sizeLine/\Q (.int z.length) H):=by
 intro pins s σ H xs us Q I r h;obtain⟨z,rfl,hz,q⟩:=h;obtain⟨u,rfl,t,rfl⟩:=vals1 r;have hn:=mU;exact len_str (by omega) ⟨.int z.length,H,I.tok _,⟨_,rfl⟩,q⟩
theorem ja:iN X (.type "list") (λxs H Q=>∃p ys,xs=[.ref p]/\(bK X.K H p ys∨cg X.K H p ys)/\∀l,H l=none->Q (.ref l) (upd H l (.lst ys))):=by
 intro pins s σ H xs us Q I r h;obtain⟨p,ys,rfl,hq,q⟩:=h;obtain⟨u,rfl,rx⟩:=vals1 r;cases rx;have fin:∀(its:List Value),Vals ys its->ys.length<=sizeLine->∀(h':Heap) (c':Nat),(∀b o',s.heap.get? b=some o'->h'.get? b=some o') ->
   h'.get? s.heap.objs.size=some {cls:=.type "list",dict:=none,data:=.seq its.toArray c',slots:=#[]}->EP X pins σ Q (.ref s.heap.objs.size) {s with heap:=h'}:=λits r' hz h' c' kp e =>
  ⟨.ref s.heap.objs.size,_,I.laid (t':=s.toks) kp (WU _) (show dn X.prog X.w _ h' _ (.lst ys)from ⟨hz,its,c',r',e⟩),rfl,q _ (I.hok.fresh (WU _))⟩
 rcases hq with hq | hq
 ·obtain⟨its,r',pl,hz⟩:=I.list hq;have hlen:=r'.length;obtain⟨o,ho,hc,n,hd⟩:=pl.isList;exact call_list_seq p (.inl rfl) ho hc hd (λh' c' kp e=>fin its r' hz h' c' kp e) (by simp only[List.size_toArray]<;>omega)
 ·obtain⟨its,r',pl,hz⟩:=I.tuple hq;have hlen:=r'.length;obtain⟨o,ho,hc,n,hd⟩:=pl;exact call_list_seq p (.inr rfl) ho hc hd (λh' c' kp e=>fin its r' hz h' c' kp e) (by simp only[List.size_toArray]<;>omega)
def Pb(K:aE)(T:String)(x:V)(H:Hp):Prop:=match x with
 | .str _=>T="str"
 | .int _=>T="int"
 | .ref p=>(T="list"/\∃xs,bK K H p xs)∨(T="tuple"/\∃o,K.lookup p=some o/\o.cls=.type "tuple"/\o.dict=none) ∨
   (T="dict"/\((∃kvs,H p=some (.dK kvs))∨∃kvs,H p=some (.dT kvs)))∨(T="set"/\∃S n,H p=some (.set S n))
 | _=>False
theorem IU{pins:List (Addr×Obj)}{σ:St}{H:Hp}{s:Shared}{T:String}{x:V}{v:Value}(I:Inv X pins σ H s)(r:RelV x v)(ty:Pb X.K T x H):
  s.TypeIs v T/\∀a,v=.ref a->∃ob,s.heap.get? a=some ob/\ob.dict=none:=by
 cases x with
 | str z =>
  obtain⟨t,rfl⟩:=r;cases (show T="str" from ty);exact⟨typeIs_str s z t,λ_ e=>nomatch e⟩
 | int i =>
  obtain⟨t,rfl⟩:=r;cases (show T="int" from ty);exact⟨typeIs_int s i t,λ_ e=>nomatch e⟩
 | ref p =>
  cases r;rcases ty with⟨rfl,xs,hq⟩ | ⟨rfl,o,hk,hc,hd⟩ | ⟨rfl,hk⟩ | ⟨rfl,S,n,hk⟩
  ·obtain⟨its,_,pl,_⟩:=I.list hq;refine⟨pl.isList.typeIs,λa e=>?_⟩;cases e;obtain⟨o,n,e,c,hd,_⟩:=pl;exact⟨o,e,hd⟩
  ·refine⟨⟨o,I.iM p o hk,hc⟩,λa e=>?_⟩;cases e;exact⟨o,I.iM _ o hk,hd⟩
  ·have z:∃o,s.heap.get? p=some o/\o.ExactDict:=by
    rcases hk with⟨kvs,hk⟩ | ⟨kvs,hk⟩
    ·obtain⟨_,_,_,_,o,_,_,e,ex,_⟩:=I.hok p _ hk;exact⟨o,e,ex⟩
    ·obtain⟨_,_,_,_,o,_,_,e,ex,_⟩:=I.hok p _ hk;exact⟨o,e,ex⟩
   obtain⟨o,e,ex⟩:=z;refine⟨⟨o,e,ex.1⟩,λa e2=>?_⟩;cases e2;exact⟨o,e,ex.2.1⟩
  ·obtain⟨o,_,_,_,e,ex,_⟩:=I.hok p _ hk;refine⟨⟨o,e,ex.1⟩,λa e2=>?_⟩;cases e2;exact⟨o,e,ex.2.1⟩
 | _=>exact False.elim ty
def Uc(K:aE)(T:String)(r:V->List V->Hp->VK->Prop)(to:TE)(t:TA):TE:=λσ H Q=>to σ H λx H1=>Pb K T x H1/\t σ H1 λxs H2=>r x xs H2 Q
variable {o e:Expr} {es:List Expr} {to:TE} {t:TA} {name:Str} {apos cpos:Pos} {T id:String} {r:V->List V->Hp->VK->Prop}
theorem rl(pa:PlainAttrs T)(slot:Slot T name id)(hty:typeOf (.builtin id)=pure (.type "method_descriptor"))(hm:Ub X id r)(ho:PE X o to)(ha:PA X (e::es) t)
  (hbase:attributeBase o name X.env (eval o X.env)=eval o X.env:=by rfl)
  (hfew:((backTo cpos (starEach (e::es) X.env)).all (λx=>!x.1)&&(backToKw cpos (keywordEach [] X.env)).all (λx=>x.1.isSome)
   && decide ((e::es).length + ([]:List Keyword).length + (if ([]:List Keyword).isEmpty then 0 else 1) < 30))=true:=by rfl)
  (hline:(apos.endLine == cpos.line)=true:=by rfl) (hs:starEach (e::es) X.env=(false,eval e X.env)::starEach es X.env:=by rfl) (hplain:(backTo cpos (starEach es X.env)).any (·.1)=false:=by rfl) :
  PE X (.Call (.Attribute o name apos) (e::es) [] cpos) (Uc X.K T r to t):=by
 intro pins s σ H Q I h;refine wpAny_Call_method_late hbase hfew hline rfl (bD (ho pins s σ H _ I h) λv s1 ⟨x,H1,I1,r1,ty,q1⟩=>?_);obtain⟨h1,h2⟩:=IU I1 r1 ty;refine⟨T,id,pa,slot,hty,h1,h2,?_⟩;have hA:=ha cpos pins s1 σ H1 _ I1 q1;rw[hs]at hA ⊢;refine Calls.callWith_builtin (by show(false||(backTo cpos (starEach es X.env)).any (·.1))=false;rw[hplain]<;>rfl) (Calls.evalArgs_plain ?_)
 exact bD hA λus s2 ⟨vs,H2,I2,r2,q2⟩=>hm pins s2 σ H2 x vs v us Q I2 r1 r2 q2
end
def RM(X:Cx)(id:String)(r:V->List V->Hp->VK->Prop):Prop :=
 ∀(pins:List (Addr×Obj)) (s:Shared) (σ:St) (H:Hp) (x:V) (xs:List V) (v:Value) (us:List Value) (Q:VK),Inv X pins σ H s->RelV x v->Vals xs us->r x xs H Q ->
  wpAny (model X.prog X.w) X.A (call (.builtin id) (v::us)) (EP X pins σ Q) X.xe s
theorem Vals.one:∀{x:V} {us:List Value},Vals [x] us->∃u,us=[u]/\RelV x u
 | _,_,.cons r .nil=>⟨_,rfl,r⟩
theorem Vals.eraseIdx:∀{xs:List V} {us:List Value} (i:Nat),Vals xs us->Vals (xs.eraseIdx i) (us.eraseIdx i)
 | _,_,_,.nil=>.nil
 | _,_,0,.cons _ t=>t
 | _,_,i + 1,.cons r t=>.cons r (Vals.eraseIdx i t)
theorem rn{α:Type}:∀(l:List α) (i:Nat),(l.eraseIdx i).length<=l.length
 | [],_=>WU _
 | _::_,0=>Yg _
 | _::r,i + 1=>YQ (rn r i)
section
variable {X:Cx} {pins:List (Addr×Obj)} {σ:St} {H:Hp} {s:Shared} {l b:Addr} {xs ys zs:List V}
theorem Inv.ME{its its':List Value}{n:Nat}{f:Array Value->Array Value}{t':Nat}(I:Inv X pins σ H s)(hH:H l=some (.lst xs))
  (e:s.heap.get? l=some {cls:=.type "list",data:=.seq its.toArray n}) (hf:f its.toArray=its'.toArray) (hv:Vals ys its') (hz:ys.length<=sizeLine) :
  Inv X pins σ (upd H l (.lst ys)) {s with heap:=s.heap.update l (Obj.mapSeq f),toks:=t'}:=by
 have q:=PySem.IsL.update e f;rw[hf]at q;refine I.write (x:=l) (e:=l) (by rw[hH];exact trivial) (.inl rfl) (λb' u hb hu=>(Yr s.heap (Obj.mapSeq f) (Yu hb)).trans hu) ⟨_,q⟩ ?_;exact⟨hz,its',_,hv,q⟩
theorem Inv.IV{its:List Value}{t':Nat}(I:Inv X pins σ H s)(hv:Vals ys its)(hz:ys.length<=sizeLine):
  Inv X pins σ (upd H s.heap.objs.size (.lst ys)) {s with heap:=s.heap.push {cls:=.type "list",data:=.seq its.toArray},toks:=t'} :=
 I.laid (λ_ _ q=>WW _ q) (WU _) ⟨hz,its,0,hv,Xf _ rfl⟩
theorem Inv.fresh(I:Inv X pins σ H s):H s.heap.objs.size=none:=I.hok.fresh (WU _)
theorem Inv.MF(I:Inv X pins σ H s)(hH:H l=some (.lst xs)):xs.length<=sizeLine/\∃(its:List Value) (n:Nat),Vals xs its/\xs.length=its.length/\s.heap.get? l=some {cls:=.type "list",data:=.seq its.toArray n}:=by
 obtain⟨z,its,n,r,e⟩:=I.hok l _ hH;exact⟨z,its,n,r,r.length,e⟩
end
section
variable {X:Cx}
def Er:V->List V->Hp->VK->Prop:=λx vs H Q=>∃l xs y,x=.ref l/\vs=[y]/\H l=some (.lst xs)/\xs.length < sizeLine/\Q .non (upd H l (.lst (xs++[y])))
theorem fh:RM X "list.append" Er:=by
 intro pins s σ H x vs v us Q I rx rv h;obtain⟨l,xs,y,rfl,rfl,hH,hz,q⟩:=h;cases rx;obtain⟨u,rfl,ru⟩:=rv.one;obtain⟨z,its,n,r,hl,e⟩:=I.MF hH;refine call_meets F.slot_list_append ⟨_,e,rfl⟩ F.entry_list_append (F.args_list_append_2 _ _) (PySem.list_append l its.toArray n u (by rw[List.size_toArray];omega)) ⟨e,?_⟩;refine⟨.non,_,I.ME (its':=its++[u]) hH e (by simp) (r.append (.cons ru .nil)) ?_,rfl,q⟩;rw[List.length_append,List.length_singleton];omega
def IW:V->List V->Hp->VK->Prop:=λx vs H Q=>∃l xs i k y,x=.ref l/\vs=[.int i]/\H l=some (.lst xs)/\-(2 ^ 63)<=i/\i < 2 ^ 63/\seqIndex? i xs.length=some k/\xs[k]?=some y/\Q y (upd H l (.lst (xs.eraseIdx k)))
theorem Bg:RM X "list.pop" IW:=by
 intro pins s σ H x vs v us Q I rx rv h;obtain⟨l,xs,i,k,y,rfl,rfl,hH,h1,h2,hk,hy,q⟩:=h;cases rx;obtain⟨u,rfl,ru⟩:=rv.one;obtain⟨t,rfl⟩:=ru;obtain⟨z,its,n,r,hl,e⟩:=I.MF hH;obtain⟨w,hw,rw'⟩:=r.get hy;refine call_meets F.slot_list_pop ⟨_,e,rfl⟩ F.entry_list_pop (F.args_list_pop_2 _ _)
  (MeetsSeq.list_pop_at l its.toArray n i t k w (fitsIndex_both h1 h2) (by rw[Xn,← hl];exact hk) (by rw[← Array.getElem?_toList];exact hw) (by rw[Xn];omega)) ⟨e,?_⟩
 refine⟨y,_,I.ME (its':=its.eraseIdx k) hH e ?_ (r.eraseIdx k) ?_,rw',q⟩
 ·show its.toArray.eraseIdxIfInBounds k=(its.eraseIdx k).toArray;rw[List.eraseIdxIfInBounds_toArray]
 ·have:=rn xs k;omega
end
section
variable {prog:Program} {w:World} {A:Around} {E:Value->Shared->Prop} {s:Shared}
set_option maxRecDepth 100000 in
end
section
variable {X:Cx}
end
end L2
namespace Att
open PySem PySem.W PySem.Calls PyProof.Rows
theorem oj{P:Params}{h:Heap}:∀(ns:List Int) (vs:List Value),WellAll P h vs (ns.map WData.int)->IntsAre vs ns:=by
 intro ns
 induction ns with
 | nil =>
  intro vs w;rw[List.map_nil]at w;cases w;exact .nil
 | cons n ns ih =>
  intro vs w;rw[XW]at w
  cases w with
  | cons a b =>
   cases a;exact .cons _ _ (ih _ b)
theorem zh{l:OpenLaw}{n:Nat}(hn:l.most=some n){P:Params}{h:Heap}{args:List WData}{vals:List Value}
  (hpre:l.row.toRowW.claim.pre args=true) (hwl:WellAll P h vals args) :
  ∃a vs ns,vals=[Value.ref a]/\args=[WData.list (ns.map WData.int)]/\h.get? a=some {cls:=.type "list",data:=.seq vs.toArray}/\IntsAre vs ns/\ns.length<=n:=by
 have hsh:WShape.hasAll [] args [.list .int]=true:=(pre_splitW hpre).1;have hc:l.pre.holds [] {args:=args}=true:=(pre_splitW hpre).2;obtain⟨d,r,rfl,h1,h2⟩:=hasAllW_cons hsh;obtain rfl:=hasAllW_nil h2;obtain⟨xs,rfl,h3⟩:=hasW_list h1;obtain⟨ns,rfl⟩:=items_int h3
 have hlen:ns.length<=n:=by
  unfold OpenLaw.pre at hc
  have h4:(WTm.not (.lt (.lit (.int (n:Int))) (.len (.arg 0)))).holds [] {args:=[.list (ns.map .int)]}=true:=by
   have h4:=(holds_andW hc).1;rw[hn]at h4;exact h4
  have h5:=condW_of h4 (w_not (w_lt w_lit (w_len_list (w_arg rfl))));rw[WY]at h5;refine Nat.le_of_not_lt λq=>?_
  have q':(n:Int) < ((ns.length:Nat):Int):=by omega
  first
   | (rw[XM q']at h5;exact absurd h5 (by decide))
   | (simp at h5;omega)
 cases hwl with
 | cons w1 w2 =>
  cases w2
  cases w1 with
  | list ho hall=>exact⟨_,_,ns,rfl,rfl,ho,oj ns _ hall,hlen⟩
theorem zi(l:OpenLaw)(args:List WData):l.row.toRowW.claim.post args (.bool true) args=true :=
 postW_of (r:=l.row.toRowW) (X:=(true == true))
  (show WShape.has [] (.bool true) .bool=true by first | rfl | decide | simp[WShape.has,WShape.arms,WShape.armsAll])
  (show(WTm.eq .res (.lit (.bool true))).value [] {args:=args,res:=some (.bool true),after:=args}=some (.bool (true == true))from w_eq_bool (w_res rfl) w_lit) rfl
theorem uH{l:OpenLaw}{n:Nat}{q:Program}{loose:List Str}{XP:(Str->Option Value)->Heap->Prop}{YP:World->Heap->Prop}{d:DefRec}
  (hn:l.most=some n) (hdf:d.params.defaults=[])
  (call:∀(w:World) (s₀ s₁:Shared) (mg mb:Str->Option Value) (fa:Addr) (o:Obj) (pm cd doc:Value) (a:Addr) (vs:List Value) (ns:List Int),
   Ground q loose [] XP w s₀ mg mb s₁.heap->YP w s₁.heap ->
   s₁.heap.get? fa=some o->o.data=.func (docDef d.name d.params d.body d.scope pm cd doc)->s₁.heap.CodeRec cd d.name->mg d.name=some (.ref fa) ->
   s₁.heap.get? a=some {cls:=.type "list",data:=.seq vs.toArray}->IntsAre vs ns->ns.length<=n->s₁.gens=#[] ->
   codeAny (model l.prog w) callerA (.call (.ref fa) ⟨[.ref a],[]⟩) (λr s'=>r=.ok (.ret (.bool true))/\OldK s₁.heap s'.heap/\s'.os=s₁.os/\AllBare s'.gens) s₁) :
  WalkO q loose XP YP l.row.toRowW d [] (λf vs=>PySem.call f vs):=by
 intro w s₀ s₁ mg mb G Y fa o pm cd doc dV kV ho hd hcd hD hmg hg args vals as hpre hlay hrd hwl hlo;obtain rfl:dV=.none:=Dflts.none hD hdf;obtain rfl:kV=.none:=Dflts.noKw hD;obtain⟨a,vs,ns,rfl,rfl,hobj,hints,hlen⟩:=zh hn hpre hwl;refine enter_call (Yk (call w s₀ s₁ mg mb fa o pm cd doc a vs ns G Y ho (fd_plain hd) hcd hmg hobj hints hlen hg) λr s' hq=>?_);obtain⟨rfl,h2,h3,h4⟩:=hq;exact⟨.inl ⟨.bool true,.bool true,[],rfl,λ_=>rfl,.bool true,zi l _,λ_=>⟨List.Pairwise.nil,λ_ hm=>(nomatch hm)⟩⟩,h2,h3,h4⟩
section
variable {prog:Program} {w:World} {A:Around} {E:Value->Shared->Prop} {s:Shared} {K:Frag}
end
end Att
namespace L2
open PySem PySem.Spec PyProof.Rows
theorem rq:∀{vs:List Value} {ns:List Int},IntsAre vs ns->Vals (ns.map V.int) vs
 | _,_,.nil=>.nil
 | _,_,.cons n t h=>.cons ⟨t,rfl⟩ (rq h)
def IX(H:Hp):Prop:=∀b,H b=none∨∃o xs,H b=some (.kS o (.lst xs))
theorem Bh{P:Program}{w:World}{K:aE}{mg mb:Str->Option Value}{CX:uq}{k:Nat}{fa a:Addr}{fd:FuncData}{x:Str}{sp:Sp}{s₁:Shared}{vs:List Value}{ns:List Int}
  (KX:K.In s₁.heap) (hns:s₁.heap.Ns mainGlobals mg) (hb:s₁.heap.Ns builtinsNs mb) (hbb:∀x:Str,x≠"__name__"->mb x=bootBuiltins x) (hlim:s₁.heap.NoLimit) (hg:s₁.gens=#[])
  (ha:s₁.heap.get? a=some {cls:=.type "list",data:=.seq vs.toArray}) (hi:IntsAre vs ns) (hl:ns.length<=sizeLine) (hr:cm k callerA)
  (F:∀base:Heap,K.In base->base.Ns mainGlobals mg->bw P w K mg base CX k fa fd [x] sp) (hbind:∀(s:Shared) (u:Value),BindsTo s fd ⟨[u],[]⟩ [(x,u)])
  (hsp:∀H:Hp,IX H->bK K H a (ns.map V.int)->sp [.ref a] H (λv _=>v=.bl true) λ_ _ _=>False)
  (hCX:∀H e s',CX [] H s₁ (λ_ _ _=>False) e s'->False) :
  codeAny (model P w) callerA (.call (.ref fa) ⟨[.ref a],[]⟩) (λr s'=>r=.ok (.ret (.bool true))/\OldK s₁.heap s'.heap/\s'.os=s₁.os/\AllBare s'.gens) s₁:=by
 have rv:=rq hi;have lenV:=hi.length;have core:∀H:Hp,IX H->bK K H a (ns.map V.int)->jW P w H s₁.heap->(∀b,H b≠none->b=a)->(H a≠none->K.lookup a=none) ->
   codeAny (model P w) callerA (.call (.ref fa) ⟨[.ref a],[]⟩) (λr s'=>r=.ok (.ret (.bool true))/\OldK s₁.heap s'.heap/\s'.os=s₁.os/\AllBare s'.gens) s₁:=by
  intro H hO hS hok hA hK;have base_of:∀{b:Addr} {o:Obj},s₁.heap.get? b=some o->H b=none->(r8 s₁.heap H).get? b=some o:=λe n=>AM e n
  have noA:∀{b:Addr} {o:Obj} {es:Array DictEntry} {ep:Nat},s₁.heap.get? b=some o->o.data=.dict es ep->H b=none:=λ{b o es ep} e d=>by
   cases q:H b with
   | none=>rfl
   | some u =>
    have e':b=a:=hA b (by rw[q];simp);subst e';rw[ha]at e;cases e;have d':Data.seq vs.toArray _=Data.dict es ep:=d;cases d'
  have nsK:∀{b:Addr} {m:Str->Option Value},s₁.heap.Ns b m->(r8 s₁.heap H).Ns b m:=λ{b m} ⟨o,es,ep,e,d,r⟩=>⟨o,es,ep,base_of e (noA e d),d,r⟩
  have hKb:K.In (r8 s₁.heap H):=λb o e=>base_of (KX b o e) (by
   cases q:H b with
   | none=>rfl
   | some u =>
    have e':b=a:=hA b (by rw[q];simp);subst e';rw[hK (by rw[q];simp)]at e;cases e)
  have hM:Mod K mg (r8 s₁.heap H):=⟨hKb,nsK hns,⟨mb,nsK hb,hbb⟩,let ⟨mc,h1,h2⟩:=hlim;⟨mc,nsK h1,h2⟩⟩;have e0:wx P w K mg (r8 s₁.heap H) callerA [] s₁ H:=⟨rfl,hM,λb o e=>D5 e,Nat.le_of_eq (zb _ _),trivial,λb hb=>absurd (show b∈([]:List Addr)from hb) (by simp),hok,.of_eq hg⟩;refine codeAny_mono ((F _ hKb (nsK hns)).run callerA [] s₁ H ⟨[.ref a],[]⟩ [.ref a] [.ref a] _ _ hr e0 (hbind s₁ (.ref a)) (.cons rfl .nil) (hsp H hO hS)) λr s' h=>?_
  cases r with
  | error e=>exact(hCX H e s' h).elim
  | ok fl =>
   cases fl with
   | next=>exact False.elim h
   | brk=>exact False.elim h
   | cont=>exact False.elim h
   | ret u =>
    obtain⟨v,H',os,bare,un,hok',r',q⟩:=h;have q':v=.bl true:=q;subst q';obtain rfl:u=Value.bool true:=r';refine⟨rfl,OldK.of_keep λb o e=>?_,os,bare⟩
    cases q:H b with
    | none=>exact un.keep b o e q (by intro z;exact absurd (show b∈([]:List Addr)from z) (by simp)) (by simp)
    | some u =>
     rcases hO b with z | ⟨ob,xs,z⟩
     ·rw[q]at z;cases z
     ·have z2:=un.eA b ob _ z;obtain⟨e1,_⟩:=hok b _ z;obtain⟨e2,_⟩:=hok' b _ z2;rw[e]at e1;cases e1;exact e2
 cases hk:K.lookup a with
 | some o =>
  have e:=KX a o hk;rw[ha]at e;cases e;refine core (λ_=>none) (λ_=>.inl rfl) (.inr ⟨_,vs.toArray,_,hk,rfl,rfl,rfl,by rw[List.size_toArray,lenV];exact hl,by simpa using rv⟩) (λb u z=>by have z':(none:Option HO)=some u:=z;cases z') (λb z=>absurd rfl z) λz=>absurd rfl z
 | none =>
  refine core (λb=>if b=a then some (.kS {cls:=.type "list",data:=.seq vs.toArray} (.lst (ns.map V.int)))else none) (λb=>?_) (.inl (.inr ⟨{cls:=.type "list",data:=.seq vs.toArray},W4 rfl⟩)) (λb u z=>?_) (λb z=>?_) λ_=>hk
  ·by_cases hb:b=a
   ·exact .inr ⟨_,_,W4 hb⟩
   ·exact .inl (W2 hb)
  ·by_cases hb:b=a
   ·have z':=(W4 hb).symm.trans z;cases z';subst hb;exact⟨ha,by rw[WY];exact hl,vs,_,rv,ha⟩
   ·have z':=(W2 hb).symm.trans z;cases z'
  ·by_cases hb:b=a
   ·exact hb
   ·exact absurd (W2 hb) z
theorem Et{l:PySem.W.OpenLaw}{n k:Nat}{q:Program}{loose:List Str}{XP:(Str->Option Value)->Heap->Prop}{YP:World->Heap->Prop}{d:DefRec}{K:Params->aE}{CX:World->uq}{sp:World->Sp}{x:Str}
  (hn:l.most=some n) (Ow:n<=sizeLine) (hdf:d.params.defaults=[]) (hr:cm k callerA)
  (hY:∀(w:World) (h:Heap),YP w h->(K w.params).In h)
  (F:∀(w:World) (mg:Str->Option Value) (fa:Addr) (h:Heap),(K w.params).In h->h.Ns mainGlobals mg->mg d.name=some (.ref fa) ->
   ∃fd:FuncData,(∀(s:Shared) (u:Value),BindsTo s fd ⟨[u],[]⟩ [(x,u)]) /\
    ∀base:Heap,(K w.params).In base->base.Ns mainGlobals mg->bw l.prog w (K w.params) mg base (CX w) k fa fd [x] (sp w))
  (hsp:∀(w:World) (H:Hp) (a:Addr) (ns:List Int),ns.length<=n->IX H->bK (K w.params) H a (ns.map V.int)->sp w [.ref a] H (λv _=>v=.bl true) λ_ _ _=>False)
  (hCX:∀(w:World) (H:Hp) (s:Shared) (e:Value) (s':Shared),CX w [] H s (λ_ _ _=>False) e s'->False) :
  PySem.W.WalkO q loose XP YP l.row.toRowW d [] (λf vs=>PySem.call f vs):=by
 refine Att.uH hn hdf λw s₀ s₁ mg mb fa o pm cd doc a vs ns G Y ho hd hcd hmg hobj hints hlen hg=>?_
 have KX:=hY w _ Y;obtain⟨fd,hb,hF⟩:=F w mg fa _ KX G.T.g hmg;exact Bh KX G.T.g G.T.b G.T.builtins G.T.nolimit hg hobj hints (Xh hlen Ow) hr hF hb (λH hO hS=>hsp w H a ns hlen hO hS) λH e s'=>hCX w H s₁ e s'
def iC(s:Stmt)(j:Nat):Stmt:=match s with
 | .ClassDef _ _ _ body _ _ _ _ _ _ _=>body.getD j (.Pass ⟨0,0,0,0⟩)
 | _=>.Pass ⟨0,0,0,0⟩
def dA(s:Stmt):Arguments:=match s with
 | .FunctionDef _ a _ _ _ _ _ _ _ _=>a
 | _=>{posonlyargs:=[],args:=[],vararg:=none,kwonlyargs:=[],kw_defaults:=[],kwarg:=none,defaults:=[]}
def dB(s:Stmt):List Stmt:=match s with
 | .FunctionDef _ _ b _ _ _ _ _ _ _=>b
 | _=>[]
def dS(s:Stmt):Scope:=match s with
 | .FunctionDef _ _ _ _ _ _ sc _ _ _=>sc
 | _=>{kind:=.function,names:=[],isGenerator:=false,isCoroutine:=false}
abbrev cN:uq:=λ_ _ _ _ _ _=>False
abbrev E0:XK:=λ_ _ _=>False
theorem uI{X:Cx}:Passes cN X E0:=λ_ _ _ _ _ _ _ h=>h.elim
structure iK(K:aE)(x qual:Str)(st:Stmt)(f:Addr)(fd:FuncData):Prop where
 ex:∃(oc:Value) (od:Option Addr) (kV doc pm:Value) (an:Option Addr) (cdv ct:Value) (osl:Array (Option Value)),
  fd=PySem.W.fnOf x qual (dA st) (dB st) (dS st) .none kV doc pm an cdv ct/\K.lookup f=some ⟨oc,od,.func fd,osl⟩/\PySem.W.codeIn K cdv qual=true
 kp:PySem.W.keepIn K (.ref f)=true
section
variable {P:Program} {w:World} {K:aE} {mg:Str->Option Value} {base:Heap}
theorem iK.ok{x qual:Str}{st:Stmt}{f:Addr}{fd:FuncData}{N ps:List Str}{k:Nat}{sp:Sp}(F:iK K x qual st f fd)(S:aI N ps (dS st))(len:∀vs H Q E,sp vs H Q E->vs.length=ps.length)
  (hbody:∀(cdv:Value) (A:Around) (outer:List Env) (s:Shared) (H:Hp) (vs:List V) (Q:VK) (E:XK),cm k (A.deeper (envOfC qual (dS st) s.heap.objs.size f cdv))->sp vs H Q E ->
   ∃t,oy (lj cN P w K mg base N qual (dS st) f cdv A outer s H E).Ou (dB st) t/\t {nx:=λ_ H'=>Q .non H',rt:=Q} (start N vs) H):bw P w K mg base cN (k + 1) f fd ps sp:=by
 obtain⟨oc,od,kV,doc,pm,an,cdv,ct,osl,rfl,lk,hcd⟩:=F.ex;refine Hl lk hcd S len λA outer s H vs Q E hr hsp=>?_
 obtain⟨t,h,q⟩:=hbody cdv A outer s H vs Q E hr hsp;exact⟨t,h.Ou,q⟩
theorem iK.binds{x qual:Str}{st:Stmt}{f:Addr}{fd:FuncData}{ps:List Str}(F:iK K x qual st f fd)
  (h:∀(kV doc pm:Value) (an:Option Addr) (cdv ct:Value) (us:List Value),us.length=ps.length->bindArgs (PySem.W.fnOf x qual (dA st) (dB st) (dS st) .none kV doc pm an cdv ct) ⟨us,[]⟩=pure (ps.zip us)):Binds K fd ps []:=by
 obtain⟨oc,od,kV,doc,pm,an,cdv,ct,osl,rfl,lk,hcd⟩:=F.ex;exact .all (h kV doc pm an cdv ct)
theorem pd{x qual:Str}{st:Stmt}{f:Addr}{oc:Value}{od an:Option Addr}{osl:Array (Option Value)}{kV doc pm cdv ct:Value}(l:K.lookup f=some ⟨oc,od,.func (PySem.W.fnOf x qual (dA st) (dB st) (dS st) .none kV doc pm an cdv ct),osl⟩)
  (c:PySem.W.codeIn K cdv qual=true) (k:PySem.W.keepIn K (.ref f)=true):iK K x qual st f (PySem.W.fnOf x qual (dA st) (dB st) (dS st) .none kV doc pm an cdv ct):=⟨⟨oc,od,kV,doc,pm,an,cdv,ct,osl,rfl,l,c⟩,k⟩
end
theorem yk{A:Around}{k:Nat}(hr:cm k A):A.units + 1 < cLine:=Xx (Nat.add_le_add_left (by decide:1<=64) _) hr.units
theorem sK{n:Nat}(h:n<=1000):n < sizeLine:=Xx h (by decide)
section
variable {X:Cx}
theorem pv(i:Nat){x:Str}{pos:Pos}(hN:X.N[i]?=some x:=by rfl)(hv:Ot X.env.scope x:=by first | exact Xe rfl | exact Or.inr (Xe rfl) | exact Or.inr (Or.inr rfl))(hd:(x == ("__debug__" : Str))=false:=by decide)
  (hcd:(x == ("__classdict__" : Str))=false:=by decide):PE X (.Name x pos) (D8 i):=AN hN hv hd hcd
end
theorem jM{A B:Prop}(h:B):if false=true then A else B:=by
 rw[W2 W6];exact h
theorem iQ{A B:Prop}(h:A):if true=true then A else B:=by
 rw[W4 rfl];exact h
def aQ(H H':Hp):Prop:=∀b o,H b=some o->H' b=some o
theorem aQ.refl(H:Hp):aQ H H:=λ_ _ h=>h
theorem aQ.trans{H H1 H2:Hp}(a:aQ H H1)(b:aQ H1 H2):aQ H H2:=λc o h=>b c o (a c o h)
theorem aQ.seq{K:aE}{H H':Hp}{a:Addr}{xs:List V}(e:aQ H H')(h:bK K H a xs):bK K H' a xs:=by
 rcases h with(h | ⟨o,h⟩) | h
 ·exact .inl (.inl (e _ _ h))
 ·exact .inl (.inr ⟨o,e _ _ h⟩)
 ·exact .inr h
open PySem PySem.Spec
theorem IY:bootBuiltins "len"=some (.builtin "len"):=by decide +kernel
theorem qC:bootBuiltins "isinstance"=some (.builtin "isinstance"):=by decide +kernel
theorem IZ:bootBuiltins "all"=some (.builtin "all"):=by decide +kernel
theorem Ja:bootBuiltins "int"=some (.type "int"):=by decide +kernel
theorem Eu:bootBuiltins "bool"=some (.type "bool"):=by decide +kernel
theorem oB:bootBuiltins "list"=some (.type "list"):=by decide +kernel
theorem Bi:bootBuiltins "tuple"=some (.type "tuple"):=by decide +kernel
theorem Jb:bootBuiltins "zip"=some (.type "zip"):=by decide +kernel
theorem Ew:bootBuiltins "dict"=some (.type "dict"):=by decide +kernel
theorem bu{c A B:Prop}[Decidable c](h:¬ c)(b:B):if decide c=true then A else B:=by rw[XA h];exact jM b
theorem jN{c A B:Prop}[Decidable c](h:c)(a:A):if decide c=true then A else B:=by rw[XM h];exact iQ a
theorem om{c A B:Prop}[Decidable c](h:c)(b:B):if (!decide c)=true then A else B:=by rw[XM h];exact jM b
theorem uJ{c A B:Prop}[Decidable c](h:¬ c)(a:A):if (!decide c)=true then A else B:=by rw[XA h];exact iQ a
theorem LS{b:Bool}{A B:Prop}(h:b=true)(a:A):if b=true then A else B:=by rw[h];exact iQ a
theorem MG{b:Bool}{A B:Prop}(h:b=false)(a:B):if b=true then A else B:=by rw[h];exact jM a
structure gI(P:Program)(w:World)(K:aE)(mg:Str->Option Value)(base:Heap)(CX:uq)(x:Str)(k:Nat)(ps:List Str)(sp:Sp):Prop where
 ex:∃(f:Addr) (fd:FuncData),bw P w K mg base CX k f fd ps sp/\Binds K fd ps []/\PySem.W.keepIn K (.ref f)=true/\mg x=some (.ref f)
section
variable {X:Cx} {x:Str} {k:Nat} {ps:List Str} {sp:Sp} {e:Expr} {es:List Expr} {t:TA} {p pos:Pos}
theorem eF(h:gI X.prog X.w X.K X.mg X.base cN x k ps sp)(hr:cm k X.A)(hg:Gl X x)(ha:PA X (e::es) t)(hdb:(x == ("__debug__" : Str))=false:=by decide)
  (he:starEach (e::es) X.env=(false,eval e X.env)::starEach es X.env:=by rfl) (hpl:(backTo pos (starEach es X.env)).any (·.1)=false:=by rfl) :
  PE X (.Call (.Name x p) (e::es) [] pos) (uE sp [] E0 t):=by
 obtain⟨f,fd,F,b,kp,m⟩:=h.ex;exact yf F hr hg m kp b .nil uI ha hdb he hpl
end
theorem aQ.tup{K:aE}{H H':Hp}{a:Addr}{xs:List V}(e:aQ H H')(h:cg K H a xs):cg K H' a xs:=by
 rcases h with(h | ⟨o,h⟩) | h
 ·exact .inl (.inl (e _ _ h))
 ·exact .inl (.inr ⟨o,e _ _ h⟩)
 ·exact .inr h
inductive aP(K:aE)(H:Hp):V->PyData->Prop
 | non:aP K H .non .none
 | bl (b:Bool):aP K H (.bl b) (.bool b)
 | int (i:Int):aP K H (.int i) (.int i)
 | str (x:Str):aP K H (.str x) (.str x)
 | lst {a:Addr} {xs:List V} {ds:List PyData} (h:bK K H a xs) (hl:xs.length=ds.length) (hi:∀(i:Nat) (x:V) (d:PyData),xs[i]?=some x->ds[i]?=some d->aP K H x d):aP K H (.ref a) (.list ds)
 | tup {a:Addr} {xs:List V} {ds:List PyData} (h:cg K H a xs) (hl:xs.length=ds.length) (hi:∀(i:Nat) (x:V) (d:PyData),xs[i]?=some x->ds[i]?=some d->aP K H x d):aP K H (.ref a) (.tuple ds)
def dP(K:aE)(H:Hp)(xs:List V)(ds:List PyData):Prop:=xs.length=ds.length/\∀(i:Nat) (x:V) (d:PyData),xs[i]?=some x->ds[i]?=some d->aP K H x d
theorem dP.nil{K:aE}{H:Hp}:dP K H [] []:=⟨rfl,λi x d h=>by simp at h⟩
theorem dP.cons{K:aE}{H:Hp}{x:V}{d:PyData}{xs:List V}{ds:List PyData}(h:aP K H x d)(r:dP K H xs ds):dP K H (x::xs) (d::ds) :=
 ⟨by simp[r.1],λi y e h1 h2=>by
  cases i with
  | zero=>simp at h1 h2;subst h1;subst h2;exact h
  | succ i=>exact r.2 i y e (by simpa using h1) (by simpa using h2)⟩
theorem aP.uK{K:aE}{H:Hp}{a:Addr}{xs:List V}{ds:List PyData}(h:bK K H a xs)(r:dP K H xs ds):aP K H (.ref a) (.list ds):=.lst h r.1 r.2
theorem aP.Bj{K:aE}{H:Hp}{a:Addr}{xs:List V}{ds:List PyData}(h:cg K H a xs)(r:dP K H xs ds):aP K H (.ref a) (.tuple ds):=.tup h r.1 r.2
theorem aP.same{K:aE}{H H':Hp}(e:aQ H H'){v:V}{d:PyData}(h:aP K H v d):aP K H' v d:=by
 induction h with
 | non=>exact .non
 | bl b=>exact .bl b
 | int i=>exact .int i
 | str x=>exact .str x
 | lst h hl hi ih=>exact .lst (e.seq h) hl ih
 | tup h hl hi ih=>exact .tup (e.tup h) hl ih
theorem j3{h:Heap}:∀{xs:List V} {us:List Value} {ds:List PyData},Vals xs us->xs.length=ds.length->(∀(i:Nat) (x:V) (d:PyData) (u:Value),xs[i]?=some x->ds[i]?=some d->RelV x u->∃as,Reads h u d as)->∃as,ReadsAll h us ds as
 | [],_,[],.nil,_,_=>⟨[],.nil⟩
 | [],_,_::_,_,hl,_=>nomatch hl
 | _::_,_,[],_,hl,_=>nomatch hl
 | x::xs,u::us,d::ds,.cons r t,hl,hi=>by
  obtain⟨as,ha⟩:=hi 0 x d u rfl rfl r;obtain⟨bs,hb⟩:=j3 t (by simpa using hl) λi y e w h1 h2=>hi (i + 1) y e w (by simpa using h1) (by simpa using h2)
  exact⟨as++bs,.cons ha hb⟩
section
variable {X:Cx} {pins:List (Addr×Obj)} {σ:St} {H:Hp} {s:Shared}
theorem aP.reads(I:Inv X pins σ H s){v:V}{d:PyData}(h:aP X.K H v d):∀{u:Value},RelV v u->∃as,Reads s.heap u d as:=by
 induction h with
 | non=>intro u r;cases r;exact⟨_,.none⟩
 | bl b=>intro u r;cases r;exact⟨_,.bool b⟩
 | int i=>intro u r;obtain⟨t,rfl⟩:=r;exact⟨_,.int i t⟩
 | str x=>intro u r;obtain⟨t,rfl⟩:=r;exact⟨_,.str x t⟩
 | lst h hl hi ih =>
  intro u r;cases r;obtain⟨its,rv,⟨o,n,e,c,_,d⟩,hz⟩:=I.list h;obtain⟨as,ha⟩:=j3 (h:=s.heap) rv hl λi x d u h1 h2 r=>ih i x d h1 h2 r
  exact⟨_,.list e c d ha⟩
 | tup h hl hi ih =>
  intro u r;cases r;obtain⟨its,rv,⟨o,e,c,n,d⟩,hz⟩:=I.tuple h;obtain⟨as,ha⟩:=j3 (h:=s.heap) rv hl λi x d u h1 h2 r=>ih i x d h1 h2 r
  exact⟨_,.tuple e c d ha⟩
end
section
variable {X:Cx}
def Jc(K:aE):R2:=λx y H Q=>∃d d',aP K H x d/\aP K H y d'/\PySem.SeqAt.shaped d=true/\PySem.SeqAt.shaped d'=true/\Q (.bl (PyData.eqv d d')) H
def MI(K:aE):R2:=λx y H Q=>∃d d',aP K H x d/\aP K H y d'/\PySem.SeqAt.shaped d=true/\PySem.SeqAt.shaped d'=true/\Q (.bl (!PyData.eqv d d')) H
theorem sA(hu:X.A.units + 64 < cLine):i6 X (compareOp .Eq) (Jc X.K):=by
 intro pins s σ H x y v u Q I rx ry h;obtain⟨d,d',h1,h2,s1,s2,q⟩:=h;obtain⟨as,r1⟩:=h1.reads I rx;obtain⟨bs,r2⟩:=h2.reads I ry;exact eq_dataH r1 r2 s1 s2 hu ⟨.bl _,H,I,rfl,q⟩
theorem Jd(hu:X.A.units + 64 < cLine):i6 X (compareOp .NotEq) (MI X.K):=by
 intro pins s σ H x y v u Q I rx ry h;obtain⟨d,d',h1,h2,s1,s2,q⟩:=h;obtain⟨as,r1⟩:=h1.reads I rx;obtain⟨bs,r2⟩:=h2.reads I ry;exact ne_dataH r1 r2 s1 s2 hu ⟨.bl _,H,I,rfl,q⟩
def MJ(a:Addr):Heap->Prop:=λh=>∃o,h.get? a=some o/\o.cls=.type "dict"
inductive Ey(K:aE)(H:Hp):V->String->Prop
 | non:Ey K H .non "NoneType"
 | bl (b:Bool):Ey K H (.bl b) "bool"
 | int (i:Int):Ey K H (.int i) "int"
 | str (x:Str):Ey K H (.str x) "str"
 | lst {a:Addr} {xs:List V} (h:bK K H a xs):Ey K H (.ref a) "list"
 | tup {a:Addr} {xs:List V} (h:cg K H a xs):Ey K H (.ref a) "tuple"
 | dct {a:Addr} (h:H a=some (.ext (MJ a))):Ey K H (.ref a) "dict"
def Pc(K:aE):List V->Hp->VK->Prop:=λvs H Q=>∃x n t b,vs=[x,.ty n]/\Ey K H x t/\PySem.W.kitOne K (.type t) (.type n)=some b/\Q (.bl b) H
theorem Bk:iN X (.builtin "isinstance") (Pc X.K):=by
 intro pins s σ H xs us Q I r h;obtain⟨x,n,t,b,rfl,ty,e,q⟩:=h;obtain⟨u,w',rfl,rx,rw'⟩:=vals2 r;cases rw';have fin:∀tk,EP X pins σ Q (.bool b) {s with toks:=tk}:=λtk=>⟨.bl b,H,I.tok tk,rfl,q⟩
 cases ty with
 | non=>cases rx;exact XT PySem.W.kitx_none I.iM XB e (λz=>nomatch z) fin
 | bl y=>cases rx;exact XT PySem.W.kitx_bool I.iM XB e (λz=>nomatch z) fin
 | int i=>obtain⟨t,rfl⟩:=rx;exact XT PySem.W.kitx_int I.iM XB e (λz=>nomatch z) fin
 | str y=>obtain⟨t,rfl⟩:=rx;exact XT PySem.W.kitx_str I.iM XB e (λz=>nomatch z) fin
 | lst h =>
  cases rx;obtain⟨its,rv,⟨o,n,e1,c,_,d⟩,hz⟩:=I.list h;exact XT PySem.W.kitx_list I.iM ⟨o,e1,c⟩ e (λz=>nomatch z) fin
 | dct h =>
  cases rx;obtain⟨⟨o,e1,c⟩,_⟩:=I.hok _ _ h;exact XT PySem.W.kitx_dict I.iM ⟨o,e1,c⟩ e (λz=>nomatch z) fin
 | tup h =>
  cases rx;obtain⟨its,rv,⟨o,e1,c,n,d⟩,hz⟩:=I.tuple h;exact XT PySem.W.kitx_tuple I.iM ⟨o,e1,c⟩ e (λz=>nomatch z) fin
def Bl(i j:Int):Prop:=(-340282366920938463463374607431768211456 < i/\i < 340282366920938463463374607431768211456)/\(-340282366920938463463374607431768211456 < j/\j < 340282366920938463463374607431768211456)
theorem Bl.ok{i j:Int}(h:Bl i j):IntMulOk i j:=by
 have e:(2:Nat) ^ 128=340282366920938463463374607431768211456:=by decide
 obtain⟨⟨h1,h2⟩,h3,h4⟩:=h;have a:i.natAbs < 2 ^ 128:=by rw[e];omega
 have b:j.natAbs < 2 ^ 128:=by rw[e];omega
 exact IntMulOk.of_bits (Xh (YZ a) (by decide)) (Xh (YZ b) (by decide))
end
def ll(cells:List (Str×Addr)):List (Str×NameKind)->List (Str×Addr)->List (Str×Addr)
 | [],cs=>cs
 | (n,k)::r,cs=>ll cells r (if k == .free then(match cells.lookup n with | some c=>(n,c)::cs | none=>cs)else cs)
theorem uL{cells:List (Str×Addr)}:∀(names:List (Str×NameKind)) (cs:List (Str×Addr)),(∀x c,cs.lookup x=some c->cells.lookup x=some c)->∀x c,(ll cells names cs).lookup x=some c->cells.lookup x=some c
 | [],_,h=>h
 | (n,k)::r,cs,h=>by
  refine uL r _ λx c e=>?_
  split at e
  ·split at e
   ·rename_i c' hc;rw[YR]at e;by_cases z:(x == n)=true
    ·rw[z]at e;have z':x=n:=by simpa using z
     rw[z'];exact hc.trans e
    ·rw[Ys]at z;rw[z]at e;exact h x c e
   ·exact h x c e
  ·exact h x c e
theorem rz{cells:List (Str×Addr)}{x:Str}{c:Addr}(hx:cells.lookup x=some c):∀(names:List (Str×NameKind)) (cs:List (Str×Addr)),cs.lookup x=some c->(ll cells names cs).lookup x=some c
 | [],_,h=>h
 | (n,k)::r,cs,h=>by
  refine rz hx r _ ?_;split
  ·split
   ·rename_i c' hc;rw[YR];by_cases z:(x == n)=true
    ·rw[z];have z':x=n:=by simpa using z
     rw[z']at hx;exact hc.symm.trans hx
    ·rw[Ys]at z;rw[z];exact h
   ·exact h
  ·exact h
theorem pf{cells:List (Str×Addr)}{x:Str}{c:Addr}(hx:cells.lookup x=some c):∀(names:List (Str×NameKind)) (cs:List (Str×Addr)),(x,NameKind.free)∈names->(ll cells names cs).lookup x=some c
 | [],_,h=>nomatch h
 | (n,k)::r,cs,h=>by
  rcases Xj.mp h with e | h
  ·cases e;refine rz hx r _ ?_;simp[hx,List.lookup_cons]
  ·exact pf hx r _ h
theorem iu{env:Env}{scope:Scope}(h:∀y∈scope.names,y.2=NameKind.free->∃c,env.cells.lookup y.1=some c):closureFor scope env=pure (ll env.cells scope.names []):=by
 have go:∀(names:List (Str×NameKind)) (cs:List (Str×Addr)),(∀y∈names,y.2=NameKind.free->∃c,env.cells.lookup y.1=some c) ->
   (forIn names cs λx (r:List (Str×Addr))=>if (x.2 == NameKind.free)=true then do let c ← cellOf env x.1;pure (ForInStep.yield ((x.1,c)::r))else pure (ForInStep.yield r):Sem (List (Str×Addr)))=pure (ll env.cells names cs):=by
  intro names
  induction names with
  | nil=>intro cs _;rfl
  | cons y r ih =>
   intro cs hy;obtain⟨n,k⟩:=y;rw[List.forIn_cons];by_cases hk:k=NameKind.free
   ·subst hk;obtain⟨c,hc⟩:=hy _ List.mem_cons_self rfl;have hc':env.cells.lookup n=some c:=hc;have hcell:cellOf env n=pure c:=by simp only[cellOf,hc']
    simp only[hcell,beq_self_eq_true,if_true,pure_bind];rw[ih _ λy hm=>hy y (List.mem_cons_of_mem _ hm)];simp only[ll,beq_self_eq_true,if_true,hc']
   ·have hb:(k == NameKind.free)=false:=by simpa using hk
    simp only[hb,Bool.false_eq_true,if_false,pure_bind];rw[ih _ λy hm=>hy y (List.mem_cons_of_mem _ hm)];simp only[ll,hb,Bool.false_eq_true,if_false]
 have e:=go scope.names [] h;unfold closureFor;simp only[bind_pure]at e ⊢;exact e
theorem ph{scope:Scope}{env:Env}(x:Str):(relabel scope env).names.lookup x=(scope.names.lookup x).map λk=>if (k == NameKind.free&&env.scope.kind == .function&&env.kindOf x == some .cell)=true then .cell else k:=by
 show(scope.names.map λ(n,k)=>if (k == NameKind.free&&env.scope.kind == .function&&env.kindOf n == some .cell)=true then(n,NameKind.cell)else(n,k)).lookup x=_
 induction scope.names with
 | nil=>rfl
 | cons y r ih =>
  obtain⟨n,k⟩:=y;rw[XW];by_cases z:(x == n)=true
  ·have z':x=n:=by simpa using z
   subst z';by_cases hc:(k == NameKind.free&&env.scope.kind == .function&&env.kindOf x == some .cell)=true
   ·simp only[hc,if_true,List.lookup_cons,beq_self_eq_true,Option.map_some]
   ·simp only[hc,if_false,List.lookup_cons,beq_self_eq_true,Option.map_some,Bool.false_eq_true]
  ·rw[Ys]at z;by_cases hc:(k == NameKind.free&&env.scope.kind == .function&&env.kindOf n == some .cell)=true
   ·simp only[hc,if_true,List.lookup_cons,z];exact ih
   ·simp only[hc,if_false,List.lookup_cons,z,Bool.false_eq_true];exact ih
theorem dQ{α β:Type}[BEq α][LawfulBEq α]{x:α}{b:β}:∀{l:List (α×β)},l.lookup x=some b->(x,b)∈l
 | [],h=>by simp at h
 | (n,k)::r,h=>by
  rw[YR]at h;by_cases z:(x == n)=true
  ·rw[z]at h;have z':x=n:=by simpa using z
   cases h;rw[z'];exact W7
  ·rw[Ys]at z;rw[z]at h;exact W9 _ (dQ h)
def Cx.jO(X:Cx)(N:List Str)(scope:Scope)(C:Addr)(ex:List Addr)(s:Shared)(H:Hp):Cx where
 prog:=X.prog
 w:=X.w
 K:=X.K
 mg:=X.mg
 base:=X.base
 A:=X.A
 N:=N
 s₀:=s
 H₀:=H
 env:=compEnvC scope (ll X.env.cells scope.names []) C X.env
 outer:=X.stack
 stack:=X.stack
 ex:=ex
 fn:=λ_=>false
 calm:=X.calm
 pn:=[]
 xe:=λ_ _=>False
structure kT(X:Cx)(own:Nat)(N:List Str)(ix:List Nat)(scope:Scope):Prop where
 kind:scope.kind=.function
 calm:X.calm=true
 free:scope.names.all (λy=>y.2 != .free||X.env.kindOf y.1 == some .cell)=true
 cell:scope.names.all (λy=>y.2 != .cell)=true
 loc:scope.names.all (λy=>y.2 != .local||scope.names.lookup y.1 == some .local)=true
 ixs:(ix.map λi=>X.N[i]?)=(N.drop own).map some
 fr:(N.drop own).all (λx=>scope.names.lookup x == some .free)=true
 len:N.length=own + ix.length
def cQ(own:Nat)(ix:List Nat)(σ:St):St:=List.replicate own none++ix.map λi=>(σ[i]?).getD none
theorem wG(own:Nat)(ix:List Nat)(σ:St):(cQ own ix σ).drop own=ix.map λi=>(σ[i]?).getD none:=by
 unfold cQ;rw[List.drop_left' (by simp)]
theorem rA{own:Nat}{ix:List Nat}{σ:St}{j:Nat}{v:V}(h:(cQ own ix σ)[j]?=some (some v)):∃i,own<=j/\ix[j - own]?=some i/\σ[i]?=some (some v):=by
 unfold cQ at h;by_cases hj:j < own
 ·rw[List.getElem?_append_left (by simpa using hj)]at h;rw[List.getElem?_replicate]at h;simp[hj]at h
 ·rw[List.getElem?_append_right (by simpa using hj)]at h;rw[List.length_replicate,List.getElem?_map]at h
  cases e:ix[j - own]? with
  | none=>rw[e]at h;simp at h
  | some i =>
   rw[e]at h;refine⟨i,by omega,rfl,?_⟩;have h':(σ[i]?).getD none=some v:=by simpa using h
   cases q:σ[i]? with
   | none=>rw[q]at h';simp at h'
   | some o=>rw[q]at h';simp at h';rw[h']
theorem pj{own:Nat}{ix:List Nat}{σ σ2:St}(hd:σ2.drop own=ix.map λi=>(σ[i]?).getD none):∀(j:Nat) v,(cQ own ix σ)[j]?=some (some v)->σ2[j]?=some (some v):=λj v h=>by
 by_cases hj:j < own
 ·obtain⟨i,h1,_⟩:=rA h;omega
 ·have e:(cQ own ix σ)[j]?=((cQ own ix σ).drop own)[j - own]?:=by rw[Yc];congr 1;omega
  have e2:σ2[j]?=(σ2.drop own)[j - own]?:=by rw[Yc];congr 1;omega
  rw[e,wG,← hd,← e2]at h;exact h
section
variable {X:Cx} {pins:List (Addr×Obj)} {σ:St} {H:Hp} {s:Shared} {own:Nat} {N:List Str} {ix:List Nat} {scope:Scope}
theorem kT.has(B:kT X own N ix scope)(I:Inv X pins σ H s):∀y∈scope.names,y.2=NameKind.free->X.env.kindOf y.1=some .cell/\∃c,X.env.cells.lookup y.1=some c:=λy hy e=>by
 have z:=List.all_eq_true.mp B.free y hy;rw[e]at z;have z':X.env.kindOf y.1=some .cell:=by simpa using z
 exact⟨z',I.ok.has y.1 (.inl z')⟩
theorem rB{C:Addr}{ex:List Addr}{h':Heap}{tk:Nat}(B:kT X own N ix scope)(I:Inv X pins σ H s)(hC:C=s.heap.objs.size)(hx:∀b∈ex,kM X pins H b)(hlt:∀b∈ex,b < s.heap.objs.size)
  (hn:h'.Ns C (λ_=>none)) (hk:∀b o,s.heap.get? b=some o->h'.get? b=some o):Inv (X.jO N scope C ex s H) [] (cQ own ix σ) H {s with heap:=h',toks:=tk}:=by
 have sub:∀x c,(ll X.env.cells scope.names []).lookup x=some c->X.env.cells.lookup x=some c:=uL scope.names [] λx c e=>by simp at e
 have nb:∀b o,X.base.get? b=some o->b∉ex:=λb o e hb=>by
  rcases (hx b hb).2.2.2.1 with z | z
  ·exact I.ok.noex b o e z
  ·exact absurd (WV (WT e) (Xh I.ok.bsz z)) (Xm _)
 have nstk:∀b∈ex,b∉gQ X.stack:=λb hb z=>by
  rcases Xj.mp (I.wa b z)with e | e
  ·exact(hx b hb).2.1 e
  ·exact(hx b hb).2.2.1 e
 refine⟨⟨I.ok.mod,B.kind,I.ok.glob,I.ok.blt,?_,λx y c e1 e2=>I.ok.inj x y c (sub x c e1) (sub y c e2),λx hk'=>?_,(λ_ _ z=>absurd (show false=true from z) (by decide)),I.ok.hd,I.ok.frames,.inl rfl,λb hb=>⟨?_,λx c e=>(hx b hb).2.2.2.2.1 x c (sub x c e)⟩,
  λb o e=>I.bs b o e,Xh I.ok.bsz I.sz,nb,nstk,I.stack,I.kD⟩,rfl,I.bare,Un.kept hk,⟨_,hn,λj x v e1 e2 e3=>?_⟩,λx c e=>?_,?_,λx c e=>I.freeC x c (sub x c e),(λp hp=>nomatch hp),I.hok.kept hk,?_⟩
 ·show s.heap.objs.size<=C;exact Zk hC.symm
 ·have hk'':(relabel scope X.env).names.lookup x=some .cell∨(relabel scope X.env).names.lookup x=some .free:=hk';rw[ph]at hk''
  have hf:scope.names.lookup x=some .free:=by
   cases q:scope.names.lookup x with
   | none=>rw[q]at hk'';rcases hk'' with z | z<;>cases z
   | some k =>
    rw[q]at hk'';by_cases hkf:k=.free
    ·rw[hkf]
    ·exfalso
     have hb:(k == NameKind.free)=false:=by simpa using hkf
     have hm:=List.all_eq_true.mp B.cell (x,k) (dQ q);simp only[Option.map_some,hb,Bool.false_and,Bool.false_eq_true,if_false]at hk'';rcases hk'' with z | z
     ·rw[Option.some.inj z]at hm;exact absurd hm (by simp)
     ·exact hkf (W0 z)
  obtain⟨_,c,hc⟩:=B.has I (x,.free) (dQ hf) rfl;exact⟨c,pf hc scope.names [] (dQ hf)⟩
 ·show b≠C;rw[hC];exact W5 (hlt b hb)
 ·obtain⟨i,h1,h2,h3⟩:=rA e2;have hN:N[j]?=some x:=e1
  have hxN:X.N[i]?=some x:=by
   have e:(ix.map λi=>X.N[i]?)[j - own]?=((N.drop own).map some)[j - own]?:=by rw[B.ixs]
   rw[Xv,h2,Xv,Yc]at e;have hj:own + (j - own)=j:=by omega
   rw[hj,hN]at e;simpa using e
  have hfr:scope.names.lookup x=some .free:=by
   have hm:x∈N.drop own:=by
    refine Xg (i:=j - own) ?_;rw[Yc,show own + (j - own)=j by omega];exact hN
   have:=List.all_eq_true.mp B.fr x hm;simpa using this
  obtain⟨hkc,c,hc⟩:=B.has I (x,.free) (dQ hfr) rfl;obtain⟨m,hm,hl⟩:=I.loc;obtain⟨u,r,l⟩:=hl i x v hxN h3 (.inr (.inl hkc));refine⟨u,r,?_⟩;rcases l with⟨z,_⟩ | ⟨_,c',hc',hz⟩
  ·have z':X.env.kindOf x=some .local:=z;have hkc':X.env.kindOf x=some .cell:=hkc;rw[hkc']at z';cases z'
  ·rw[hc]at hc';cases hc';refine .inr ⟨.inl ?_,c,pf hc scope.names [] (dQ hfr),?_⟩
   ·show(relabel scope X.env).names.lookup x=some .cell;rw[ph,hfr];have hkc':X.env.kindOf x=some .cell:=hkc;have hkf:X.env.scope.kind=.function:=I.ok.kind;simp[hkc',hkf]
   ·obtain⟨o,ho,hd⟩:=hz;exact⟨o,hk _ _ ho,hd⟩
 ·obtain⟨v,o,ho,hd⟩:=I.cell x c (sub x c e);exact⟨v,o,hk _ _ ho,hd⟩
 ·show H C=none;exact I.hok.fresh (Zk hC.symm)
 ·show(cQ own ix σ).length=N.length;rw[B.len];simp[cQ]
theorem ym{C:Addr}{ex:List Addr}{σ':St}{H':Hp}{s':Shared}(I:Inv X pins σ H s)(hx:∀b∈ex,kM X pins H b)(I':Inv (X.jO N scope C ex s H) [] σ' H' s'):Inv X pins σ H' s' :=
 I.xX (ch:=ex) I'.os I'.base I'.hok I'.bare λb hb=>⟨(hx b hb).2.2.2.1,(hx b hb).2.1,(hx b hb).2.2.2.2.1,(hx b hb).2.2.2.2.2⟩
def Je(X:Cx)(ifs:List Expr)(tt:TT):Prop:=∀(pins:List (Addr×Obj)) (s:Shared) (σ:St) (H:Hp) (Q:Bool->Hp->Prop),Inv X pins σ H s->tt σ H Q ->
 wpAny (model X.prog X.w) X.A (forIn ifs true λc r=>if r=true then do let ok ← isTrue c X.env (eval c X.env);pure (ForInStep.yield ok)else pure (ForInStep.yield r)) (TP X pins σ Q) X.xe s
def Pd:TT:=λ_ H Q=>Q true H
theorem oE{X:Cx}:Je X [] Pd:=λ_ _ _ H _ I h=>wpAny_tests_nil ⟨H,I,h⟩
def LU(J:It)(own:Nat)(ix:List Nat)(σ:St)(g:TG)(tt:TT)(te:TE)(D:Addr)(H1:Hp)(Q:VK):Prop:=∃W:Nat->Nat->List V->Hp->Prop,
 (∃m,W 0 m [] (upd H1 D (.lst [])))/\∀i m ys H2,W i m ys H2->H2 D=some (.lst ys)/\((J.stop i H2/\Q (.ref D) H2)∨(J.go i H2/\ys.length < sizeLine/\∃Nx:List V->Hp->Prop,(∀ys' H',Nx ys' H'->∃m',m' < m/\W (i + 1) m' ys' H')/\∀x H3,J.yld i H2 x H3 ->
  g x (cQ own ix σ) H3 λσ2 H4=>σ2.drop own=(ix.map λi=>(σ[i]?).getD none)/\tt σ2 H4 λb H5=>if b=true then te σ2 H5 λv H6=>H6 D=some (.lst ys)/\Nx (ys++[v]) (upd H6 D (.lst (ys++[v])))else Nx ys H5))
def MK(own:Nat)(ix:List Nat)(wi:TI)(g:TG)(tt:TT)(te:TE):TE:=λσ H Q=>wi σ H λJ H1=>∀D,H1 D=none->LU J own ix σ g tt te D H1 Q
theorem uM{prog:Program}{w:World}{A:Around}{R:Result->Shared->Prop}{s:Shared}{elt target iter:Expr}{ifs:List Expr}{scope:Scope}{pos:Pos}{it acc:Value}{env:Env}(I:Nat->Shared->Prop)
  (turn:∀n s,I n s->wpAny (model prog w) A (pyNext it) (λr s1=>match r with
   | none=>R (.ok .next) s1
   | some v=>wpAny (model prog w) A (letOwnedTupleGo target it v) (λ_ s1'=>wpAny (model prog w) A (assign target env v) (λ_ s2 =>
     wpAny (model prog w) A (forIn ifs true λc r=>if r=true then do let ok ← isTrue c env (eval c env);pure (ForInStep.yield ok)else pure (ForInStep.yield r)) (λok s3 =>
      if ok=true then wpAny (model prog w) A (eval elt env) (λx s4=>wpAny (model prog w) A (call (.builtin "list.append") [acc,x]) (λ_ s5=>∃m,m < n/\I m s5) (λ_ _=>False) s4) (λ_ _=>False) s3
      else ∃m,m < n/\I m s3) (λ_ _=>False) s2) (λ_ _=>False) s1') (λ_ _=>False) s1) (λ_ _=>False) s)
  (n:Nat) (h:I n s):codeAny (model prog w) A (.compLoop (.ListComp elt [⟨target,iter,ifs,0⟩] scope pos) 0 it acc env) R s:=by
 refine codeAny_loop rfl I (λn s hI=>?_) n h;show wpAny _ A ((compTurn (.ListComp elt [⟨target,iter,ifs,0⟩] scope pos) 0 it acc env).onRaise (λx=>do noteFrame x env;theTreesLotGoes x)) _ _ s;refine wpAny_noted ?_;rw[compTurn_list];refine WS (Yo (WS (Xa (turn n s hI) (λr s1 h1=>?_) λ_ _ z=>z.elim)))
 cases r with
 | none=>exact WX h1
 | some v =>
  refine WS (Xa h1 (λ_ s1' h1'=>?_) λ_ _ z=>z.elim);refine WS (Xa h1' (λ_ s2 h2=>WS (Xa h2 (λok s3 h3=>?_) λ_ _ z=>z.elim)) λ_ _ z=>z.elim)
  cases ok with
  | false=>exact WX ⟨rfl,h3⟩
  | true=>exact WS (WS (Xa h3 (λx s4 h4=>WS (Xa h4 (λ_ s5 h5=>WX (WX ⟨rfl,h5⟩)) λ_ _ z=>z.elim)) λ_ _ z=>z.elim))
theorem yn{elt tg iter:Expr}{ifs:List Expr}{pos:Pos}{g:TG}{tt:TT}{te:TE}{it:Addr}{fp:List Addr}{tn:Nat->Heap->Prop}{J:It}{Q:VK}{E:Value->Shared->Prop}{RR:Value->Addr->Result->Shared->Prop}(B:kT X own N ix scope)
  (hin:∀(C:Addr) (s:Shared) (H:Hp),PG (X.jO N scope C fp s H) tg g/\Je (X.jO N scope C fp s H) ifs tt/\PE (X.jO N scope C fp s H) elt te)
  (I:Inv X pins σ H s) (T:Turn X.prog X.w X.K tg J fp it tn) (st:tn 0 s.heap) (hf:∀b∈fp,kM X pins H b)
  (h:∀D,H D=none->LU J own ix σ g tt te D H Q)
  (fin:∀(D C:Addr) (H':Hp) (s':Shared) (m:Str->Option Value),Inv X pins σ H' s'->s'.heap.Ns C m->H' C=none->C≠X.env.locals->(X.s₀.heap.objs.size<=C)->(∀x c,X.env.cells.lookup x=some c->c≠C)->(∀p∈X.pn++pins,p.1≠C)->Q (.ref D) H'->RR (.ref D) C (.ok .next) s') :
  wpAny (model X.prog X.w) X.A (newList []) (λacc s3=>wpAny (model X.prog X.w) X.A (newFunctionEnv scope X.env.globals (ll X.env.cells scope.names []) [] X.env.qual none .none (some X.env)) (λcenv s4 =>
   codeAny (model X.prog X.w) X.A (.compStart (.ListComp elt [⟨tg,iter,ifs,0⟩] scope pos) 0 (.ref it) acc {cenv with scope:=relabel scope X.env}) (RR acc cenv.locals) s4) E s3) E s:=by
 obtain⟨W,⟨m0,w0⟩,turn⟩:=h s.heap.objs.size I.fresh;refine XX ?_;have I3:=I.IV (its:=[]) (ys:=[]) (t':=s.toks) .nil (XZ _)
 have hcell:∀y∈scope.names,y.2≠NameKind.cell:=λy hy e=>by
  have:=Yt.mp B.cell y hy;rw[e]at this;exact absurd this (by decide)
 refine wpAny_newFunctionEnv hcell (by intro y hy;simp at hy) (λh1 wH wI=>?_) B.kind;dsimp only at wH wI ⊢;generalize Jf:s.heap.push {cls:=.type "list",dict:=none,data:=.seq ([]:List Value).toArray}=h2 at wH wI ⊢
 have I3':Inv X pins σ (upd H s.heap.objs.size (.lst [])) {s with heap:=h2}:=by
  have z:({s with heap:=s.heap.push {cls:=.type "list",data:=.seq ([]:List Value).toArray},toks:=s.toks}:Shared)={s with heap:=h2}:=by rw[← Jf]
  rw[← z];exact I3
 have sz:h2.objs.size=s.heap.objs.size + 1:=by rw[← Jf,Yj]
 have Jg:∀b o,s.heap.get? b=some o->h2.get? b=some o:=λb o e=>by rw[← Jf];exact WW _ e
 have uO:∀b o,h2.get? b=some o->h1.get? b=some o:=λb o e=>wI.extBut b o (W5 (WT e)) (WW _ e)
 have there:∀b∈fp,b < s.heap.objs.size:=λb hb=>by obtain⟨o,e,_⟩:=T.obj _ _ st b hb;exact WT e
 have Hn:∀b∈fp,kM X pins (upd H s.heap.objs.size (.lst [])) b:=λb hb=>⟨by rw[uN (W5 (there b hb))];exact(hf b hb).1,(hf b hb).2⟩
 have ML:h1.Ns h2.objs.size (λ_=>none):=by simpa using wH
 have I4:=rB (tk:=s.toks + ([]:List (Str×Value)).length) (own:=own) (N:=N) (ix:=ix) B I3' rfl Hn (λb hb=>WV (there b hb) (by show s.heap.objs.size<=h2.objs.size;rw[sz];exact Yg _)) ML uO;have ur:tn 0 h1:=T.keep _ _ _ st λb _ o e=>uO b o (Jg b o e)
 have Bc:(X.jO N scope h2.objs.size fp {s with heap:=h2} (upd H s.heap.objs.size (.lst []))).calm=true:=B.calm;obtain⟨pg,pif,pe⟩:=hin h2.objs.size {s with heap:=h2} (upd H s.heap.objs.size (.lst []))
 have fpb:∀{H':Hp},(∀b∈fp,H' b=none)->∀b∈fp,kM (X.jO N scope h2.objs.size fp {s with heap:=h2} (upd H s.heap.objs.size (.lst []))) [] H' b:=λhz b hb =>
  ⟨hz b hb,W5 (WV (there b hb) (by show s.heap.objs.size<=h2.objs.size;rw[sz];exact Yg _)),I4.ok.exfs b hb,.inl hb,λx c e=>(I4.ok.exf b hb).2 x c e,(λp hp=>nomatch hp)⟩
 have loop:∀s3:Shared,s3={s with heap:=h1,toks:=s.toks + ([]:List (Str×Value)).length} ->
   codeAny (model X.prog X.w) X.A (.compLoop (.ListComp elt [⟨tg,iter,ifs,0⟩] scope pos) 0 (.ref it) (.ref s.heap.objs.size) (compEnvC scope (ll X.env.cells scope.names []) h2.objs.size X.env)) (RR (.ref s.heap.objs.size) h2.objs.size) s3:=by
  rintro s3 rfl;refine uM (λn s'=>∃i ys H',Inv (X.jO N scope h2.objs.size fp {s with heap:=h2} (upd H s.heap.objs.size (.lst []))) [] (cQ own ix σ) H' s'/\tn i s'.heap/\(∀b∈fp,H' b=none)/\W i n ys H') ?_ m0
   ⟨0,[],_,I4,ur,λb hb=>(Hn b hb).1,w0⟩
  rintro n s5 ⟨i,ys,H5,I5,v9,IF,w5⟩;obtain⟨hD,t5⟩:=turn i n ys H5 w5;rcases t5 with⟨stop,qn⟩ | ⟨go,hz,Nx,hNx,step⟩
  ·refine bD (T.done (X.jO N scope h2.objs.size fp {s with heap:=h2} (upd H s.heap.objs.size (.lst []))) rfl rfl rfl Bc i [] s5 _ H5 (λ_ _=>False) I5 (fpb IF) v9 stop) λr s6 ⟨hr,I6⟩=>?_
   subst hr;obtain⟨m,hm,_⟩:=I6.loc;refine fin _ _ H5 s6 m (ym I3' Hn I6) hm I6.free ?_ ?_ (λx c e z=>?_) (λp hp z=>?_) qn
   ·have:=I3'.lt;exact Xw this
   ·exact I3'.sz
   ·obtain⟨v,q⟩:=I3'.cell x c e;have:=q.lt;rw[z]at this;exact absurd this (Xm _)
   ·have:=WT (I3'.pin p hp).1;rw[z]at this;exact absurd this (Xm _)
  ·refine bD (T.item (X.jO N scope h2.objs.size fp {s with heap:=h2} (upd H s.heap.objs.size (.lst []))) rfl rfl rfl Bc i [] s5 _ H5 (λ_ _=>False) I5 (fpb IF) v9 go) λr s6 ⟨u,hr,h6⟩=>?_
   subst hr;refine bD h6 λ_ s7 ⟨x,H7,I7,r7,y7,Jh,Pe⟩=>?_
   have I7':=I7.pinned (fpb Pe) (T.obj _ _ Jh);refine bD (pg _ s7 _ H7 x u _ I7' r7 (step x H7 y7)) λ_ s8 ⟨σ8,H8,I8,Pf,q8⟩=>?_
   refine bD (pif _ s8 σ8 H8 _ I8 q8) λb s9 ⟨H9,I9,q9⟩=>?_
   have again:∀{ys':List V} {H':Hp} {s':Shared},Inv (X.jO N scope h2.objs.size fp {s with heap:=h2} (upd H s.heap.objs.size (.lst []))) ([]++mT fp s7.heap) σ8 H' s'->Nx ys' H' ->
     ∃m,m < n/\∃i ys H',Inv (X.jO N scope h2.objs.size fp {s with heap:=h2} (upd H s.heap.objs.size (.lst []))) [] (cQ own ix σ) H' s'/\tn i s'.heap/\(∀b∈fp,H' b=none)/\W i m ys H':=by
    intro ys' H' s' I' w';obtain⟨m',hm,w'⟩:=hNx _ _ w';refine⟨m',hm,i + 1,ys',H',(I'.jX).weak ?_ (pj Pf),T.keep _ _ _ Jh λb hb o e=>(I'.pin (b,o) (Xd _ (Xd _ (fe hb e)))).1,λb hb=>?_,w'⟩
    ·rw[I'.len,← I4.len]
    ·obtain⟨o,e,d⟩:=T.obj _ _ Jh b hb;exact(I'.pin (b,o) (Xd _ (Xd _ (fe hb e)))).2.1
   cases b with
   | true =>
    simp only[if_true]at q9 ⊢;refine bD (pe _ s9 σ8 H9 _ I9 q9) λv LV ⟨y,LW,Pg,LX,Ji,Ph⟩=>?_
    refine bD (fh _ LV σ8 LW (.ref _) [y] (.ref _) [v] (λ_ H'=>Nx (ys++[y]) H') Pg rfl (.cons LX .nil) ⟨_,ys,y,rfl,rfl,Ji,hz,Ph⟩) λ_ LY ⟨_,RN,Pj,_,Pk⟩=>?_
    exact again Pj Pk
   | false =>
    simp only[Bool.false_eq_true,if_false]at q9 ⊢;exact again I9 q9
 exact Y8 (loop _ rfl) (T.self _ 0 _ _ _ ur (loop _ rfl))
theorem sC{K:aE}{a:Addr}{xs:List V}{g:TG}{tt:TT}{te:TE}{H1:Hp}{Q:VK}{D:Addr}(Pv:Nat->List V->Hp->Prop)(hn:xs.length<=sizeLine)(h0:Pv 0 [] (upd H1 D (.lst [])))(hD:∀i ys H,i<=xs.length->Pv i ys H->H D=some (.lst ys)/\ys.length<=i/\bK K H a xs)
  (hs:∀i x ys H2,xs[i]?=some x->Pv i ys H2->g x (cQ own ix σ) H2 λσ2 H4=>σ2.drop own=(ix.map λi=>(σ[i]?).getD none)/\tt σ2 H4 λb H5=>if b=true then te σ2 H5 λv H6=>H6 D=some (.lst ys)/\Pv (i + 1) (ys++[v]) (upd H6 D (.lst (ys++[v])))else Pv (i + 1) ys H5)
  (hd:∀ys H2,Pv xs.length ys H2->Q (.ref D) H2) :
  LU (Dw K a) own ix σ g tt te D H1 Q:=by
 refine⟨λi m ys H=>m=xs.length - i/\i<=xs.length/\Pv i ys H,⟨xs.length,by simp,Nat.zero_le _,h0⟩,?_⟩;rintro i m ys H2 ⟨rfl,hi,p⟩;obtain⟨q1,q2,q3⟩:=hD i ys H2 hi p;refine⟨q1,?_⟩;by_cases hlt:i < xs.length
 ·refine .inr ⟨⟨xs,xs[i],q3,by simp[hlt]⟩,by omega,Pv (i + 1),λys' H' p'=>⟨xs.length - (i + 1),by omega,rfl,hlt,p'⟩,λx H3 y=>?_⟩;obtain⟨e1,e2⟩:=y;subst e1;exact hs i x ys _ (e2 xs q3) p
 ·have e:i=xs.length:=by omega
  subst e;exact .inl ⟨⟨xs,q3,WU _⟩,hd ys H2 p⟩
theorem Jk{K:aE}{a:Addr}{xs:List V}{g:TG}{tt:TT}{te:TE}{H1:Hp}{Q:VK}{D:Addr}(Pv:Nat->List V->Hp->Prop)(hn:xs.length<=sizeLine)(h0:Pv 0 [] (upd H1 D (.lst [])))(hD:∀i ys H,i<=xs.length->Pv i ys H->H D=some (.lst ys)/\ys.length<=i/\cg K H a xs)
  (hs:∀i x ys H2,xs[i]?=some x->Pv i ys H2->g x (cQ own ix σ) H2 λσ2 H4=>σ2.drop own=(ix.map λi=>(σ[i]?).getD none)/\tt σ2 H4 λb H5=>if b=true then te σ2 H5 λv H6=>H6 D=some (.lst ys)/\Pv (i + 1) (ys++[v]) (upd H6 D (.lst (ys++[v])))else Pv (i + 1) ys H5)
  (hd:∀ys H2,Pv xs.length ys H2->Q (.ref D) H2) :
  LU (LQ K a) own ix σ g tt te D H1 Q:=by
 refine⟨λi m ys H=>m=xs.length - i/\i<=xs.length/\Pv i ys H,⟨xs.length,by simp,Nat.zero_le _,h0⟩,?_⟩;rintro i m ys H2 ⟨rfl,hi,p⟩;obtain⟨q1,q2,q3⟩:=hD i ys H2 hi p;refine⟨q1,?_⟩;by_cases hlt:i < xs.length
 ·refine .inr ⟨⟨xs,xs[i],q3,by simp[hlt]⟩,by omega,Pv (i + 1),λys' H' p'=>⟨xs.length - (i + 1),by omega,rfl,hlt,p'⟩,λx H3 y=>?_⟩;obtain⟨e1,e2⟩:=y;subst e1;exact hs i x ys _ (e2 xs q3) p
 ·have e:i=xs.length:=by omega
  subst e;exact .inl ⟨⟨xs,q3,WU _⟩,hd ys H2 p⟩
theorem Ho{elt tg iter:Expr}{ifs:List Expr}{pos:Pos}{wi:TI}{g:TG}{tt:TT}{te:TE}(own:Nat)(N:List Str)(ix:List Nat)(B:kT X own N ix scope)(hi:PI X tg iter wi)
  (hin:∀(C:Addr) (fp:List Addr) (s:Shared) (H:Hp),PG (X.jO N scope C fp s H) tg g/\Je (X.jO N scope C fp s H) ifs tt/\PE (X.jO N scope C fp s H) elt te)
  (hs:∀x,foldedSetIterable iter X.env x=pure x:=by intro _;rfl):PE X (.ListComp elt [⟨tg,iter,ifs,0⟩] scope pos) (MK own ix wi g tt te):=by
 intro pins s σ H Q I h
 have hnames:∀y∈scope.names,y.2=NameKind.local->scope.names.lookup y.1=some .local:=λy hy e=>by
  have:=List.all_eq_true.mp B.loc y hy;rw[e]at this;simpa using this
 rw[eval_ListComp];refine YS (use:=none) rfl hs (iu λy hy e=>(B.has I y hy e).2) B.kind hnames (bD (hi pins s σ H _ I h) λv s1 h1=>bD h1 λitv s2 h2=>?_);obtain⟨it,fp,tn,J,H2,e,I2,T,bO,f2,rd⟩:=h2;subst e;refine yn (Q:=Q) (RR:=λacc C=>compPost (model X.prog X.w) X.A X.xe none (EP X pins σ Q) acc C) B (λC s H=>hin C fp s H) I2 T bO f2 rd ?_;intro D C H' s' m I' hn hC hL hsz hce hpi q;exact⟨m,hn,λh' sb=>⟨.ref D,H',I'.turned (t':=s'.toks) (λb o hb e=>(sb.2 b hb).trans e) hC hL (.inr hsz) hce hpi,rfl,q⟩⟩
theorem Bm{i:Nat}{x:Str}{elt tg iter:Expr}{ifs:List Expr}{pos pos' spos:Pos}{wi:TI}{g:TG}{tt:TT}{te:TE}(hN:X.N.Nodup)(hxi:X.N[i]?=some x)(hx:Loc X.env.scope x)(own:Nat)(N:List Str)(ix:List Nat)(B:kT X own N ix scope)(hi:PI X tg iter wi)
  (hin:∀(C:Addr) (fp:List Addr) (s:Shared) (H:Hp),PG (X.jO N scope C fp s H) tg g/\Je (X.jO N scope C fp s H) ifs tt/\PE (X.jO N scope C fp s H) elt te)
  (hsw:swapsWith (.ListComp elt [⟨tg,iter,ifs,0⟩] scope pos) (some (.Name x pos')) spos.line X.env=pure true:=by rfl) (hs:∀x,foldedSetIterable iter X.env x=pure x:=by intro _;rfl)
  (hfn:X.fn x=true∨X.env.scope.names.lookup x=some .local:=by first | exact .inl rfl | exact .inr rfl):PS X (.Assign [.Name x pos'] (.ListComp elt [⟨tg,iter,ifs,0⟩] scope pos) spos) (Ec (MK own ix wi g tt te) (qX i)):=by
 intro pins s σ H D0 I h
 have hnames:∀y∈scope.names,y.2=NameKind.local->scope.names.lookup y.1=some .local:=λy hy e=>by
  have:=List.all_eq_true.mp B.loc y hy;rw[e]at this;simpa using this
 rw[exec_Assign_Name_used _ _ _ _ hsw];refine WS (Yo (WS ?_));show wpAny _ X.A (do let _ ← comprehension (.ListComp elt [⟨tg,iter,ifs,0⟩] scope pos) scope X.env _ (newList []) false (eval iter X.env) (some (assign (.Name x pos') X.env))) _ _ s;refine WS (bD (YS (use:=some (assign (.Name x pos') X.env)) (Q:=λ_ s'=>SP X pins D0 .next s') rfl hs (iu λy hy e=>(B.has I y hy e).2) B.kind hnames (bD (hi pins s σ H _ I h) λv s1 h1=>bD h1 λitv s2 h2=>?_)) λ_ s' hq=>WX (WX hq));obtain⟨it,fp,tn,J,H2,e,I2,T,bO,f2,rd⟩:=h2;subst e;refine yn (Q:=λv H'=>qX i v σ H' D0.nx) (RR:=λacc C=>compPost (model X.prog X.w) X.A X.xe (some (assign (.Name x pos') X.env)) (λ_ s'=>SP X pins D0 .next s') acc C) B (λC s H=>hin C fp s H) I2 T bO f2 rd ?_;intro D C H' s' m I' hn hC hL hsz hce hpi q;show wpAny _ X.A (assign (.Name x pos') X.env (.ref D)) _ _ s';refine wpAny_assign_Name (mR I' hN hxi hx (v:=.ref D) rfl (λs'' I'' ⟨a,sb,ha⟩=>?_) hfn);refine⟨m,hn.sameBut sb ?_,λh' sb'=>⟨_,H',I''.turned (t':=s''.toks) (λb o hb e=>(sb'.2 b hb).trans e) hC hL (.inr hsz) hce hpi,q⟩⟩;rcases ha with e | e
 ·rw[e];exact hL
 ·exact Yu (hce x a e)
end
theorem range_all(bs:List Bool):(List.range bs.length).all (λi=>(bs[i]?).getD true)=bs.all id:=by
 rw[Bool.eq_iff_iff,Yt,Yt]
 constructor
 ·intro h b hb;obtain⟨i,hi,e⟩:=List.mem_iff_getElem.mp hb;have z:=h i (Zb.mpr hi);rw[jL hi,e]at z;exact z
 ·intro h i hi;have hi':=Zb.mp hi;rw[jL hi'];exact h _ (YT hi')
section
variable {X:Cx}
def Pl(K:aE):List V->Hp->VK->Prop:=λxs H Q=>∃(p:Addr) (bs:List Bool),xs=[.ref p]/\bK K H p (bs.map V.bl)/\Q (.bl (bs.all id)) H
theorem Bo(hc:X.calm=true):iN X (.builtin "all") (Pl X.K):=by
 intro pins s σ H xs us Q I r h;obtain⟨p,bs,rfl,hS,q⟩:=h;obtain⟨u,rfl,ru⟩:=vals1 r;cases ru;obtain⟨its,rv,pl,hz⟩:=I.list hS
 have hlen:its.toArray.size=bs.length:=by
  have:=rv.length;simp at this;simp[this]
 have hlt:p < s.heap.objs.size:=by obtain⟨o,n,e,_⟩:=pl;exact WT e
 refine call_all_walk (wpAny_pyIter_list pl.isList ?_);refine⟨s.heap.objs.size,_,_,its.toArray.size,_,_,λi=>(bs[i]?).getD true,rfl,Walks.list (show X.A.in1.handled=none from I.ok.hd hc) _ _ (W5 hlt) its.toArray,⟨⟨_,Xf _ rfl,rfl,rfl⟩,pl.isList.push _⟩,?_,λh' tk k=>?_⟩
 ·intro i v s' Q' E' hv hq
  have hi:i < bs.length:=by
   rw[← hlen];exact(Array.getElem?_eq_some_iff.mp hv).1
  obtain⟨u',hu',ru'⟩:=rv.get (i:=i) (x:=.bl bs[i]) (by rw[List.getElem?_map,jL hi];rfl);have e:its[i]?=some v:=by simpa using hv
  rw[hu']at e;cases e;cases ru';have hq':Q' ((bs[i]?).getD true) s':=hq;rw[jL hi]at hq';exact Yh hq'
 ·rw[hlen,range_all];exact⟨.bl _,H,I.kept (t':=tk) λb o e=>k b o (by simpa using Nat.ne_of_lt (Heap.lt_size e)) (Heap.get?_push_of_some _ e),rfl,q⟩
def Hq(K:aE):R2:=λx y H Q=>∃l b xs zs,x=.ref l/\y=.ref b/\bK K H l xs/\bK K H b zs/\xs.length + zs.length<=sizeLine/\∀p,H p=none->Q (.ref p) (upd H p (.lst (xs++zs)))
theorem yo:i6 X (binaryOp .Add) (Hq X.K):=by
 intro pins s σ H x y v u Q I rx ry h;obtain⟨l,b,xs,zs,rfl,rfl,hH,hB,hz,q⟩:=h;cases rx;cases ry;obtain⟨its,r,⟨⟨c1,d1,a1,Pm⟩,n,e,rfl,rfl,rfl⟩,z⟩:=I.list hH;obtain⟨zg,r2,⟨⟨c2,d2,a2,IP⟩,n2,e2,rfl,rfl,rfl⟩,z2⟩:=I.list hB;have hl:=r.length;have Bp:=r2.length;refine Zi ⟨_,e,rfl⟩ ⟨_,e2,rfl⟩ noFill_list_add seq_list_add PySem.F.slot_list_add PySem.F.entry_list_add (PySem.F.args_list_add_2 _ _)
  (list_addW l b its.toArray zg.toArray n n2 none none Pm IP (by rw[Xn,Xn];omega)) ⟨e,e2,?_⟩
 rw[show its.toArray++zg.toArray=(its++zg).toArray by simp];exact⟨.ref _,_,I.IV (t':=s.toks) (r.append r2) (by rw[List.length_append];omega),rfl,q _ I.fresh⟩
end
section
variable {X:Cx} {tg:Expr}
end
section
variable {prog:Program} {w:World} {A:Around} {E:Value->Shared->Prop} {s:Shared}
variable {q1 q2:Bool} {z TI TO i1 i2 l1 l2:Addr} {k1 k2:Nat} {xs ys:Array Value} {x y a b:Value}
end
section
variable {prog:Program} {w:World} {A:Around} {E:Value->Shared->Prop} {s:Shared} {q1 q2:Bool}
end
def RO(q:Bool)(K:aE)(H:Hp)(a:Addr)(xs:List V):Prop:=match q with | true=>bK K H a xs | false=>cg K H a xs
section
variable {X:Cx}
end
theorem pk{H:Hp}{p:Addr}(h:H p=none)(o:HO):aQ H (upd H p o):=λb u q=>by rw[uN (nN q h)];exact q
section
variable {prog:Program} {w:World} {A:Around} {E:Value->Shared->Prop} {s:Shared}
theorem zj{t sl:Addr}{items:Array Value}{vl vu:Value}{lo hi:Option Int}{Q:Value->Shared->Prop}(ht:IsTup s.heap t items)(hs:s.heap.IsSliceOf sl vl vu .none)(pl:IsPart vl lo)(pu:IsPart vu hi)
  (hw:HT.dI items.size 0 lo=0/\HT.dI items.size items.size hi=items.size) (h:Q (.ref t) s):wpAny (model prog w) A (getItem (.ref t) (.ref sl)) Q E s:=by
 obtain⟨os,hos,hcs,hds⟩:=id hs;have hTs:s.TypeIs (.ref sl) "slice":=⟨os,hos,hcs⟩;unfold getItem
 try with_reducible refine Xu ?_
 first | refine WS (WX ?_) | skip
 refine wpAny_bind (wpAny_sequenceKey ht.typeIs (by decide) ?_);refine wpAny_bind (wpAny_callSpecial?_slot (name:=Str.ofString "__getitem__") ht.typeIs PyProof.Rows.slot_tuple_getitem (wpAny_call_entry PyProof.Rows.slot_tuple_getitem ht.typeIs entry_tuple_getitem ?_ (args_tuple_getitem _ _)));show wpAny _ _ (Builtin.Tuple.tupleItemsOf (.ref t) >>= _) _ _ s;refine wpAny_bind (tupleItemsOf_ ht (wpAny_bind (wpAny_typeOf hTs ?_)));rw[if_pos (by decide)];refine wpAny_bind (HT.iP hs pl pu ?_);show wpAny _ _ (if (((HT.dI items.size 0 lo:Nat):Int) == 0&&(1:Int) == 1&&(HT.dI items.size items.size hi - HT.dI items.size 0 lo) == items.size)=true then _ else _) _ _ s;rw[if_pos (by rw[hw.1,hw.2];simp)];unfold Builtin.Tuple.tupleIsExact;refine wpAny_bind (wpAny_bind (wpAny_typeOf ht.typeIs (wpAny_pure ?_)));rw[if_pos (by decide)];exact wpAny_bind (wpAny_rule (wpAny_pure ⟨_,rfl,wpAny_pure h⟩))
end
section
variable {X:Cx}
def MM(K:aE):V->Option Int->Option Int->Hp->VK->Prop:=λx lo hi H Q=>∃a xs,x=.ref a/\cg K H a xs/\∀p H',aQ H H'->cg K H' p (oZ xs lo hi)->Q (.ref p) H'
theorem Ez:Dz X (MM X.K):=by
 intro pins s σ H x v vl vu lo hi sl Q I rx hs pl pu h;obtain⟨a,xs,rfl,hx,q⟩:=h;by_cases hw:HT.dI xs.length 0 lo=0/\HT.dI xs.length xs.length hi=xs.length
 ·cases rx;obtain⟨its,r,ht,hz⟩:=I.tuple hx;have hlen:its.toArray.size=xs.length:=by rw[Xn];exact r.length.symm
  refine⟨"tuple",_,PyProof.Rows.slot_tuple_getitem.lookup,ht.typeIs,zj ht hs pl pu (by rw[hlen];exact hw) ⟨.ref a,H,I,rfl,q a H (aQ.refl _) ?_⟩⟩;have e:oZ xs lo hi=xs:=by unfold oZ;rw[hw.1,hw.2];simp
  rw[e];exact hx
 ·exact Bd pins s σ H _ v vl vu lo hi sl Q I rx hs pl pu ⟨a,xs,rfl,hx,hw,λp hp=>q p _ (pk hp _) (cg.of uS)⟩
def Hr(K:aE):R2:=λx y H Q=>∃a b xs ys,x=.ref a/\y=.ref b/\cg K H a xs/\cg K H b ys/\xs.length + ys.length<=sizeLine/\∀p H',aQ H H'->cg K H' p (xs++ys)->Q (.ref p) H'
theorem EA:i6 X (binaryOp .Add) (Hr X.K):=by
 intro pins s σ H x y v u Q I rx ry h;obtain⟨a,b,xs,ys,rfl,rfl,ha,hb,hz,q⟩:=h;by_cases hx:xs=[]
 ·subst hx;cases rx;cases ry;obtain⟨its,r1,p1,_⟩:=I.tuple ha;obtain⟨zg,r2,p2,_⟩:=I.tuple hb;cases r1;obtain⟨⟨c1,d1,e1,Pm⟩,ho,hc,n,hd⟩:=id p1;obtain⟨⟨c2,d2,e2,IP⟩,Dy,LR,n2,hd2⟩:=id p2;simp only at hc hd LR hd2;subst hc hd LR hd2;exact concat_meets ⟨_,ho,rfl⟩ ⟨_,Dy,rfl⟩ noFill_tuple_add seq_tuple_add PySem.F.slot_tuple_add PySem.F.entry_tuple_add (PySem.F.args_tuple_add_2 _ _)
   (tuple_addW0 a b _ zg.toArray n n2 d1 d2 Pm IP (by simp)) ⟨ho,Dy,⟨.ref b,H,I,rfl,q b H (aQ.refl _) hb⟩⟩
 ·exact El pins s σ H _ _ v u Q I rx ry ⟨a,b,xs,ys,rfl,rfl,ha,hb,hx,hz,λe=>q a H (aQ.refl _) (by rw[e,XC];exact ha),λ_ p hp=>q p _ (pk hp _) (cg.of uS)⟩
end
structure Hs(P:Program)(w:World)(fs:List Env)(H H':Hp)(h0 B:Heap)(a:Addr)(cls a0:Value)(h:Heap):Prop where
 keep:∀b o,h0.get? b=some o->H b=none->b∉gQ fs->B.get? b=some o
 there:∀b o,h0.get? b=some o->b∉gQ fs->∃o',B.get? b=some o'
 slot:∀b o,h0.get? b=some o->b∈gQ fs->∃sl,h.get? b=some {o with slots:=sl}
 free:∀b o,h0.get? b=some o->H b=none->H' b=none
 tups:∀b xs,H b=some (.tup xs)->H' b=some (.tup xs)
 eA:∀b o u,H b=some (.kS o u)->H' b=some (.kS o u)
 tbls:∀b ps,H b=some (.tbl ps)->∃more,H' b=some (.tbl (ps++more))
 hok:jW P w H' B
 fly:Heap.FlyingW B fs a cls a0 h
section
variable {P:Program} {w:World} {fs:List Env} {H H':Hp} {h0 B h h':Heap} {a:Addr} {cls a0:Value}
theorem Hs.new(F:Hs P w fs H H' h0 B a cls a0 h):H' a=none:=by
 cases q:H' a with
 | none=>rfl
 | some u =>
  have:=(F.hok a u q).lt;have z:=F.fly.2.1
  exact absurd z (by
   intro z
   have e:∃o,B.get? a=some o:=by
    have ok:=F.hok a u q
    cases u with
    | lst xs=>obtain⟨_,_,_,_,e⟩:=ok;exact⟨_,e⟩
    | tup xs=>obtain⟨_,_,_,o,e,_⟩:=ok;exact⟨_,e⟩
    | dK kvs=>obtain⟨_,_,_,_,o,_,_,e,_⟩:=ok;exact⟨_,e⟩
    | dT kvs=>obtain⟨_,_,_,_,o,_,_,e,_⟩:=ok;exact⟨_,e⟩
    | set S n=>obtain⟨o,_,_,_,e,_⟩:=ok;exact⟨_,e⟩
    | ins C dx fs=>obtain⟨_,_,_,e,_⟩:=ok;exact⟨_,e⟩
    | own y=>exact ok
    | xd fs=>obtain⟨_,⟨o,_,_,e,_⟩,_⟩:=ok;exact⟨_,e⟩
    | rng lo hi=>obtain⟨_,_,_,e⟩:=ok;exact⟨_,e⟩
    | kS ob u=>obtain⟨e,_⟩:=ok;exact⟨_,e⟩
    | tbl ps=>exact⟨_,ok⟩
    | met f y=>exact⟨_,ok⟩
    | ext φ=>obtain⟨_,e,_⟩:=ok;exact e
   obtain⟨o,e⟩:=e;rw[z]at e;cases e)
end
def Rz(X:Cx)(E:XK):Prop:=∀(pins:List (Addr×Obj)) (σ:St) (H:Hp) (s:Shared) (h':Heap) (e C:Addr) (vs:List Value),Inv X pins σ H s->Heap.MadeExcOf s.heap h' e (.ref C) vs->E (.ref C) none H->X.xe (.ref e) {s with heap:=h'}
section
variable {P:Program} {w:World} {K:aE} {mg:Str->Option Value} {base:Heap} {N:List Str} {qual:Str} {scope:Scope} {f:Addr} {cd:Value} {A:Around} {outer:List Env} {s₀:Shared} {H₀:Hp} {E:XK}
theorem bh{env:Env}{l:List Env}{L b:Addr}(hf:env.frame=some L):b∈gQ (env::l)↔b=L∨b∈gQ l:=by
 unfold gQ;rw[List.filterMap_cons,hf];exact List.mem_cons
end
theorem zk{K:aE}{h:Heap}{C:Addr}{bmB:List Value}{newId:String}(X:K.In h)(q:PySem.W.excIn K C bmB newId=true):
  ∃bm N nm qn bs hd sn sub ab col dd k0 k1 k2 k3 k5 mN,h.get? C=some (excClassObj nm qn C N bs bm hd sn sub ab col dd k0 k1 k2 k3 k5 newId)/\h.Ns N mN/\mN "__init__"=none/\OwnTail h bmB bm:=by
 unfold PySem.W.excIn at q;split at q
 ·rename_i dd cd sl ho;split at q
  ·rename_i C' bm k0 k1 k2 k3 n k5 hm hs;simp only[Bool.and_eq_true,beq_iff_eq,Bool.not_eq_true']at q;obtain⟨⟨⟨⟨⟨rfl,rfl⟩,hdel⟩,ht⟩,hok⟩,hni⟩:=q;obtain⟨nm,bs,mro,ns,qn,hd,sn,sub,ab,col,del⟩:=cd;dsimp only at hm hdel hok hni;subst hm hdel
   have hsl:sl=#[k0,k1,k2,k3,some (.builtin n),k5]:=by
    obtain⟨l⟩:=sl;simp only at hs;rw[hs]
   subst hsl;exact⟨bm,ns,nm,qn,bs,hd,sn,sub,ab,col,dd,k0,k1,k2,k3,k5,_,X _ _ ho,.of_isNs (PySem.W.isNs_of_in X hok),PySem.W.nsMap_none_of_in X hok hni,PySem.W.tail_of_in X ht⟩
  ·cases q
 ·cases q
def px:Bool->List Value
 | true=>[.type "ValueError",.type "Exception",.type "BaseException",.type "object"]
 | false=>[.type "Exception",.type "BaseException",.type "object"]
def RP:Bool->String
 | true=>"ValueError"
 | false=>"Exception"
def uu:Bool->String
 | true=>"ValueError.__new__"
 | false=>"Exception.__new__"
def Ud:Bool->String
 | true=>"ValueError.__init__"
 | false=>"Exception.__init__"
theorem Ox:∀b,PySem.ExcBaseFacts (RP b) (uu b) (Ud b) (px b)
 | true=>F.excBase_ValueError
 | false=>F.excBase_Exception
theorem yp(b:Bool):(px b).contains (.type (RP b))=true:=by cases b<;>decide
theorem uP(b:Bool):(px b).contains (.type "BaseException")=true:=by cases b<;>decide
section
variable {X:Cx} {x:Str} {C:Addr} {E:XK} {np cpos pos:Pos}
def Jl(C:Addr)(E:XK):TS:=λ_ _ H=>E (.ref C) none H
theorem mX{bx:Bool}(hz:Rz X E)(hg:Gl X x)(hm:X.mg x=some (.ref C))(q:PySem.W.excIn X.K C (px bx) (uu bx)=true)(hc:X.calm=true)(hd:(x == ("__debug__" : Str))=false:=by decide)(hpl:backTo cpos (starEach [] X.env)=[]:=by rfl):
  PS X (.Raise (some (.Call (.Name x np) [] [] cpos)) none pos) (Jl C E):=by
 intro pins s σ H D I h;obtain⟨bm,N,nm,qn,bs,hd',sn,sub,ab,col,dd,k0,k1,k2,k3,k5,mN,hC,hn,hi,T⟩:=zk I.iM q;refine wpAny_Raise_call_subU (C:=C) (mN:=mN) (nm:=nm) (q:=qn) (N:=N) (bs:=bs) (bm:=bm) (hdct:=hd') (sn:=sn) (sub:=sub) (ab:=ab) (col:=col) (dd:=dd) (k0:=k0) (k1:=k1) (k2:=k2) (k3:=k3) (k5:=k5) (Ox bx) (bmB:=px bx) (yp bx) (Ox bx) (T.hasType (X:="BaseException") (b:=true) (uP bx)) (I.ok.hd hc) (by rw[hpl];rfl) hi ?_;refine gR I hg hm ⟨rfl,?_⟩ hd;rw[hpl];refine PyProof.Rows.evalArgs_none ⟨rfl,by decide,hC,hn,T,λh' e hx=>?_⟩;exact hz pins σ H s h' e C [] I hx h
end
abbrev Cx.hand(X:Cx)(a:Addr)(E:Value->Shared->Prop):Cx:={X with A:=X.A.mark (some (.ref a)),calm:=false,xe:=E}
section
variable {X:Cx} {pins:List (Addr×Obj)} {σ:St} {H:Hp} {s:Shared}
theorem Inv.hand(I:Inv X pins σ H s)(a:Addr)(E:Value->Shared->Prop):Inv (X.hand a E) pins σ H s :=
 ⟨⟨I.ok.mod,I.ok.kind,I.ok.glob,I.ok.blt,I.ok.above,I.ok.inj,I.ok.has,I.ok.cab,(λz=>nomatch (show false=true from z)),I.ok.frames,I.ok.stk,I.ok.exf,I.ok.bs,I.ok.bsz,I.ok.noex,I.ok.exfs,I.ok.mQ,I.ok.frf⟩,I.os,I.bare,I.base,I.loc,I.cell,I.free,I.freeC,I.pin,I.hok,I.len⟩
theorem Inv.j4{a:Addr}{E:Value->Shared->Prop}(ok:X.Ok)(I:Inv (X.hand a E) pins σ H s):Inv X pins σ H s:=⟨ok,I.os,I.bare,I.base,I.loc,I.cell,I.free,I.freeC,I.pin,I.hok,I.len⟩
theorem Inv.adopt{a:Addr}{φ:Heap->Prop}(I:Inv X pins σ H s)(hn:H a=none)(h1:X.s₀.heap.get? a=none)(hL:a≠X.env.locals)(hfs:a∉X.fs)(hc:∀x c,X.env.cells.lookup x=some c->c≠a)(hp:∀p∈X.pn++pins,p.1≠a)
  (ok:φ s.heap/\(∃o,s.heap.get? a=some o)/\∀u v:Heap,φ u->(∀o,u.get? a=some o->v.get? a=some o)->φ v):Inv X pins σ (upd H a (.ext φ)) s:=by
 refine⟨I.ok,I.os,I.bare,⟨I.base.keep,I.base.slot,λb o e n hx=>?_,I.base.there,λb xs e=>?_,λb o u e=>?_,λb ps e=>?_⟩,I.loc,I.cell,?_,λx c e=>?_,λp hq=>?_,λb u e=>?_,I.len⟩
 ·rw[uN (λz=>by rw[z,h1]at e;cases e)];exact I.base.free b o e n hx
 ·have e':=I.base.tups b xs e;rw[uN (nN e' hn)];exact e'
 ·have e':=I.base.eA b o u e;rw[uN (nN e' hn)];exact e'
 ·obtain⟨m,e'⟩:=I.base.tbls b ps e;exact⟨m,by rw[uN (nN e' hn)];exact e'⟩
 ·rw[uN (Yu hL)];exact I.free
 ·rw[uN (hc x c e)];exact I.freeC x c e
 ·obtain⟨q1,q2,q3⟩:=I.pin p hq;exact⟨q1,by rw[uN (hp p hq)];exact q2,q3⟩
 ·by_cases hb:b=a
  ·subst hb;rw[uS]at e;cases e;exact ok
  ·rw[uN hb]at e;exact(I.hok b u e).qA (λ_ _ _ q=>q) (λc q=>by rw[uN (nN q hn)];exact q) λc xs q=>by rw[uN (nN q hn)];exact q
theorem yq{M:Model}{A:Around}{E:Value->Shared->Prop}{i:Nat}{n:Str}{pos:Pos}{Q:Unit->Shared->Prop}(I:Inv X pins σ H s)(hN:X.N.Nodup)(hi:X.N[i]?=some n)(hk:X.env.kindOf n=some .local)
  (h:∀s',Inv X pins (σ.set i none) H s'->Q () s'):wpAny M A (do bindName X.env n .none;unbindBehindTheSuite X.env n pos) Q E s:=by
 obtain⟨m,hn,hl⟩:=id I.loc;have hcls:(X.env.scope.kind == .class||(X.env.scope.kind == .module&&X.env.locals != X.env.globals))=false:=by rw[I.ok.kind];rfl
 have hiσ:i < σ.length:=by rw[I.len];exact(er hi).1
 obtain⟨oL,_,_,hoL,_⟩:=id hn;refine wpAny_nameGoes_keeps hk hn hcls λh' v hn' hs=>?_
 refine h _ ⟨I.ok,I.os,I.bare,⟨λb o e n hb hx=>?_,λb o e n hb hx=>?_,I.base.free,λb o e hx=>?_,I.base.tups,I.base.eA,I.base.tbls⟩,⟨_,hn',λj y v' e1 e2 e3=>?_⟩,λy c e=>?_,I.free,I.freeC,λp hp=>?_,λb ob e=>?_,by simpa using I.len⟩
 ·exact(hs.2 b (W5 (WV (WT e) I.ok.above))).trans (I.base.keep b o e n hb hx)
 ·obtain⟨sl,e1⟩:=I.base.slot b o e n hb hx;exact⟨sl,(hs.2 b (W5 (WV (WT e) I.ok.above))).trans e1⟩
 ·obtain⟨o',e1⟩:=I.base.there b o e hx;exact⟨o',(hs.2 b (W5 (WV (WT e) I.ok.above))).trans e1⟩
 ·by_cases hj:j=i
  ·subst hj;rw[W3 hiσ]at e2;cases e2
  ·rw[W8 (Yu hj)]at e2;obtain⟨u',r',q⟩:=hl j y v' e1 e2 e3;refine⟨u',r',?_⟩;rcases q with⟨k,e⟩ | ⟨k,c,e,z⟩
   ·refine .inl ⟨k,?_⟩;have:y≠n:=λe=>hj (oP hN e1 (e ▸ hi))
    simp[this,e]
   ·exact .inr ⟨k,c,e,z.sameBut hs (I.D7 y c e)⟩
 ·obtain⟨w',z⟩:=I.cell y c e;exact⟨w',z.sameBut hs (I.D7 y c e)⟩
 ·obtain⟨e,n,ne,nf,d⟩:=I.pin p hp;exact⟨(hs.2 p.1 ne).trans e,n,ne,nf,d⟩
 ·refine(I.hok b ob e).qA (λc w' hc q=>(hs.2 c ?_).trans q) (λ_ q=>q) λ_ _ q=>q
  rintro rfl;rcases hc with rfl | hc
  ·rw[I.free]at e;cases e
  ·rw[I.free]at hc;cases hc
end
section
variable {X:Cx} {CW:Addr} {cx n:Str} {i:Nat} {b₀:Stmt} {suite:List Stmt} {np hpos pos:Pos} {tb:TS}
end
open PySem PySem.Spec PyProof.Rows PySem.W Builtin.Getset_descriptor
structure KX(K:Frag)(C:Addr):Prop where
 ga:findIn K (.ref C) "__getattribute__"=some (some (.builtin "BaseException.__getattribute__"))
 gh:findIn K (.ref C) "__getattr__"=some none
 cl:findIn K (.ref C) "__class__"=some (some (.builtin "object.__class__"))
 mb:mroIn K C (.type "BaseException")=some true
 mo:mroIn K C (.type "object")=some true
section
variable {prog:Program} {w:World} {A:Around} {E:Value->Shared->Prop} {K:Frag} {a C:Addr} {o:Obj} {h:Heap} {g:Array GenState} {d:Drawn} {t:Nat} {os:OsState}
theorem Bq{M:Model}{nameV:Value}{Q:Unit->Shared->Prop}(X:K.In h)(k:KX K C)(hx:h.get? a=some o)(hc:o.cls=.ref C)(hq:Q () ⟨h,g,d,t,os⟩):wpAny M A (checkBuiltinCall "BaseException.__getattribute__" ⟨[.ref a,nameV],[]⟩) Q E ⟨h,g,d,t,os⟩:=by
 have L1:=looks_mroIn (M:=M) X k.mb;have hk:builtinKind "BaseException.__getattribute__"=some .slot:=by decide +kernel
 have hsplit:splitId "BaseException.__getattribute__"=some ("BaseException","__getattribute__"):=by decide +kernel
 have ha:=F.args_bexc_ga (.ref a) nameV;simp only[checkBuiltinCall,hk,hsplit];refine wpAny_bind ?_;unfold isInstance
 repeat (first | (with_reducible refine Xo hx ?_;rw[hc]) | with_reducible refine L1.at ?_ | wp_step)
 exact hq
end
section
variable {X:Cx}
end
def uQ(_i j:Int):Prop:=j≠0/\j.natAbs < 18446744073709551616
theorem uQ.ok{i j:Int}(hc:uQ i j):Builtin.divisionGoesByPylong i j=false:=by
 refine PyProof.noPylong_of_log2 ?_;have z:j.natAbs≠0:=λz=>hc.1 (Int.natAbs_eq_zero.mp z)
 exact WV ((Nat.log2_lt z).mpr (show j.natAbs < 2 ^ 64 from hc.2)) (by decide)
theorem Br{X:Cx}:i6 X (binaryOp .FloorDiv) (rI uQ λi j=>.int (i.fdiv j)):=IH λ_ _ _ _ _ _ _ hc q=>floordiv_int hc.1 q (.inl hc.ok)
section
variable {X:Cx}
def Ht:V->Option Int->Option Int->Hp->VK->Prop:=λv lo hi H Q=>∃(x:Str),v=.str x/\x.length<=sizeLine/\Q (.str (Txt.slice x lo hi)) H
theorem EC:Dz X Ht:=by
 intro pins s σ H x v vl vu lo hi sl Q I rx hs pl pu h;obtain⟨x,rfl,hz,q⟩:=h;obtain⟨t,rfl⟩:=rx
 have go:∀(l u:Option (Int×Tok)),l.map (·.1)=lo->u.map (·.1)=hi->s.heap.IsSlice sl l u none->∃T id,typeLookup (.type T) "__getitem__"=pure (some (.builtin id))/\s.TypeIs (.str x t) T/\wpAny (model X.prog X.w) X.A (getItem (.str x t) (.ref sl)) (EP X pins σ Q) X.xe s:=λl u el eu hs=>by
  subst el eu;refine⟨"str",_,PySem.F.slot_str_getitem.lookup,typeIs_str _ _ _,wpAny_getItem_str_slice (l:=l) (u:=u) (st:=none) hs rfl (post_val_or_str ⟨Xh (Txt.slice_le x _ _) hz,λt' k=>?_⟩)⟩;exact⟨.str _,H,I.kept (t':=k) λ_ _ e=>e,⟨t',rfl⟩,q⟩
 cases pl with
 | none =>
  cases pu with
  | none=>exact go none none rfl rfl hs
  | int j tj=>exact go none (some (j,tj)) rfl rfl hs
 | int i ti =>
  cases pu with
  | none=>exact go (some (i,ti)) none rfl rfl hs
  | int j tj=>exact go (some (i,ti)) (some (j,tj)) rfl rfl hs
end
open PySem PySem.Spec PyProof.Rows PySem.W PySem.Builtin PySem.Builtin.ObjectAttr
def mY(K:Frag)(C:Addr)(bmB:List Value)(newId:String):Bool:=match K.lookup C with
 | some ⟨.type "type",_,.cls cd,sl⟩=>(match cd.mro,sl.toList with
  | .ref C'::bm,[_,_,_,_,some (.builtin n),_]=>C' == C&&n == newId&&!cd.hasDel&&tailIn K bmB bm&&nsOkIn K cd.ns&&cd.hasDict
  | _,_=>false)
 | _=>false
theorem oF{K:Frag}{h:Heap}{C:Addr}{bmB:List Value}{newId:String}(X:K.In h)(q:mY K C bmB newId=true):
  ∃(bm:List Value) (N:Addr) (nm qn:Str) (bs:List Value) (sn:List Str) (sub:List Value) (ab:Bool) (col:Option Bool) (dd:Option Addr) (k0 k1 k2 k3 k5:Option Value) (mN:Str->Option Value),
   h.get? C=some (excClassObj nm qn C N bs bm true sn sub ab col dd k0 k1 k2 k3 k5 newId)/\h.Ns N mN/\OwnTail h bmB bm/\∃cd,clsIn K C=some cd/\cd.mro=.ref C::bm/\cd.hasDict=true:=by
 unfold mY at q;split at q
 ·rename_i dd cd sl ho;split at q
  ·rename_i C' bm k0 k1 k2 k3 n k5 hm hs;simp only[Bool.and_eq_true,beq_iff_eq,Bool.not_eq_true']at q;have hcls:clsIn K C=some cd:=by unfold clsIn;rw[ho]
   obtain⟨⟨⟨⟨⟨rfl,rfl⟩,hdel⟩,ht⟩,hok⟩,hhd⟩:=q;obtain⟨nm,bs,mro,ns,qn,hd,sn,sub,ab,col,del⟩:=cd;dsimp only at hm hdel hok hhd;subst hm hdel hhd
   have hsl:sl=#[k0,k1,k2,k3,some (.builtin n),k5]:=by
    obtain⟨l⟩:=sl;simp only at hs;rw[hs]
   subst hsl;exact⟨bm,ns,nm,qn,bs,sn,sub,ab,col,dd,k0,k1,k2,k3,k5,_,X _ _ ho,.of_isNs (PySem.W.isNs_of_in X hok),PySem.W.tail_of_in X ht,⟨_,hcls,by rfl,by rfl⟩⟩
  ·cases q
 ·cases q
section
variable {prog:Program} {w:World} {A:Around} {E:Value->Shared->Prop} {K:Frag} {h:Heap} {g:Array GenState} {d:Drawn} {t:Nat} {os:OsState}
variable {nm q:Str} {C N:Addr} {bs bm bmB:List Value} {hdct:Bool} {sn:List Str} {sub:List Value} {ab:Bool} {col:Option Bool} {dd:Option Addr} {k0 k1 k2 k3 k5:Option Value} {B Bn newId nid initId inN:String} {bmN:List Value}
def mZ(C:Addr)(t:Addr):Obj:={cls:=.ref C,data:=.fields #[.ref t,.none,.none,.none,.bool false,.none]}
theorem wJ(Fn:ExcBaseFacts Bn newId inN bmN)(hBn:bmB.contains (.type Bn)=true)(F:ExcBaseFacts B nid initId bmB)(T:OwnTail h bmB bm){rest:List Value}{Q:Fin->Shared->Prop}{fI:Addr}
  (hC:h.get? C=some (excClassObj nm q C N bs bm hdct sn sub ab col dd k0 k1 k2 k3 k5 newId)) (X:K.In h) (hi:findIn K (.ref C) "__init__"=some (some (.ref fI))) (hf:isFn K (.ref fI)=true)
  (hq:wpAny (model prog w) A (call (.ref fI) (.ref (h.objs.size + 1)::rest)) (λr s'=>r=.none/\Q (.done (.ret (.ref (h.objs.size + 1)))) s') E ⟨(h.push {cls:=.type "tuple",data:=.seq rest.toArray}).push (mZ C h.objs.size),g,d,t,os⟩) (hrest:rest.length<=sizeLine) :
  wpAny (model prog w) A (Builtin.«type.__call__» ⟨.ref C::rest,[]⟩) Q E ⟨h,g,d,t,os⟩:=by
 repeat (first | with_reducible refine Xo hC ?_ | with_reducible refine wpAny_madeBy_exc hC ?_ | wp_step)
 refine codeAny_call_builtin_code (Code.quiet_builtin _ Fn.quiet) (wpAny_check_new_subU Fn hBn T hC ?_);refine codeAny_exc_new_subU Fn hBn F T hC ?_ hrest;show wpAny _ _ _ _ _ _;have kp:∀b o,h.get? b=some o->((h.push {cls:=.type "tuple",data:=.seq rest.toArray}).push {cls:=.ref C,data:=.fields #[.ref h.objs.size,.none,.none,.none,.bool false,.none]}).get? b=some o:=λb o e=>WW _ (WW _ e)
 have hC₁:=kp _ _ hC;have X₁:=X.keeps kp;have hget:((h.push {cls:=.type "tuple",data:=.seq rest.toArray}).push
   {cls:=.ref C,data:=.fields #[.ref h.objs.size,.none,.none,.none,.bool false,.none]}).get? (h.objs.size + 1)=some
   {cls:=.ref C,data:=.fields #[.ref h.objs.size,.none,.none,.none,.bool false,.none]}:=by heap_get
 have hcC:(Value.ref C::bm).contains (.ref C)=true:=by simp
 unfold isInstance
 repeat (first | with_reducible refine Xo hget ?_ | (with_reducible refine wpAny_isSubtype_exc hC₁ ?_;rw[hcC]) | wp_step)
 show wpAny _ _ (typeLookup (.ref C) _) _ _ _;refine(YU (M:=model prog w) X₁ hi).at ?_;refine Xu (WS ((bind_fn X₁ _ (Zo.mp hf)).at ?_));refine WS (Xa hq (λr s' hr=>?_) λ_ _ x=>x);obtain⟨rfl,hQ⟩:=hr
 wp_walk
 exact hQ
theorem zm(Fn:ExcBaseFacts Bn newId inN bmN)(hBn:bmB.contains (.type Bn)=true)(F:ExcBaseFacts B nid initId bmB)(T:OwnTail h bmB bm){rest:List Value}{Q:Value->Shared->Prop}{fI:Addr}
  (hC:h.get? C=some (excClassObj nm q C N bs bm hdct sn sub ab col dd k0 k1 k2 k3 k5 newId)) (X:K.In h) (hi:findIn K (.ref C) "__init__"=some (some (.ref fI))) (hf:isFn K (.ref fI)=true)
  (hq:wpAny (model prog w) (A.under (.builtin "type.__call__" ⟨.ref C::rest,[]⟩)) (call (.ref fI) (.ref (h.objs.size + 1)::rest)) (λr s'=>r=.none/\Q (.ref (h.objs.size + 1)) s') E ⟨(h.push {cls:=.type "tuple",data:=.seq rest.toArray}).push (mZ C h.objs.size),g,d,t,os⟩) (hrest:rest.length<=sizeLine) :
  wpAny (model prog w) A (call (.ref C) rest) Q E ⟨h,g,d,t,os⟩:=by
 have f1:=tc_lookup;have f2:=tc_bind (.ref C);have hT:(⟨h,g,d,t,os⟩:Shared).TypeIs (.ref C) "type":=⟨_,hC,rfl⟩;refine Yy (codeAny_of_tree ?_);show wpAny _ _ (callAny (.ref C) _) _ _ _
 repeat (any_goals (first | assumption | with_reducible refine Xo hC ?_ | wp_step))
 refine⟨rfl,?_⟩;exact codeAny_call_builtin_at (Code.quiet_builtin _ (by decide +kernel)) entry_typeCall (wpAny_check_type_call_sub hC (wJ Fn hBn F T hC X hi hf hq hrest))
end
theorem uR(self:Value){h:Heap}{bm:List Value}{bx:Bool}(T:OwnTail h (px bx) bm):refuseLoop self "__setattr__" bm=pure ():=by
 induction T with
 | base =>
  cases bx with
  | true=>exact PySem.F.store_ValueError.passes self
  | false=>exact PySem.F.store_Exception.passes self
 | own _ _ _ _ ih=>rw[refuseLoop_ref];exact ih
section
variable {prog:Program} {w:World} {A:Around} {K:Frag} {s:Shared} {x C:Addr} {R:Result->Shared->Prop}
theorem rC{ox:Obj}{od:Option Obj}{name:Str}{tk:Tok}{v:Value}{bm:List Value}{cd:ClassData}{bx:Bool}(X:K.In s.heap)(I:InstAt s.heap x ox C od)(hc:clsIn K C=some cd)(hm':cd.mro=.ref C::bm)(T:OwnTail s.heap (px bx) bm)(hmo:mroIn K C (.type "object")=some true)(ht:findIn K (.ref C) name=some none)
  (h:wpAny (model prog w) A.in1 (storeInOwnDict (.ref x) (.ref C) (.str name tk) name v false)
   (λfin s'=>match fin with | .done f=>R (.ok f) s' | .again c'=>c'.quiet=true/\codeAny (model prog w) A c' R s') (λe s'=>R (.error e) s') s) :
  codeAny (model prog w) A (.call (.builtin "object.__setattr__") ⟨[.ref x,.str name tk,v],[]⟩) R s:=by
 have SF:=PySem.F.store_object;have sub:Looks (model prog w) s.heap (isInstance (.ref x) (.type "object")) true:=I.type.andThen (looks_mroIn X hmo);refine codeAny_call_builtin SF.slot.plain SF.entry (@check_slot (model prog w) _ _ s "object.__setattr__" "object" "__setattr__" (.ref x) [.str name tk,v] [] _ SF.kind SF.split sub (SF.args (.ref x) (.str name tk) v) ?_);have hm:Looks (model prog w) s.heap (mroOf (.ref C)) cd.mro:=(looks_clsIn X hc).andThen .now;rw[osa_eq,refuse_eq];refine WS (WS (I.type.here (WS (hm.here ?_))));rw[hm',refuseLoop_ref,uR _ T];refine WX (WS (I.type.here (WS ((YU X ht).here (WS ?_)))));refine WX ?_;exact h
end
section
variable {prog:Program} {w:World} {A:Around} {E:Value->Shared->Prop} {h:Heap} {g:Array GenState} {d:Drawn} {t:Nat} {os:OsState}
variable {nm q:Str} {C N x:Addr} {bs bm:List Value} {sn:List Str} {sub:List Value} {ab:Bool} {col:Option Bool} {dd:Option Addr} {k0 k1 k2 k3 k5:Option Value} {newId:String} {name:Str} {v:Value}
theorem wK{tk:Tok}{o:Obj}{Q:Fin->Shared->Prop}(hC:h.get? C=some (excClassObj nm q C N bs bm true sn sub ab col dd k0 k1 k2 k3 k5 newId))(hx:h.get? x=some o)(hc:o.cls=.ref C)(hnc:∀c,o.data≠.cls c)(hdn:o.dict=none)
  (hq:∀h' tk',h'.get? x=some {cls:=o.cls,dict:=some h.objs.size,data:=o.data,slots:=o.slots}->h'.Ns1 h.objs.size (λy=>if y=name then some v else none)->(∀b ob,b≠x->h.get? b=some ob->h'.get? b=some ob)->Q (.done (.ret .none)) ⟨h',g,d,tk',os⟩) :
  wpAny (model prog w) A (storeInOwnDict (.ref x) (.ref C) (.str name tk) name v false) Q E ⟨h,g,d,t,os⟩:=by
 unfold storeInOwnDict
 repeat (first | (with_reducible refine Xo hx ?_;rw[hc]) | with_reducible refine Xo hC ?_ | wp_step)
 rw[hdn];dsimp only;rw[if_neg (by simp[typeHasDict])];split
 ·rename_i c hcd;exact absurd hcd (hnc c)
 ·have hx₁:(h.push {cls:=.type "dict",data:=.dict #[]}).get? x=some o:=WW _ hx;have hxs:x≠h.objs.size:=W5 (WT hx);refine WS (wpAny_alloc' ?_);refine WS (wpAny_update' hx₁ ?_);refine WX ?_;have hgd:((h.push {cls:=.type "dict",data:=.dict #[]}).update x λo=>{cls:=o.cls,dict:=some h.objs.size,data:=o.data,slots:=o.slots}).get? h.objs.size
    = some {cls:=.type "dict",data:=.dict #[]} :=
   (Heap.get?_update_ne _ _ _ _ hxs.symm).trans (Heap.get?_push_at rfl rfl)
  have hnd:((h.push {cls:=.type "dict",data:=.dict #[]}).update x λo=>{cls:=o.cls,dict:=some h.objs.size,data:=o.data,slots:=o.slots}).Ns h.objs.size (λ_=>none) :=
   ⟨_,#[],_,hgd,rfl,λe he=>absurd he (by simp),λ_=>rfl⟩
  show wpAny _ _ (storeInDict h.objs.size (.str name tk) name v) _ _ _;unfold storeInDict newKeyGuard;refine wpAny_bind (wpAny_pure (wpAny_bind (wpAny_nsSet1 (Heap.Ns1.of_empty hnd) λh' hn' hs=>?_)));obtain⟨oD,esD,epD,hoD,yc,hcD⟩:=hn'.count (Within.cons name v Within.nil);refine wpAny_bind (wpAny_lookBehind hoD (by rw[yc];exact pastItsLine_dict (Nat.le_trans hcD (by rw[List.length_cons,List.length_nil,sizeLine_eq];omega))) ?_)
  wp_walk
  have hx':h'.get? x=some {cls:=o.cls,dict:=some h.objs.size,data:=o.data,slots:=o.slots}:=by
   refine(hs.2 x hxs).trans (Yl _ hx₁ ?_);have hfr:=(YD.mp hx).2;obtain⟨oc,od,odt,osl⟩:=o;cases odt<;>first | rfl | exact hfr
  refine hq h' _ hx' hn' λb ob hbx hb=>?_
  exact(hs.2 b (W5 (WT hb))).trans ((Heap.get?_update_ne _ _ _ _ hbx).trans (WW _ hb))
theorem wN{tk:Tok}{o:Obj}{dx:Addr}{mA:Str->Option Value}{ns:List Str}{Q:Fin->Shared->Prop}(hC:h.get? C=some (excClassObj nm q C N bs bm true sn sub ab col dd k0 k1 k2 k3 k5 newId))(hx:h.get? x=some o)(hc:o.cls=.ref C)(hdx:o.dict=some dx)(hns:h.Ns1 dx mA)(hw:Within mA ns)(hl:ns.length < 1000)
  (hq:∀h' tk',h'.Ns1 dx (λy=>if y=name then some v else mA y)->(∀b ob,b≠dx->h.get? b=some ob->h'.get? b=some ob)->Q (.done (.ret .none)) ⟨h',g,d,tk',os⟩) :
  wpAny (model prog w) A (storeInOwnDict (.ref x) (.ref C) (.str name tk) name v false) Q E ⟨h,g,d,t,os⟩:=by
 unfold storeInOwnDict
 repeat (first | (with_reducible refine Xo hx ?_;rw[hc]) | with_reducible refine Xo hC ?_ | wp_step)
 rw[hdx];refine wpAny_pure ?_;show wpAny _ _ (storeInDict dx (.str name tk) name v) _ _ _;unfold storeInDict newKeyGuard;refine wpAny_bind (wpAny_pure (wpAny_bind (wpAny_nsSet1 hns λh' hn' hs=>?_)));obtain⟨oD,esD,epD,hoD,yc,hcD⟩:=hn'.count (Within.cons name v hw);refine wpAny_bind (wpAny_lookBehind hoD (by rw[yc];exact pastItsLine_dict (Nat.le_trans hcD (by rw[List.length_cons,sizeLine_eq];omega))) ?_)
 wp_walk
 exact hq h' _ hn' λb ob hb hb'=>(hs.2 b hb).trans hb'
end
def XP(C e:Addr)(dx:Option Addr):Heap->Prop:=λh=>∃t0,h.get? e=some {cls:=.ref C,dict:=dx,data:=.fields #[.ref t0,.none,.none,.none,.bool false,.none]}
def XD(dx:Addr)(fs:List (Str×V)):Heap->Prop:=λh=>∃mA,h.Ns1 dx mA/\(∀f,iL (fs.lookup f) (mA f))/\Within mA (fs.map (·.1))
structure KXs(K:Frag)(C:Addr):Prop where
 sa:findIn K (.ref C) "__setattr__"=some (some (.builtin "object.__setattr__"))
 ex:∃bx,mY K C (px bx) (uu bx)=true
 mo:mroIn K C (.type "object")=some true
theorem rD{C e:Addr}{dx:Option Addr}(h1 h2:Heap)(h:XP C e dx h1)(k:∀o,h1.get? e=some o->h2.get? e=some o):XP C e dx h2:=by
 obtain⟨t0,g⟩:=h;exact⟨t0,k _ g⟩
theorem rE{dx:Addr}{fs:List (Str×V)}(h1 h2:Heap)(h:XD dx fs h1)(k:∀o,h1.get? dx=some o->h2.get? dx=some o):XD dx fs h2:=by
 obtain⟨mA,n,r⟩:=h;exact⟨mA,n.at k,r⟩
theorem Ns1.obj{h:Heap}{a:Addr}{m:Str->Option Value}(n:h.Ns1 a m):∃o,h.get? a=some o:=let ⟨o,_,_,e,_⟩:=n;⟨o,e⟩
section
variable {X:Cx} {C a:Addr} {pins:List (Addr×Obj)} {σ:St} {H:Hp} {s:Shared} {A:Around} {E:Value->Shared->Prop} {f:Str}
theorem MN{y:V}{u:Value}{Q:Unit->Shared->Prop}(I:Inv X pins σ H s)(e:H a=some (.ext (XP C a none)))(k:KXs X.K C)(hf:findIn X.K (.ref C) f=some none)(ry:RelV y u)
  (h:∀s' dx,H dx=none->dx≠a->Inv X pins σ (upd (upd H dx (.ext (XD dx [(f,y)]))) a (.ext (XP C a (some dx)))) s'->Q () s'):wpAny (model X.prog X.w) A (setAttr (.ref a) f u) Q E s:=by
 obtain⟨⟨t0,hg⟩,_,_⟩:=I.hok a _ e;obtain⟨bx,hbx⟩:=k.ex;obtain⟨bm,N,nm,qn,bs,sn,sub,ab,col,dd,k0,k1,k2,k3,k5,mN,hC,hn,T,cd,hcd,hmro,_⟩:=oF I.iM hbx;have IA:InstAt s.heap a {cls:=.ref C,dict:=none,data:=.fields #[.ref t0,.none,.none,.none,.bool false,.none]} C none:=⟨hg,rfl,rfl,XB⟩;refine set_plain I.iM IA k.sa (rC (s:={s with toks:=s.toks + 1}) I.iM IA hcd hmro T k.mo hf ?_);obtain⟨hp,g,d,tk,os⟩:=s;have hda:hp.objs.size≠a:=Xw (WT hg);refine wK hC hg rfl (λc z=>by cases z) rfl λh' tk' g1 n1 kp=>h _ hp.objs.size (I.hok.fresh (WU _)) hda ?_
 obtain⟨od,god⟩:=Ns1.obj n1;have hpo:(hp.push od).get? hp.objs.size=some od:=Xf hp (YD.mp god).2;have n0:(hp.push od).Ns1 hp.objs.size (λy=>if y=f then some u else none):=n1.at λo q=>by rw[god]at q;cases q;exact hpo
 have RQ:XD hp.objs.size [(f,y)] (hp.push od):=⟨_,n0,λg=>by
  show iL (List.lookup g [(f,y)]) (if g=f then some u else none);by_cases q:g=f
  ·rw[if_pos q,q];simp only[List.lookup,beq_self_eq_true];exact ry
  ·rw[if_neg q];simp only[List.lookup];rw[beq_false_of_ne q];exact True.intro,λg hg=>by
  by_cases q:g=f
  ·rw[q];exact List.mem_singleton_self _
  ·exact absurd (W2 q) hg⟩
 have I1:=I.laid (a:=hp.objs.size) (o:=.ext (XD hp.objs.size [(f,y)])) (h':=hp.push od) (t':=tk') (λb u q=>WW _ q) (WU _) ⟨RQ,⟨_,hpo⟩,rE⟩;have ea:upd H hp.objs.size (.ext (XD hp.objs.size [(f,y)])) a=some (.ext (XP C a none)):=by rw[uN hda.symm];exact e
 refine I1.write (x:=a) (e:=a) (t':=tk') (by rw[ea];exact XB) (.inl rfl) (λb ob hb z=>?_) ⟨_,g1⟩ ⟨⟨t0,g1⟩,⟨_,g1⟩,rD⟩;by_cases hbs:b=hp.objs.size
 ·subst hbs;have z':(hp.push od).get? hp.objs.size=some ob:=z;rw[hpo]at z';cases z';exact god
 ·have z':(hp.push od).get? b=some ob:=z;rw[Heap.get?_push_ne _ _ _ hbs]at z';exact kp b ob hb z'
theorem MO{y:V}{u:Value}{dx:Addr}{fs:List (Str×V)}{Q:Unit->Shared->Prop}(I:Inv X pins σ H s)(e:H a=some (.ext (XP C a (some dx))))(ed:H dx=some (.ext (XD dx fs)))(hl:fs.length < 900)(k:KXs X.K C)(hf:findIn X.K (.ref C) f=some none)(ry:RelV y u)
  (h:∀s',Inv X pins σ (upd H dx (.ext (XD dx (cW f y fs)))) s'->Q () s'):wpAny (model X.prog X.w) A (setAttr (.ref a) f u) Q E s:=by
 obtain⟨⟨t0,hg⟩,_,_⟩:=I.hok a _ e;obtain⟨⟨mA,n,r,wi⟩,_,_⟩:=I.hok dx _ ed;obtain⟨bx,hbx⟩:=k.ex;obtain⟨bm,N,nm,qn,bs,sn,sub,ab,col,dd,k0,k1,k2,k3,k5,mN,hC,hn,T,cd,hcd,hmro,_⟩:=oF I.iM hbx;obtain⟨od,god⟩:=Ns1.obj n;have IA:InstAt s.heap a {cls:=.ref C,dict:=some dx,data:=.fields #[.ref t0,.none,.none,.none,.bool false,.none]} C (some od):=⟨hg,rfl,rfl,god⟩;refine set_plain I.iM IA k.sa (rC (s:={s with toks:=s.toks + 1}) I.iM IA hcd hmro T k.mo hf ?_);obtain⟨hp,g,d,tk,os⟩:=s;refine wN hC hg rfl rfl n wi (by rw[WY];omega) λh' tk' n1 kp=>h _ ?_
 obtain⟨od',god'⟩:=Ns1.obj n1;refine I.write (x:=dx) (e:=dx) (t':=tk') (by rw[ed];exact XB) (.inl rfl) (λb ob hb z=>kp b ob hb z) ⟨_,god'⟩ ⟨⟨_,n1,λg=>?_,λg hg=>?_⟩,⟨_,god'⟩,rE⟩
 ·show iL ((cW f y fs).lookup g) (if g=f then some u else mA g);rw[jZ];by_cases q:g=f
  ·rw[W4 q,W4 q];exact ry
  ·rw[W2 q,W2 q];exact r g
 ·by_cases q:g=f
  ·rw[q];exact(iO f y fs).1
  ·refine(iO f y fs).2 g (wi g λz=>hg ?_);show(if g=f then some u else mA g)=none;rw[W2 q];exact z
end
def Ue(K:Frag)(ta tv:TE)(f:Str):TS:=λD σ H=>tv σ H λy H1=>ta σ H1 λx H2=>∃a C,x=.ref a/\KXs K C/\cO K C f /\
 ((H2 a=some (.ext (XP C a none))/\∀dx,H2 dx=none->dx≠a->D.nx σ (upd (upd H2 dx (.ext (XD dx [(f,y)]))) a (.ext (XP C a (some dx))))) ∨
  ∃dx fs,H2 a=some (.ext (XP C a (some dx)))/\H2 dx=some (.ext (XD dx fs))/\fs.length < 900/\D.nx σ (upd H2 dx (.ext (XD dx (cW f y fs)))))
section
variable {X:Cx} {o e value:Expr} {f:Str} {pos pos' tpos:Pos} {ta tv:TE}
theorem Hu(ha:PE X o ta)(hv:PE X value tv)(hs:swapsWith value (some (.Attribute o f pos')) pos.line X.env=pure false):PS X (.Assign [.Attribute o f pos'] value pos) (Ue X.K ta tv f):=by
 intro pins s σ H D I h;refine Yw (bD (hv pins s σ H _ I h) λu s1 ⟨y,H1,I1,ry,q⟩=>bD (ha pins s1 σ H1 _ I1 q) λov s2 ⟨x,H2,I2,rx,a,C,ex,k,n,q2⟩=>?_) hs;subst ex;obtain rfl:ov=Value.ref a:=rx;rcases q2 with⟨ea,q2⟩ | ⟨dx,fs,ea,ed,l,q2⟩
 ·exact MN I2 ea k n ry λs3 dx hd hda I3=>⟨σ,_,I3,q2 dx hd hda⟩
 ·exact MO I2 ea ed l k n ry λs3 I3=>⟨σ,_,I3,q2⟩
end
section
variable {prog:Program} {w:World} {A:Around} {E:Value->Shared->Prop} {K:Frag} {a C:Addr} {o:Obj} {od:Option Obj} {h:Heap} {g:Array GenState} {d:Drawn} {t:Nat} {os:OsState} {name:Str} {v:Value}
theorem Pn{tk:Tok}{Q:Fin->Shared->Prop}(X:K.In h)(IA:InstAt h a o C od)(hf:findObj K C od name=some (.value v))(hq:Q (.done (.ret v)) ⟨h,g,d,t,os⟩):
  wpAny (model prog w) A (Builtin.«object.__getattribute__» ⟨[.ref a,.str name tk],[]⟩) Q E ⟨h,g,d,t,os⟩:=by
 have L0:=IA.type (M:=model prog w);have L1:=looks_find (M:=model prog w) X IA hf;refine WS (WX (WS (WX (WS (L0.at (WS (L1.at ?_)))))));exact WX hq
theorem Ug{tk:Tok}{fill expr:Bool}{Q:Value->Shared->Prop}(X:K.In h)(k:KX K C)(IA:InstAt h a o C od)(hf:findObj K C od name=some (.value v))(hh:handedIn v=true)(hq:Q v ⟨h,g,d,t,os⟩):
  wpAny (model prog w) A (getAttrBy (.ref a) (.str name tk) fill expr) Q E ⟨h,g,d,t,os⟩:=by
 have hx:=IA.at_;have hc:=IA.cls;have L1:=YU (M:=model prog w) X k.ga;have L2:=YU (M:=model prog w) X k.gh;have f3:=F.excAttr_ValueError.ga.bind (.ref a);have RQ:(expr&&onTheHeap (Value.builtin "BaseException.__getattribute__"))=false:=by cases expr<;>rfl
 have Uh:(Value.builtin "BaseException.__getattribute__" == Value.builtin "object.__getattribute__")=false:=by decide +kernel
 have Wl:(onTheHeap (Value.ref C)&&Value.builtin "BaseException.__getattribute__" == Value.builtin "object.__getattribute__")=false:=by rw[Uh];rfl
 repeat (any_goals (first | assumption | (with_reducible refine Xo hx ?_;rw[hc]) | with_reducible refine L1.at ?_ | with_reducible refine L2.at ?_ | wp_step))
 refine codeAny_call_builtin F.excAttr_ValueError.ga.plain F.entry_bexc_ga (Bq X k hx hc (Pn X IA hf ?_));have ho:=handedOut_of hh
 repeat (any_goals (first | assumption | wp_step | (rw[ho])))
theorem MP{expr:Bool}{Q:Value->Shared->Prop}(X:K.In h)(k:KX K C)(IA:InstAt h a o C od)(hf:findObj K C od name=some (.value v))(hh:handedIn v=true)(hq:Q v ⟨h,g,d,t + 1,os⟩):
  wpAny (model prog w) A (getAttr (.ref a) name expr) Q E ⟨h,g,d,t,os⟩:=by
 unfold getAttr;refine wpAny_bind (wpAny_mkText ?_);exact Ug X k IA hf hh hq
end
def XG(C a dx:Addr):Heap->Prop:=λh=>∃o vs,h.get? a=some o/\o.cls=.ref C/\o.dict=some dx/\o.data=.fields vs
def Oy(K:Frag)(ta:TE)(f:Str):TE:=λσ H Q=>ta σ H λx H1=>∃a C dx fs v φ,x=.ref a/\H1 a=some (.ext φ)/\(∀h,φ h->XG C a dx h)/\H1 dx=some (.ext (XD dx fs))/\KX K C/\hasDictIn K C=true/\cO K C f/\fs.lookup f=some v/\Q v H1
theorem Bs{X:Cx}{e:Expr}{f:Str}{pos:Pos}{ta:TE}(he:PE X e ta)(hb:attributeBase e f X.env (eval e X.env)=eval e X.env):PE X (.Attribute e f pos) (Oy X.K ta f):=by
 intro pins s σ H Q I h;refine ye hb (bD (he pins s σ H _ I h) λu s1 ⟨x,H1,I1,rx,a,C,dx,fs,v,φ,ex,ea,hφ,ed,k,hd,n,l,q⟩=>?_);subst ex;obtain rfl:u=Value.ref a:=rx;obtain⟨p,_,_⟩:=I1.hok a _ ea;obtain⟨⟨mA,nn,r,_⟩,_,_⟩:=I1.hok dx _ ed;obtain⟨o,vs,g1,g2,g3,g4⟩:=hφ _ p;obtain⟨od,ho,hl⟩:=qZ nn;obtain⟨u',hu,ru⟩:=iL.some_of (v:=v) (o:=mA f) (by rw[← l];exact r f);have IA:InstAt s1.heap a o C (some od):=⟨g1,g2,by unfold notCls;rw[g4],by rw[g3];exact ho⟩;obtain⟨hp,g,d,t,os⟩:=s1;exact MP I1.iM k IA (findObj_own hd n rfl (by rw[hl,hu])) (ra ru) ⟨v,H1,I1.tok _,ru,q⟩
structure RS(K:Frag)(C f:Addr):Prop where
 ex:∃bx,mY K C (px bx) (uu bx)=true
 init:findIn K (.ref C) "__init__"=some (some (.ref f))
 fn:isFn K (.ref f)=true
 kp:keepIn K (.ref C)=true
section
variable {X:Cx} {CX:uq} {k:Nat} {f C:Addr} {fd:FuncData} {ps:List Str} {sp:Sp} {dvs:List V} {ds:List Value} {E:XK} {x m:Str} {p pos apos:Pos} {e o:Expr} {es:List Expr} {ta:TE} {t:TA}
theorem zo{pins:List (Addr×Obj)}{σ:St}{H:Hp}{s:Shared}{Q:VK}{us:List Value}{vs:List V}(M:RS X.K C f)(F':bw X.prog X.w X.K X.mg X.base CX k f fd ps sp)(hr:cm (k + 1) X.A)(hb:Binds X.K fd ps ds)(hd:Vals dvs ds)
  (hx:Passes CX X E) (I:Inv X pins σ H s) (r:Vals vs us) (hz:vs.length<=sizeLine)
  (h:∀x,s.heap.objs.size<=x->H x=none->sp (.ref x::(vs++dvs)) (upd H x (.ext (XP C x none))) (λv H2=>v=.non/\Q (.ref x) H2) E) :
  wpAny (model X.prog X.w) X.A (call (.ref C) us) (EP X pins σ Q) X.xe s:=by
 obtain⟨bx,hbx⟩:=M.ex;obtain⟨bm,N,nm,qn,bs,sn,sub,ab,col,dd,k0,k1,k2,k3,k5,mN,hC,hn,T,cd,hcd,hmro,_⟩:=oF I.iM hbx;have hq:=h (s.heap.objs.size + 1) (Yg _) (I.hok.fresh (Yg _));obtain⟨hp,g,d,tk,os⟩:=s;have I1:=I.kept (h':=hp.push {cls:=.type "tuple",data:=.seq us.toArray}) (t':=tk) (λb u q=>WW _ q)
 have e2:((hp.push {cls:=.type "tuple",data:=.seq us.toArray}).push (mZ C hp.objs.size)).get? (hp.objs.size + 1)=some (mZ C hp.objs.size):=by
  have:=Xf (hp.push {cls:=.type "tuple",data:=.seq us.toArray}) (o:=mZ C hp.objs.size) rfl
  rwa [Yj]at this
 have I2:=I1.laid (a:=hp.objs.size + 1) (o:=.ext (XP C (hp.objs.size + 1) none)) (h':=(hp.push {cls:=.type "tuple",data:=.seq us.toArray}).push (mZ C hp.objs.size)) (t':=tk) (λb u q=>WW _ q) (Zk (Yj _ _)) ⟨⟨_,e2⟩,⟨_,e2⟩,rD⟩;have r2:Vals (V.ref (hp.objs.size + 1)::(vs++dvs)) (Value.ref (hp.objs.size + 1)::(us++ds)):=.cons rfl (r.append hd)
 have hl:(Value.ref (hp.objs.size + 1)::us++ds).length=ps.length:=by
  have e:=r2.length;rw[F'.len _ _ _ _ hq]at e;exact e.symm
 refine zm (bmB:=px bx) (Ox bx) (yp bx) (Ox bx) T hC I.iM M.init M.fn ?_ (by rw[← r.length];exact hz);refine Yy (Yk (F'.run _ X.stack _ _ ⟨Value.ref (hp.objs.size + 1)::us,[]⟩ (Value.ref (hp.objs.size + 1)::(us++ds)) _ _ E (hr.make C us [])
  (I2.A8.make C us []) (hb _ (Value.ref (hp.objs.size + 1)::us) I2.iM hl) r2 hq) λr s' hq'=>?_)
 cases r with
 | error e=>exact hx pins σ _ _ e s' I2 hq'
 | ok fl =>
  cases fl with
  | ret u =>
   obtain⟨v,H',I3,rv,ev,q3⟩:=I2.after hq';subst ev;exact⟨rv,⟨V.ref (hp.objs.size + 1),H',I3,rfl,q3⟩⟩
  | next=>exact False.elim hq'
  | brk=>exact False.elim hq'
  | cont=>exact False.elim hq'
end
def inner(s:Stmt):Stmt:=match s with
 | .ClassDef _ _ _ b _ _ _ _ _ _ _=>b.headD (.Pass ⟨0,0,0,0⟩)
 | _=>.Pass ⟨0,0,0,0⟩
def wO(K:Frag)(fs:List Str):Sp:=λvs H Q _=>∃a C ys,vs=.ref a::ys/\ys.length=fs.length/\KXs K C/\(∀f∈fs,cO K C f)/\H a=some (.ext (XP C a none)) /\
 ∀dx,H dx=none->dx≠a->Q .non (upd (upd H dx (.ext (XD dx (fs.zip ys)))) a (.ext (XP C a (some dx))))
structure zp(P:Program)(w:World)(K:Frag)(mg:Str->Option Value)(base:Heap)(C:Addr)(fs:List Str):Prop where
 s:KXs K C
 no:∀f∈fs,cO K C f
 le:fs.length<=1000
 ini:∃f fd,RS K C f/\bw P w K mg base cN 1 f fd ("self"::fs) (wO K fs)/\Binds K fd ("self"::fs) []
section
variable {X:Cx} {C:Addr} {fs:List Str} {x:Str} {p pos:Pos} {e:Expr} {es:List Expr} {t:TA}
end
open PySem PySem.Spec PyProof.Rows PySem.W
def Dk(h h':Heap):Prop:=∀b o,h.get? b=some o->∃o',h'.get? b=some o'/\o'.dict=o.dict
theorem Dk.refl(h:Heap):Dk h h:=λ_ o e=>⟨o,e,rfl⟩
theorem Dk.trans{h1 h2 h3:Heap}(x:Dk h1 h2)(y:Dk h2 h3):Dk h1 h3:=λb o e =>
 let ⟨o1,e1,d1⟩:=x b o e;let ⟨o2,e2,d2⟩:=y b o1 e1;⟨o2,e2,d2.trans d1⟩
def KD{α:Type}(t:Sem α):Prop:=∀(M:Model) (Γ:PySem.Ctx) (Q:α->Pos->Shared->Prop) (E:Value->Pos->Shared->Prop) (p:Pos) (s:Shared),
 Sem.wp M Γ t Q E p s->Sem.wp M Γ t (λa p' s'=>Q a p' s'/\Dk s.heap s'.heap) (λe p' s'=>E e p' s'/\Dk s.heap s'.heap) p s
section
variable {α β:Type}
theorem br(a:α):KD (pure a:Sem α):=λ_ _ _ _ _ s h=>⟨h,Dk.refl s.heap⟩
theorem du(m:String):KD (Sem.unsupported m:Sem α):=λ_ _ _ _ _ _ h=>False.elim (by simpa using h)
theorem aS{t:Sem α}{f:α->Sem β}(h1:KD t)(h2:∀a,KD (f a)):KD (t >>= f):=by
 intro M Γ Q E p s h;rw[Sem.wp_bind']at h ⊢;refine Sem.wp_mono M Γ t (λa p1 s1 z=>?_) (λ_ _ _ z=>z) p s (h1 M Γ _ _ p s h);exact Sem.wp_mono M Γ (f a) (λ_ _ _ y=>⟨y.1,z.2.trans y.2⟩) (λ_ _ _ y=>⟨y.1,z.2.trans y.2⟩) p1 s1 (h2 a M Γ _ _ p1 s1 z.1)
theorem sD(a:Addr)(part:Option Value):KD (loadPart a part):=λM Γ Q E p s h=>by
 unfold loadPart at h ⊢;rw[Sem.wp_load]at h ⊢;obtain⟨o,e,q⟩:=h;exact⟨o,e,q,Dk.refl _⟩
theorem zq{h:Heap}{a:Addr}{f:Obj->Obj}(hf:∀o:Obj,(f o).dict=o.dict/\(o.isFreed=false->(f o).isFreed=false)):Dk h (h.update a f):=λb o e=>by
 by_cases hb:a=b
 ·subst hb;exact⟨_,Yl f e ((hf o).2 (YD.mp e).2),(hf o).1⟩
 ·exact⟨o,(Yr h f hb).trans e,rfl⟩
theorem rF(a:Addr)(part:Option Value){f:Obj->Obj}(hf:∀o:Obj,(f o).dict=o.dict/\(o.isFreed=false->(f o).isFreed=false)):KD (updatePart a part f):=λM Γ Q E p s h=>by
 unfold updatePart at h ⊢;rw[Sem.wp_update]at h ⊢;exact⟨h.1,h.2,zq hf⟩
theorem uT(o:Obj):KD (alloc o):=λM Γ Q E p s h=>by
 unfold alloc at h ⊢;rw[Sem.wp_alloc]at h ⊢;exact⟨h,λb ob e=>⟨ob,Heap.get?_push_of_some _ e,rfl⟩⟩
theorem pz:KD stack:=λM Γ Q E p s h=>⟨h,Dk.refl _⟩
end
theorem fL{α:Type}{t:Sem α}(k:KD t){M:Model}{A:Around}{E:Value->Shared->Prop}{Q:α->Shared->Prop}{s:Shared}(h:wpAny M A t Q E s):wpAny M A t (λa s'=>Q a s'/\Dk s.heap s'.heap) E s:=λΓ p hΓ =>
 Sem.wp_mono M Γ t (λ_ _ _ y=>y) (λ_ _ _ y=>y.1) p s (k M Γ _ _ p s (h Γ p hΓ))
theorem lT(v:Value)(i:Nat):KD (field v i):=by
 unfold field fieldsOf;refine aS ?_ λvs=>?_
 ·split
  ·refine aS (sD _ _) λo=>?_
   split
   ·exact br _
   ·exact du _
  ·exact du _
 ·first
  | (split<;>first | exact br _ | exact du _)
theorem Bt(g:Array Value->Array Value)(o:Obj):(Obj.mapFields g o).dict=o.dict/\(o.isFreed=false->(Obj.mapFields g o).isFreed=false):=by
 obtain⟨c,d,dt,sl⟩:=o;cases dt<;>exact⟨rfl,λz=>z⟩
theorem gW(v:Value)(i:Nat)(x:Value):KD (setField v i x):=by
 unfold setField updateField;split
 ·refine aS (sD _ _) λo=>?_
  split
  ·split
   ·exact rF _ _ (Bt _)
   ·exact du _
  ·exact du _
 ·exact du _
theorem jb(e:Value)(f:Option Addr):KD (setFlight e f):=by
 unfold setFlight;refine aS (lT _ _) λtb=>?_
 split
 ·exact gW _ _ _
 ·exact br _
theorem zr(env:Env)(outer:List Env):KD (behindIsImport env outer):=by
 unfold behindIsImport;split
 ·exact br _
 ·split
  ·exact br _
  ·exact aS (lT _ _) λ_=>br _
theorem Bu:KD underTheClaimsCaller:=by
 unfold underTheClaimsCaller;exact aS pz λ_=>br _
theorem ED(env:Env)(b:Bool)(l:List Env):KD (keptBack env b l):=by
 unfold keptBack;split
 ·split
  ·exact br _
  ·exact aS Bu λ_=>br _
 ·exact br _
theorem uU:∀l:List Env,KD (readyFrames l)
 | []=>br _
 | env::outer=>by
  unfold readyFrames;split
  ·refine aS (sD _ _) λo=>?_
   split
   ·exact br _
   ·refine aS (zr _ _) λb=>aS (ED _ _ _) λv=>aS (rF _ _ λo=>⟨rfl,λz=>by obtain⟨c,d,dt,sl⟩:=o;cases dt<;>exact z⟩) λ_=>uU outer
  ·exact du _
theorem pA(l:List Env):KD (frameObject l):=by
 unfold frameObject;split
 ·exact br _
 ·exact aS (uU _) λ_=>br _
theorem sE:KD frameEnvs:=by
 unfold frameEnvs;exact aS pz λ_=>br _
theorem pB(env:Env):KD (PySem.frameOf env):=by
 unfold PySem.frameOf;refine aS sE λl=>aS (pA _) λr=>?_
 split
 ·exact br _
 ·exact du _
theorem uV(f:Addr)(b:Bool):KD (entryPlaceOf f b):=by
 unfold entryPlaceOf;refine aS pz λl=>?_
 split
 ·exact br _
 ·exact br _
theorem nV(a b c d e:Value)(pl:List Value):KD (EntryCells.newEntry a b c d e pl):=by
 unfold EntryCells.newEntry newFields newObj newObjAsIs;generalize ([a,b,c,d,e]++if pl.isEmpty=true then List.replicate 6 Value.none else pl).toArray=ws;dsimp only;split
 ·exact aS (du _) λ_=>aS (uT _) λ_=>br _
 ·exact aS (uT _) λ_=>br _
theorem sF(e:Value)(env:Env):KD (noteFrame e env):=by
 unfold noteFrame;split
 ·refine aS (lT _ _) λhd=>?_
  dsimp only;split
  ·refine aS (lT _ _) λx=>?_
   split
   ·exact br _
   ·exact aS (gW _ _ _) λ_=>aS (pB _) λ_=>aS (uV _ _) λ_=>aS (nV _ _ _ _ _ _) λ_=>gW _ _ _
  ·exact aS (pB _) λ_=>aS (uV _ _) λ_=>aS (nV _ _ _ _ _ _) λ_=>gW _ _ _
 ·exact du _
theorem jc(env:Env)(e:Value):KD (leaving env e):=aS (sF e env) λ_=>jb e none
def iw(h:Heap)(a:Addr)(dd:Option Addr):Prop:=∃o,h.get? a=some o/\o.dict=dd
theorem iw.dk{h h':Heap}{a:Addr}{dd:Option Addr}(d:iw h a dd)(k:Dk h h'):iw h' a dd :=
 let ⟨o,e,q⟩:=d;let ⟨o',e',q'⟩:=k a o e;⟨o',e',q'.trans q⟩
def cX(P:Program)(w:World):uq:=λouter H s E e s'=>∃(a C t:Addr) (H':Hp) (B:Heap) (dd:Option Addr),e=.ref a/\s'.os=s.os/\AllBare s'.gens/\Hs P w outer H H' s.heap B a (.ref C) (.ref t) s'.heap/\iw s'.heap a dd/\E (.ref C) dd H'
def del(H:Hp)(a:Addr):Hp:=λb=>if b=a then none else H b
theorem Bv{H:Hp}{a:Addr}:del H a a=none:=by unfold del;rw[if_pos rfl]
theorem j5{H:Hp}{a b:Addr}(h:b≠a):del H a b=H b:=by unfold del;rw[if_neg h]
def RT(X:Cx)(E:XK):Prop:=∀(pins:List (Addr×Obj)) (σ:St) (H:Hp) (s:Shared) (a C:Addr) (dx:Option Addr),Inv X pins σ H s->X.s₀.heap.objs.size<=a->H a=some (.ext (XP C a dx))->E (.ref C) dx (del H a)->X.xe (.ref a) s
section
variable {P:Program} {w:World} {K:aE} {mg:Str->Option Value} {base:Heap} {N:List Str} {qual:Str} {scope:Scope} {f:Addr} {cd:Value} {A:Around} {outer:List Env} {s₀:Shared} {H₀:Hp} {E:XK}
theorem wQ:RT (lj (cX P w) P w K mg base N qual scope f cd A outer s₀ H₀ E) E:=by
 intro pins σ H s a C dx I Ui hHa hE
 let env:=envOfC qual scope s₀.heap.objs.size f cd
 have hf:env.frame=some s₀.heap.objs.size:=rfl;have Po:s₀.heap.objs.size<=a:=Ui;obtain⟨⟨t0,hg⟩,_,_⟩:=I.hok a _ hHa;have hst:=I.stack
 have nfa:a∉gQ (env::outer):=λhb=>by
  have:=I.kD a hb;rw[this]at hHa;cases hHa
 let hid:=a::gQ (env::outer)
 have hBs:(hideAll s.heap hid).StaysIn s.heap:=λb o q=>of_hideAll _ q
 have hin:∀v∈(env::outer),∀b,v.frame=some b->b∈hid:=λv hv b hb=>W9 _ (Yb.mpr ⟨v,hv,hb⟩)
 have hFF:s.heap.FunFrames (hideAll s.heap hid) (env::outer):=Zc hst hin;have hBa:(hideAll s.heap hid).get? a=none:=hideAll_none _ W7;show wpAny _ _ (leaving env (.ref a)) _ _ _;have lib:=wpAny_leaving_firstW (M:=model P w) (A:=(lj (cX P w) P w K mg base N qual scope f cd A outer s₀ H₀ E).A) (E:=λ_ _=>False) (s:=s) (Q:=λ_ s'=>∃h',s'={s with heap:=h'}/\Heap.LeftW (hideAll s.heap hid) (env::outer) a (.ref C) (.ref t0) s.heap h') (I.ok.frames) hFF hf hg hBs hBa rfl rfl rfl λh' L=>⟨h',rfl,L⟩
 refine Xa (fL (jc env (.ref a)) lib) (λ_ s' z=>?_) λ_ _ z=>z.elim
 obtain⟨⟨h2,rfl,k1,⟨_,_,k2⟩,k3,x4⟩,dk⟩:=z
 have ni:∀b o,s₀.heap.get? b=some o->b∉gQ outer->b∉hid:=λb o q nb hb=>by
  rcases Xj.mp hb with z | z
  ·exact absurd (WT q) (by rw[z];exact Nat.not_lt.mpr Po)
  ·rcases (bh hf).mp z with z | z
   ·exact absurd (WT q) (by rw[z];exact Xm _)
   ·exact nb z
 refine⟨a,C,t0,del H a,_,dx,rfl,I.os,I.bare,⟨λb o q n nb=>?_,λb o q nb=>?_,λb o q hb=>?_,λb o q n=>?_,λb xs q=>?_,λb o u q=>?_,λb ps q=>?_,λb u q=>?_,⟨k1,hBa,k2,k3⟩⟩,iw.dk ⟨_,hg,rfl⟩ dk,hE⟩
 ·exact X0 _ (I.base.keep b o q n nb (by intro z;cases z)) (ni b o q nb)
 ·obtain⟨o',q'⟩:=I.base.there b o q (by intro z;cases z);exact⟨o',X0 _ q' (ni b o q nb)⟩
 ·obtain⟨sl,q'⟩:=I.base.slot b o q (I.ok.frf b hb) hb (by intro z;cases z);obtain⟨_,o',ho',hn⟩:=hst.mem ((bh hf).mpr (.inr hb));rw[q']at ho';have e1:=W0 ho';obtain⟨sl',q2⟩:=x4 b _ q' (by rw[e1];exact hn);exact⟨sl',q2⟩
 ·have:=I.base.free b o q n (by intro z;cases z);unfold del;split
  ·rfl
  ·exact this
 ·have:=I.base.tups b xs q;rw[j5 (cz this hHa (by intro z;cases z))];exact this
 ·have:=I.base.eA b o u q;rw[j5 (cz this hHa (by intro z;cases z))];exact this
 ·obtain⟨m1,e1⟩:=I.base.tbls b ps q;exact⟨m1,by rw[j5 (cz e1 hHa (by intro z;cases z))];exact e1⟩
 ·have hba:b≠a:=λz=>by subst z;rw[Bv]at q;cases q
  rw[j5 hba]at q
  have nf:∀c v,H c=some v->c≠a->c∉hid:=λc v q' hca hb=>by
   rcases Xj.mp hb with z | z
   ·exact hca z
   ·have:=I.kD c z;rw[this]at q';cases q'
  have no:∀c,H c=some (.own b)->c≠a:=λc q'=>cz q' hHa (by intro z;cases z)
  refine(I.hok b u q).qA (λc v hc q'=>X0 _ q' ?_) (λc q'=>by rw[j5 (no c q')];exact q') λc xs q'=>by rw[j5 (cz q' hHa (by intro z;cases z))];exact q'
  rcases hc with z | z
  ·rw[z];exact nf b u q hba
  ·exact nf c _ z (no c z)
theorem sH:Rz (lj (cX P w) P w K mg base N qual scope f cd A outer s₀ H₀ E) E:=by
 intro pins σ H s h' e C vs I hx hE
 let env:=envOfC qual scope s₀.heap.objs.size f cd
 have hf:env.frame=some s₀.heap.objs.size:=rfl;have hst:=I.stack;have hin:∀v∈(env::outer),∀b,v.frame=some b->b∈gQ (env::outer):=λv hv b hb=>Yb.mpr ⟨v,hv,hb⟩
 have hBs:(hideAll s.heap (gQ (env::outer))).StaysIn s.heap:=λb o q=>of_hideAll _ q
 have hFF:s.heap.FunFrames (hideAll s.heap (gQ (env::outer))) (env::outer):=Zc hst hin;obtain⟨tx,hxt,_⟩:=hx.there;show wpAny _ _ (leaving env (.ref e)) _ _ _;have lib:=wpAny_leaves_madeW (M:=model P w) (A:=(lj (cX P w) P w K mg base N qual scope f cd A outer s₀ H₀ E).A) (E:=λ_ _=>False) (s:={s with heap:=h'})
  (Q:=λ_ s'=>∃h2 t,s'={s with heap:=h2}/\Heap.FlyingW (hideAll s.heap (gQ (env::outer))) outer e (.ref C) (.ref t) h2/\h'.UpToSlots h2) (I.ok.frames) hf hBs hFF hx λh2 t x1 _ _ x4=>⟨h2,t,rfl,x1,x4⟩
 refine Xa (fL (jc env (.ref e)) lib) (λ_ s' z=>?_) λ_ _ z=>z.elim
 obtain⟨⟨h2,t,rfl,x1,x4⟩,dk⟩:=z
 have ni:∀b o,s₀.heap.get? b=some o->b∉gQ outer->b∉gQ (env::outer):=λb o q nb hb=>by
  rcases (bh hf).mp hb with z | z
  ·exact absurd (WT q) (by rw[z];exact Xm _)
  ·exact nb z
 refine⟨e,C,t,H,_,none,rfl,I.os,I.bare,⟨λb o q n nb=>?_,λb o q nb=>?_,λb o q hb=>?_,λb o q n=>I.base.free b o q n (by intro z;cases z),I.base.tups,I.base.eA,I.base.tbls,λb u q=>?_,x1⟩,iw.dk ⟨_,hxt,rfl⟩ dk,hE⟩
 ·exact X0 _ (I.base.keep b o q n nb (by intro z;cases z)) (ni b o q nb)
 ·obtain⟨o',q'⟩:=I.base.there b o q (by intro z;cases z);exact⟨o',X0 _ q' (ni b o q nb)⟩
 ·obtain⟨sl,q'⟩:=I.base.slot b o q (I.ok.frf b hb) hb (by intro z;cases z);obtain⟨_,o',ho',hn⟩:=hst.mem ((bh hf).mpr (.inr hb));rw[q']at ho';have e1:=W0 ho';obtain⟨sl',q2⟩:=x4 b _ (hx.keeps b _ q') (by rw[e1];exact hn);exact⟨sl',q2⟩
 ·have nf:∀c v,H c=some v->c∉gQ (env::outer):=λc v q hb=>by
   have:=I.kD c hb;rw[this]at q;cases q
  refine(I.hok b u q).qA (λc v hc q'=>X0 _ q' ?_) (λ_ q'=>q') λ_ _ q'=>q'
  rcases hc with z | z
  ·rw[z];exact nf b u q
  ·exact nf c _ z
theorem bj:Passes (cX P w) (lj (cX P w) P w K mg base N qual scope f cd A outer s₀ H₀ E) E:=by
 intro pins σ H s e s' I hc;obtain⟨a,C,t,H',B,dd,rfl,ho,hb,F,hdd,hE⟩:=hc
 let env:=envOfC qual scope s₀.heap.objs.size f cd
 have hf:env.frame=some s₀.heap.objs.size:=rfl;have F':Hs P w (env::outer) H H' s.heap B a (.ref C) (.ref t) s'.heap:=F;show wpAny _ _ (leaving env (.ref a)) _ _ _;have lib:=wpAny_leaves_onW (M:=model P w) (A:=(lj (cX P w) P w K mg base N qual scope f cd A outer s₀ H₀ E).A) (E:=λ_ _=>False) (s:=s')
  (Q:=λ_ s2=>∃h2,s2={s' with heap:=h2}/\Heap.FlyingW B outer a (.ref C) (.ref t) h2/\s'.heap.UpToSlots h2) (I.ok.frames) hf F'.fly λh2 x1 x4=>⟨h2,rfl,x1,x4⟩
 refine Xa (fL (jc env (.ref a)) lib) (λ_ s2 z=>?_) λ_ _ z=>z.elim
 obtain⟨⟨h2,rfl,x1,x4⟩,dk⟩:=z
 have ni:∀b o,s₀.heap.get? b=some o->b∉gQ outer->b∉gQ (env::outer):=λb o q nb hb=>by
  rcases (bh hf).mp hb with z | z
  ·exact absurd (WT q) (by rw[z];exact Xm _)
  ·exact nb z
 refine⟨a,C,t,H',B,dd,rfl,ho.trans I.os,hb,⟨λb o q n nb=>?_,λb o q nb=>?_,λb o q hb=>?_,λb o q n=>?_,λb xs q=>F'.tups b xs (I.base.tups b xs q),λb o u q=>F'.eA b o u (I.base.eA b o u q),λb ps q=>?_,F'.hok,x1⟩,hdd.dk dk,hE⟩
 ·exact F'.keep b o (I.base.keep b o q n nb (by intro z;cases z)) (I.base.free b o q n (by intro z;cases z)) (ni b o q nb)
 ·obtain⟨o',q'⟩:=I.base.there b o q (by intro z;cases z);exact F'.there b o' q' (ni b o q nb)
 ·obtain⟨sl,q'⟩:=I.base.slot b o q (I.ok.frf b hb) hb (by intro z;cases z);obtain⟨IP,q2⟩:=F'.slot b _ q' ((bh hf).mpr (.inr hb));obtain⟨_,o',ho',hn⟩:=F'.fly.2.2.1.mem ((bh hf).mpr (.inr hb));rw[q2]at ho';have e1:=W0 ho';obtain⟨sl',q3⟩:=x4 b _ q2 (by rw[e1];exact hn);exact⟨sl',q3⟩
 ·obtain⟨o',q'⟩:=I.base.there b o q (by intro z;cases z);exact F'.free b o' q' (I.base.free b o q n (by intro z;cases z))
 ·obtain⟨m1,e1⟩:=I.base.tbls b ps q;obtain⟨m2,e2⟩:=F'.tbls b _ e1;exact⟨m1++m2,by rw[e2,Array.append_assoc]⟩
theorem iK.zt{x qual:Str}{st:Stmt}{f:Addr}{fd:FuncData}{N ps:List Str}{k:Nat}{sp:Sp}(F:iK K x qual st f fd)(S:aI N ps (dS st))(len:∀vs H Q E,sp vs H Q E->vs.length=ps.length)
  (hbody:∀(cdv:Value) (A:Around) (outer:List Env) (s:Shared) (H:Hp) (vs:List V) (Q:VK) (E:XK),cm k (A.deeper (envOfC qual (dS st) s.heap.objs.size f cdv))->sp vs H Q E ->
   ∃t,oy (lj (cX P w) P w K mg base N qual (dS st) f cdv A outer s H E) (dB st) t/\t {nx:=λ_ H'=>Q .non H',rt:=Q} (start N vs) H):bw P w K mg base (cX P w) (k + 1) f fd ps sp:=by
 obtain⟨oc,od,kV,doc,pm,an,cdv,ct,osl,rfl,lk,hcd⟩:=F.ex;exact Hl lk hcd S len λA outer s H vs Q E hr hsp=>hbody cdv A outer s H vs Q E hr hsp
end
theorem Bw{X:Cx}{x:Str}{k:Nat}{ps:List Str}{sp:Sp}{e:Expr}{es:List Expr}{t:TA}{p pos:Pos}{E:XK}(h:gI X.prog X.w X.K X.mg X.base (cX X.prog X.w) x k ps sp)(hx:Passes (cX X.prog X.w) X E)(hr:cm k X.A)(hg:Gl X x)(ha:PA X (e::es) t)(hdb:(x == ("__debug__" : Str))=false:=by decide)
  (he:starEach (e::es) X.env=(false,eval e X.env)::starEach es X.env:=by rfl) (hpl:(backTo pos (starEach es X.env)).any (·.1)=false:=by rfl) :
  PE X (.Call (.Name x p) (e::es) [] pos) (uE sp [] E t):=by
 obtain⟨f,fd,F,b,kp,m⟩:=h.ex;exact yf F hr hg m kp b .nil hx ha hdb he hpl
theorem Jm{P:Program}{w:World}{X:Cx}:Passes (cX P w) X E0:=λ_ _ _ _ _ _ _ ⟨_,_,_,_,_,_,_,_,_,_,_,h⟩=>h.elim
section
variable {M:Model} {A:Around} {E:Value->Shared->Prop} {env:Env} {nm qn:Str} {C Nc:Addr} {bs bm:List Value} {hdct:Bool} {sn:List Str} {sub:List Value} {ab:Bool} {col:Option Bool} {dd:Option Addr} {k0 k1 k2 k3 k5:Option Value} {newId:String}
theorem zu{s:Shared}{x:Sem Value}{Q:Flow->Shared->Prop}(hb:bm.contains (.type "BaseException")=true)(hh:A.handled=none)
  (h:wpAny M A x (λv s1=>∃e t0 dx,v=.ref e/\s1.heap.get? C=some (excClassObj nm qn C Nc bs bm hdct sn sub ab col dd k0 k1 k2 k3 k5 newId) /\
   s1.heap.get? e=some {cls:=.ref C,dict:=dx,data:=.fields #[.ref t0,.none,.none,.none,.bool false,.none]}/\E (.ref e) s1) E s):wpAny M A (raiseStmt env (some x) none) Q E s:=by
 have hB:(Value.ref C::bm).contains (.type "BaseException")=true:=by rw[List.contains_cons,hb,Bool.or_true]
 unfold raiseStmt;refine wpAny_bind (wpAny_mono h (λv s1 z=>?_) λ_ _ z=>z);obtain⟨e,t0,dx,rfl,gC,ge,hE⟩:=z;obtain⟨hp,g,d,tk,os⟩:=s1
 repeat (first | with_reducible refine Xo ge ?_ | (with_reducible refine wpAny_isSubtype_exc gC ?_;rw[hB]) | with_reducible refine Xo gC ?_ | wp_step)
 exact wpAny_raiseNew_none hh hE
end
def EE(C:Addr)(fs:List Str)(E:XK)(t:TA):TS:=λ_ σ H=>t σ H λvs H1=>vs.length=fs.length/\∀dx H2,H1 dx=none->aQ H1 H2->H2 dx=some (.ext (XD dx (fs.zip vs)))->E (.ref C) (some dx) H2
section
variable {X:Cx} {C:Addr} {fs:List Str} {x:Str} {np cpos pos:Pos} {e:Expr} {es:List Expr} {t:TA} {E:XK}
theorem m4(hz:RT X E)(M:zp X.prog X.w X.K X.mg X.base C fs)(hr:cm 2 X.A)(hg:Gl X x)(hm:X.mg x=some (.ref C))(hc:X.calm=true)(ha:PA X (e::es) t)(hdb:(x == ("__debug__" : Str))=false:=by decide)
  (he:starEach (e::es) X.env=(false,eval e X.env)::starEach es X.env:=by rfl) (hpl:(backTo cpos (starEach es X.env)).any (·.1)=false:=by rfl) :
  PS X (.Raise (some (.Call (.Name x np) (e::es) [] cpos)) none pos) (EE C fs E t):=by
 intro pins s σ H D I h;obtain⟨f,fd,M',F',b⟩:=M.ini;obtain⟨bx,hbx⟩:=M'.ex;obtain⟨bm,N,nm,qn,bs,sn,sub,ab,col,dd,k0,k1,k2,k3,k5,mN,hC,hn,T,_⟩:=oF I.mod.kin hbx;rw[arm_exec_Raise];refine WS (Yo (zu (C:=C) (nm:=nm) (qn:=qn) (Nc:=N) (bs:=bs) (bm:=bm) (hdct:=true) (sn:=sn) (sub:=sub) (ab:=ab) (col:=col) (dd:=dd) (k0:=k0) (k1:=k1) (k2:=k2) (k3:=k3) (k5:=k5) (newId:=uu bx) (T.hasType (X:="BaseException") (b:=true) (uP bx)) (I.ok.hd hc) ?_));refine WS (Xa (?_:wpAny (model X.prog X.w) X.A (eval (.Call (.Name x np) (e::es) [] cpos) X.env) _ X.xe s) (λv s1 z=>WS (Yo (WX z))) λ_ _ z=>z);refine XO (gR I hg hm ?_ hdb);refine XQ (h₀:=X.base) I.ok.mod.kin M'.kp (bD (ha cpos pins s σ H _ I h) λus s1 ⟨vs,H1,I1,r,hl,q⟩=>⟨I1.iM,?_⟩) he hpl;refine Xa (zo (dvs:=[]) M' F' hr b .nil uI I1 r (by rw[hl,Y4];have:=M.le;omega) (Q:=λv H2=>∃a dx,v=.ref a/\s1.heap.objs.size<=a/\H2 a=some (.ext (XP C a (some dx)))/\E (.ref C) (some dx) (del H2 a)) λa hsz hn'=>⟨a,C,vs++[],rfl,by rw[XC];exact hl,M.s,M.no,uS,λdx hd hda=>⟨rfl,a,dx,rfl,hsz,uS,?_⟩⟩) (λu s' z=>?_) λ_ _ z=>z
 ·rw[uN hda]at hd;refine q dx _ hd (λc o z=>?_) ?_
  ·rw[j5 (nN z hn'),uN (nN z hn'),uN (nN z hd),uN (nN z hn')];exact z
  ·rw[j5 hda,uN hda,uS,XC]
 ·obtain⟨v,H2,I2,rv,a,dx,rfl,hsz,hHa,hE⟩:=z;cases rv;obtain⟨⟨t0,g0⟩,_,_⟩:=I2.hok a _ hHa;exact⟨a,t0,_,rfl,I2.bk _ _ hC,g0,hz pins σ H2 s' a C (some dx) I2 (Xh I1.sz hsz) hHa hE⟩
end
def Hv(C a:Addr)(dd:Option Addr):Heap->Prop:=λh=>∃o vs,h.get? a=some o/\o.cls=.ref C/\o.data=.fields vs/\o.dict=dd
theorem wR{C a dx:Addr}(h:Heap)(p:Hv C a (some dx) h):XG C a dx h:=let ⟨o,vs,q1,q2,q3,q4⟩:=p;⟨o,vs,q1,q2,q4,q3⟩
section
variable {X:Cx} {CW:Addr} {cx n:Str} {i:Nat} {b₀:Stmt} {suite:List Stmt} {np hpos pos:Pos} {tb:TS}
end
def gH(M:Model)(A:Around)(E:Value->Shared->Prop)(Q:Value->Shared->Prop)(acc:Value)(cenv:Env):Result->Shared->Prop:=λr s'=>∃m,s'.heap.Ns cenv.locals m/\∀h',Heap.SameBut cenv.locals s'.heap h' ->
 match r with
 | .ok _=>Q acc {s' with heap:=h'}
 | .error x=>wpAny M A (PySem.passOn "comprehension.variables-let-go" x cenv:Sem Value) (λ_ _=>False) E {s' with heap:=h'}
theorem zv{M:Model}{A:Around}{E:Value->Shared->Prop}{s:Shared}{env:Env}{e:Expr}{scope:Scope}{pos:Pos}{newAcc first:Sem Value}{g:Comprehension}{gs:List Comprehension}{cl:List (Str×Addr)}{Q:Value->Shared->Prop}
  (hcl:clausesOf e=g::gs) (hs:∀x,foldedSetIterable g.iter env x=pure x) (hclos:closureFor scope env=pure cl) (hkind:scope.kind=.function) (hnames:∀x∈scope.names,x.2=NameKind.local->scope.names.lookup x.1=some .local)
  (h:wpAny M A first (λx s₁=>wpAny M A (pyIter x) (λit s₂=>wpAny M A newAcc (λacc s₃=>wpAny M A (newFunctionEnv scope env.globals cl [] env.qual none .none (some env)) (λcenv s₄ =>
   codeAny M A (.compStart e 0 it acc {cenv with scope:=relabel scope env}) (gH M A E Q acc {cenv with scope:=relabel scope env}) s₄) E s₃) E s₂) E s₁) E s) :
  wpAny M A (comprehension e scope env pos newAcc false first none) Q E s:=by
 unfold comprehension;rw[hclos,hcl];refine wpAny_bind (wpAny_mono h (λx s₁ h₁=>?_) λ_ _ z=>z);refine wpAny_bind (wpAny_standAt (wpAny_bind (wpAny_of_eq (hs x) (wpAny_bind (wpAny_holding (wpAny_mono h₁ (λit s₂ h₂=>?_) λ_ _ z=>z))))));refine wpAny_standIf (wpAny_bind (wpAny_mono h₂ (λacc s₃ h₃=>wpAny_bind (wpAny_pure (wpAny_bind (wpAny_mono h₃ (λcenv s₄ h₄=>?_) λ_ _ z=>z)))) λ_ _ z=>z))
 have hv:∀x∈(scope.names.filter λ(n,k)=>(k == NameKind.local||k == NameKind.cell)&&n != Str.ofString ".0").reverse,x.2=NameKind.local->(relabel scope env).names.lookup x.1=some .local:=λx hx hl =>
  lookup_relabel_local (hnames x (List.mem_filter.mp (List.mem_reverse.mp hx)).1 hl)
 refine Xu (WS (wpAny_attempt (Xu (wpAny_run (Yk h₄ λr s' hr=>?_)))));obtain⟨m,hn,hr⟩:=hr
 cases r with
 | ok f=>exact WS (Xu (wpAny_comp_letGo hkind _ _ m hv hn λh' m' _ sb=>WX (hr h' sb)))
 | error x =>
  refine WS (Xu (wpAny_comp_letGo hkind _ _ m hv hn λh' m' _ sb=>?_));exact Xa (hr h' sb) (λ_ _ z=>z.elim) λ_ _ z=>z
structure jG(h:Heap)(a C t T L:Addr):Prop where
 ne:T≠a
 ex:∃oe vs oT ts,h.get? a=some oe/\oe.cls=.ref C/\vs[0]?=some (.ref t)/\oe.data=.fields vs/\vs[1]?=some (.ref T)/\h.get? T=some oT/\oT.data=.fields ts/\ts[3]?=some (rawInt L)
theorem jG.of{B:Heap}{l:List Env}{a C t L:Addr}{h:Heap}(x:B.HeldW l a (.ref C) (.ref t) L h):∃T,jG h a C t T L/\B.get? T=none:=by
 obtain⟨_,_,_,oe,vs,T,oT,ts,h1,⟨h2,h3⟩,h4,h5,h6,h7,h8,h9,Uj⟩:=x;exact⟨T,⟨h7,oe,vs,oT,ts,h1,h2,h3,h4,h5,h8,h9,Uj⟩,h6⟩
theorem jG.eq{h h':Heap}{a C t T L:Addr}(x:jG h a C t T L)(ha:h'.get? a=h.get? a)(hT:h'.get? T=h.get? T):jG h' a C t T L:=by
 obtain⟨n,oe,vs,oT,ts,h1,h2,h3,h4,h5,h6,h7,h8⟩:=x;exact⟨n,oe,vs,oT,ts,ha.trans h1,h2,h3,h4,h5,hT.trans h6,h7,h8⟩
theorem jG.held{h:Heap}{a C t T L:Addr}{l:List Env}{base:Heap}(x:jG h a C t T L)(st:h.FunFrames base l){hid:List Addr}(h1:a∈hid)(h2:T∈hid)(h3:∀v∈l,∀b,v.frame=some b->b∈hid):(hideAll h hid).HeldW l a (.ref C) (.ref t) L h:=by
 obtain⟨n,oe,vs,oT,ts,e1,e2,e3,e4,e5,e6,e7,e8⟩:=x;exact⟨λb o q=>of_hideAll _ q,hideAll_none _ h1,Zc st h3,oe,vs,T,oT,ts,e1,⟨e2,e3⟩,e4,e5,hideAll_none _ h2,n,e6,e7,e8⟩
def j6(X:Cx)(E:XK):Prop:=∀(pins:List (Addr×Obj)) (σ:St) (H:Hp) (s:Shared) (a C t T:Addr) (dd:Option Addr),Inv X pins σ H s->jG s.heap a C t T X.env.locals->iw s.heap a dd->H a=none->H T=none->X.s₀.heap.get? a=none->X.s₀.heap.get? T=none->E (.ref C) dd H->X.xe (.ref a) s
theorem zw{M:Model}{A:Around}{E:Value->Shared->Prop}{s:Shared}{env:Env}{a C t T L:Addr}{Q:Unit->Shared->Prop}(hf:env.frame=some L)(x:jG s.heap a C t T L)(q:Q () s):wpAny M A (noteFrame (.ref a) env) Q E s:=by
 obtain⟨n,oe,vs,oT,ts,e1,e2,e3,e4,e5,e6,e7,e8⟩:=x;unfold noteFrame;rw[hf];refine wpAny_bind (wpAny_field e1 e4 e5 ?_);rw[if_pos (by rfl)];refine wpAny_bind (wpAny_field e6 e7 e8 ?_);rw[if_pos (by simp)];exact wpAny_pure q
section
variable {P:Program} {w:World} {K:aE} {mg:Str->Option Value} {base:Heap} {N:List Str} {qual:Str} {scope:Scope} {f:Addr} {cd:Value} {A:Around} {outer:List Env} {s₀:Shared} {H₀:Hp} {E:XK}
theorem gY:j6 (lj (cX P w) P w K mg base N qual scope f cd A outer s₀ H₀ E) E:=by
 intro pins σ H s a C t T dd I hx hdd hHa hHT h0a h0T hE
 let env:=envOfC qual scope s₀.heap.objs.size f cd
 have hf:env.frame=some s₀.heap.objs.size:=rfl;have hst:=I.stack
 let hid:=a::T::gQ (env::outer)
 have hin:∀v∈(env::outer),∀b,v.frame=some b->b∈hid:=λv hv b hb=>W9 _ (W9 _ (Yb.mpr ⟨v,hv,hb⟩))
 have held:(hideAll s.heap hid).HeldW (env::outer) a (.ref C) (.ref t) s₀.heap.objs.size s.heap:=hx.held hst W7 (W9 _ W7) hin;show wpAny _ _ (leaving env (.ref a)) _ _ _
 have lib:wpAny (model P w) (lj (cX P w) P w K mg base N qual scope f cd A outer s₀ H₀ E).A (leaving env (.ref a)) (λ_ s'=>∃h',s'={s with heap:=h'}/\(hideAll s.heap hid).FlyingW (env::outer) a (.ref C) (.ref t) h'/\s.heap.UpToSlots h') (λ_ _=>False) s:=by
  unfold leaving;refine wpAny_bind (zw hf hx ?_);exact wpAny_landsW held λh' x1 x2=>⟨h',rfl,x1,x2⟩
 refine Xa (fL (jc env (.ref a)) lib) (λ_ s' z=>?_) λ_ _ z=>z.elim
 obtain⟨⟨h2,rfl,k1,x4⟩,dk⟩:=z
 have fl:(hideAll s.heap hid).FlyingW outer a (.ref C) (.ref t) h2:=by
  obtain⟨y1,y2,y3,y4⟩:=k1;rw[Heap.FunFrames.eq_2]at y3;exact⟨y1,y2,y3.2.2,y4⟩
 have ni:∀b o,s₀.heap.get? b=some o->b∉gQ outer->b∉hid:=λb o q nb hb=>by
  rcases Xj.mp hb with z | hb
  ·rw[z]at q;have z:=h0a.symm.trans q;cases z
  rcases Xj.mp hb with z | z
  ·rw[z]at q;have z:=h0T.symm.trans q;cases z
  ·rcases (bh hf).mp z with z | z
   ·exact absurd (WT q) (by rw[z];exact Xm _)
   ·exact nb z
 refine⟨a,C,t,H,_,dd,rfl,I.os,I.bare,⟨λb o q n nb=>?_,λb o q nb=>?_,λb o q hb=>?_,λb o q n=>I.base.free b o q n (by intro z;cases z),I.base.tups,I.base.eA,I.base.tbls,λb u q=>?_,fl⟩,hdd.dk dk,hE⟩
 ·exact X0 _ (I.base.keep b o q n nb (by intro z;cases z)) (ni b o q nb)
 ·obtain⟨o',q'⟩:=I.base.there b o q (by intro z;cases z);exact⟨o',X0 _ q' (ni b o q nb)⟩
 ·obtain⟨sl,q'⟩:=I.base.slot b o q (I.ok.frf b hb) hb (by intro z;cases z);obtain⟨_,o',ho',hn⟩:=hst.mem ((bh hf).mpr (.inr hb));rw[q']at ho';have e1:=W0 ho';obtain⟨sl',q2⟩:=x4 b _ q' (by rw[e1];exact hn);exact⟨sl',q2⟩
 ·have nf:∀c v,H c=some v->c∉hid:=λc v q hb=>by
   rcases Xj.mp hb with z | hb
   ·rw[z,hHa]at q;cases q
   rcases Xj.mp hb with z | z
   ·rw[z,hHT]at q;cases q
   ·have:=I.kD c z;rw[this]at q;cases q
  refine(I.hok b u q).qA (λc v hc q'=>X0 _ q' ?_) (λ_ q'=>q') λ_ _ q'=>q'
  rcases hc with z | z
  ·rw[z];exact nf b u q
  ·exact nf c _ z
end
theorem uW{M:Model}{A:Around}{E:Value->Shared->Prop}{s:Shared}{env:Env}{a C t T L:Addr}{what:String}{Q:Value->Shared->Prop}(hf:env.frame=some L)(x:jG s.heap a C t T L)
  (q:∀h',(∀b,h'.get? b=s.heap.get? b)->E (.ref a) {s with heap:=h'}):wpAny M A (PySem.passOn what (.ref a) env:Sem Value) Q E s:=by
 obtain⟨n,oe,vs,oT,ts,e1,e2,e3,e4,e5,e6,e7,e8⟩:=x;unfold PySem.passOn;refine wpAny_bind (wpAny_field e1 e4 e5 ?_);rw[if_neg (by intro z;cases z)];unfold setFlight;refine wpAny_bind (wpAny_bind (wpAny_field e1 e4 e5 ?_));rw[if_pos (by rfl),hf]
 have hs:3 < ts.size:=by
  rcases Nat.lt_or_ge 3 ts.size with z | z
  ·exact z
  ·rw[Array.getElem?_eq_none z]at e8;cases e8
 refine wpAny_setField e6 e7 hs ?_;refine wpAny_throw (q _ λb=>?_);exact X1 (λh=>Heap.get? h b) (Heap.update_setField_same _ _ _ _ _ _ e6 e7 e8)
theorem jW.has{P:Program}{w:World}{H:Hp}{B:Heap}{a:Addr}(k:jW P w H B)(z:B.get? a=none):H a=none:=by
 cases q:H a with
 | none=>rfl
 | some u =>
  have e:∃o,B.get? a=some o:=by
   have ok:=k a u q
   cases u with
   | lst xs=>obtain⟨_,_,_,_,e⟩:=ok;exact⟨_,e⟩
   | tup xs=>obtain⟨_,_,_,o,e,_⟩:=ok;exact⟨_,e⟩
   | dK kvs=>obtain⟨_,_,_,_,o,_,_,e,_⟩:=ok;exact⟨_,e⟩
   | dT kvs=>obtain⟨_,_,_,_,o,_,_,e,_⟩:=ok;exact⟨_,e⟩
   | set S n=>obtain⟨o,_,_,_,e,_⟩:=ok;exact⟨_,e⟩
   | ins C dx fs=>obtain⟨_,_,_,e,_⟩:=ok;exact⟨_,e⟩
   | own y=>exact ok
   | xd fs=>obtain⟨_,⟨o,_,_,e,_⟩,_⟩:=ok;exact⟨_,e⟩
   | rng lo hi=>obtain⟨_,_,_,e⟩:=ok;exact⟨_,e⟩
   | kS ob u=>obtain⟨e,_⟩:=ok;exact⟨_,e⟩
   | tbl ps=>exact⟨_,ok⟩
   | met f y=>exact⟨_,ok⟩
   | ext φ=>obtain⟨_,e,_⟩:=ok;exact e
  obtain⟨o,e⟩:=e;rw[z]at e;cases e
theorem Hs.RU{P:Program}{w:World}{fs:List Env}{H H':Hp}{h0 B h h':Heap}{a:Addr}{cls a0:Value}(F:Hs P w fs H H' h0 B a cls a0 h)(st:B.StaysIn h')(u:h.UpToSlots h'):Un (gQ fs) [] H H' h0 h' where
 keep:=λb o e n hb _=>st b o (F.keep b o e n hb)
 slot:=λb o e _ hb _=>by
  obtain⟨sl,q⟩:=F.slot b o e hb;obtain⟨_,o',ho',hn⟩:=F.fly.2.2.1.mem hb;rw[q]at ho';have e1:=W0 ho';obtain⟨sl',q'⟩:=u b _ q (by rw[e1];exact hn);exact⟨sl',q'⟩
 free:=λb o e n _=>F.free b o e n
 there:=λb o e _=>by
  by_cases hb:b∈gQ fs
  ·obtain⟨sl,q⟩:=F.slot b o e hb;obtain⟨_,o',ho',hn⟩:=F.fly.2.2.1.mem hb;rw[q]at ho';have e1:=W0 ho';obtain⟨sl',q'⟩:=u b _ q (by rw[e1];exact hn);exact⟨_,q'⟩
  ·obtain⟨o',q⟩:=F.there b o e hb;exact⟨o',st b o' q⟩
 tups:=F.tups
 eA:=F.eA
 tbls:=F.tbls
section
variable {X:Cx} {pins:List (Addr×Obj)} {σ:St} {H:Hp} {s:Shared} {own:Nat} {N:List Str} {ix:List Nat} {scope:Scope} {E:XK}
theorem Bx{C:Addr}{fp:List Addr}{Q:Value->Shared->Prop}{acc:Value}{cl:List (Str×Addr)}(I:Inv X pins σ H s)(hx:∀b∈fp,kM X pins H b)(hst:X.stack=X.env::X.outer)(hf:X.env.frame=some X.env.locals)(hex:X.ex=[])(hp:j6 X E)
  (hL:C≠X.env.locals) (hsz:X.s₀.heap.objs.size<=C) (hce:∀x c,X.env.cells.lookup x=some c->c≠C) (hpi:∀p∈X.pn++pins,p.1≠C) (hnf:C∉gQ X.stack)
  {pinsb:List (Addr×Obj)} {σb:St} {Hb:Hp} {sb s1:Shared} {e:Value} (Ib:Inv (X.jO N scope C fp s H) pinsb σb Hb sb) (hc:cX X.prog X.w X.stack Hb sb E e s1) :
  notedBy (model X.prog X.w) X.A (compEnvC scope cl C X.env) (λx s'=>gH (model X.prog X.w) X.A X.xe Q acc (compEnvC scope cl C X.env) (.error x) s') e s1:=by
 obtain⟨a,Cc,t,H',B,dd,rfl,ho,hb,F,hdd,hE⟩:=hc;have hfr:X.A.frames=some (X.env::X.outer):=by rw[← hst];exact I.ok.frames
 rw[hst]at F;have hnf':C∉gQ (X.env::X.outer):=by rw[← hst];exact hnf
 unfold notedBy;show wpAny _ X.A (noteFrame (.ref a) X.env) _ _ s1;have lib:=wpAny_looks_onW (M:=model X.prog X.w) (A:=X.A) (E:=λx s'=>gH (model X.prog X.w) X.A X.xe Q acc (compEnvC scope cl C X.env) (.error x) s') (s:=s1) (Q:=λ_ s'=>∃h4,s'={s1 with heap:=h4}/\Heap.HeldW B (X.env::X.outer) a (.ref Cc) (.ref t) X.env.locals h4/\s1.heap.UpToSlots h4) hfr hf F.fly λh4 jH Jn=>⟨h4,rfl,jH,Jn⟩
 refine Xa (fL (sF (.ref a) X.env) lib) (λ_ s4 z4=>?_) λ_ _ z=>z
 obtain⟨⟨h4,rfl,jH,Jn⟩,Pp⟩:=z4;have Pq:iw h4 a dd:=hdd.dk Pp
 have Oz:Inv (X.jO N scope C fp s H) pinsb σb H' {s1 with heap:=h4}:=by
  refine Ib.xX (ch:=[]) ho ?_ (F.hok.kept jH.1) hb (λb z=>nomatch z);show Un (gQ X.stack) [] Hb H' sb.heap h4;rw[hst];exact F.RU jH.1 Jn
 have I4:Inv X pins σ H' {s1 with heap:=h4}:=I.xX (ch:=fp) Oz.os Oz.base Oz.hok Oz.bare λb hb=>⟨(hx b hb).2.2.2.1,(hx b hb).2.1,(hx b hb).2.2.2.2.1,(hx b hb).2.2.2.2.2⟩
 obtain⟨m,hm,_⟩:=Ib.loc;have hm:sb.heap.Ns C m:=hm;obtain⟨oC,es,ep,hgC,hdC,hr⟩:=hm;have hHC:Hb C=none:=Ib.free;have hBC:B.get? C=some oC:=F.keep C oC hgC hHC hnf';have Uk:h4.Ns C m:=⟨oC,es,ep,jH.1 C oC hBC,hdC,hr⟩;have hC':H' C=none:=F.free C oC hgC hHC;obtain⟨T,hX,hBT⟩:=jG.of jH;have hBa:B.get? a=none:=jH.2.1;have haC:a≠C:=λz=>by rw[z,hBC]at hBa;cases hBa
 have hTC:T≠C:=λz=>by rw[z,hBC]at hBT;cases hBT
 have MQ:∀b,B.get? b=none->b∉gQ (X.env::X.outer)->X.s₀.heap.get? b=none:=λb hB hn=>by
  cases e:X.s₀.heap.get? b with
  | none=>rfl
  | some o =>
   obtain⟨o1,e1⟩:=I.base.there b o e (by rw[hex];exact λz=>nomatch z)
   obtain⟨o2,e2⟩:=Ib.base.there b o1 e1 (λz=>by
    rcases (hx b z).2.2.2.1 with y | y
    ·rw[hex]at y;exact nomatch y
    ·exact absurd (WT e) (Nat.not_lt.mpr y))
   obtain⟨o3,e3⟩:=F.there b o2 e2 hn;rw[hB]at e3;cases e3
 have MR:∀b o vs,h4.get? b=some o->o.data=.fields vs->b∉gQ (X.env::X.outer):=λb o vs e1 e2 hm=>by
  obtain⟨_,o',ho',hn'⟩:=jH.2.2.1.mem hm;rw[e1]at ho';cases ho';exact hn' _ e2
 obtain⟨oe,vs,oT,ts,x1,x2,x3,x4,x5,x6,x7,x8⟩:=hX.ex;refine⟨m,Uk,λh' sb'=>?_⟩;have sb':Heap.SameBut C h4 h':=sb';have I5:Inv X pins σ H' {s1 with heap:=h'}:=I4.turned (t':=s1.toks) (λb o hb e=>(sb'.2 b hb).trans e) hC' hL (.inr hsz) hce hpi;have RV:jG h' a Cc t T X.env.locals:=hX.eq (sb'.2 a haC) (sb'.2 T hTC);refine uW (L:=X.env.locals) hf RV λh6 OA=>?_
 have I6:Inv X pins σ H' {s1 with heap:=h6}:=I5.kept (t':=s1.toks) λb o e=>(OA b).trans e
 obtain⟨od,gd,qd⟩:=Pq;exact hp pins σ H' _ a Cc t T dd I6 (RV.eq (OA a) (OA T)) ⟨od,(OA a).trans ((sb'.2 a haC).trans gd),qd⟩ F.new (jW.has F.hok hBT) (MQ a hBa (MR a oe vs x1 x4)) (MQ T hBT (MR T oT ts x6 x7)) hE
end
theorem sI{prog:Program}{w:World}{A:Around}{R:Result->Shared->Prop}{s:Shared}{elt target iter:Expr}{ifs:List Expr}{scope:Scope}{pos:Pos}{it acc:Value}{env:Env}(I:Nat->Shared->Prop)
  (turn:∀n s,I n s->wpAny (model prog w) A (pyNext it) (λr s1=>match r with
   | none=>R (.ok .next) s1
   | some v=>wpAny (model prog w) A (letOwnedTupleGo target it v) (λ_ s1'=>wpAny (model prog w) A (assign target env v) (λ_ s2 =>
     wpAny (model prog w) A (forIn ifs true λc r=>if r=true then do let ok ← isTrue c env (eval c env);pure (ForInStep.yield ok)else pure (ForInStep.yield r)) (λok s3 =>
      if ok=true then wpAny (model prog w) A (eval elt env) (λx s4=>wpAny (model prog w) A (call (.builtin "list.append") [acc,x]) (λ_ s5=>∃m,m < n/\I m s5) (notedBy (model prog w) A env λx s'=>R (.error x) s') s4) (notedBy (model prog w) A env λx s'=>R (.error x) s') s3
      else ∃m,m < n/\I m s3) (notedBy (model prog w) A env λx s'=>R (.error x) s') s2) (notedBy (model prog w) A env λx s'=>R (.error x) s') s1') (notedBy (model prog w) A env λx s'=>R (.error x) s') s1) (notedBy (model prog w) A env λx s'=>R (.error x) s') s)
  (n:Nat) (h:I n s):codeAny (model prog w) A (.compLoop (.ListComp elt [⟨target,iter,ifs,0⟩] scope pos) 0 it acc env) R s:=by
 refine codeAny_loop rfl I (λn s hI=>?_) n h;show wpAny _ A ((compTurn (.ListComp elt [⟨target,iter,ifs,0⟩] scope pos) 0 it acc env).onRaise (λx=>do noteFrame x env;theTreesLotGoes x)) _ _ s;refine wpAny_noted ?_;rw[compTurn_list];refine WS (Yo (WS (Xa (turn n s hI) (λr s1 h1=>?_) λ_ _ z=>z)))
 cases r with
 | none=>exact WX h1
 | some v =>
  refine WS (Xa h1 (λ_ s1' h1'=>?_) λ_ _ z=>z);refine WS (Xa h1' (λ_ s2 h2=>WS (Xa h2 (λok s3 h3=>?_) λ_ _ z=>z)) λ_ _ z=>z)
  cases ok with
  | false=>exact WX ⟨rfl,h3⟩
  | true=>exact WS (WS (Xa h3 (λx s4 h4=>WS (Xa h4 (λ_ s5 h5=>WX (WX ⟨rfl,h5⟩)) λ_ _ z=>z)) λ_ _ z=>z))
section
variable {X:Cx} {pins:List (Addr×Obj)} {σ:St} {H:Hp} {s:Shared} {own:Nat} {N:List Str} {ix:List Nat} {scope:Scope} {E:XK}
theorem By{elt tg iter:Expr}{ifs:List Expr}{pos:Pos}{g:TG}{tt:TT}{te:TE}{it:Addr}{fp:List Addr}{tn:Nat->Heap->Prop}{J:It}{Q:VK}{E':Value->Shared->Prop}{Qv:Value->Shared->Prop}(B:kT X own N ix scope)
  (hin:∀(C:Addr) (s:Shared) (H:Hp) (XE:Value->Shared->Prop),Passes (cX X.prog X.w) ((X.jO N scope C fp s H).en XE) E->PG ((X.jO N scope C fp s H).en XE) tg g/\Je ((X.jO N scope C fp s H).en XE) ifs tt/\PE ((X.jO N scope C fp s H).en XE) elt te)
  (hst:X.stack=X.env::X.outer) (hfm:X.env.frame=some X.env.locals) (hex:X.ex=[]) (hp:j6 X E)
  (I:Inv X pins σ H s) (T:Turn X.prog X.w X.K tg J fp it tn) (st:tn 0 s.heap) (hf:∀b∈fp,kM X pins H b)
  (h:∀D,H D=none->LU J own ix σ g tt te D H Q)
  (fin:∀(D:Addr) (H':Hp) (s':Shared),Inv X pins σ H' s'->Q (.ref D) H'->Qv (.ref D) s') :
  wpAny (model X.prog X.w) X.A (newList []) (λacc s3=>wpAny (model X.prog X.w) X.A (newFunctionEnv scope X.env.globals (ll X.env.cells scope.names []) [] X.env.qual none .none (some X.env)) (λcenv s4 =>
   codeAny (model X.prog X.w) X.A (.compStart (.ListComp elt [⟨tg,iter,ifs,0⟩] scope pos) 0 (.ref it) acc {cenv with scope:=relabel scope X.env}) (gH (model X.prog X.w) X.A X.xe Qv acc {cenv with scope:=relabel scope X.env}) s4) E' s3) E' s:=by
 obtain⟨W,⟨m0,w0⟩,turn⟩:=h s.heap.objs.size I.fresh;refine XX ?_;have I3:=I.IV (its:=[]) (ys:=[]) (t':=s.toks) .nil (XZ _)
 have hcell:∀y∈scope.names,y.2≠NameKind.cell:=λy hy e=>by
  have:=Yt.mp B.cell y hy;rw[e]at this;exact absurd this (by decide)
 refine wpAny_newFunctionEnv hcell (by intro y hy;simp at hy) (λh1 wH wI=>?_) B.kind;dsimp only at wH wI ⊢;generalize Jf:s.heap.push {cls:=.type "list",dict:=none,data:=.seq ([]:List Value).toArray}=h2 at wH wI ⊢
 have I3':Inv X pins σ (upd H s.heap.objs.size (.lst [])) {s with heap:=h2}:=by
  have z:({s with heap:=s.heap.push {cls:=.type "list",data:=.seq ([]:List Value).toArray},toks:=s.toks}:Shared)={s with heap:=h2}:=by rw[← Jf]
  rw[← z];exact I3
 have sz:h2.objs.size=s.heap.objs.size + 1:=by rw[← Jf,Yj]
 have Jg:∀b o,s.heap.get? b=some o->h2.get? b=some o:=λb o e=>by rw[← Jf];exact WW _ e
 have uO:∀b o,h2.get? b=some o->h1.get? b=some o:=λb o e=>wI.extBut b o (W5 (WT e)) (WW _ e)
 have there:∀b∈fp,b < s.heap.objs.size:=λb hb=>by obtain⟨o,e,_⟩:=T.obj _ _ st b hb;exact WT e
 have Hn:∀b∈fp,kM X pins (upd H s.heap.objs.size (.lst [])) b:=λb hb=>⟨by rw[uN (W5 (there b hb))];exact(hf b hb).1,(hf b hb).2⟩
 have ML:h1.Ns h2.objs.size (λ_=>none):=by simpa using wH
 have I4':=rB (tk:=s.toks + ([]:List (Str×Value)).length) (own:=own) (N:=N) (ix:=ix) B I3' rfl Hn (λb hb=>WV (there b hb) (by show s.heap.objs.size<=h2.objs.size;rw[sz];exact Yg _)) ML uO;have ur:tn 0 h1:=T.keep _ _ _ st λb _ o e=>uO b o (Jg b o e)
 have cL:h2.objs.size≠X.env.locals:=Xw I3'.lt;have cS:X.s₀.heap.objs.size<=h2.objs.size:=I3'.sz
 have cC:∀x c,X.env.cells.lookup x=some c->c≠h2.objs.size:=λx c e z=>by
  obtain⟨v,q⟩:=I3'.cell x c e;have:=q.lt;rw[z]at this;exact absurd this (Xm _)
 have cP:∀p∈X.pn++pins,p.1≠h2.objs.size:=λp hp z=>by
  have:=WT (I3'.pin p hp).1;rw[z]at this;exact absurd this (Xm _)
 have cF:h2.objs.size∉gQ X.stack:=λz=>by
  obtain⟨_,o,ho,_⟩:=I3'.stack.mem z;exact absurd (WT ho) (Xm _)
 let cenv:=compEnvC scope (ll X.env.cells scope.names []) h2.objs.size X.env
 let XE:Value->Shared->Prop:=notedBy (model X.prog X.w) X.A cenv λx s'=>gH (model X.prog X.w) X.A X.xe Qv (.ref s.heap.objs.size) cenv (.error x) s'
 let Xb:=(X.jO N scope h2.objs.size fp {s with heap:=h2} (upd H s.heap.objs.size (.lst []))).en XE
 have I4:Inv Xb [] (cQ own ix σ) (upd H s.heap.objs.size (.lst [])) {s with heap:=h1,toks:=s.toks + ([]:List (Str×Value)).length}:=I4'.en XE;have Bc:Xb.calm=true:=B.calm;have pas:Passes (cX X.prog X.w) Xb E:=λpb σb Hb sb e s1 Ib hc=>Bx (cl:=ll X.env.cells scope.names []) I3' Hn hst hfm hex hp cL cS cC cP cF Ib.e9 hc
 obtain⟨pg,pif,pe⟩:=hin h2.objs.size {s with heap:=h2} (upd H s.heap.objs.size (.lst [])) XE pas
 have fpb:∀{H':Hp},(∀b∈fp,H' b=none)->∀b∈fp,kM Xb [] H' b:=λhz b hb =>
  ⟨hz b hb,W5 (WV (there b hb) (by show s.heap.objs.size<=h2.objs.size;rw[sz];exact Yg _)),I4.ok.exfs b hb,.inl hb,λx c e=>(I4.ok.exf b hb).2 x c e,(λp hp=>nomatch hp)⟩
 have loop:∀s3:Shared,s3={s with heap:=h1,toks:=s.toks + ([]:List (Str×Value)).length} ->
   codeAny (model X.prog X.w) X.A (.compLoop (.ListComp elt [⟨tg,iter,ifs,0⟩] scope pos) 0 (.ref it) (.ref s.heap.objs.size) cenv) (gH (model X.prog X.w) X.A X.xe Qv (.ref s.heap.objs.size) cenv) s3:=by
  rintro s3 rfl;refine sI (λn s'=>∃i ys H',Inv Xb [] (cQ own ix σ) H' s'/\tn i s'.heap/\(∀b∈fp,H' b=none)/\W i n ys H') ?_ m0
   ⟨0,[],_,I4,ur,λb hb=>(Hn b hb).1,w0⟩
  rintro n s5 ⟨i,ys,H5,I5,v9,IF,w5⟩;obtain⟨hD,t5⟩:=turn i n ys H5 w5;rcases t5 with⟨stop,qn⟩ | ⟨go,hz,Nx,hNx,step⟩
  ·refine bD (T.done Xb rfl rfl rfl Bc i [] s5 _ H5 XE I5 (fpb IF) v9 stop) λr s6 ⟨hr,I6⟩=>?_
   subst hr;obtain⟨m,hm,_⟩:=I6.loc;have I6':=ym I3' Hn I6.e9;exact⟨m,hm,λh' sb=>fin _ H5 _ (I6'.turned (t':=s6.toks) (λb o hb e=>(sb.2 b hb).trans e) I6.free cL (.inr cS) cC cP) qn⟩
  ·refine bD (T.item Xb rfl rfl rfl Bc i [] s5 _ H5 XE I5 (fpb IF) v9 go) λr s6 ⟨u,hr,h6⟩=>?_
   subst hr;refine bD h6 λ_ s7 ⟨x,H7,I7,r7,y7,Jh,Pe⟩=>?_
   have I7':=I7.pinned (fpb Pe) (T.obj _ _ Jh);refine bD (pg _ s7 _ H7 x u _ I7' r7 (step x H7 y7)) λ_ s8 ⟨σ8,H8,I8,Pf,q8⟩=>?_
   refine bD (pif _ s8 σ8 H8 _ I8 q8) λb s9 ⟨H9,I9,q9⟩=>?_
   have again:∀{ys':List V} {H':Hp} {s':Shared},Inv Xb ([]++mT fp s7.heap) σ8 H' s'->Nx ys' H' ->
     ∃m,m < n/\∃i ys H',Inv Xb [] (cQ own ix σ) H' s'/\tn i s'.heap/\(∀b∈fp,H' b=none)/\W i m ys H':=by
    intro ys' H' s' I' w';obtain⟨m',hm,w'⟩:=hNx _ _ w';refine⟨m',hm,i + 1,ys',H',(I'.jX).weak ?_ (pj Pf),T.keep _ _ _ Jh λb hb o e=>(I'.pin (b,o) (Xd _ (Xd _ (fe hb e)))).1,λb hb=>?_,w'⟩
    ·rw[I'.len,← I4.len]
    ·obtain⟨o,e,d⟩:=T.obj _ _ Jh b hb;exact(I'.pin (b,o) (Xd _ (Xd _ (fe hb e)))).2.1
   cases b with
   | true =>
    simp only[if_true]at q9 ⊢;refine bD (pe _ s9 σ8 H9 _ I9 q9) λv LV ⟨y,LW,Pg,LX,Ji,Ph⟩=>?_
    refine bD (fh _ LV σ8 LW (.ref _) [y] (.ref _) [v] (λ_ H'=>Nx (ys++[y]) H') Pg rfl (.cons LX .nil) ⟨_,ys,y,rfl,rfl,Ji,hz,Ph⟩) λ_ LY ⟨_,RN,Pj,_,Pk⟩=>?_
    exact again Pj Pk
   | false =>
    simp only[Bool.false_eq_true,if_false]at q9 ⊢;exact again I9 q9
 exact Y8 (loop _ rfl) (T.self _ 0 _ _ _ ur (loop _ rfl))
theorem Jo{elt tg iter:Expr}{ifs:List Expr}{pos:Pos}{wi:TI}{g:TG}{tt:TT}{te:TE}(own:Nat)(N:List Str)(ix:List Nat)(B:kT X own N ix scope)(hi:PI X tg iter wi)
  (hin:∀(C:Addr) (fp:List Addr) (s:Shared) (H:Hp) (XE:Value->Shared->Prop),Passes (cX X.prog X.w) ((X.jO N scope C fp s H).en XE) E->PG ((X.jO N scope C fp s H).en XE) tg g/\Je ((X.jO N scope C fp s H).en XE) ifs tt/\PE ((X.jO N scope C fp s H).en XE) elt te)
  (hp:j6 X E) (hst:X.stack=X.env::X.outer:=by rfl) (hfm:X.env.frame=some X.env.locals:=by rfl) (hex:X.ex=[]:=by rfl)
  (hs:∀x,foldedSetIterable iter X.env x=pure x:=by intro _;rfl):PE X (.ListComp elt [⟨tg,iter,ifs,0⟩] scope pos) (MK own ix wi g tt te):=by
 intro pins s σ H Q I h
 have hnames:∀y∈scope.names,y.2=NameKind.local->scope.names.lookup y.1=some .local:=λy hy e=>by
  have:=List.all_eq_true.mp B.loc y hy;rw[e]at this;simpa using this
 rw[eval_ListComp];refine zv rfl hs (iu λy hy e=>(B.has I y hy e).2) B.kind hnames (bD (hi pins s σ H _ I h) λv s1 h1=>bD h1 λitv s2 h2=>?_);obtain⟨it,fp,tn,J,H2,e,I2,T,bO,f2,rd⟩:=h2;subst e;exact By (Q:=Q) B (λC s H=>hin C fp s H) hst hfm hex hp I2 T bO f2 rd λD H' s' I' q=>⟨.ref D,H',I',rfl,q⟩
end
section
variable {κ:Type} [DecidableEq κ]
def gJ(kvs:List (κ×V))(k:κ):Option V:=(kvs.find? λkv=>decide (kv.1=k)).map (·.2)
def putK(kvs:List (κ×V))(k:κ)(v:V):List (κ×V) :=
 if (kvs.any λkv=>decide (kv.1=k))=true then kvs.map (λkv=>if kv.1=k then(kv.1,v)else kv)else kvs++[(k,v)]
theorem cA{p:κ×V}{r:List (κ×V)}{k:κ}(e:p.1=k):gJ (p::r) k=some p.2:=by simp[gJ,List.find?_cons,e]
theorem cB{p:κ×V}{r:List (κ×V)}{k:κ}(e:¬ p.1=k):gJ (p::r) k=gJ r k:=by simp[gJ,List.find?_cons,e]
theorem lU(k:κ):∀kvs:List (κ×V),(kvs.any λkv=>decide (kv.1=k))=(gJ kvs k).isSome
 | []=>rfl
 | p::r=>by
  rw[Zg];by_cases e:p.1=k
  ·simp only[cA e,decide_eq_true e,Bool.true_or,Option.isSome_some]
  ·rw[cB e,XA e,Bool.false_or];exact lU k r
theorem uX(k j:κ)(y:V):∀kvs:List (κ×V),gJ (kvs.map λkv=>if kv.1=k then(kv.1,y)else kv) j=(gJ kvs j).map λx=>if j=k then y else x
 | []=>rfl
 | p::r=>by
  have ih:=uX k j y r;rw[XW];by_cases h:p.1=k
  ·rw[W4 h];by_cases e:p.1=j
   ·rw[cA (p:=(p.1,y)) e,cA e,Yz,W4 (e.symm.trans h)]
   ·rw[cB (p:=(p.1,y)) e,cB e,ih]
  ·rw[W2 h];by_cases e:p.1=j
   ·rw[cA (p:=p) e,cA e,Yz,W2 (λz=>h (e.trans z))]
   ·rw[cB (p:=p) e,cB e,ih]
theorem rG(k j:κ)(y:V):∀kvs:List (κ×V),gJ kvs k=none->gJ (kvs++[(k,y)]) j=if j=k then some y else gJ kvs j
 | [],_=>by
  by_cases e:k=j
  ·rw[W4 e.symm];exact cA (p:=(k,y)) e
  ·rw[W2 (λz=>e z.symm)];exact cB (p:=(k,y)) e
 | p::r,hn=>by
  rw[List.cons_append];have hk:¬ p.1=k:=λz=>by rw[cA z]at hn;cases hn
  rw[cB hk]at hn;have ih:=rG k j y r hn;by_cases e:p.1=j
  ·rw[cA e,cA e,W2 (λz=>hk (e.trans z))]
  ·rw[cB e,cB e,ih]
theorem Bz(kvs:List (κ×V))(k j:κ)(y:V):gJ (putK kvs k y) j=if j=k then some y else gJ kvs j:=by
 unfold putK;by_cases a:(kvs.any λkv=>decide (kv.1=k))=true
 ·rw[W4 a,uX];rw[lU]at a;by_cases e:j=k
  ·obtain⟨x,hx⟩:=YJ.mp a;rw[W4 e,e,hx,Yz,W4 rfl]
  ·rw[W2 e]
   cases gJ kvs j with
   | none=>rfl
   | some x=>rw[Yz,W2 e]
 ·rw[W2 a];refine rG k j y kvs ?_;rw[lU]at a
  cases q:gJ kvs k with
  | none=>rfl
  | some x=>rw[q]at a;exact(a rfl).elim
theorem nW(kvs:List (κ×V))(k:κ)(v:V):(putK kvs k v).length<=kvs.length + 1:=by
 unfold putK;split
 ·rw[WY];omega
 ·rw[Xr,Xi,List.length_nil];omega
theorem iL.zx{o:Option V}{u:Option Value}(r:iL o u):o.isSome=u.isSome:=by
 cases o with
 | none=>cases u with
  | none=>rfl
  | some _=>exact(show False from r).elim
 | some _=>cases u with
  | none=>exact(show False from r).elim
  | some _=>rfl
theorem KV.val{kvs:List (κ×V)}{vs:List (κ×Value)}(r:KV kvs vs)(k:κ):iL (gJ kvs k) (valueAt vs k):=by
 unfold KV at r
 induction r with
 | nil=>exact XB
 | @cons p q ps qs h t ih =>
  obtain⟨h1,h2⟩:=h;by_cases e:p.1=k
  ·have e':q.1=k:=h1.symm.trans e;have b:valueAt (q::qs) k=some q.2:=by simp[valueAt,List.find?_cons,e']
   rw[cA e,b];exact h2
  ·have e':¬ q.1=k:=λz=>e (h1.trans z)
   have b:valueAt (q::qs) k=valueAt qs k:=by simp[valueAt,List.find?_cons,e']
   rw[cB e,b];exact ih
theorem KV.any{kvs:List (κ×V)}{vs:List (κ×Value)}(r:KV kvs vs)(k:κ):(kvs.any λkv=>decide (kv.1=k))=vs.any λkv=>decide (kv.1=k):=by
 unfold KV at r
 induction r with
 | nil=>rfl
 | cons h t ih=>rw[Zg,Zg,ih,h.1]
theorem KV.Jp{kvs:List (κ×V)}{vs:List (κ×Value)}(r:KV kvs vs)(k:κ){y:V}{u:Value}(ry:RelV y u):
  KV (kvs.map λkv=>if kv.1=k then(kv.1,y)else kv) (vs.map λkv=>if kv.1=k then(kv.1,u)else kv):=by
 unfold KV at r ⊢
 induction r with
 | nil=>exact .nil
 | @cons p q ps qs h t ih =>
  rw[XW,XW];refine .cons ?_ ih;obtain⟨h1,h2⟩:=h;by_cases e:p.1=k
  ·rw[W4 e,W4 (h1.symm.trans e)];exact⟨h1,ry⟩
  ·rw[W2 e,W2 (λz=>e (h1.trans z))];exact⟨h1,h2⟩
theorem KV.put{kvs:List (κ×V)}{vs:List (κ×Value)}(r:KV kvs vs)(k:κ){y:V}{u:Value}(ry:RelV y u):KV (putK kvs k y) (stored vs k u):=by
 unfold putK stored;rw[r.any k];by_cases e:(vs.any λkv=>decide (kv.1=k))=true
 ·rw[W4 e,W4 e];exact r.Jp k ry
 ·rw[W2 e,W2 e];exact Paired.snoc r ⟨rfl,ry⟩
theorem KV.length{kvs:List (κ×V)}{vs:List (κ×Value)}(r:KV kvs vs):kvs.length=vs.length:=Zf r
end
theorem BA{P:Program}{w:World}{k:Key}{u:Value}(r:RelV (kV k) u):(ck P w).is k u=true:=by
 cases k with
 | inl i=>obtain⟨t,e⟩:=(show ∃t,u=Value.int i t from r);subst e;exact uy P w i t
 | inr x=>obtain⟨t,e⟩:=(show ∃t,u=Value.str x t from r);subst e;exact nT P w x t
theorem rH{P:Program}{w:World}:∀{ks:List Key} {us:List Value},Vals (ks.map kV) us->ItemsAre (ck P w) ks us
 | [],_,r=>by rw[List.map_nil]at r;cases r;exact .nil
 | k::ks,_,r=>by
  rw[XW]at r
  cases r with
  | cons h t=>exact .cons (BA h) (rH t)
abbrev KT(H:Hp):List (List Key×V)->List (List Key×Addr×Value)->Prop:=Paired λp q=>p.1=q.1/\H q.2.1=some (.tup (p.1.map kV))/\RelV p.2 q.2.2
theorem KT.val{H:Hp}{kvs:List (List Key×V)}{xs:List (List Key×Addr×Value)}(r:KT H kvs xs)(k:List Key):iL (gJ kvs k) ((atKey xs k).map (·.2)):=by
 induction r with
 | nil=>exact XB
 | @cons p q ps qs h t ih =>
  obtain⟨h1,_,h2⟩:=h;by_cases e:p.1=k
  ·have e':q.1=k:=h1.symm.trans e;have b:atKey (q::qs) k=some q.2:=by simp[atKey,List.find?_cons,e']
   rw[cA e,b];exact h2
  ·have e':¬ q.1=k:=λz=>e (h1.trans z)
   have b:atKey (q::qs) k=atKey qs k:=by simp[atKey,List.find?_cons,e']
   rw[cB e,b];exact ih
theorem KT.Jp{H:Hp}{kvs:List (List Key×V)}{xs:List (List Key×Addr×Value)}(r:KT H kvs xs)(k:List Key){y:V}{u:Value}(ry:RelV y u):
  KT H (kvs.map λkv=>if kv.1=k then(kv.1,y)else kv) (xs.map (putAt k u)):=by
 induction r with
 | nil=>exact .nil
 | @cons p q ps qs h t ih =>
  rw[List.map_cons,List.map_cons];refine .cons ?_ ih;obtain⟨h1,h2,h3⟩:=h;unfold putAt;by_cases e:p.1=k
  ·rw[W4 e,W4 (h1.symm.trans e)];exact⟨h1,h2,ry⟩
  ·rw[W2 e,W2 (λz=>e (h1.trans z))];exact⟨h1,h2,h3⟩
theorem KT.put{H:Hp}{kvs:List (List Key×V)}{xs:List (List Key×Addr×Value)}(r:KT H kvs xs)(k:List Key){b:Addr}{y:V}{u:Value}(hb:H b=some (.tup (k.map kV)))(ry:RelV y u):
  KT H (putK kvs k y) (storedH xs k b u):=by
 have e:(kvs.any λkv=>decide (kv.1=k))=(atKey xs k).isSome:=by
  rw[lU,(r.val k).zx,Option.isSome_map]
 unfold putK storedH;rw[e];by_cases q:(atKey xs k).isSome=true
 ·rw[W4 q,W4 q];exact r.Jp k ry
 ·rw[W2 q,W2 q];exact Paired.snoc r ⟨rfl,hb,ry⟩
theorem KT.keeps{H H':Hp}{kvs:List (List Key×V)}{xs:List (List Key×Addr×Value)}(r:KT H kvs xs)(ht:∀b ys,H b=some (.tup ys)->H' b=some (.tup ys)):KT H' kvs xs :=
 Paired.Iu r λ_ _ z=>⟨z.1,ht _ _ z.2.1,z.2.2⟩
section
variable {P:Program} {w:World} {H:Hp} {h:Heap} {a:Addr}
theorem Hw{u:HO}(ok:jW P w H h)(e:Rd H a u):dn P w H h a u:=e.ok ok
theorem BB{kvs:List (Key×V)}(ok:jW P w H h)(e:Rd H a (.dK kvs)):kvs.length<=sizeLine/\(a == sysModules)=false/\∃vs,KV kvs vs/\h.DictOf (ck P w) a vs :=
 show dn P w H h a (.dK kvs)from Hw ok e
theorem MS{kvs:List (Key×V)}(ok:jW P w H h)(e:H a=some (.dK kvs)):kvs.length<=sizeLine/\(a == sysModules)=false/\∃vs,KV kvs vs/\h.DictOf (ck P w) a vs:=BB ok (.inl e)
theorem wU{ks:List Key}(ok:jW P w H h)(e:H a=some (.tup (ks.map kV))):(tupleKind (ck P w)).is h ks a:=by
 obtain⟨_,its,r,o,h1,h2,n,h3⟩:=(show dn P w H h a (.tup (ks.map kV))from ok a _ e);exact⟨o,its.toArray,n,h1,h2,h3,by simpa using rH r⟩
theorem BC{kvs:List (List Key×V)}(ok:jW P w H h)(e:Rd H a (.dT kvs)):kvs.length<=sizeLine/\(a == sysModules)=false /\
  ∃xs,KT H kvs xs/\h.DictOfH (tupleKind (ck P w)) a xs:=by
 obtain⟨z,y,xs,r,o,es,ep,h1,h2,h3,h4,h5⟩:=(show dn P w H h a (.dT kvs)from Hw ok e);refine⟨z,y,xs,r,o,es,ep,h1,h2,h3,h4,λx hx=>?_,h5⟩
 have all:∀{l:List (List Key×V)} {m:List (List Key×Addr×Value)},KT H l m->∀x∈m,(tupleKind (ck P w)).is h x.1 x.2.1:=by
  intro l m q
  induction q with
  | nil=>intro x hx;exact nomatch hx
  | @cons p q ps qs hq t ih =>
   intro x hx;rcases Xj.mp hx with e | hx
   ·subst e;exact wU ok (by rw[← hq.1];exact hq.2.1)
   ·exact ih x hx
 exact all r x hx
theorem MT{kvs:List (List Key×V)}(ok:jW P w H h)(e:H a=some (.dT kvs)):kvs.length<=sizeLine/\(a == sysModules)=false /\
  ∃xs,KT H kvs xs/\h.DictOfH (tupleKind (ck P w)) a xs:=BC ok (.inl e)
end
def zy(H:Hp)(a:Addr)(y:V)(r:Option V):Prop :=
 (∃kvs k,Rd H a (.dK kvs)/\y=kV k/\r=gJ kvs k)∨∃kvs k b,Rd H a (.dT kvs)/\y=.ref b/\H b=some (.tup (k.map kV))/\r=gJ kvs k
def zz(H:Hp)(a:Addr)(y v:V)(H':Hp):Prop :=
 (∃kvs k,H a=some (.dK kvs)/\y=kV k/\kvs.length < sizeLine/\H'=upd H a (.dK (putK kvs k v))) ∨
 ∃kvs k b,H a=some (.dT kvs)/\y=.ref b/\H b=some (.tup (k.map kV))/\kvs.length < sizeLine/\H'=upd H a (.dT (putK kvs k v))
theorem zy.k{H:Hp}{a:Addr}{kvs:List (Key×V)}{k:Key}(e:H a=some (.dK kvs)):zy H a (kV k) (gJ kvs k):=.inl ⟨kvs,k,.inl e,rfl,rfl⟩
theorem zz.k{H:Hp}{a:Addr}{kvs:List (Key×V)}{k:Key}{v:V}(e:H a=some (.dK kvs))(hl:kvs.length < sizeLine):zz H a (kV k) v (upd H a (.dK (putK kvs k v))):=.inl ⟨kvs,k,e,rfl,hl,rfl⟩
section
variable {X:Cx} {pins:List (Addr×Obj)} {σ:St} {H:Hp} {s:Shared} {a:Addr} {y v:V} {u r:Value} {o:Option V} {A:Around} {E:Value->Shared->Prop}
theorem zA{Q:Value->Shared->Prop}(hu:A.units + 1 < cLine)(I:Inv X pins σ H s)(g:zy H a y (some v))(ry:RelV y u)(h:∀w' s',Inv X pins σ H s'->RelV v w'->Q w' s'):
  wpAny (model X.prog X.w) A (getItem (.ref a) u) Q E s:=by
 rcases g with⟨kvs,k,e,ey,l⟩ | ⟨kvs,k,b,e,ey,eb,l⟩
 ·subst ey;obtain⟨z,hd,vs,rel,dd⟩:=BB I.hok e;obtain⟨w',hw,rw'⟩:=iL.some_of (v:=v) (o:=valueAt vs k) (by rw[l];exact rel.val k);exact wpAny_getItem_of (BA ry) dd.mapOf hw (h w' _ (I.tok _) rw')
 ·subst ey;cases (show u=Value.ref b from ry);obtain⟨z,hd,xs,rel,dd⟩:=BC I.hok e;obtain⟨w',hw,rw'⟩:=iL.some_of (v:=v) (o:=(atKey xs k).map (·.2)) (by rw[l];exact rel.val k);obtain⟨p,hp,LZ⟩:=Option.map_eq_some_iff.mp hw;refine wpAny_getItem_heap (tupleKind_room_in1 hu) (wU I.hok eb) dd hp ?_;rw[LZ];exact h w' _ (I.tok _) rw'
theorem yr{h':Heap}{t':Nat}{ob:HO}(I:Inv X pins σ H s)(mu:Mh (H a))(hs:Heap.SameBut a s.heap h')(he:∃q,h'.get? a=some q)(new:dn X.prog X.w (upd H a ob) h' a ob):
  Inv X pins σ (upd H a ob) {s with heap:=h',toks:=t'} :=
 I.write (x:=a) (e:=a) mu (.inl rfl) (λb q hb z=>(hs.2 b hb).trans z) he new
theorem Jq{P:Program}{w:World}{H':Hp}{h':Heap}{kvs:List (Key×V)}{vs:List (Key×Value)}(z:kvs.length<=sizeLine)(hd:(a == sysModules)=false)(rel:KV kvs vs)(dd:h'.DictOf (ck P w) a vs):
  dn P w H' h' a (.dK kvs):=⟨z,hd,vs,rel,dd⟩
theorem zB{H':Hp}{Q:Unit->Shared->Prop}(hu:A.units + 1 < cLine)(I:Inv X pins σ H s)(g:zz H a y v H')(ry:RelV y u)(rv:RelV v r)(h:∀s',Inv X pins σ H' s'->Q () s'):
  wpAny (model X.prog X.w) A (setItem (.ref a) u r) Q E s:=by
 rcases g with⟨kvs,k,e,ey,l,eH⟩ | ⟨kvs,k,b,e,ey,eb,l,eH⟩
 ·subst ey eH;obtain⟨z,hd,vs,rel,dd⟩:=MS I.hok e;have hz:vs.length<=sizeLine:=by rw[← rel.length];exact z
  have hl:(putK kvs k v).length<=sizeLine:=by have:=nW kvs k v;omega
  refine wpAny_setItem_pairs (hsz:=hz) (BA ry) dd λh' dd' hs=>h _ ?_
  have he:∃q,h'.get? a=some q:=let ⟨q,_,_,hq,_⟩:=dd';⟨q,hq⟩
  exact yr I (by rw[e];exact XB) hs he (Jq hl hd (rel.put k rv) dd')
 ·subst ey eH;cases (show u=Value.ref b from ry);obtain⟨z,hd,xs,rel,dd⟩:=MT I.hok e;have hz:xs.length<=sizeLine:=by rw[← Zf rel];exact z
  have hl:(putK kvs k v).length<=sizeLine:=by have:=nW kvs k v;omega
  refine wpAny_setItem_heap (hsz:=hz) (tupleKind_room_in1 hu) (wU I.hok eb) dd λh' dd' hs=>h _ ?_
  obtain⟨q,es,ep,hq,h2,h3,h4,_,h5⟩:=dd';refine yr I (by rw[e];exact XB) hs ⟨q,hq⟩ ⟨hl,hd,_,(rel.put k eb rv).keeps λc ys ec=>?_,q,es,ep,hq,h2,h3,h4,h5⟩;rw[uN (cz ec e (λz=>nomatch z))];exact ec
end
section
variable {X:Cx} {pins:List (Addr×Obj)} {σ:St} {H:Hp} {s:Shared} {a:Addr} {kvs:List (Key×V)} {k:Key} {u:Value} {A:Around} {E:Value->Shared->Prop}
end
def MU(i:Expr):Prop:=∀ov iv,subscripted i false ov iv=operate [ov,iv] (getItem ov iv)
theorem EF{prog:Program}{w:World}{A:Around}{E:Value->Shared->Prop}{s:Shared}{env:Env}{value slice:Expr}{pos:Pos}{T id:String}{Q:Value->Shared->Prop}
  (hl:typeLookup (.type T) "__getitem__"=pure (some (.builtin id))) (hs:MU slice)
  (h:wpAny (model prog w) A (eval value env) (λo s₁=>wpAny (model prog w) A (eval slice env) (λi s₂=>s₂.TypeIs o T/\wpAny (model prog w) A (getItem o i) Q E s₂) E s₁) E s) :
  wpAny (model prog w) A (eval (.Subscript value slice pos) env) Q E s:=by
 refine Subscript_ (wpAny_mono h (λo s₁ h₁=>wpAny_mono h₁ (λi s₂ h₂=>?_) λ_ _ x=>x) λ_ _ x=>x);obtain⟨hT,h₂⟩:=h₂;unfold subscriptTail;refine wpAny_bind ?_;rw[getitemInPython_of_ne hT.not_modules];refine wpAny_bind (wpAny_specialOf hT hl ?_)
 have fin:wpAny (model prog w) A (subscripted slice false o i) (λr s₃=>wpAny (model prog w) A (letTemporaryGo value o r >>= λ_=>pure r) Q E s₃) E s₂:=by
  rw[hs o i];exact wpAny_operating (Xa h₂ (λr s₃ h₃=>WS (wpAny_letTemporaryGo (WX h₃))) λ_ _ x=>x)
 first
  | exact WX (WS fin)
  | exact WS (WX (WS fin))
  | exact WS fin
theorem uY{X:Cx}{pins:List (Addr×Obj)}{σ:St}{H:Hp}{s:Shared}{a:Addr}{y:V}{o:Option V}(I:Inv X pins σ H s)(g:zy H a y o):s.TypeIs (.ref a) "dict":=by
 rcases g with⟨kvs,k,e,_,_⟩ | ⟨kvs,k,b,e,_,_,_⟩
 ·obtain⟨_,_,vs,_,dd⟩:=BB I.hok e;exact dd.typeIs
 ·obtain⟨_,_,xs,_,dd⟩:=BC I.hok e;exact dd.typeIs
def MV(td ty:TE):TE:=λσ H Q=>td σ H λx H1=>ty σ H1 λy H2=>∃a v,x=.ref a/\zy H2 a y (some v)/\Q v H2
def MW(td ty tv:TE):TS:=λD σ H=>tv σ H λv H1=>td σ H1 λx H2=>ty σ H2 λy H3=>∃a H4,x=.ref a/\zz H3 a y v H4/\D.nx σ H4
section
variable {X:Cx} {o i e value:Expr} {pos pos' tpos:Pos} {td ty tv:TE}
theorem EG(hu:X.A.units + 1 < cLine)(ho:PE X o td)(hi:PE X i ty)(hs:MU i):PE X (.Subscript o i pos) (MV td ty):=by
 intro pins s σ H Q I h;refine EF PySem.F.slot_dict_getitem.lookup hs (bD (ho pins s σ H _ I h) λu s1 ⟨x,H1,I1,rx,q1⟩=>bD (hi pins s1 σ H1 _ I1 q1) λiv s2 ⟨y,H2,I2,ry,a,v,ex,g,q2⟩=>?_);subst ex;obtain rfl:u=Value.ref a:=rx;exact⟨uY I2 g,zA hu I2 g ry λw' s3 I3 rw'=>⟨v,H2,I3,rw',q2⟩⟩
theorem sJ(hu:X.A.units + 1 < cLine)(ho:PE X o td)(hi:PE X i ty)(hv:PE X value tv)(hs:swapsWith value (some (.Subscript o i pos')) pos.line X.env=pure false):
  PS X (.Assign [.Subscript o i pos'] value pos) (MW td ty tv):=by
 intro pins s σ H D I h;refine wpAny_Assign_Subscript (bD (hv pins s σ H _ I h) λr s1 ⟨v,H1,I1,rv,q1⟩=>bD (ho pins s1 σ H1 _ I1 q1) λu s2 ⟨x,H2,I2,rx,q2⟩=>bD (hi pins s2 σ H2 _ I2 q2) λiv s3 ⟨y,H3,I3,ry,a,H4,ex,g,q3⟩=>?_) hs;subst ex;obtain rfl:u=Value.ref a:=rx;exact zB hu I3 g ry rv λs4 I4=>⟨σ,H4,I4,q3⟩
end
section
variable {X:Cx} {pos:Pos}
end
structure c8(P:Program)(w:World)(K:aE)(mg:Str->Option Value)(base:Heap)(CX:uq)(C:Addr)(m:Str)(k:Nat)(ps:List Str)(sp:Sp):Prop where
 ex:∃(f:Addr) (fd:FuncData),bw P w K mg base CX k f fd ps sp/\Binds K fd ps []/\Meth K C m f
 cl:yd K C
structure BD(P:Program)(w:World)(K:aE)(mg:Str->Option Value)(base:Heap)(CX:uq)(C:Addr)(x:Str)(k:Nat)(ps:List Str)(sp:Sp):Prop where
 ex:∃(f:Addr) (fd:FuncData),bw P w K mg base CX k f fd ps sp/\Binds K fd ps []/\Mk K C f/\mg x=some (.ref C)
section
variable {X:Cx} {x m:Str} {k:Nat} {ps:List Str} {sp:Sp} {o e:Expr} {es:List Expr} {ta:TE} {t:TA} {p pos apos:Pos} {C:Addr} {CX:uq} {E:XK} {pl:Sem Bool}
theorem c6(he:PE X o ta)(h:c8 X.prog X.w X.K X.mg X.base CX C m k ps sp)(hx:Passes CX X E)(hr:cm k X.A)(ha:PA X (e::es) t)
  (hst:starEach (e::es) X.env=(false,eval e X.env)::starEach es X.env:=by rfl) (hpl:(backTo pos (starEach es X.env)).any (·.1)=false:=by rfl)
  (ht:eval (.Call (.Attribute o m apos) (e::es) [] pos) X.env=(do
   let ov ← eval o X.env
   standAt apos.atName
   let (f,first) ← holding [ov] (getMethod ov m pl)
   callWith pos f first (backTo pos (starEach (e::es) X.env)) (backToKw pos (keywordEach [] X.env))):=by rfl) :
  PE X (.Call (.Attribute o m apos) (e::es) [] pos) (rb C m sp [] E ta t):=by
 obtain⟨f,fd,F,b,M⟩:=h.ex;exact Eh he h.cl M F hr b .nil hx ha hst hpl ht
theorem BE(he:PE X o ta)(h:c8 X.prog X.w X.K X.mg X.base CX C m k ps sp)(hx:Passes CX X E)(hr:cm k X.A)
  (ht:eval (.Call (.Attribute o m apos) [] [] pos) X.env=(do
   let ov ← eval o X.env
   standAt apos.atName
   let (f,first) ← holding [ov] (getMethod ov m pl)
   callWith pos f first (backTo pos (starEach [] X.env)) (backToKw pos (keywordEach [] X.env))):=by rfl) :
  PE X (.Call (.Attribute o m apos) [] [] pos) (rb C m sp [] E ta sk):=by
 obtain⟨f,fd,F,b,M⟩:=h.ex;exact A9 he h.cl M F hr b .nil hx ht
theorem Hy(h:BD X.prog X.w X.K X.mg X.base CX C x k ps sp)(hx:Passes CX X E)(hr:cm (k + 1) X.A)(hg:Gl X x)(ha:PA X (e::es) t)(hdb:(x == ("__debug__" : Str))=false:=by decide)
  (he:starEach (e::es) X.env=(false,eval e X.env)::starEach es X.env:=by rfl) (hpl:(backTo pos (starEach es X.env)).any (·.1)=false:=by rfl) :
  PE X (.Call (.Name x p) (e::es) [] pos) (Hk C sp [] E t):=by
 obtain⟨f,fd,F,b,M,m⟩:=h.ex;exact Ei M F hr hg m b .nil hx ha hdb he hpl
end
def pC(P:Addr->Prop)(H HX:Hp):Prop:=∀c o,¬ P c->H c=some o->HX c=some o
open Classical in
noncomputable def cutH (P:Addr->Prop) (H:Hp):Hp:=λc=>if P c then none else H c
theorem dR{P:Addr->Prop}{H:Hp}{c:Addr}{o:HO}:cutH P H c=some o↔¬ P c/\H c=some o:=by
 unfold cutH;by_cases h:P c
 ·rw[W4 h];exact⟨(λz=>nomatch z),(λz=>absurd h z.1)⟩
 ·rw[W2 h];exact⟨λz=>⟨h,z⟩,λz=>z.2⟩
theorem eG{P:Addr->Prop}{H:Hp}:aQ (cutH P H) H:=λ_ _ e=>(dR.mp e).2
def aO(K:aE)(P:Addr->Prop)(H:Hp)(v:V)(d:PyData):Prop:=aP K (cutH P H) v d
theorem pC.refl{P:Addr->Prop}{H:Hp}:pC P H H:=λ_ _ _ e=>e
theorem pC.of{P:Addr->Prop}{H H':Hp}(s:aQ H H'):pC P H H':=λc o _ e=>s c o e
theorem aO.now{K:aE}{P:Addr->Prop}{H:Hp}{v:V}{d:PyData}(h:aO K P H v d):aP K H v d:=aP.same eG h
theorem jd{P P':Addr->Prop}{H H':Hp}(s:∀c o,¬ P c->H c=some o->¬ P' c/\H' c=some o):aQ (cutH P H) (cutH P' H'):=λc o e=>by
 obtain⟨h1,h2⟩:=dR.mp e;exact dR.mpr (s c o h1 h2)
theorem aO.sub{K:aE}{P P':Addr->Prop}{H:Hp}{v:V}{d:PyData}(h:aO K P H v d)(s:∀c,P' c->P c):aO K P' H v d:=aP.same (jd λc o n e=>⟨λz=>n (s c z),e⟩) h
theorem aO.same{K:aE}{P:Addr->Prop}{H H':Hp}{v:V}{d:PyData}(h:aO K P H v d)(s:aQ H H'):aO K P H' v d:=aP.same (jd λc o n e=>⟨n,s c o e⟩) h
inductive DV where
 | dat (d:PyData) | ref (k:Nat)
def jP(o:HO):Prop:=(∃xs,o=.lst xs)∨(∃C dx fs,o=.ins C dx fs)∨∃φ,o=.ext φ
structure Ob where
 lies:aE->(Addr->Prop)->Hp->List Addr->Prop
 keep:∀K P H fp P' H',lies K P H fp->(∀c,P c->∃o,H c=some o/\jP o)->(∀a∈fp,∀o,H a=some o->H' a=some o)->aQ (cutH P H) (cutH P' H')->lies K P' H' fp
 mu:∀K P H fp,lies K P H fp->∀a∈fp,∃o,H a=some o/\jP o
inductive Ce where
 | live (ds:List PyData) | froz (ds:List PyData) | deep (xs:List DV) | obj (o:Ob)
@[reducible] def Ce.lv:Ce->Bool
 | .froz _=>false
 | _=>true
abbrev bG:=List (Option DV)
abbrev aB:=List Ce
def Lv(al:List (List Addr))(st:aB):Addr->Prop:=λc=>∃(k:Nat) (fp:List Addr) (ce:Ce),al[k]?=some fp/\c∈fp/\st[k]?=some ce/\ce.lv=true
def Fb(G:Addr->Prop)(al:List (List Addr))(st:aB):Addr->Prop:=λc=>G c∨Lv al st c
def i7(K:aE)(P:Addr->Prop)(H:Hp)(al:List (List Addr))(v:V):DV->Prop
 | .dat d=>aO K P H v d
 | .ref k=>∃a r,al[k]?=some (a::r)/\v=.ref a
def cj{α:Type}(R:V->α->Prop)(ys:List V)(xs:List α):Prop:=ys.length=xs.length/\∀(i:Nat) y x,ys[i]?=some y->xs[i]?=some x->R y x
def An(K:aE)(P:Addr->Prop)(H:Hp)(al:List (List Addr))(fp:List Addr):Ce->Prop
 | .live xs=>∃a ys,fp=[a]/\H a=some (.lst ys)/\cj (aO K P H) ys xs
 | .froz ds=>∃a,fp=[a]/\aO K P H (.ref a) (.list ds)
 | .deep xs=>∃a ys,fp=[a]/\H a=some (.lst ys)/\cj (i7 K P H al) ys xs
 | .obj o=>fp≠[]/\o.lies K P H fp
structure YK where
 Y:Hp->(Addr->Prop)->(Addr->Prop)->Prop
 up:∀H0 A0 G G',(∀c,G c->G' c)->Y H0 A0 G->Y H0 A0 G'
def y0:YK:=⟨λ_ _ _=>True,λ_ _ _ _ _ h=>h⟩
structure KF where
 K:aE
 y:YK
instance:CoeOut KF aE:=⟨KF.K⟩
@[reducible] def k0(K:aE):KF:=⟨K,y0⟩
@[reducible] def kf(X:Cx)(Y:YK):KF:=⟨X.K,Y⟩
structure DI(J:KF)(H0:Hp)(A0:Addr->Prop)(G:Addr->Prop)(al:List (List Addr))(H:Hp)(st:aB):Prop where
 len:al.length=st.length
 nd:al.flatten.Nodup
 ok:∀a∈al.flatten,∃o,H a=some o
 cel:∀(k:Nat) fp c,al[k]?=some fp->st[k]?=some c->An J (Fb G al st) H al fp c
 fr:pC A0 H0 H
 nw:∀a∈al.flatten,A0 a∨H0 a=none
 gd:∀a∈al.flatten,¬ G a
 gs:∀c,G c->∃o,H c=some o/\jP o
 lk:J.y.Y H0 A0 G
def mL(K:aE)(P:Addr->Prop)(H:Hp)(al:List (List Addr))(s:St)(env:bG):Prop:=s.length=env.length/\∀(i:Nat) dv,env[i]?=some (some dv)->∃v,s[i]?=some (some v)/\i7 K P H al v dv
structure Ext(al:List (List Addr))(H:Hp)(st:aB)(al':List (List Addr))(H':Hp)(st':aB):Prop where
 keep:pC (Lv al st) H H'
 pre:∀(k:Nat) a r,al[k]?=some (a::r)->∃r',al'[k]?=some (a::r')
 nws:∀c∈al'.flatten,c∈al.flatten∨H c=none
 lv:∀c,Lv al' st' c->Lv al st c∨H c=none
theorem Ext.refl{al:List (List Addr)}{H:Hp}{st:aB}:Ext al H st al H st:=⟨.refl,λ_ _ r h=>⟨r,h⟩,λ_ h=>.inl h,λ_ h=>.inl h⟩
theorem Ext.free{al al':List (List Addr)}{H H':Hp}{st st':aB}(e:Ext al H st al' H' st'){c:Addr}(h:H' c=none)(hl:¬ Lv al st c):H c=none:=by
 cases q:H c with
 | none=>rfl
 | some o=>rw[e.keep c o hl q]at h;cases h
theorem bV{al:List (List Addr)}{k:Nat}{fp:List Addr}{a:Addr}(h:al[k]?=some fp)(ha:a∈fp):a∈al.flatten:=X2.mpr ⟨fp,Xg h,ha⟩
theorem Lv.mem{al:List (List Addr)}{st:aB}{c:Addr}(h:Lv al st c):c∈al.flatten:=by
 obtain⟨k,fp,ce,h1,h2,_⟩:=h;exact bV h1 h2
theorem eI:∀{al:List (List Addr)},al.flatten.Nodup->∀{i j:Nat} {f g:List Addr} {a:Addr},al[i]?=some f->al[j]?=some g->a∈f->a∈g->i=j
 | [],_,i,j,f,g,a,h1,_,_,_=>by simp at h1
 | x::r,nd,i,j,f,g,a,h1,h2,m1,m2=>by
  rw[List.flatten_cons,List.nodup_append]at nd
  cases i with
  | zero =>
   cases j with
   | zero=>rfl
   | succ j =>
    simp at h1 h2;subst h1;exact absurd rfl (nd.2.2 a m1 a (bV h2 m2))
  | succ i =>
   cases j with
   | zero =>
    simp at h1 h2;subst h2;exact absurd rfl (nd.2.2 a m2 a (bV h1 m1))
   | succ j =>
    simp at h1 h2;exact congrArg (· + 1) (eI nd.2.1 h1 h2 m1 m2)
section
variable {K:aE} {J:KF} {H0:Hp} {A0:Addr->Prop} {G:Addr->Prop} {al aZ eX:List (List Addr)} {H H1 H2:Hp} {st az bO:aB}
theorem Ext.trans(I1:DI J H0 A0 G aZ H1 az)(a:Ext al H st aZ H1 az)(b:Ext aZ H1 az eX H2 bO):Ext al H st eX H2 bO:=by
 refine⟨λc o n e=>b.keep c o (λz=>?_) (a.keep c o n e),λk x r h=>?_,λc hc=>?_,λc hc=>?_⟩
 ·rcases a.lv c z with y | y
  ·exact n y
  ·rw[y]at e;cases e
 ·obtain⟨r1,h1⟩:=a.pre k x r h;exact b.pre k x r1 h1
 ·rcases b.nws c hc with z | z
  ·exact a.nws c z
  ·by_cases w:Lv al st c
   ·exact .inl w.mem
   ·exact .inr (a.free z w)
 ·rcases b.lv c hc with z | z
  ·exact a.lv c z
  ·by_cases w:Lv al st c
   ·exact .inl w
   ·exact .inr (a.free z w)
theorem je{G1:Addr->Prop}(g:∀c,G1 c->G c∨H c=none)(e:Ext al H st aZ H1 az):aQ (cutH (Fb G al st) H) (cutH (Fb G1 aZ az) H1):=jd λc o n q=>by
 refine⟨λz=>?_,e.keep c o (λw=>n (.inr w)) q⟩;rcases z with z | z
 ·rcases g c z with w | w
  ·exact n (.inl w)
  ·rw[w]at q;cases q
 ·rcases e.lv c z with w | w
  ·exact n (.inr w)
  ·rw[w]at q;cases q
theorem aO.kN{G1:Addr->Prop}{v:V}{d:PyData}(h:aO K (Fb G al st) H v d)(g:∀c,G1 c->G c∨H c=none)(e:Ext al H st aZ H1 az):aO K (Fb G1 aZ az) H1 v d:=aP.same (je g e) h
theorem aO.ext{v:V}{d:PyData}(h:aO K (Fb G al st) H v d)(e:Ext al H st aZ H1 az):aO K (Fb G aZ az) H1 v d:=h.kN (λ_ z=>.inl z) e
theorem i7.d{P:Addr->Prop}{v:V}{d:PyData}(h:aO K P H v d):i7 K P H al v (.dat d):=h
theorem i7.kN{G1:Addr->Prop}{v:V}{dv:DV}(h:i7 K (Fb G al st) H al v dv)(g:∀c,G1 c->G c∨H c=none)(e:Ext al H st aZ H1 az):i7 K (Fb G1 aZ az) H1 aZ v dv:=by
 cases dv with
 | dat d=>exact aO.kN h g e
 | ref k =>
  obtain⟨a,r,h1,h2⟩:=h;obtain⟨r',h3⟩:=e.pre k a r h1;exact⟨a,r',h3,h2⟩
theorem i7.ext{v:V}{dv:DV}(h:i7 K (Fb G al st) H al v dv)(e:Ext al H st aZ H1 az):i7 K (Fb G aZ az) H1 aZ v dv:=h.kN (λ_ z=>.inl z) e
theorem cj.imp{α:Type}{R R':V->α->Prop}{ys:List V}{xs:List α}(h:cj R ys xs)(f:∀y x,R y x->R' y x):cj R' ys xs:=⟨h.1,λi y x a b=>f y x (h.2 i y x a b)⟩
theorem cj.nil{α:Type}{R:V->α->Prop}:cj R [] []:=⟨rfl,λi y x h=>by simp at h⟩
theorem cj.cons{α:Type}{R:V->α->Prop}{y:V}{x:α}{ys:List V}{xs:List α}(h:R y x)(r:cj R ys xs):cj R (y::ys) (x::xs):=⟨by simp[r.1],λi a b h1 h2=>by
 cases i with
 | zero=>simp at h1 h2;subst h1;subst h2;exact h
 | succ i=>exact r.2 i a b (by simpa using h1) (by simpa using h2)⟩
theorem cj.append{α:Type}{R:V->α->Prop}{ys zs:List V}{xs us:List α}(h:cj R ys xs)(h':cj R zs us):cj R (ys++zs) (xs++us):=by
 refine⟨by simp[h.1,h'.1],λj z u hz hu=>?_⟩;by_cases hj:j < ys.length
 ·rw[Xc hj]at hz;rw[Xc (by rw[← h.1];exact hj)]at hu;exact h.2 j z u hz hu
 ·rw[Xk (by omega)]at hz;rw[Xk (by rw[← h.1];omega),← h.1]at hu;exact h'.2 _ z u hz hu
theorem cj.take{α:Type}{R:V->α->Prop}{ys:List V}{xs:List α}(h:cj R ys xs)(n:Nat):cj R (ys.take n) (xs.take n):=by
 refine⟨by rw[XJ,XJ,h.1],λj y k hy hk=>?_⟩;have hj:j < (ys.take n).length:=(er hy).1;rw[XJ]at hj;rw[YL (by omega)]at hy hk;exact h.2 _ y k hy hk
theorem cj.drop{α:Type}{R:V->α->Prop}{ys:List V}{xs:List α}(h:cj R ys xs)(n:Nat):cj R (ys.drop n) (xs.drop n):=by
 refine⟨by rw[YN,YN,h.1],λj y k hy hk=>?_⟩;rw[Yc]at hy hk;exact h.2 _ y k hy hk
theorem cj.set{α:Type}{R:V->α->Prop}{ys:List V}{xs:List α}{y:V}{x:α}(h:cj R ys xs)(hy:R y x)(i:Nat):cj R (ys.set i y) (xs.set i x):=by
 refine⟨by rw[Xp,Xp,h.1],λj z u hz hu=>?_⟩;rw[List.getElem?_set]at hz hu;by_cases hj:i=j
 ·subst hj;rw[W4 rfl]at hz hu;split at hz
  ·split at hu
   ·cases hz;cases hu;exact hy
   ·cases hu
  ·cases hz
 ·rw[W2 hj]at hz hu;exact h.2 j z u hz hu
theorem cj.at{α:Type}{R:V->α->Prop}{ys:List V}{xs:List α}(h:cj R ys xs){i:Nat}{x:α}(hx:xs[i]?=some x):∃y,ys[i]?=some y/\R y x:=by
 have hi:i < ys.length:=by rw[h.1];exact(er hx).1
 exact⟨ys[i],jL hi,h.2 i _ x (jL hi) hx⟩
theorem mL.kN{G1:Addr->Prop}{s:St}{env:bG}(h:mL K (Fb G al st) H al s env)(g:∀c,G1 c->G c∨H c=none)(e:Ext al H st aZ H1 az):mL K (Fb G1 aZ az) H1 aZ s env:=⟨h.1,λi dv hi=>by
 obtain⟨v,h1,h2⟩:=h.2 i dv hi;exact⟨v,h1,h2.kN g e⟩⟩
theorem mL.ext{s:St}{env:bG}(h:mL K (Fb G al st) H al s env)(e:Ext al H st aZ H1 az):mL K (Fb G aZ az) H1 aZ s env:=h.kN (λ_ z=>.inl z) e
theorem mL.set{P:Addr->Prop}{s:St}{env:bG}{v:V}{dv:DV}(h:mL K P H al s env)(hv:i7 K P H al v dv)(i:Nat):mL K P H al (s.set i (some v)) (env.set i (some dv)):=by
 refine⟨by rw[Xp,Xp];exact h.1,λj u hu=>?_⟩;rw[List.getElem?_set]at hu;by_cases hj:i=j
 ·subst hj;rw[W4 rfl]at hu;split at hu
  ·rename_i hl;cases hu;exact⟨v,by rw[W3 (by rw[h.1];exact hl)],hv⟩
  ·cases hu
 ·rw[W2 hj]at hu;obtain⟨w,h1,h2⟩:=h.2 j u hu;exact⟨w,by rw[W8 hj];exact h1,h2⟩
theorem aO.eJ{P:Addr->Prop}{v:V}{ds:List PyData}(h:aO K P H v (.list ds)):∃(a:Addr) (ys:List V),v=.ref a/\bK K H a ys/\bK K (cutH P H) a ys/\cj (aO K P H) ys ds:=by
 have h:aP K (cutH P H) v (.list ds):=h
 cases h with
 | lst hS hl hi=>exact⟨_,_,rfl,eG.seq hS,hS,hl,hi⟩
theorem aO.gK{P:Addr->Prop}{v:V}{ds:List PyData}(h:aO K P H v (.tuple ds)):∃(a:Addr) (ys:List V),v=.ref a/\cg K H a ys/\cg K (cutH P H) a ys/\cj (aO K P H) ys ds:=by
 have h:aP K (cutH P H) v (.tuple ds):=h
 cases h with
 | tup hS hl hi=>exact⟨_,_,rfl,eG.tup hS,hS,hl,hi⟩
theorem aO.aU{P:Addr->Prop}{v:V}{i:Int}(h:aO K P H v (.int i)):v=.int i:=by
 have h:aP K (cutH P H) v (.int i):=h;cases h;rfl
theorem aO.cq{P:Addr->Prop}{v:V}{i:Str}(h:aO K P H v (.str i)):v=.str i:=by
 have h:aP K (cutH P H) v (.str i):=h;cases h;rfl
theorem aO.uZ{P:Addr->Prop}{v:V}{i:Bool}(h:aO K P H v (.bool i)):v=.bl i:=by
 have h:aP K (cutH P H) v (.bool i):=h;cases h;rfl
theorem aO.Jr{P:Addr->Prop}{v:V}(h:aO K P H v .none):v=.non:=by
 have h:aP K (cutH P H) v .none:=h;cases h;rfl
theorem aO.lst{P:Addr->Prop}{a:Addr}{ys:List V}{ds:List PyData}(n:¬ P a)(h:H a=some (.lst ys))(r:cj (aO K P H) ys ds):aO K P H (.ref a) (.list ds):=aP.lst (bK.of (dR.mpr ⟨n,h⟩)) r.1 r.2
theorem aO.tup{P:Addr->Prop}{a:Addr}{ys:List V}{ds:List PyData}(n:¬ P a)(h:H a=some (.tup ys))(r:cj (aO K P H) ys ds):aO K P H (.ref a) (.tuple ds):=aP.tup (cg.of (dR.mpr ⟨n,h⟩)) r.1 r.2
theorem Ext.same(s:aQ H H1):Ext al H st al H1 st:=⟨.of s,λ_ _ r h=>⟨r,h⟩,λ_ z=>.inl z,λ_ z=>.inl z⟩
theorem Ext.new{a:Addr}{o:HO}(h:H a=none):Ext al H st al (upd H a o) st:=.same λc p e=>by rw[uN (nN e h)];exact e
theorem An.kN{G1:Addr->Prop}{fp:List Addr}{c:Ce}(h:An K (Fb G al st) H al fp c)(g:∀c,G1 c->G c∨H c=none)(e:Ext al H st aZ H1 az)(hP:∀c,Fb G al st c->∃o,H c=some o/\jP o)(k:c.lv=true->∀a∈fp,∀o,H a=some o->H1 a=some o):An K (Fb G1 aZ az) H1 aZ fp c:=by
 cases c with
 | live xs =>
  obtain⟨a,ys,h0,h1,h2⟩:=h;exact⟨a,ys,h0,k rfl a (by rw[h0];exact Xq.mpr rfl) _ h1,h2.imp λy x z=>aO.kN z g e⟩
 | froz ds =>
  obtain⟨a,h0,h1⟩:=h;exact⟨a,h0,aO.kN h1 g e⟩
 | deep xs =>
  obtain⟨a,ys,h0,h1,h2⟩:=h;exact⟨a,ys,h0,k rfl a (by rw[h0];exact Xq.mpr rfl) _ h1,h2.imp λy x z=>i7.kN z g e⟩
 | obj o=>exact⟨h.1,o.keep _ _ _ _ _ _ h.2 hP (k rfl) (je g e)⟩
theorem An.ext{fp:List Addr}{c:Ce}(h:An K (Fb G al st) H al fp c)(e:Ext al H st aZ H1 az)(hP:∀c,Fb G al st c->∃o,H c=some o/\jP o)(k:c.lv=true->∀a∈fp,∀o,H a=some o->H1 a=some o):An K (Fb G aZ az) H1 aZ fp c:=h.kN (λ_ z=>.inl z) e hP k
theorem DI.lV(I:DI J H0 A0 G al H st){c:Addr}(h:Fb G al st c):∃o,H c=some o/\jP o:=by
 rcases h with h | ⟨k,fp,ce,h1,h2,h3,h4⟩
 ·exact I.gs c h
 ·have z:=I.cel k fp ce h1 h3
  cases ce with
  | live xs=>obtain⟨a,ys,rfl,g,_⟩:=z;rw[v8 h2];exact⟨_,g,.inl ⟨_,rfl⟩⟩
  | froz ds=>cases h4
  | deep xs=>obtain⟨a,ys,rfl,g,_⟩:=z;rw[v8 h2];exact⟨_,g,.inl ⟨_,rfl⟩⟩
  | obj o=>exact o.mu _ _ _ _ z.2 c h2
theorem DI.same(I:DI J H0 A0 G al H st)(s:aQ H H1):DI J H0 A0 G al H1 st:=⟨I.len,I.nd,(λa ha=>by obtain⟨o,e⟩:=I.ok a ha;exact⟨o,s _ _ e⟩),(λk a c h1 h2=>(I.cel k a c h1 h2).ext (.same s) (λc hc=>I.lV hc) λ_ a _ o e=>s _ _ e),(λc o n e=>s c o (I.fr c o n e)),I.nw,I.gd,(λc hc=>by obtain⟨o,e,m⟩:=I.gs c hc;exact⟨o,s _ _ e,m⟩),I.lk⟩
theorem DI.new(I:DI J H0 A0 G al H st){a:Addr}{o:HO}(h:H a=none):DI J H0 A0 G al (upd H a o) st:=I.same λc p e=>by rw[uN (nN e h)];exact e
theorem DI.Hz(I:DI J H0 A0 G al H st){a:Addr}(h:H a=none):¬ Fb G al st a:=by
 intro z;rcases z with z | z
 ·obtain⟨o,e,_⟩:=I.gs a z;rw[h]at e;cases e
 ·obtain⟨o,e⟩:=I.ok a z.mem;rw[h]at e;cases e
theorem DI.n0(I:DI J H0 A0 G al H st){a:Addr}(h:H a=none):A0 a∨H0 a=none:=by
 cases q:H0 a with
 | none=>exact .inr rfl
 | some o =>
  by_cases w:A0 a
  ·exact .inl w
  ·rw[I.fr a o w q]at h;cases h
theorem DI.freeze(I:DI J H0 A0 G al H st){k:Nat}{fp:List Addr}{ds:List PyData}(ha:al[k]?=some fp)(hs:st[k]?=some (.live ds)):∃a,fp=[a]/\Ext al H st al H (st.set k (.froz ds))/\DI J H0 A0 G al H (st.set k (.froz ds))/\aO J (Fb G al (st.set k (.froz ds))) H (.ref a) (.list ds):=by
 have hk:=(er hs).1
 have E:Ext al H st al H (st.set k (.froz ds)):=⟨.refl,λ_ _ r h=>⟨r,h⟩,λ_ z=>.inl z,λc ⟨j,f,ce,h1,h2,h3,h4⟩=>by
  by_cases e:k=j
  ·subst e;rw[W3 hk]at h3;cases h3;cases h4
  ·rw[W8 e]at h3;exact .inl ⟨j,f,ce,h1,h2,h3,h4⟩⟩
 obtain⟨a,ys,rfl,g1,g2⟩:=I.cel k fp _ ha hs
 have na:¬ Fb G al (st.set k (.froz ds)) a:=λz=>by
  rcases z with z | ⟨j,f,ce,h1,h2,h3,h4⟩
  ·exact I.gd a (bV ha (Xq.mpr rfl)) z
  ·have:=eI I.nd ha h1 (Xq.mpr rfl) h2;subst this;rw[W3 hk]at h3;cases h3;cases h4
 have F:aO J (Fb G al (st.set k (.froz ds))) H (.ref a) (.list ds):=.lst na g1 (g2.imp λy x z=>aO.ext z E);refine⟨a,rfl,E,⟨by rw[Xp];exact I.len,I.nd,I.ok,λj b c h1 h2=>?_,I.fr,I.nw,I.gd,I.gs,I.lk⟩,F⟩;by_cases e:k=j
 ·subst e;rw[W3 hk]at h2;rw[ha]at h1;cases h1;cases h2;exact⟨a,rfl,F⟩
 ·rw[W8 e]at h2;exact(I.cel j b c h1 h2).ext E (λc hc=>I.lV hc) λ_ _ _ o q=>q
theorem DI.more(I:DI J H0 A0 G al H st){fp:List Addr}{c:Ce}(fr:∀a∈fp,H a=none)(nd:fp.Nodup)(s:aQ H H1)(ok:∀a∈fp,∃o,H1 a=some o)(hc:An J (Fb G (al++[fp]) (st++[c])) H1 (al++[fp]) fp c):Ext al H st (al++[fp]) H1 (st++[c])/\DI J H0 A0 G (al++[fp]) H1 (st++[c]):=by
 have nal:∀a∈fp,a∉al.flatten:=λa ha z=>by obtain⟨o,e⟩:=I.ok a z;rw[fr a ha]at e;cases e
 have mem:∀c∈(al++[fp]).flatten,c∈al.flatten∨c∈fp:=λc hc=>by
  rw[List.flatten_append,Y9]at hc;exact X9.mp hc
 have E:Ext al H st (al++[fp]) H1 (st++[c]):=⟨.of s,λk a r h=>⟨r,by rw[Xc (er h).1];exact h⟩,λc hc=>by
   rcases mem c hc with z | z
   ·exact .inl z
   ·exact .inr (fr c z),λc ⟨j,f,ce,h1,h2,h3,h4⟩=>by
  by_cases e:j < al.length
  ·rw[Xc e]at h1;rw[Xc (by rw[← I.len];exact e)]at h3;exact .inl ⟨j,f,ce,h1,h2,h3,h4⟩
  ·rw[Xk (by omega)]at h1;have:=Xg h1;rw[v8 this]at h2;exact .inr (fr c h2)⟩
 refine⟨E,⟨by simp[I.len],?_,λc hc=>?_,λj b c' h1 h2=>?_,λc o n e=>s c o (I.fr c o n e),λc hc=>?_,λc hc=>?_,λc hc=>?_,I.lk⟩⟩
 ·rw[List.flatten_append,Y9,List.nodup_append];exact⟨I.nd,nd,λx hx y hy z=>nal y hy (z ▸ hx)⟩
 ·rcases mem c hc with z | z
  ·obtain⟨o,e⟩:=I.ok c z;exact⟨o,s _ _ e⟩
  ·exact ok c z
 ·by_cases e:j < al.length
  ·rw[Xc e]at h1;rw[Xc (by rw[← I.len];exact e)]at h2;exact(I.cel j b c' h1 h2).ext E (λc hc=>I.lV hc) λ_ _ _ o q=>s _ _ q
  ·have hj:j=al.length:=by have:=(er h1).1;simp at this;omega
   subst hj;rw[Xk (WU _),YV]at h1;rw[I.len,Xk (WU _),YV]at h2;cases h1;cases h2;exact hc
 ·rcases mem c hc with z | z
  ·exact I.nw c z
  ·exact I.n0 (fr c z)
 ·rcases mem c hc with z | z
  ·exact I.gd c z
  ·exact λw=>I.Hz (fr c z) (.inl w)
 ·obtain⟨o,e,m⟩:=I.gs c hc;exact⟨o,s _ _ e,m⟩
theorem DI.cell(I:DI J H0 A0 G al H st){a:Addr}{ys:List V}{xs:List PyData}(h:H a=none)(hy:cj (aO J (Fb G al st) H) ys xs):Ext al H st (al++[[a]]) (upd H a (.lst ys)) (st++[.live xs])/\DI J H0 A0 G (al++[[a]]) (upd H a (.lst ys)) (st++[.live xs]):=by
 have s:aQ H (upd H a (.lst ys)):=λc p e=>by rw[uN (nN e h)];exact e
 refine I.more (λc hc=>by rw[v8 hc];exact h) (by simp) s (λc hc=>by rw[v8 hc];exact⟨_,uS⟩) ⟨a,ys,rfl,uS,hy.imp λy x z=>aP.same (jd λc o n q=>⟨λw=>?_,s _ _ q⟩) z⟩;rcases w with w | ⟨j,f,ce,h1,h2,h3,h4⟩
 ·exact n (.inl w)
 ·by_cases e:j < al.length
  ·rw[Xc e]at h1;rw[Xc (by rw[← I.len];exact e)]at h3;exact n (.inr ⟨j,f,ce,h1,h2,h3,h4⟩)
  ·rw[Xk (by omega)]at h1;have:=Xg h1;rw[v8 this]at h2;rw[v8 h2,h]at q;cases q
theorem DI.turn(I:DI J H0 A0 G al H st){k:Nat}{a:Addr}{r r':List Addr}{c c':Ce}(ha:al[k]?=some (a::r))(hs:st[k]?=some c)(hl:c.lv=true)(kp:∀b o,b∉a::r->H b=some o->H1 b=some o)(nw:∀b∈r',b∈a::r∨H b=none)(ok:∀b∈a::r',∃o,H1 b=some o)(nd:(a::r').Nodup)(na:∀b∈r',b∉a::r->H b=none)
  (hc:aQ (cutH (Fb G al st) H) (cutH (Fb G (al.set k (a::r')) (st.set k c')) H1)->An J (Fb G (al.set k (a::r')) (st.set k c')) H1 (al.set k (a::r')) (a::r') c') (mu:∀b∈a::r,∃o,H b=some o/\jP o):Ext al H st (al.set k (a::r')) H1 (st.set k c')/\DI J H0 A0 G (al.set k (a::r')) H1 (st.set k c'):=by
 have hk:=(er hs).1;have hka:=(er ha).1;have lvk:∀b∈a::r,Lv al st b:=λb hb=>⟨k,_,c,ha,hb,hs,hl⟩
 have mem:∀b∈(al.set k (a::r')).flatten,b∈al.flatten∨H b=none:=λb hb=>by
  obtain⟨f,hf,hbf⟩:=X2.mp hb;rcases YI hf with z | z
  ·exact .inl (X2.mpr ⟨f,z,hbf⟩)
  ·rw[z]at hbf;rcases Xj.mp hbf with y | y
   ·rw[y];exact .inl (bV ha W7)
   ·rcases nw b y with w | w
    ·exact .inl (bV ha w)
    ·exact .inr w
 have E:Ext al H st (al.set k (a::r')) H1 (st.set k c'):=⟨λb o n e=>kp b o (λz=>n (lvk b z)) e,λj b q h=>by
   by_cases e:k=j
   ·subst e;rw[ha]at h;cases h;exact⟨r',by rw[W3 hka]⟩
   ·exact⟨q,by rw[W8 e];exact h⟩,mem,λb ⟨j,f,ce,h1,h2,h3,h4⟩=>by
   by_cases e:k=j
   ·subst e;rw[W3 hka]at h1;cases h1;rcases Xj.mp h2 with y | y
    ·rw[y];exact .inl (lvk a W7)
    ·rcases nw b y with w | w
     ·exact .inl (lvk b w)
     ·exact .inr w
   ·rw[W8 e]at h1 h3;exact .inl ⟨j,f,ce,h1,h2,h3,h4⟩⟩
 have keepOther:∀(j:Nat) f,k≠j->al[j]?=some f->∀b∈f,∀o,H b=some o->H1 b=some o:=λj f e hf b hb o q=>kp b o (λz=>e (eI I.nd ha hf z hb)) q
 have parted:∀b∈(al.set k (a::r')).flatten,b∈a::r'∨∃(j:Nat) (f:List Addr),k≠j/\al[j]?=some f/\b∈f:=λb hb=>by
  obtain⟨f,hf,hbf⟩:=X2.mp hb;obtain⟨j,hj⟩:=Xs hf;by_cases e:k=j
  ·subst e;rw[W3 hka]at hj;cases hj;exact .inl hbf
  ·rw[W8 e]at hj;exact .inr ⟨j,f,e,hj,hbf⟩
 refine⟨E,⟨by rw[Xp,Xp];exact I.len,?_,λb hb=>?_,λj f ce h1 h2=>?_,λb o n e=>?_,λb hb=>?_,λb hb=>?_,λb hb=>?_,I.lk⟩⟩
 ·unfold List.Nodup;rw[List.pairwise_flatten,List.pairwise_iff_getElem];have Pr:=I.nd;refine⟨λf hf=>?_,λi j hi hj hij x hx y hy=>?_⟩
  ·rcases YI hf with z | z
   ·exact(Ym.mp Pr).1 f z
   ·rw[z];exact nd
  ·intro e;subst e;have gi:=jL hi;have gj:=jL hj
   have far:∀(j:Nat) f,k≠j->al[j]?=some f->x∈f->x∈a::r'->False:=λj f e hf hxf hx'=>by
    by_cases w:x∈a::r
    ·exact e (eI Pr ha hf w hxf)
    ·rcases Xj.mp hx' with z | z
     ·exact w (by rw[z];exact W7)
     ·obtain⟨o,q⟩:=I.ok x (bV hf hxf);rw[na x z w]at q;cases q
   by_cases e1:k=i
   ·subst e1;have e2:k≠j:=by omega
    rw[W3 hka]at gi;rw[W8 e2]at gj;exact far j _ e2 gj hy (by rw[W0 gi];exact hx)
   ·rw[W8 e1]at gi;by_cases e2:k=j
    ·subst e2;rw[W3 hka]at gj;exact far i _ e1 gi hx (by rw[W0 gj];exact hy)
    ·rw[W8 e2]at gj;exact absurd (eI Pr gi gj hx hy) (by omega)
 ·rcases parted b hb with z | ⟨j,f,e,hf,hbf⟩
  ·exact ok b z
  ·obtain⟨o,q⟩:=I.ok b (bV hf hbf);exact⟨o,keepOther j f e hf b hbf o q⟩
 ·by_cases e:k=j
  ·subst e;rw[W3 hka]at h1;rw[W3 hk]at h2;cases h1;cases h2;exact hc (je (λ_ z=>.inl z) E)
  ·rw[W8 e]at h1 h2;exact(I.cel j f ce h1 h2).ext E (λc hc=>I.lV hc) λ_ b hb o q=>keepOther j f e h1 b hb o q
 ·by_cases w:b∈a::r
  ·rcases I.nw b (bV ha w)with y | y
   ·exact absurd y n
   ·rw[y]at e;cases e
  ·exact kp b o w (I.fr b o n e)
 ·rcases mem b hb with z | z
  ·exact I.nw b z
  ·exact I.n0 z
 ·intro z;rcases mem b hb with w | w
  ·exact I.gd b w z
  ·exact I.Hz w (.inl z)
 ·obtain⟨o,q,m⟩:=I.gs b hb;refine⟨o,kp b o (λz=>I.gd b (bV ha z) hb) q,m⟩
theorem DI.put(I:DI J H0 A0 G al H st){k:Nat}{a:Addr}{zs xs:List PyData}{ys:List V}(ha:al[k]?=some [a])(hs:st[k]?=some (.live zs))(hy:cj (aO J (Fb G al st) H) ys xs):Ext al H st al (upd H a (.lst ys)) (st.set k (.live xs))/\DI J H0 A0 G al (upd H a (.lst ys)) (st.set k (.live xs)):=by
 have ea:al.set k [a]=al:=by
  apply List.ext_getElem?;intro j;by_cases e:k=j
  ·subst e;rw[W3 (er ha).1,ha]
  ·rw[W8 e]
 obtain⟨b,ws,e0,g1,g2⟩:=I.cel k [a] _ ha hs;cases e0;have z:=I.turn (H1:=upd H a (.lst ys)) (r:=[]) (r':=[]) (c':=.live xs) ha hs rfl (λb o n e=>by rw[uN (λz=>n (by rw[z];exact List.mem_cons_self))];exact e) (λb hb=>nomatch hb) (λb hb=>by rw[v8 hb];exact⟨_,uS⟩) (by simp) (λb hb=>nomatch hb) (λs=>⟨a,ys,rfl,uS,hy.imp λy x z=>aP.same s z⟩) (λb hb=>by rw[v8 hb];exact⟨_,g1,.inl ⟨_,rfl⟩⟩);rw[ea]at z;exact z
theorem va{k:Nat}{fp:List Addr}(ha:al[k]?=some fp):al.set k fp=al:=by
 apply List.ext_getElem?;intro j;by_cases e:k=j
 ·subst e;rw[W3 (er ha).1,ha]
 ·rw[W8 e]
theorem DI.putD(I:DI J H0 A0 G al H st){k:Nat}{a:Addr}{zs xs:List DV}{ys:List V}(ha:al[k]?=some [a])(hs:st[k]?=some (.deep zs))(hy:cj (i7 J (Fb G al st) H al) ys xs):Ext al H st al (upd H a (.lst ys)) (st.set k (.deep xs))/\DI J H0 A0 G al (upd H a (.lst ys)) (st.set k (.deep xs)):=by
 obtain⟨b,ws,e0,g1,g2⟩:=I.cel k [a] _ ha hs;cases e0
 have z:=I.turn (H1:=upd H a (.lst ys)) (r:=[]) (r':=[]) (c':=.deep xs) ha hs rfl (λb o n e=>by rw[uN (λz=>n (by rw[z];exact List.mem_cons_self))];exact e) (λb hb=>nomatch hb) (λb hb=>by rw[v8 hb];exact⟨_,uS⟩) (by simp) (λb hb=>nomatch hb) (λs=>⟨a,ys,rfl,uS,hy.imp λy x z=>by
    cases x with
    | dat d=>exact aP.same s z
    | ref j=>rw[va ha];exact z⟩) (λb hb=>by rw[v8 hb];exact⟨_,g1,.inl ⟨_,rfl⟩⟩)
 rw[va ha]at z;exact z
theorem DI.MX(I:DI J H0 A0 G al H st){p:Addr}{xs:List V}(h:cg J H p xs):cg J (cutH (Fb G al st) H) p xs:=by
 have n:∀o,H p=some o->¬ jP o->¬ Fb G al st p:=λo e m z=>by
  obtain⟨o',e',m'⟩:=I.lV z;rw[e]at e';cases e';exact m m'
 rcases h with(h | ⟨o,h⟩) | h
 ·exact .inl (.inl (dR.mpr ⟨n _ h (λm=>by rcases m with⟨ys,m⟩ | ⟨C,dx,fs,m⟩ | ⟨φ,m⟩<;>cases m),h⟩))
 ·exact .inl (.inr ⟨o,dR.mpr ⟨n _ h (λm=>by rcases m with⟨ys,m⟩ | ⟨C,dx,fs,m⟩ | ⟨φ,m⟩<;>cases m),h⟩⟩)
 ·exact .inr h
end
abbrev DC:=DV->aB->Prop
abbrev DX:=bG->aB->DC->Prop
abbrev mM:=bG->aB->(List DV->aB->Prop)->Prop
abbrev DT:=bG->aB->(Bool->aB->Prop)->Prop
abbrev EH:=DV->DV->aB->DC->Prop
abbrev Pt:=List DV->aB->DC->Prop
def Kn(J:KF)(H0:Hp)(A0:Addr->Prop)(G:Addr->Prop)(al:List (List Addr))(H:Hp)(st:aB)(Q:DC)(R:VK):Prop:=∀dv st' al' v H',Ext al H st al' H' st'->DI J H0 A0 G al' H' st'->i7 J (Fb G al' st') H' al' v dv->Q dv st'->R v H'
def MY(J:KF)(H0:Hp)(A0:Addr->Prop)(G:Addr->Prop)(al:List (List Addr))(H:Hp)(st:aB)(Q:Bool->aB->Prop)(R:Bool->Hp->Prop):Prop:=∀b st' al' H',Ext al H st al' H' st'->DI J H0 A0 G al' H' st'->Q b st'->R b H'
def Ul(J:KF)(H0:Hp)(A0:Addr->Prop)(G:Addr->Prop)(al:List (List Addr))(H:Hp)(st:aB)(Q:List DV->aB->Prop)(R:List V->Hp->Prop):Prop:=∀dvs st' al' vs H',Ext al H st al' H' st'->DI J H0 A0 G al' H' st'->cj (i7 J (Fb G al' st') H' al') vs dvs->Q dvs st'->R vs H'
def AE(J:KF)(t:TE)(e:DX):Prop:=∀(H0:Hp) (A0:Addr->Prop) (G:Addr->Prop) (al:List (List Addr)) (H:Hp) (st:aB) (s:St) (env:bG) (Q:DC) (R:VK),DI J H0 A0 G al H st->mL J (Fb G al st) H al s env->e env st Q->Kn J H0 A0 G al H st Q R->t s H R
def AT(J:KF)(t:TT)(e:DT):Prop:=∀(H0:Hp) (A0:Addr->Prop) (G:Addr->Prop) (al:List (List Addr)) (H:Hp) (st:aB) (s:St) (env:bG) (Q:Bool->aB->Prop) (R:Bool->Hp->Prop),DI J H0 A0 G al H st->mL J (Fb G al st) H al s env->e env st Q->MY J H0 A0 G al H st Q R->t s H R
def AA(J:KF)(t:TA)(n:Nat)(e:mM):Prop:=∀(H0:Hp) (A0:Addr->Prop) (G:Addr->Prop) (al:List (List Addr)) (H:Hp) (st:aB) (s:St) (env:bG) (Q:List DV->aB->Prop) (R:List V->Hp->Prop),DI J H0 A0 G al H st->mL J (Fb G al st) H al s env->e env st Q->Ul J H0 A0 G al H st (λl s=>l.length=n/\Q l s) R->t s H R
def AO(J:KF)(r:R2)(o:EH):Prop:=∀(H0:Hp) (A0:Addr->Prop) (G:Addr->Prop) (al:List (List Addr)) (H:Hp) (st:aB) (x y:V) (dx dy:DV) (Q:DC) (R:VK),DI J H0 A0 G al H st->i7 J (Fb G al st) H al x dx->i7 J (Fb G al st) H al y dy->o dx dy st Q->Kn J H0 A0 G al H st Q R->r x y H R
def AB(J:KF)(r:List V->Hp->VK->Prop)(o:Pt):Prop:=∀(H0:Hp) (A0:Addr->Prop) (G:Addr->Prop) (al:List (List Addr)) (H:Hp) (st:aB) (vs:List V) (ds:List DV) (Q:DC) (R:VK),DI J H0 A0 G al H st->cj (i7 J (Fb G al st) H al) vs ds->o ds st Q->Kn J H0 A0 G al H st Q R->r vs H R
structure bR(X:Cx)(Y:YK)(e:Expr)(d:DX):Prop where
 h:∃t,PE X e t/\AE (kf X Y) t d
structure wV(X:Cx)(Y:YK)(e:Expr)(d:DT):Prop where
 h:∃t,PT X e t/\AT (kf X Y) t d
structure zC(X:Cx)(Y:YK)(e:Expr)(d:DT):Prop where
 h:∃t,PW X e t/\AT (kf X Y) t d
structure vb(X:Cx)(Y:YK)(es:List Expr)(n:Nat)(d:mM):Prop where
 h:∃t,PA X es t/\AA (kf X Y) t n d
section
variable {K:aE} {J:KF} {H0:Hp} {A0:Addr->Prop} {G:Addr->Prop} {al aZ eX:List (List Addr)} {H H1 H2:Hp} {st az bO:aB} {Q:DC} {R:VK}
theorem Kn.here(k:Kn J H0 A0 G al H st Q R)(I:DI J H0 A0 G al H st){v:V}{dv:DV}(h:i7 J (Fb G al st) H al v dv)(q:Q dv st):R v H:=k dv st al v H .refl I h q
theorem Kn.laid(k:Kn J H0 A0 G al H st Q R)(I:DI J H0 A0 G al H st){v:V}{dv:DV}(s:aQ H H1)(h:i7 J (Fb G al st) H1 al v dv)(q:Q dv st):R v H1:=k dv st al v H1 (.same s) (I.same s) h q
theorem Kn.go(k:Kn J H0 A0 G al H st Q R)(I:DI J H0 A0 G aZ H1 az)(e:Ext al H st aZ H1 az):Kn J H0 A0 G aZ H1 az Q R:=λdv st' al' v H' e' I' h q=>k dv st' al' v H' (e.trans I e') I' h q
theorem MY.go{Q:Bool->aB->Prop}{R:Bool->Hp->Prop}(k:MY J H0 A0 G al H st Q R)(I:DI J H0 A0 G aZ H1 az)(e:Ext al H st aZ H1 az):MY J H0 A0 G aZ H1 az Q R:=λdv st' al' H' e' I' q=>k dv st' al' H' (e.trans I e') I' q
theorem jf{a:Addr}{o:HO}(h:H a=none):aQ H (upd H a o):=λc p e=>by rw[uN (nN e h)];exact e
end
@[reducible] def BG(i:Nat)(env:bG)(st:aB)(Q:DC):Prop:=match env[i]? with
 | some (some dv)=>Q dv st
 | _=>False
@[reducible] def eC(d:PyData)(_:bG)(st:aB)(Q:DC):Prop:=Q (.dat d) st
section
variable {X:Cx} {Y:YK} {a b c e:Expr} {es:List Expr} {pos:Pos} {ea eb ec:DX}
theorem Js{J:KF}{i:Nat}:AE J (D8 i) (BG i):=λH0 A0 G al H st s env Q R I E h k=>by
 unfold BG at h;split at h
 ·rename_i dv hd;obtain⟨v,h1,h2⟩:=E.2 i dv hd;exact⟨v,h1,k.here I h2 h⟩
 ·exact h.elim
theorem Ju{J:KF}{v:V}{d:PyData}(h:∀H,aP J H v d):AE J (tC v) (eC d):=λH0 A0 G al H st s env Q R I E q k=>k.here I (.d (h _)) q
theorem ah(i:Nat){x:Str}(hN:X.N[i]?=some x:=by rfl)(hv:Ot X.env.scope x:=by first | exact Xe rfl | exact Or.inr (Xe rfl) | exact Or.inr (Or.inr rfl))(hd:(x == ("__debug__" : Str))=false:=by decide)
  (hcd:(x == ("__classdict__" : Str))=false:=by decide):bR X Y (.Name x pos) (BG i):=⟨_,AN hN hv hd hcd,Js⟩
theorem ar{i j}:bR X Y (.Constant (.int i) j pos) (eC (.int i)):=⟨_,pI,Ju λ_=>.int i⟩
theorem HA{i j}:bR X Y (.Constant (.bool i) j pos) (eC (.bool i)):=⟨_,xY,Ju λ_=>.bl i⟩
theorem aD{i j}:bR X Y (.Constant (.str i) j pos) (eC (.str i)):=⟨_,aW,Ju λ_=>.str i⟩
@[reducible] def sL(o:EH)(ea eb:DX)(env:bG)(st:aB)(Q:DC):Prop:=ea env st λx az=>eb env az λy bO=>o x y bO Q
theorem yt{J:KF}{r:R2}{o:EH}{ta tb:TE}(ho:AO J r o)(ha:AE J ta ea)(hb:AE J tb eb):AE J (Mr r ta tb) (sL o ea eb):=λH0 A0 G al H st s env Q R I E h k=>by
 refine ha H0 A0 G al H st s env _ _ I E h λx az aZ v H1 e1 I1 d1 q1=>?_
 refine hb H0 A0 G aZ H1 az s env _ _ I1 (E.ext e1) q1 λy bO eX u H2 e2 I2 d2 q2=>?_
 exact ho H0 A0 G eX H2 bO v u x y Q R I2 (d1.ext e2) d2 q2 (k.go I2 (e1.trans I1 e2))
theorem pD{op:Operator}{r:R2}{o:EH}(ho:i6 X (binaryOp op) r)(ao:AO (kf X Y) r o)(ha:bR X Y a ea)(hb:bR X Y b eb):bR X Y (.BinOp a op b pos) (sL o ea eb):=by
 obtain⟨ta,p1,a1⟩:=ha.h;obtain⟨tb,p2,a2⟩:=hb.h;exact⟨_,eD ho p1 p2,yt ao a1 a2⟩
theorem Jv{op:CmpOp}{r:R2}{o:EH}(ho:i6 X (compareOp op) r)(ao:AO (kf X Y) r o)(ha:bR X Y a ea)(hb:bR X Y b eb)(hm:behindInMarks op b=false):bR X Y (.Compare a [op] [b] pos) (sL o ea eb):=by
 obtain⟨ta,p1,a1⟩:=ha.h;obtain⟨tb,p2,a2⟩:=hb.h;exact⟨_,i9 ho p1 p2 hm,yt ao a1 a2⟩
theorem m5{f:Value->Value->Sem Value}{r r':R2}(h:i6 X f r)(h':i6 X f r'):i6 X f (λx y H Q=>r x y H Q∨r' x y H Q):=λpins s σ H x y v u Q I rx ry q=>by
 rcases q with q | q
 ·exact h pins s σ H x y v u Q I rx ry q
 ·exact h' pins s σ H x y v u Q I rx ry q
@[reducible] def oI(C:Int->Int->Prop)(g:Int->Int->PyData)(x y:DV)(st:aB)(Q:DC):Prop:=match x,y with
 | .dat (.int i),.dat (.int j)=>C i j/\Q (.dat (g i j)) st
 | _,_=>False
@[reducible] def Jw(g:Int->Int->PyData)(x y:DV)(st:aB)(Q:DC):Prop:=match x,y with
 | .dat (.int i),.dat (.int j)=>Q (.dat (g i j)) st
 | _,_=>False
theorem EI{J:KF}{C:Int->Int->Prop}{g:Int->Int->V}{d:Int->Int->PyData}(h:∀i j H,aP J H (g i j) (d i j)):AO J (rI C g) (oI C d):=λH0 A0 G al H st x y dx dy Q R I a b q k=>by
 unfold oI at q;split at q
 ·rw[aO.aU a,aO.aU b];exact⟨_,_,rfl,rfl,q.1,k.here I (.d (h _ _ _)) q.2⟩
 ·exact q.elim
theorem vc{J:KF}{g:Int->Int->V}{d:Int->Int->PyData}(h:∀i j H,aP J H (g i j) (d i j)):AO J (Dx g) (Jw d):=λH0 A0 G al H st x y dx dy Q R I a b q k=>by
 unfold Jw at q;split at q
 ·rw[aO.aU a,aO.aU b];exact⟨_,_,rfl,rfl,k.here I (.d (h _ _ _)) q⟩
 ·exact q.elim
end
@[reducible] def iR(st:aB):DV->Option (List PyData)
 | .dat (.list ds)=>some ds
 | .ref k=>match st[k]? with
  | some (.live ds)=>some ds
  | some (.froz ds)=>some ds
  | _=>none
 | _=>none
@[reducible] def rJ(st:aB):DV->Option PyData
 | .dat d=>some d
 | .ref k=>match st[k]? with
  | some (.live ds)=>some (.list ds)
  | some (.froz ds)=>some (.list ds)
  | _=>none
section
variable {K:aE} {J:KF} {H0:Hp} {A0:Addr->Prop} {G:Addr->Prop} {al aZ eX:List (List Addr)} {H H1 H2:Hp} {st az bO:aB} {Q:DC} {R:VK}
theorem zD{k:Nat}{ds:List PyData}(e:iR st (.ref k)=some ds):st[k]?=some (.live ds)∨st[k]?=some (.froz ds):=by
 have e:(match st[k]? with | some (.live ds)=>some ds | some (.froz ds)=>some ds | _=>none)=some ds:=e
 revert e
 cases st[k]? with
 | none=>intro e;cases e
 | some c=>cases c with
  | live xs=>intro e;cases e;exact .inl rfl
  | froz xs=>intro e;cases e;exact .inr rfl
  | deep xs=>intro e;cases e
  | obj o=>intro e;cases e
theorem zE{k:Nat}{d:PyData}(e:rJ st (.ref k)=some d):∃ds,iR st (.ref k)=some ds/\d=.list ds:=by
 have e:(match st[k]? with | some (.live ds)=>some (PyData.list ds) | some (.froz ds)=>some (.list ds) | _=>none)=some d:=e;show ∃ds,(match st[k]? with | some (.live ds)=>some ds | some (.froz ds)=>some ds | _=>none)=some ds/\d=.list ds
 revert e
 cases st[k]? with
 | none=>intro e;cases e
 | some c=>cases c with
  | live xs=>intro e;cases e;exact⟨_,rfl,rfl⟩
  | froz xs=>intro e;cases e;exact⟨_,rfl,rfl⟩
  | deep xs=>intro e;cases e
  | obj o=>intro e;cases e
theorem i7.Jx(I:DI J H0 A0 G al H st){v:V}{x:DV}{ds:List PyData}(h:i7 J (Fb G al st) H al v x)(e:iR st x=some ds):∃(a:Addr) (ys:List V),v=.ref a/\bK J H a ys/\cj (aO J (Fb G al st) H) ys ds:=by
 cases x with
 | dat d =>
  cases d with
  | list xs=>cases e;obtain⟨a,ys,h1,h2,_,h3⟩:=aO.eJ h;exact⟨a,ys,h1,h2,h3⟩
  | _=>cases e
 | ref k =>
  obtain⟨a,r,h1,h2⟩:=h;rcases zD e with hs | hs
  ·obtain⟨a',ys,e0,g1,g2⟩:=I.cel k _ _ h1 hs;cases e0;exact⟨a,ys,h2,bK.of g1,g2⟩
  ·obtain⟨a',e0,g0⟩:=I.cel k _ _ h1 hs;cases e0;obtain⟨b,ys,g1,g2,_,g3⟩:=aO.eJ g0;cases g1;exact⟨a,ys,h2,g2,g3⟩
theorem i7.OB(I:DI J H0 A0 G al H st){v:V}{x:DV}{d:PyData}(h:i7 J (Fb G al st) H al v x)(e:rJ st x=some d):aP J H v d:=by
 cases x with
 | dat d'=>cases e;exact aO.now h
 | ref k =>
  obtain⟨ds,e1,rfl⟩:=zE e;obtain⟨a,ys,rfl,h2,h3⟩:=h.Jx I e1;exact .lst h2 h3.1 λi x d a b=>(h3.2 i x d a b).now
@[reducible] def kS:DV->aB->(PyData->aB->Prop)->Prop
 | .dat d,st,Q=>Q d st
 | .ref k,st,Q=>match st[k]? with
  | some (.froz ds)=>Q (.list ds) st
  | some (.live ds)=>Q (.list ds) (st.set k (.froz ds))
  | _=>False
@[reducible] def eA:List DV->aB->(List PyData->aB->Prop)->Prop
 | [],st,Q=>Q [] st
 | x::r,st,Q=>kS x st λd az=>eA r az λds bO=>Q (d::ds) bO
theorem lq(I:DI J H0 A0 G al H st){v:V}{x:DV}{Q:PyData->aB->Prop}(h:i7 J (Fb G al st) H al v x)(q:kS x st Q):∃d az,Ext al H st al H az/\DI J H0 A0 G al H az/\aO J (Fb G al az) H v d/\Q d az:=by
 cases x with
 | dat d=>exact⟨d,st,.refl,I,h,q⟩
 | ref k =>
  obtain⟨a,r,h1,rfl⟩:=h;unfold kS at q;dsimp only at q;split at q
  ·rename_i ds hs;obtain⟨a',e0,g0⟩:=I.cel k _ _ h1 hs;cases e0;exact⟨_,st,.refl,I,g0,q⟩
  ·rename_i ds hs;obtain⟨a',e0,E,I',F⟩:=I.freeze h1 hs;cases e0;exact⟨_,_,E,I',F,q⟩
  ·exact q.elim
theorem kE:∀{xs:List DV} {st:aB} {vs:List V} {Q:List PyData->aB->Prop},DI J H0 A0 G al H st->cj (i7 J (Fb G al st) H al) vs xs->eA xs st Q->∃ds az,Ext al H st al H az/\DI J H0 A0 G al H az/\cj (aO J (Fb G al az) H) vs ds/\Q ds az
 | [],st,vs,Q,I,h,q=>by
  have:=h.1
  cases vs with
  | nil=>exact⟨[],st,.refl,I,.nil,q⟩
  | cons v r=>simp at this
 | x::xs,st,vs,Q,I,h,q=>by
  have:=h.1
  cases vs with
  | nil=>simp at this
  | cons v r =>
   obtain⟨d,az,E1,I1,F1,q1⟩:=lq I (h.2 0 v x rfl rfl) q;have h':cj (i7 J (Fb G al az) H al) r xs:=⟨by simpa using this,λi y z a b=>(h.2 (i + 1) y z (by simpa using a) (by simpa using b)).ext E1⟩;obtain⟨ds,bO,E2,I2,F2,q2⟩:=kE I1 h' q1;exact⟨d::ds,bO,E1.trans I1 E2,I2,.cons (F1.ext E2) F2,q2⟩
end
section
variable {X:Cx} {Y:YK} {a b c e:Expr} {es:List Expr} {pos:Pos} {ea eb ec:DX} {K:aE} {J:KF}
@[reducible] def EJ(_:bG)(st:aB)(Q:List DV->aB->Prop):Prop:=Q [] st
@[reducible] def yu(ea:DX)(r:mM)(env:bG)(st:aB)(Q:List DV->aB->Prop):Prop:=ea env st λx az=>r env az λxs bO=>Q (x::xs) bO
theorem Jy:AA J sk 0 EJ:=λH0 A0 G al H st s env Q R I E h k=>k [] st al [] H .refl I .nil ⟨rfl,h⟩
theorem EK{ta:TE}{tr:TA}{n:Nat}{r:mM}(ha:AE J ta ea)(hr:AA J tr n r):AA J (A7 ta tr) (n + 1) (yu ea r):=λH0 A0 G al H st s env Q R I E h k=>by
 refine ha H0 A0 G al H st s env _ _ I E h λx az aZ v H1 e1 I1 d1 q1=>?_
 refine hr H0 A0 G aZ H1 az s env _ _ I1 (E.ext e1) q1 λxs bO eX vs H2 e2 I2 d2 q2=>?_
 exact k (x::xs) bO eX (v::vs) H2 (e1.trans I1 e2) I2 (.cons (d1.ext e2) d2) ⟨by simp[q2.1],q2.2⟩
theorem aq:vb X Y [] 0 EJ:=⟨_,pN,Jy⟩
theorem ae{n:Nat}{r:mM}(ha:bR X Y e ea)(hr:vb X Y es n r)(hs:starEach (e::es) X.env=(false,eval e X.env)::starEach es X.env:=by rfl):vb X Y (e::es) (n + 1) (yu ea r):=by
 obtain⟨ta,p1,a1⟩:=ha.h;obtain⟨tb,p2,a2⟩:=hr.h;exact⟨_,pK p1 p2 hs,EK a1 a2⟩
@[reducible] def EL(t:mM)(env:bG)(st:aB)(Q:DC):Prop:=t env st λxs az=>eA xs az λds bO=>Q (.dat (.tuple ds)) bO
@[reducible] def EM(t:mM)(env:bG)(st:aB)(Q:DC):Prop:=t env st λxs az=>eA xs az λds bO=>Q (.dat (.list ds)) bO
@[reducible] def yv(t:mM)(env:bG)(st:aB)(Q:DC):Prop:=t env st λxs az=>eA xs az λds bO=>Q (.ref bO.length) (bO++[.live ds])
theorem Jz{t:TA}{n:Nat}{d:mM}(hn:n<=sizeLine)(h:AA J t n d):AE J (IL t) (EL d):=λH0 A0 G al H st s env Q R I E q k=>by
 refine h H0 A0 G al H st s env _ _ I E q λxs az aZ vs H1 e1 I1 d1 q1=>?_
 obtain⟨ds,bO,E2,I2,F2,q2⟩:=kE I1 d1 q1.2;refine⟨by rw[d1.1,q1.1];exact hn,λp hp=>?_⟩;have k2:=k.go I2 (e1.trans I1 E2);exact k2.laid I2 (jf hp) (.d (aO.tup (I2.Hz hp) uS (F2.imp λy x z=>z.same (jf hp)))) q2
theorem JA{t:TA}{n:Nat}{d:mM}(hn:n<=sizeLine)(h:AA J t n d):AE J (IM t) (EM d):=λH0 A0 G al H st s env Q R I E q k=>by
 refine h H0 A0 G al H st s env _ _ I E q λxs az aZ vs H1 e1 I1 d1 q1=>?_
 obtain⟨ds,bO,E2,I2,F2,q2⟩:=kE I1 d1 q1.2;refine⟨by rw[d1.1,q1.1];exact hn,λp hp=>?_⟩;have k2:=k.go I2 (e1.trans I1 E2);exact k2.laid I2 (jf hp) (.d (aO.lst (I2.Hz hp) uS (F2.imp λy x z=>z.same (jf hp)))) q2
theorem Kn.cell{H0:Hp}{A0:Addr->Prop}{G:Addr->Prop}{al:List (List Addr)}{H:Hp}{st:aB}{Q:DC}{R:VK}(k:Kn J H0 A0 G al H st Q R)(I:DI J H0 A0 G al H st){p:Addr}{ys:List V}{ds:List PyData}(hp:H p=none)(F:cj (aO J (Fb G al st) H) ys ds)(q:Q (.ref st.length) (st++[.live ds])):R (.ref p) (upd H p (.lst ys)):=by
 obtain⟨E,I'⟩:=I.cell hp F;exact k (.ref st.length) _ _ _ _ E I' ⟨p,[],by rw[← I.len,Xk (WU _),YV];rfl,rfl⟩ q
theorem Kn.list{H0:Hp}{A0:Addr->Prop}{G:Addr->Prop}{al:List (List Addr)}{H:Hp}{st:aB}{Q:DC}{R:VK}(k:Kn J H0 A0 G al H st Q R)(I:DI J H0 A0 G al H st){p:Addr}{ys:List V}{ds:List PyData}(hp:H p=none)(F:cj (aO J (Fb G al st) H) ys ds)(q:Q (.dat (.list ds)) st):R (.ref p) (upd H p (.lst ys)) :=
 k.laid I (jf hp) (.d (aO.lst (I.Hz hp) uS (F.imp λy x z=>z.same (jf hp)))) q
theorem EN{t:TA}{n:Nat}{d:mM}(hn:n<=sizeLine)(h:AA J t n d):AE J (IM t) (yv d):=λH0 A0 G al H st s env Q R I E q k=>by
 refine h H0 A0 G al H st s env _ _ I E q λxs az aZ vs H1 e1 I1 d1 q1=>?_
 obtain⟨ds,bO,E2,I2,F2,q2⟩:=kE I1 d1 q1.2;exact⟨by rw[d1.1,q1.1];exact hn,λp hp=>(k.go I2 (e1.trans I1 E2)).cell I2 hp F2 q2⟩
theorem aL{k n:Nat}{d:mM}(h:vb X Y es n d)(hn:n<=sizeLine:=by decide):bR X Y (.Tuple es k pos) (EL d):=by
 obtain⟨t,p,a⟩:=h.h;exact⟨_,ff p,Jz hn a⟩
theorem cE{n:Nat}{d:mM}(h:vb X Y es n d)(hn:n<=sizeLine:=by decide):bR X Y (.List es pos) (EM d):=by
 obtain⟨t,p,a⟩:=h.h;exact⟨_,eE p,JA hn a⟩
theorem lW{n:Nat}{d:mM}(h:vb X Y es n d)(hn:n<=sizeLine:=by decide):bR X Y (.List es pos) (yv d):=by
 obtain⟨t,p,a⟩:=h.h;exact⟨_,eE p,EN hn a⟩
end
theorem lr{n:Nat}(h:n<=1000000):n<=sizeLine:=Xh h (by decide)
section
variable {X:Cx} {Y:YK} {a b c e:Expr} {es:List Expr} {pos:Pos} {ea eb ec:DX} {K:aE} {J:KF}
@[reducible] def BH(x y:DV)(st:aB)(Q:DC):Prop:=match x,y with
 | .dat (.int i),.dat (.int j)=>Q (.dat (.int (i + j))) st
 | .dat (.str i),.dat (.str j)=>i.length + j.length<=1000000/\Q (.dat (.str (i++j))) st
 | .dat (.tuple i),.dat (.tuple j)=>i.length + j.length<=1000000/\Q (.dat (.tuple (i++j))) st
 | x,y=>match iR st x,iR st y with
  | some i,some j=>i.length + j.length<=1000000/\Q (.dat (.list (i++j))) st
  | _,_=>False
@[reducible] def vd(x y:DV)(st:aB)(Q:DC):Prop:=match iR st x,iR st y with
  | some i,some j=>i.length + j.length<=1000000/\Q (.ref st.length) (st++[.live (i++j)])
  | _,_=>False
@[reducible] def yw(K:aE):R2:=λx y H Q=>Dx (λi j=>.int (i + j)) x y H Q∨((∃i j,x=.str i/\y=.str j/\i.length + j.length<=sizeLine/\Q (.str (i++j)) H)∨(Hr K x y H Q∨Hq K x y H Q))
theorem yy:i6 X (binaryOp .Add) (yw X.K):=m5 oV (m5 wj (m5 EA yo))
theorem cj.len{α:Type}{R:V->α->Prop}{ys:List V}{xs:List α}(h:cj R ys xs):ys.length=xs.length:=h.1
theorem EO:AO J (yw J) vd:=λH0 A0 G al H st x y dx dy Q R I h1 h2 q k=>by
 unfold vd at q;split at q
 ·rename_i i j e1 e2;obtain⟨a,ys,rfl,g1,g2⟩:=h1.Jx I e1;obtain⟨b,zs,rfl,g3,g4⟩:=h2.Jx I e2;exact .inr (.inr (.inr ⟨a,b,ys,zs,rfl,rfl,g1,g3,by rw[g2.len,g4.len];exact lr q.1,λp hp=>k.cell I hp (g2.append g4) q.2⟩))
 ·exact q.elim
theorem JB:AO J (yw J) BH:=λH0 A0 G al H st x y dx dy Q R I h1 h2 q k=>by
 have lists:(match iR st dx,iR st dy with
  | some i,some j=>i.length + j.length<=1000000/\Q (.dat (.list (i++j))) st
  | _,_=>False)->yw J x y H R:=λq=>by
  split at q
  ·rename_i i j e1 e2;obtain⟨a,ys,rfl,g1,g2⟩:=h1.Jx I e1;obtain⟨b,zs,rfl,g3,g4⟩:=h2.Jx I e2;exact .inr (.inr (.inr ⟨a,b,ys,zs,rfl,rfl,g1,g3,by rw[g2.len,g4.len];exact lr q.1,λp hp=>k.list I hp (g2.append g4) q.2⟩))
  ·exact q.elim
 unfold BH at q;split at q
 ·rw[aO.aU h1,aO.aU h2];exact .inl ⟨_,_,rfl,rfl,k.here I (.d (.int _)) q⟩
 ·rw[aO.cq h1,aO.cq h2];exact .inr (.inl ⟨_,_,rfl,rfl,lr q.1,k.here I (.d (.str _)) q.2⟩)
 ·obtain⟨a,ys,rfl,g1,_,g2⟩:=aO.gK h1;obtain⟨b,zs,rfl,g3,_,g4⟩:=aO.gK h2;refine .inr (.inr (.inl ⟨a,b,ys,zs,rfl,rfl,g1,g3,by rw[g2.len,g4.len];exact lr q.1,λp H' s hp=>k.laid I s (.d ?_) q.2⟩));have g:=(g2.append g4).imp λy x z=>z.same s
  exact aP.tup ((I.same s).MX hp) g.1 g.2
 ·exact lists q
theorem c9(ha:bR X Y a ea)(hb:bR X Y b eb):bR X Y (.BinOp a .Add b pos) (sL BH ea eb):=pD yy JB ha hb
theorem ER(ha:bR X Y a ea)(hb:bR X Y b eb):bR X Y (.BinOp a .Add b pos) (sL vd ea eb):=pD yy EO ha hb
theorem jg(ha:bR X Y a ea)(hb:bR X Y b eb):bR X Y (.BinOp a .Sub b pos) (sL (Jw λi j=>.int (i - j)) ea eb):=pD i8 (vc λ_ _ _=>.int _) ha hb
def MulOk(i j:Int):Prop:=AW i j∨Bl i j
theorem ES:i6 X (binaryOp .Mult) (rI MulOk λi j=>.int (i * j)):=IH λ_ _ _ _ _ _ _ hc q=>mul_int q (by rcases hc with h | h;exact h.ok;exact h.ok)
theorem sM(ha:bR X Y a ea)(hb:bR X Y b eb):bR X Y (.BinOp a .Mult b pos) (sL (oI MulOk λi j=>.int (i * j)) ea eb):=pD ES (EI λ_ _ _=>.int _) ha hb
def HB(j:Int):Prop:=0 < j/\j < 18446744073709551616
theorem BI:i6 X (binaryOp .FloorDiv) (rI (λ_ j=>HB j) λi j=>.int (i / j)):=IH λi j _ _ _ _ _ hc q=>by
 have h1:(0:Int) < j:=hc.1;have h2:j < 18446744073709551616:=hc.2;exact floordiv_int (by omega) (by rw[Int.fdiv_eq_ediv_of_nonneg i (by omega)];exact q) (.inl (uQ.ok (i:=i) ⟨by omega,by omega⟩))
theorem dG(ha:bR X Y a ea)(hb:bR X Y b eb):bR X Y (.BinOp a .FloorDiv b pos) (sL (oI (λ_ j=>HB j) λi j=>.int (i / j)) ea eb):=pD BI (EI λ_ _ _=>.int _) ha hb
theorem bp(ha:bR X Y a ea)(hb:bR X Y b eb):bR X Y (.BinOp a .Mod b pos) (sL (oI (λ_ j=>0 < j) λi j=>.int (i % j)) ea eb):=pD wg (EI λ_ _ _=>.int _) ha hb
theorem wX(ha:bR X Y a ea)(hb:bR X Y b eb):bR X Y (.BinOp a .Pow b pos) (sL (oI Mv λi j=>.int (i ^ j.toNat)) ea eb):=pD IJ (EI λ_ _ _=>.int _) ha hb
@[reducible] def JC(ea:DX)(env:bG)(st:aB)(Q:DC):Prop:=ea env st λx az=>match x with
 | .dat (.int i)=>Q (.dat (.int (-i))) az
 | _=>False
theorem BJ(ha:bR X Y a ea):bR X Y (.UnaryOp .USub a pos) (JC ea):=by
 obtain⟨ta,p1,a1⟩:=ha.h;refine⟨_,Ms IK p1,λH0 A0 G al H st s env Q R I E h k=>a1 H0 A0 G al H st s env _ _ I E h λx az aZ v H1 e1 I1 d1 q1=>?_⟩;split at q1
 ·rw[aO.aU d1];exact⟨_,rfl,(k.go I1 e1).here I1 (.d (.int _)) q1⟩
 ·exact q1.elim
@[reducible] def sO(n:Bool->Bool)(x y:DV)(st:aB)(Q:DC):Prop:=match x,y with
 | .dat (.int i),.dat (.int j)=>Q (.dat (.bool (n (decide (i=j))))) st
 | .dat (.str i),.dat (.str j)=>Q (.dat (.bool (n (decide (i=j))))) st
 | x,y=>match rJ st x,rJ st y with
  | some i,some j=>(PySem.SeqAt.shaped i=true/\PySem.SeqAt.shaped j=true)/\Q (.dat (.bool (n (PyData.eqv i j)))) st
  | _,_=>False
@[reducible] def Pu(K:aE):R2:=λx y H Q=>RI x y H Q∨Jc K x y H Q
@[reducible] def Pw(K:aE):R2:=λx y H Q=>RJ x y H Q∨MI K x y H Q
theorem MZ{i j:Int}:decide (V.int i=V.int j)=decide (i=j):=decide_eq_decide.mpr ⟨V.int.inj,λh=>by rw[h]⟩
theorem M0{i j:Str}:decide (V.str i=V.str j)=decide (i=j):=decide_eq_decide.mpr ⟨V.str.inj,λh=>by rw[h]⟩
theorem HC:AO J (Pu J) (sO id):=λH0 A0 G al H st x y dx dy Q R I h1 h2 q k=>by
 unfold sO at q;split at q
 ·rw[aO.aU h1,aO.aU h2];exact .inl ⟨rfl,k.here I (.d (.bl _)) (by rw[MZ];exact q)⟩
 ·rw[aO.cq h1,aO.cq h2];exact .inl ⟨rfl,k.here I (.d (.bl _)) (by rw[M0];exact q)⟩
 ·split at q
  ·rename_i i j e1 e2;exact .inr ⟨i,j,h1.OB I e1,h2.OB I e2,q.1.1,q.1.2,k.here I (.d (.bl _)) q.2⟩
  ·exact q.elim
theorem M1:AO J (Pw J) (sO not):=λH0 A0 G al H st x y dx dy Q R I h1 h2 q k=>by
 unfold sO at q;split at q
 ·rw[aO.aU h1,aO.aU h2];exact .inl ⟨rfl,k.here I (.d (.bl _)) (by rw[MZ];exact q)⟩
 ·rw[aO.cq h1,aO.cq h2];exact .inl ⟨rfl,k.here I (.d (.bl _)) (by rw[M0];exact q)⟩
 ·split at q
  ·rename_i i j e1 e2;exact .inr ⟨i,j,h1.OB I e1,h2.OB I e2,q.1.1,q.1.2,k.here I (.d (.bl _)) q.2⟩
  ·exact q.elim
theorem M3(hu:X.A.units + 64 < cLine)(ha:bR X Y a ea)(hb:bR X Y b eb):bR X Y (.Compare a [.Eq] [b] pos) (sL (sO id) ea eb):=Jv (m5 bz (sA hu)) HC ha hb (aC _)
end
section
variable {X:Cx} {Y:YK} {a b c e:Expr} {es:List Expr} {pos:Pos} {ea eb ec:DX} {K:aE} {J:KF}
theorem cj.oA{α:Type}{R:V->α->Prop}{ys:List V}{xs:List α}(h:cj R ys xs){i:Int}{x:α}(hx:oA xs i=some x):∃y,L2.oA ys i=some y/\R y x:=by
 unfold L2.oA at hx ⊢;rw[h.1]
 cases q:Be xs.length i with
 | none=>rw[q]at hx;cases hx
 | some j =>
  rw[q]at hx;exact h.at hx
@[reducible] def nX(st:aB):DV->Option (List PyData)
 | .dat (.tuple ds)=>some ds
 | x=>iR st x
theorem i7.OC{H0:Hp}{A0:Addr->Prop}{G:Addr->Prop}{al:List (List Addr)}{H:Hp}{st:aB}(I:DI J H0 A0 G al H st){v:V}{x:DV}{ds:List PyData}(h:i7 J (Fb G al st) H al v x)(e:nX st x=some ds):∃(a:Addr) (ys:List V),v=.ref a/\(bK J H a ys∨cg J H a ys)/\cj (aO J (Fb G al st) H) ys ds:=by
 unfold nX at e;split at e
 ·cases e;obtain⟨a,ys,h1,h2,_,h3⟩:=aO.gK h;exact⟨a,ys,h1,.inr h2,h3⟩
 ·obtain⟨a,ys,h1,h2,h3⟩:=h.Jx I e;exact⟨a,ys,h1,.inl h2,h3⟩
@[reducible] def M4(x y:DV)(st:aB)(Q:DC):Prop:=match x,y with
 | .dat (.str z),.dat (.int i)=>z.length<=1000000/\∃c,L2.oA z.cps.toList i=some c/\Q (.dat (.str ⟨#[c]⟩)) st
 | x,.dat (.int i)=>match nX st x with
  | some ds=>∃d,L2.oA ds i=some d/\Q (.dat d) st
  | none=>False
 | _,_=>False
theorem M5:AO J (RL J) M4:=λH0 A0 G al H st x y dx dy Q R I h1 h2 q k=>by
 unfold M4 at q;split at q
 ·obtain⟨q1,c,q2,q3⟩:=q;rw[aO.cq h1,aO.aU h2];exact .inr (.inr ⟨_,_,c,rfl,rfl,lr q1,q2,k.here I (.d (.str _)) q3⟩)
 ·split at q
  ·rename_i ds e;obtain⟨d,q1,q2⟩:=q;rw[aO.aU h2];obtain⟨a,ys,rfl,g1,g2⟩:=h1.OC I e;obtain⟨z,g3,g4⟩:=g2.oA q1;rcases g1 with g1 | g1
   ·exact .inl ⟨a,ys,_,z,rfl,rfl,g1,g3,k.here I (.d g4) q2⟩
   ·exact .inr (.inl ⟨a,ys,_,z,rfl,rfl,g1,g3,k.here I (.d g4) q2⟩)
  ·exact q.elim
 ·exact q.elim
theorem lX(ha:bR X Y a ea)(hb:bR X Y b eb)(hs:sr b):bR X Y (.Subscript a b pos) (sL M4 ea eb):=by
 obtain⟨ta,p1,a1⟩:=ha.h;obtain⟨tb,p2,a2⟩:=hb.h;exact⟨_,aF Bf p1 p2 hs,yt M5 a1 a2⟩
abbrev DO:=bG->aB->(Option Int->aB->Prop)->Prop
@[reducible] def BK(_:bG)(st:aB)(Q:Option Int->aB->Prop):Prop:=Q none st
@[reducible] def BL(e:DX)(env:bG)(st:aB)(Q:Option Int->aB->Prop):Prop:=e env st λx az=>match x with
 | .dat (.int i)=>Q (some i) az
 | _=>False
structure OD(X:Cx)(Y:YK)(e:Option Expr)(d:DO):Prop where
 h:∃t,PO X e t/\∀(H0:Hp) (A0:Addr->Prop) (G:Addr->Prop) (al:List (List Addr)) (H:Hp) (st:aB) (s:St) (env:bG) (Q:Option Int->aB->Prop) (R:Option Int->Hp->Prop),DI (kf X Y) H0 A0 G al H st->mL X.K (Fb G al st) H al s env->d env st Q ->
  (∀i st' al' H',Ext al H st al' H' st'->DI (kf X Y) H0 A0 G al' H' st'->Q i st'->R i H')->t s H R
theorem kF:OD X Y none BK:=⟨_,yh,λH0 A0 G al H st s env Q R I E q k=>k none st al H .refl I q⟩
theorem kG(ha:bR X Y a ea):OD X Y (some a) (BL ea):=by
 obtain⟨ta,p1,a1⟩:=ha.h;refine⟨_,yi p1,λH0 A0 G al H st s env Q R I E q k=>a1 H0 A0 G al H st s env _ _ I E q λx az aZ v H1 e1 I1 d1 q1=>?_⟩;split at q1
 ·rw[aO.aU d1];exact⟨_,rfl,k _ _ _ _ e1 I1 q1⟩
 ·exact q1.elim
def cutD(xs:List PyData)(lo hi:Option Int):List PyData:=(xs.drop (HT.dI xs.length 0 lo)).take (HT.dI xs.length xs.length hi - HT.dI xs.length 0 lo)
theorem cj.cut{P:Addr->Prop}{H:Hp}{ys:List V}{ds:List PyData}(h:cj (aO K P H) ys ds)(lo hi:Option Int):cj (aO K P H) (oZ ys lo hi) (cutD ds lo hi):=by
 unfold oZ cutD;rw[h.1];exact(h.drop _).take _
@[reducible] def Px(ea:DX)(lo hi:DO)(env:bG)(st:aB)(Q:DC):Prop:=ea env st λx az=>lo env az λl bO=>hi env bO λu jY=>match x with
 | .dat (.str z)=>z.length<=1000000/\Q (.dat (.str (Txt.slice z l u))) jY
 | .dat (.tuple ds)=>Q (.dat (.tuple (cutD ds l u))) jY
 | x=>match iR jY x with
  | some ds=>Q (.dat (.list (cutD ds l u))) jY
  | none=>False
theorem BM{r r':V->Option Int->Option Int->Hp->VK->Prop}(h:Dz X r)(h':Dz X r'):Dz X (λx l u H Q=>r x l u H Q∨r' x l u H Q):=by
 unfold Dz at h h' ⊢
 intros
 rename_i q;rcases q with q | q
 ·apply h<;>assumption
 ·apply h'<;>assumption
theorem Py:Dz X (λx l u H Q=>Ht x l u H Q∨(MM X.K x l u H Q∨MD X.K x l u H Q)):=BM EC (BM Ez Ep)
theorem rK{lo hi:Option Expr}{l u:DO}{p2:Pos}(ha:bR X Y a ea)(hl:OD X Y lo l)(hh:OD X Y hi u):bR X Y (.Subscript a (.Slice lo hi none p2) pos) (Px ea l u):=by
 obtain⟨ta,p1,a1⟩:=ha.h;obtain⟨tl,p2,a2⟩:=hl.h;obtain⟨th,p3,a3⟩:=hh.h;refine⟨_,uG Py p1 p2 p3,λH0 A0 G al H st s env Q R I E q k=>a1 H0 A0 G al H st s env _ _ I E q λx az aZ v H1 e1 I1 d1 q1=>?_⟩;refine a2 H0 A0 G aZ H1 az s env _ _ I1 (E.ext e1) q1 λi bO eX H2 e2 I2 q2=>?_
 have ve:=e1.trans I1 e2;refine a3 H0 A0 G eX H2 bO s env _ _ I2 (E.ext ve) q2 λj jY OE H3 e3 I3 q3=>?_
 have k3:=k.go I3 (ve.trans I2 e3);have d3:=(d1.ext e2).ext e3;split at q3
 ·rw[aO.cq d3];exact .inl ⟨_,rfl,lr q3.1,k3.here I3 (.d (.str _)) q3.2⟩
 ·obtain⟨b,ys,rfl,g1,_,g2⟩:=aO.gK d3;refine .inr (.inl ⟨b,ys,rfl,g1,λp H' s hp=>k3.laid I3 s (.d ?_) q3⟩);have g:=(g2.cut i j).imp λy x z=>z.same s
  exact aP.tup ((I3.same s).MX hp) g.1 g.2
 ·split at q3
  ·rename_i ds e;obtain⟨b,ys,rfl,g1,g2⟩:=d3.Jx I3 e;exact .inr (.inr ⟨b,ys,rfl,g1,λp hp=>k3.list I3 hp (g2.cut i j) q3⟩)
  ·exact q3.elim
@[reducible] def DA(ea:DX)(env:bG)(st:aB)(Q:Bool->aB->Prop):Prop:=ea env st λx az=>match x with
 | .dat (.bool b)=>Q b az
 | _=>False
@[reducible] def yz(t u:DT)(env:bG)(st:aB)(Q:Bool->aB->Prop):Prop:=t env st λb az=>if b=true then u env az Q else Q false az
@[reducible] def ET(t u:DT)(env:bG)(st:aB)(Q:Bool->aB->Prop):Prop:=t env st λb az=>if b=true then Q true az else u env az Q
@[reducible] def BN(t:DT)(env:bG)(st:aB)(Q:Bool->aB->Prop):Prop:=t env st λb az=>Q (!b) az
theorem wY{t:TE}{e:DX}(h:AE J t e):AT J (A1 t) (DA e):=λH0 A0 G al H st s env Q R I E q k=>h H0 A0 G al H st s env _ _ I E q λx az aZ v H1 e1 I1 d1 q1=>by
 split at q1
 ·rw[aO.uZ d1];exact⟨_,rfl,k _ _ _ _ e1 I1 q1⟩
 ·exact q1.elim
theorem sP{op:CmpOp}{r:R2}{o:EH}(ho:i6 X (compareOp op) r)(ao:AO (kf X Y) r o)(ha:bR X Y a ea)(hb:bR X Y b eb)(hm:behindInMarks op b=false):wV X Y (.Compare a [op] [b] pos) (DA (sL o ea eb)):=by
 obtain⟨ta,p1,a1⟩:=ha.h;obtain⟨tb,p2,a2⟩:=hb.h;exact⟨_,tR ho p1 p2 hm,wY (yt ao a1 a2)⟩
theorem HD(ha:bR X Y a ea)(hb:bR X Y b eb):wV X Y (.Compare a [.Lt] [b] pos) (DA (sL (Jw λi j=>.bool (decide (i < j))) ea eb)):=sP AY (vc λ_ _ _=>.bl _) ha hb (aC _)
theorem M6(ha:bR X Y a ea)(hb:bR X Y b eb):wV X Y (.Compare a [.Gt] [b] pos) (DA (sL (Jw λi j=>.bool (decide (j < i))) ea eb)):=sP Hj (vc λ_ _ _=>.bl _) ha hb (aC _)
theorem j7(hu:X.A.units + 64 < cLine)(ha:bR X Y a ea)(hb:bR X Y b eb):wV X Y (.Compare a [.Eq] [b] pos) (DA (sL (sO id) ea eb)):=sP (m5 bz (sA hu)) HC ha hb (aC _)
theorem HE(hu:X.A.units + 64 < cLine)(ha:bR X Y a ea)(hb:bR X Y b eb):wV X Y (.Compare a [.NotEq] [b] pos) (DA (sL (sO not) ea eb)):=sP (m5 uC (Jd hu)) M1 ha hb (aC _)
theorem pE(ha:bR X Y a ea)(he:∀whole,isTrue a X.env whole=(do let v ← whole;standAt a.pos;holding [v] (truthy v)):=by intro _;rfl):wV X Y a (DA ea):=by
 obtain⟨ta,p1,a1⟩:=ha.h;exact⟨_,kZ p1 he,wY a1⟩
variable {rest:List Expr} {ta tb:DT}
theorem pF(ha:wV X Y a ta):wV X Y (.UnaryOp .Not a pos) (BN ta):=by
 obtain⟨t,p1,a1⟩:=ha.h;exact⟨_,oQ p1,λH0 A0 G al H st s env Q R I E q k=>a1 H0 A0 G al H st s env _ _ I E q λb az aZ H1 e1 I1 q1=>k _ _ _ _ e1 I1 q1⟩
theorem EU(ha:wV X Y a ta):zC X Y (.BoolOp .And [a] pos) ta:=by
 obtain⟨t,p1,a1⟩:=ha.h;exact⟨_,pw_and1 p1,a1⟩
theorem sQ(ha:wV X Y a ta):zC X Y (.BoolOp .Or [a] pos) ta:=by
 obtain⟨t,p1,a1⟩:=ha.h;exact⟨_,pw_or1 p1,a1⟩
theorem JD{t u:TT}(h1:AT J t ta)(h2:AT J u tb):AT J (Mi t u) (yz ta tb):=λH0 A0 G al H st s env Q R I E q k=>h1 H0 A0 G al H st s env _ _ I E q λb az aZ H1 e1 I1 q1=>by
 cases b with
 | true=>exact iQ (h2 H0 A0 G aZ H1 az s env _ _ I1 (E.ext e1) (by rw[W4 rfl]at q1;exact q1) (k.go I1 e1))
 | false=>exact jM (k _ _ _ _ e1 I1 (by rw[W2 W6]at q1;exact q1))
theorem M7{t u:TT}(h1:AT J t ta)(h2:AT J u tb):AT J (RF t u) (ET ta tb):=λH0 A0 G al H st s env Q R I E q k=>h1 H0 A0 G al H st s env _ _ I E q λb az aZ H1 e1 I1 q1=>by
 cases b with
 | false=>exact jM (h2 H0 A0 G aZ H1 az s env _ _ I1 (E.ext e1) (by rw[W2 W6]at q1;exact q1) (k.go I1 e1))
 | true=>exact iQ (k _ _ _ _ e1 I1 (by rw[W4 rfl]at q1;exact q1))
theorem JE(ha:wV X Y a ta)(hb:zC X Y (.BoolOp .And (b::rest) pos) tb):zC X Y (.BoolOp .And (a::b::rest) pos) (yz ta tb):=by
 obtain⟨t,p1,a1⟩:=ha.h;obtain⟨u,p2,a2⟩:=hb.h;exact⟨_,pw_and p1 p2,JD a1 a2⟩
theorem vf(ha:wV X Y a ta)(hb:zC X Y (.BoolOp .Or (b::rest) pos) tb):zC X Y (.BoolOp .Or (a::b::rest) pos) (ET ta tb):=by
 obtain⟨t,p1,a1⟩:=ha.h;obtain⟨u,p2,a2⟩:=hb.h;exact⟨_,pw_or p1 p2,M7 a1 a2⟩
theorem zC.dt(h:zC X Y a ta):wV X Y a ta:=by
 obtain⟨t,p1,a1⟩:=h.h;exact⟨_,p1.pt,a1⟩
end
theorem zF{α:Type}{R:V->α->Prop}{vs:List V}{x:α}(h:cj R vs [x]):∃v,vs=[v]/\R v x:=by
 have:=h.1
 match vs,this,h with
 | [v],_,h=>exact⟨v,rfl,h.2 0 v x rfl rfl⟩
theorem M8{α:Type}{R:V->α->Prop}{vs:List V}{x y:α}(h:cj R vs [x,y]):∃v u,vs=[v,u]/\R v x/\R u y:=by
 have:=h.1
 match vs,this,h with
 | [v,u],_,h=>exact⟨v,u,rfl,h.2 0 v x rfl rfl,h.2 1 u y rfl rfl⟩
section
variable {X:Cx} {Y:YK} {a b c e:Expr} {es:List Expr} {pos p:Pos} {ea eb ec:DX} {K:aE} {J:KF} {x:Str} {id:String} {n:Nat} {d:mM} {r r':List V->Hp->VK->Prop} {o:Pt}
@[reducible] def Ao(o:Pt)(d:mM)(env:bG)(st:aB)(Q:DC):Prop:=d env st λxs az=>o xs az Q
theorem HG{t:TA}(ho:AB J r o)(h:AA J t n d):AE J (O9 r t) (Ao o d):=λH0 A0 G al H st s env Q R I E q k=>h H0 A0 G al H st s env _ _ I E q λxs az aZ vs H1 e1 I1 d1 q1=>ho H0 A0 G aZ H1 az vs xs Q R I1 d1 q1.2 (k.go I1 e1)
theorem vg(hc:iN X (.builtin id) r)(ho:AB (kf X Y) r o)(hg:Gl X x)(hm:X.mg x=none)(hv:bootBuiltins x=some (.builtin id))(ha:vb X Y (e::es) n d)(hn:x≠"__name__":=by decide)(hdb:(x == ("__debug__" : Str))=false:=by decide)
  (he:starEach (e::es) X.env=(false,eval e X.env)::starEach es X.env:=by rfl) (hpl:(backTo pos (starEach es X.env)).any (·.1)=false:=by rfl):bR X Y (.Call (.Name x p) (e::es) [] pos) (Ao o d):=by
 obtain⟨t,p1,a1⟩:=ha.h;exact⟨_,oX hc hg hm hv p1 hn hdb he hpl,HG ho a1⟩
theorem zG{T:String}(hc:iN X (.type T) r)(ho:AB (kf X Y) r o)(hg:Gl X x)(hm:X.mg x=none)(hv:bootBuiltins x=some (.type T))(ha:vb X Y (e::es) n d)(hn:x≠"__name__":=by decide)(hdb:(x == ("__debug__" : Str))=false:=by decide)
  (he:starEach (e::es) X.env=(false,eval e X.env)::starEach es X.env:=by rfl) (hpl:(backTo pos (starEach es X.env)).any (·.1)=false:=by rfl):bR X Y (.Call (.Name x p) (e::es) [] pos) (Ao o d):=by
 obtain⟨t,p1,a1⟩:=ha.h;exact⟨_,mW hc hg hm hv p1 hn hdb he hpl,HG ho a1⟩
theorem M9{f:Value}(h:iN X f r)(h':iN X f r'):iN X f (λxs H Q=>r xs H Q∨r' xs H Q):=λpins s σ H xs us Q I rv q=>by
 rcases q with q | q
 ·exact h pins s σ H xs us Q I rv q
 ·exact h' pins s σ H xs us Q I rv q
@[reducible] def BO(xs:List DV)(st:aB)(Q:DC):Prop:=match xs with
 | [.dat (.str z)]=>z.length<=1000000/\Q (.dat (.int z.length)) st
 | [x]=>match nX st x with
  | some ds=>Q (.dat (.int ds.length)) st
  | none=>False
 | _=>False
theorem JF:AB J (λxs H Q=>(∃p ys,xs=[.ref p]/\(bK J H p ys∨cg J H p ys)/\Q (.int ys.length) H)∨∃z,xs=[.str z]/\z.length<=sizeLine/\Q (.int z.length) H) BO:=λH0 A0 G al H st vs ds Q R I h q k=>by
 unfold BO at q;split at q
 ·obtain⟨v,rfl,h1⟩:=zF h;rw[aO.cq h1];exact .inr ⟨_,rfl,lr q.1,k.here I (.d (.int _)) q.2⟩
 ·split at q
  ·rename_i ds e;obtain⟨v,rfl,h1⟩:=zF h;obtain⟨p,ys,rfl,g1,g2⟩:=h1.OC I e;exact .inl ⟨p,ys,rfl,g1,k.here I (.d (.int _)) (by rw[g2.len];exact q)⟩
  ·exact q.elim
 ·exact q.elim
theorem pG(hg:Gl X "len")(hm:X.mg "len"=none)(ha:vb X Y [e] n d)(he:starEach [e] X.env=(false,eval e X.env)::starEach [] X.env:=by rfl):bR X Y (.Call (.Name "len" p) [e] [] pos) (Ao BO d):=vg (M9 sv sy) JF hg hm IY ha (by decide) (by decide) he rfl
@[reducible] def vh(xs:List DV)(st:aB)(Q:DC):Prop:=match xs with
 | [x]=>match nX st x with
  | some ds=>Q (.dat (.list ds)) st
  | none=>False
 | _=>False
theorem EV:AB J (λxs H Q=>∃p ys,xs=[.ref p]/\(bK J H p ys∨cg J H p ys)/\∀l,H l=none->Q (.ref l) (upd H l (.lst ys))) vh:=λH0 A0 G al H st vs ds Q R I h q k=>by
 unfold vh at q;split at q
 ·split at q
  ·rename_i ds e;obtain⟨v,rfl,h1⟩:=zF h;obtain⟨p,ys,rfl,g1,g2⟩:=h1.OC I e;exact⟨p,ys,rfl,g1,λl hl=>k.list I hl g2 q⟩
  ·exact q.elim
 ·exact q.elim
theorem yA(hg:Gl X "list")(hm:X.mg "list"=none)(ha:vb X Y [e] n d)(he:starEach [e] X.env=(false,eval e X.env)::starEach [] X.env:=by rfl):bR X Y (.Call (.Name "list" p) [e] [] pos) (Ao vh d):=zG ja EV hg hm oB ha (by decide) (by decide) he rfl
theorem yB{P:Addr->Prop}{H:Hp}:∀{ys:List V} {ns:List Int},cj (aO K P H) ys (ns.map PyData.int)->ys=ns.map V.int
 | [],[],_=>rfl
 | [],_::_,h=>by have:=h.1;simp at this
 | _::_,[],h=>by have:=h.1;simp at this
 | y::ys,i::ns,h=>by
  have h0:=aO.aU (h.2 0 y (.int i) rfl rfl);have ht:=yB (ys:=ys) (ns:=ns) ⟨by simpa using h.1,λj p q a b=>h.2 (j + 1) p q (by simpa using a) (by simpa using b)⟩;rw[h0,ht];rfl
abbrev Ap:=List PyData->(PyData->Prop)->Prop
def Na(K:aE)(T:Ap):Sp:=λvs H Q _=>∃(P:Addr->Prop) (ds:List PyData),(∀c,P c->∃o,H c=some o/\jP o)/\cj (aO K P H) vs ds/\T ds λd=>∀v H',aQ H H'->aO K P H' v d->Q v H'
def L3(K:aE)(sp:Sp)(T:Ap):Prop:=∀(vs:List V) (H:Hp) (Q:VK) (P:Addr->Prop) (ds:List PyData),(∀c,P c->∃o,H c=some o/\jP o)->cj (aO K P H) vs ds->T ds (λd=>∀v H',aQ H H'->aO K P H' v d->Q v H')->sp vs H Q E0
theorem HH{T:Ap}:L3 K (Na K T) T:=λvs H Q P ds h1 h2 h3=>⟨P,ds,h1,h2,h3⟩
def BP(T:Ap):Prop:=∀ds (Q Q':PyData->Prop),(∀d,Q d->Q' d)->T ds Q->T ds Q'
@[reducible] def yC(T:Ap)(xs:List DV)(st:aB)(Q:DC):Prop:=eA xs st λds az=>T ds λd=>Q (.dat d) az
theorem pH{H:Hp}{v:V}{d:PyData}(h:aP K H v d):aO K (λ_=>False) H v d:=aP.same (λc o e=>dR.mpr ⟨λz=>z,e⟩) h
theorem EW{sp:Sp}{T:Ap}(h:L3 J sp T)(m:BP T):AB J (λvs H Q=>sp (vs++[]) H Q E0) (yC T):=λH0 A0 G al H st vs ds Q R I hp q k=>by
 obtain⟨es,az,E1,I1,F1,q1⟩:=kE I hp q;rw[XC];refine h vs H R (Fb G al az) es (λc hc=>I1.lV hc) F1 (m _ _ _ (λd hd v H' s r=>?_) q1);exact(k.go I1 E1).laid I1 s (.d r) hd
theorem sS{sp:Sp}{t:TA}(h:AB J (λvs H Q=>sp (vs++[]) H Q E0) o)(ha:AA J t n d):AE J (uE sp [] E0 t) (Ao o d):=λH0 A0 G al H st s env Q R I E q k=>ha H0 A0 G al H st s env _ _ I E q λxs az aZ vs H1 e1 I1 d1 q1=>h H0 A0 G aZ H1 az vs xs Q R I1 d1 q1.2 (k.go I1 e1)
theorem kH{kk:Nat}{ps:List Str}{sp:Sp}{T:Ap}(h:gI X.prog X.w X.K X.mg X.base cN x kk ps sp)(hs:L3 X.K sp T)(m:BP T)(hr:cm kk X.A)(hg:Gl X x)(ha:vb X Y (e::es) n d)(hdb:(x == ("__debug__" : Str))=false:=by decide)
  (he:starEach (e::es) X.env=(false,eval e X.env)::starEach es X.env:=by rfl) (hpl:(backTo pos (starEach es X.env)).any (·.1)=false:=by rfl):bR X Y (.Call (.Name x p) (e::es) [] pos) (Ao (yC T) d):=by
 obtain⟨t,p1,a1⟩:=ha.h;exact⟨_,eF h hr hg p1 hdb he hpl,sS (EW hs m) a1⟩
end
abbrev sT:=bG->aB->(List PyData->(aB->Prop)->aB->Prop)->Prop
def RX(J:KF)(H0:Hp)(A0:Addr->Prop)(G:Addr->Prop)(al:List (List Addr))(H:Hp)(st:aB)(Jj:It)(xs:List PyData)(ok:aB->Prop):Prop:=∀(G1:Addr->Prop) (aZ:List (List Addr)) (H1:Hp) (az:aB) (i:Nat),(∀c,G1 c->G c∨H c=none)->Ext al H st aZ H1 az->DI J H0 A0 G1 aZ H1 az->ok az ->
 (∀d,xs[i]?=some d->Jj.go i H1/\∀x H2,Jj.yld i H1 x H2->aQ H1 H2/\aO J (Fb G1 aZ az) H2 x d)/\(xs.length<=i->i<=xs.length->Jj.stop i H1)
def AI(J:KF)(wi:TI)(di:sT):Prop:=∀(H0:Hp) (A0:Addr->Prop) (G:Addr->Prop) (al:List (List Addr)) (H:Hp) (st:aB) (s:St) (env:bG) (Q:List PyData->(aB->Prop)->aB->Prop) (R:It->Hp->Prop),DI J H0 A0 G al H st->mL J (Fb G al st) H al s env->di env st Q ->
 (∀Jj xs ok st' al' H',Ext al H st al' H' st'->DI J H0 A0 G al' H' st'->RX J H0 A0 G al' H' st' Jj xs ok->Q xs ok st'->R Jj H')->wi s H R
structure Nb(X:Cx)(Y:YK)(tg iter:Expr)(d:sT):Prop where
 h:∃wi,PI X tg iter wi/\AI (kf X Y) wi d
def Pz(K:aE)(tl:TE):TI:=λσ H R=>tl σ H λx H1=>∃a,x=.ref a/\(((∃xs,bK K H1 a xs)/\R (Dw K a) H1)∨((∃xs,cg K H1 a xs)/\R (LQ K a) H1))
theorem HI{X:Cx}{tg l:Expr}{tl:TE}(hl:PE X l tl):PI X tg l (Pz X.K tl):=by
 intro pins s σ H R I h;refine bD (hl pins s σ H _ I h) λv s1 ⟨x,H1,I1,r1,q1⟩=>?_
 obtain⟨a,e,q⟩:=q1;subst e;cases r1
 have fin:∀b∈[s1.heap.objs.size],kM X pins H1 b:=λb hb=>by
  have e:b=s1.heap.objs.size:=by simpa using hb
  subst e;exact I1.IE (WU _) (I1.hok.fresh (WU _))
 rcases q with⟨⟨xs,hq⟩,q⟩ | ⟨⟨xs,hq⟩,q⟩
 ·obtain⟨its,rv,p,hz⟩:=I1.list hq;refine wpAny_pyIter_list p.isList ?_;exact⟨s1.heap.objs.size,[s1.heap.objs.size],_,_,H1,rfl,I1.kept (t':=s1.toks) λb o e=>WW _ e,qY a _,⟨_,Xf _ rfl,rfl,rfl⟩,fin,q⟩
 ·obtain⟨its,rv,p,hz⟩:=I1.tuple hq;refine wpAny_pyIter_tuple (show s1.heap.IsTuple a its.toArray from p) ?_;exact⟨s1.heap.objs.size,[s1.heap.objs.size],_,_,H1,rfl,I1.kept (t':=s1.toks) λb o e=>WW _ e,wb a _,⟨_,Xf _ rfl,rfl,rfl⟩,fin,q⟩
section
variable {X:Cx} {Y:YK} {tg a b c e:Expr} {es:List Expr} {pos p:Pos} {ea eb ec:DX} {K:aE} {J:KF} {n:Nat} {d:mM}
theorem aO.seq{P:Addr->Prop}{H:Hp}{v:V}{d:PyData}{ds:List PyData}(h:aO K P H v d)(e:d=.list ds∨d=.tuple ds):∃q a ys,v=.ref a/\RO q K (cutH P H) a ys/\RO q K H a ys/\cj (aO K P H) ys ds:=by
 rcases e with rfl | rfl
 ·obtain⟨a,ys,h1,h2,h3,h4⟩:=aO.eJ h;exact⟨true,a,ys,h1,h3,h2,h4⟩
 ·obtain⟨a,ys,h1,h2,h3,h4⟩:=aO.gK h;exact⟨false,a,ys,h1,h3,h2,h4⟩
@[reducible] def EX(ea:DX)(env:bG)(st:aB)(Q:List PyData->(aB->Prop)->aB->Prop):Prop:=ea env st λx az=>kS x az λd bO=>match d with
 | .list ds=>Q ds (λ_=>True) bO
 | .tuple ds=>Q ds (λ_=>True) bO
 | _=>False
theorem JG{t:TE}(h:AE J t ea):AI J (Pz J t) (EX ea):=λH0 A0 G al H st s env Q R I E q k=>h H0 A0 G al H st s env _ _ I E q λx az aZ v H1 e1 I1 d1 q1=>by
 obtain⟨d,bO,E2,I2,F2,q2⟩:=lq I1 d1 q1
 obtain⟨ds,ed,q2⟩:∃ds,(d=.list ds∨d=.tuple ds)/\Q ds (λ_=>True) bO:=by
  split at q2
  ·exact⟨_,.inl rfl,q2⟩
  ·exact⟨_,.inr rfl,q2⟩
  ·exact q2.elim
 obtain⟨w,a,ys,rfl,g1,g2,g3⟩:=F2.seq ed;refine⟨a,rfl,?_⟩;have ve:=e1.trans I1 E2
 cases w with
 | true =>
  refine .inl ⟨⟨ys,g2⟩,k (Dw J a) ds _ bO aZ H1 ve I2 (λG1 OE H3 jY i hG e3 I3 _=>⟨λd hd=>?_,λh1 _=>?_⟩) q2⟩
  ·have s3:=(je hG e3).seq g1;obtain⟨y,hy,_⟩:=g3.at hd;refine⟨⟨ys,y,eG.seq s3,hy⟩,λx H4 ⟨e4,z⟩=>?_⟩;subst e4;have:=z ys (eG.seq s3);exact⟨.refl _,(g3.2 i x d this hd).kN hG e3⟩
  ·exact⟨ys,eG.seq ((je hG e3).seq g1),by rw[g3.1];exact h1⟩
 | false =>
  refine .inr ⟨⟨ys,g2⟩,k (LQ J a) ds _ bO aZ H1 ve I2 (λG1 OE H3 jY i hG e3 I3 _=>⟨λd hd=>?_,λh1 _=>?_⟩) q2⟩
  ·have s3:=(je hG e3).tup g1;obtain⟨y,hy,_⟩:=g3.at hd;refine⟨⟨ys,y,eG.tup s3,hy⟩,λx H4 ⟨e4,z⟩=>?_⟩;subst e4;have:=z ys (eG.tup s3);exact⟨.refl _,(g3.2 i x d this hd).kN hG e3⟩
  ·exact⟨ys,eG.tup ((je hG e3).tup g1),by rw[g3.1];exact h1⟩
theorem pJ(h:bR X Y a ea):Nb X Y tg a (EX ea):=by
 obtain⟨t,p1,a1⟩:=h.h;exact⟨_,HI p1,JG a1⟩
def zH(lo:Int)(m:Nat):List PyData:=(List.range m).map λ(k:Nat)=>PyData.int (lo + (k:Int))
theorem lZ{lo:Int}{m:Nat}:(zH lo m).length=m:=by unfold zH;rw[List.length_map,List.length_range]
theorem sU{lo:Int}{m i:Nat}{d:PyData}(h:(zH lo m)[i]?=some d):i < m/\d=.int (lo + (i:Int)):=by
 have hi:=(er h).1;rw[lZ]at hi;unfold zH at h;rw[List.getElem?_map,List.getElem?_range hi]at h;cases h;exact⟨hi,rfl⟩
@[reducible] def sV(d:mM)(env:bG)(st:aB)(Q:List PyData->(aB->Prop)->aB->Prop):Prop:=d env st λxs az=>match xs with
 | [.dat (.int j)]=>(-(2 ^ 62)<=j/\j < 2 ^ 62)/\Q (zH 0 j.toNat) (λ_=>True) az
 | _=>False
theorem EY{H0:Hp}{A0:Addr->Prop}{G:Addr->Prop}{al:List (List Addr)}{H:Hp}{st:aB}{lo:Int}{m:Nat}{ok:aB->Prop}:RX J H0 A0 G al H st (Ov lo m) (zH lo m) ok:=λG1 aZ H1 az i hG e1 I1 _=>by
 refine⟨λd hd=>?_,λh1 _=>by rw[lZ]at h1;exact h1⟩;obtain⟨hi,rfl⟩:=sU hd;refine⟨hi,λx H2 ⟨e,z⟩=>?_⟩;subst e;subst z;exact⟨.refl _,.int _⟩
theorem rL(hg:Gl X "range")(hm:X.mg "range"=none)(ha:vb X Y [a] n d)(hs:starEach [a] X.env=[(false,eval a X.env)]:=by rfl):Nb X Y tg (.Call (.Name "range" p) [a] [] pos) (sV d):=by
 obtain⟨t,p1,a1⟩:=ha.h;refine⟨_,zd hg hm p1 hs,λH0 A0 G al H st s env Q R I E q k=>a1 H0 A0 G al H st s env _ _ I E q λxs az aZ vs H1 e1 I1 d1 q1=>?_⟩;have q1:=q1.2;split at q1
 ·obtain⟨v,rfl,h1⟩:=zF d1;rw[aO.aU h1];exact⟨_,rfl,q1.1.1,q1.1.2,k _ _ _ az aZ H1 e1 I1 EY q1.2⟩
 ·exact q1.elim
abbrev rM:=DV->bG->aB->(bG->aB->Prop)->Prop
abbrev vj:=List PyData->bG->aB->(bG->aB->Prop)->Prop
def HJ(J:KF)(H0:Hp)(A0:Addr->Prop)(G:Addr->Prop)(al:List (List Addr))(H:Hp)(st:aB)(Q:bG->aB->Prop)(R:St->Hp->Prop):Prop:=∀env' st' al' s' H',Ext al H st al' H' st'->DI J H0 A0 G al' H' st'->mL J (Fb G al' st') H' al' s' env'->Q env' st'->R s' H'
theorem HJ.go{H0:Hp}{A0:Addr->Prop}{G:Addr->Prop}{al aZ:List (List Addr)}{H H1:Hp}{st az:aB}{Q:bG->aB->Prop}{R:St->Hp->Prop}(k:HJ J H0 A0 G al H st Q R)(I:DI J H0 A0 G aZ H1 az)(e:Ext al H st aZ H1 az):HJ J H0 A0 G aZ H1 az Q R:=λdv st' al' s' H' e' I' h q=>k dv st' al' s' H' (e.trans I e') I' h q
def AG(J:KF)(g:TG)(dg:rM):Prop:=∀(H0:Hp) (A0:Addr->Prop) (G:Addr->Prop) (al:List (List Addr)) (H:Hp) (st:aB) (s:St) (env:bG) (v:V) (dv:DV) (Q:bG->aB->Prop) (R:St->Hp->Prop),DI J H0 A0 G al H st->mL J (Fb G al st) H al s env->i7 J (Fb G al st) H al v dv->dg dv env st Q->HJ J H0 A0 G al H st Q R->g v s H R
def OG(J:KF)(g:Dv)(dg:vj):Prop:=∀(H0:Hp) (A0:Addr->Prop) (G:Addr->Prop) (al:List (List Addr)) (H:Hp) (st:aB) (s:St) (env:bG) (vs:List V) (ds:List PyData) (Q:bG->aB->Prop) (R:St->Hp->Prop),DI J H0 A0 G al H st->mL J (Fb G al st) H al s env->cj (aO J (Fb G al st) H) vs ds->dg ds env st Q->HJ J H0 A0 G al H st Q R->g vs s H R
structure L4(X:Cx)(Y:YK)(tg:Expr)(d:rM):Prop where
 h:∃g,PG X tg g/\AG (kf X Y) g d
structure EZ(X:Cx)(Y:YK)(tg:List Expr)(d:vj):Prop where
 h:∃g,Ml X tg g/\OG (kf X Y) g d
@[reducible] def gN(i:Nat)(dv:DV)(env:bG)(st:aB)(Q:bG->aB->Prop):Prop:=Q (env.set i (some dv)) st
@[reducible] def yD(ds:List PyData)(env:bG)(st:aB)(Q:bG->aB->Prop):Prop:=match ds with
 | []=>Q env st
 | _=>False
@[reducible] def pL(g:rM)(r:vj)(ds:List PyData)(env:bG)(st:aB)(Q:bG->aB->Prop):Prop:=match ds with
 | d::ds=>g (.dat d) env st λenv' st'=>r ds env' st' Q
 | []=>False
@[reducible] def gT(n:Nat)(r:vj)(dv:DV)(env:bG)(st:aB)(Q:bG->aB->Prop):Prop:=match dv with
 | .dat (.tuple ds)=>ds.length=n/\r ds env st Q
 | _=>False
theorem E8{i:Nat}:AG J (qX i) (gN i):=λH0 A0 G al H st s env v dv Q R I E h q k=>k _ _ al _ H .refl I (E.set h i) q
theorem eK{i:Nat}{x:Str}(hN:X.N.Nodup)(hi:X.N[i]?=some x)(hx:Loc X.env.scope x)(hf:X.fn x=true∨X.env.scope.names.lookup x=some .local:=by first | exact .inl rfl | exact .inr rfl | assumption):L4 X Y (.Name x pos) (gN i):=⟨_,gU hN hi hx hf,E8⟩
theorem sW:EZ X Y [] yD:=⟨_,Eb,λH0 A0 G al H st s env vs ds Q R I E h q k=>by
 unfold yD at q;split at q
 ·have:=h.1
  cases vs with
  | nil=>exact⟨rfl,k _ _ al _ H .refl I E q⟩
  | cons v r=>simp at this
 ·exact q.elim⟩
theorem BQ{g:TG}{u:Dv}{dg:rM}{r:vj}(a1:AG J g dg)(a2:OG J u r):OG J (Hh g u) (pL dg r):=λH0 A0 G al H st s env vs ds Q R I E h q k=>by
 unfold pL at q;split at q
 ·rename_i d ds';have:=h.1
  cases vs with
  | nil=>simp at this
  | cons v vs' =>
   have h':cj (aO J (Fb G al st) H) vs' ds':=⟨by simpa using this,λi p q a b=>h.2 (i + 1) p q (by simpa using a) (by simpa using b)⟩;refine⟨v,vs',rfl,a1 H0 A0 G al H st s env v (.dat d) _ _ I E (.d (h.2 0 v d rfl rfl)) q λenv' st' al' s' H' e' I' E' q'=>?_⟩;exact a2 H0 A0 G al' H' st' s' env' vs' ds' Q R I' E' (h'.imp λy x z=>z.ext e') q' (k.go I' e')
 ·exact q.elim
theorem iS{g:rM}{r:vj}(h1:L4 X Y e g)(h2:EZ X Y es r)(hs:(assignEach (e::es) X.env).map (·.2)=assign e X.env::(assignEach es X.env).map (·.2):=by rfl):EZ X Y (e::es) (pL g r):=by
 obtain⟨t,p1,a1⟩:=h1.h;obtain⟨u,p2,a2⟩:=h2.h;exact⟨_,AR p1 p2 hs,BQ a1 a2⟩
theorem PB{m:Nat}{u:Dv}{r:vj}(a1:OG J u r):AG J (Mn J m u) (gT m r):=λH0 A0 G al H st s env v dv Q R I E h q k=>by
 unfold gT at q;split at q
 ·obtain⟨a,ys,rfl,g1,_,g2⟩:=aO.gK h;exact⟨a,ys,rfl,g1,by rw[g2.1];exact q.1,a1 H0 A0 G al H st s env ys _ Q R I E g2 q.2 k⟩
 ·exact q.elim
theorem wZ{kx m:Nat}{r:vj}(hc:X.calm=true)(h:EZ X Y es r)(hn:(assignEach es X.env).length=m:=by rfl)(hst:(assignEach es X.env).findIdx? (·.1)=none:=by rfl):L4 X Y (.Tuple es kx pos) (gT m r):=by
 obtain⟨u,p1,a1⟩:=h.h;exact⟨_,IC hc p1 hn hst,PB a1⟩
@[reducible] def gS(eo ei:DX)(dv:DV)(env:bG)(st:aB)(Q:bG->aB->Prop):Prop:=eo env st λo az=>ei env az λi bO=>match o,i with
 | .ref k,.dat (.int j)=>kS dv bO λd jY=>match jY[k]? with
  | some (.live ds)=>∃m,Be ds.length j=some m/\Q env (jY.set k (.live (ds.set m d)))
  | _=>False
 | _,_=>False
theorem PC{to ti:TE}{eo ei:DX}(h1:AE J to eo)(h2:AE J ti ei):AG J (Mo to ti Hm) (gS eo ei):=λH0 A0 G al H st s env v dv Q R I E h q k=>by
 refine h1 H0 A0 G al H st s env _ _ I E q λo az aZ vo H1 e1 I1 d1 q1=>?_
 refine h2 H0 A0 G aZ H1 az s env _ _ I1 (E.ext e1) q1 λi bO eX vi H2 e2 I2 d2 q2=>?_
 have ve:=e1.trans I1 e2;split at q2
 ·rename_i kk j;obtain⟨d,jY,E3,I3,F3,q3⟩:=lq I2 (h.ext ve) q2;split at q3
  ·rename_i ds hs;obtain⟨m,qm,q4⟩:=q3;obtain⟨a,r0,ha,rfl⟩:=(d1.ext e2).ext E3;obtain⟨a',ys,e0,g1,g2⟩:=I3.cel kk _ _ ha hs;cases e0;rw[aO.aU d2];have PD:=ve.trans I2 E3;obtain⟨E4,I4⟩:=I3.put ha hs (g2.set F3 m);refine⟨a,ys,j,m,rfl,rfl,g1,by rw[g2.1];exact qm,?_⟩;have Nd:=PD.trans I3 E4;exact k _ _ _ _ _ Nd I4 (E.ext Nd) q4
  ·exact q3.elim
 ·exact q2.elim
theorem w4{o i:Expr}{eo ei:DX}(h1:bR X Y o eo)(h2:bR X Y i ei)(ha:∀v,assign (.Subscript o i pos) X.env v=(do
   let ov ← holding [v] (eval o X.env)
   let iv ← holding [v,ov] (eval i X.env)
   standAt pos
   holding [v,ov,iv] (setItem ov iv v)
   release [v,ov,iv] []):=by intro _;rfl):L4 X Y (.Subscript o i pos) (gS eo ei):=by
 obtain⟨t,p1,a1⟩:=h1.h;obtain⟨u,p2,a2⟩:=h2.h;exact⟨_,oS p1 p2 set_list ha,PC a1 a2⟩
end
def PF(J:KF)(e:DX):TE:=λs H R=>∃(H0:Hp) (A0:Addr->Prop) (G:Addr->Prop) (al:List (List Addr)) (st:aB) (env:bG) (Q:DC),DI J H0 A0 G al H st/\mL J (Fb G al st) H al s env/\e env st Q/\Kn J H0 A0 G al H st Q R
def JH(J:KF)(e:DT):TT:=λs H R=>∃(H0:Hp) (A0:Addr->Prop) (G:Addr->Prop) (al:List (List Addr)) (st:aB) (env:bG) (Q:Bool->aB->Prop),DI J H0 A0 G al H st/\mL J (Fb G al st) H al s env/\e env st Q/\MY J H0 A0 G al H st Q R
theorem bR.pe{X:Cx}{Y:YK}{e:Expr}{d:DX}(h:bR X Y e d):PE X e (PF (kf X Y) d):=by
 obtain⟨t,p,a⟩:=h.h;intro pins s σ H Q I ⟨H0,A0,G,al,st,env,Q',I',E,q,k⟩;exact p pins s σ H Q I (a H0 A0 G al H st σ env Q' Q I' E q k)
structure PH(X:Cx)(Y:YK)(ifs:List Expr)(d:DT):Prop where
 h:Je X ifs (JH (kf X Y) d)
@[reducible] def BR(_:bG)(st:aB)(Q:Bool->aB->Prop):Prop:=Q true st
theorem BS{X:Cx}:PH X Y [] BR:=⟨λpins s σ H Q I ⟨H0,A0,G,al,st,env,Q',I',E,q,k⟩=>oE pins s σ H Q I (k true st al H .refl I' q)⟩
def GB(own:Nat)(g:TG):Prop:=∀v s H R R',(∀(s2:St) (H2:Hp),s2.drop own=s.drop own->R s2 H2->R' s2 H2)->g v s H R->g v s H R'
theorem Nf{own i:Nat}(h:i < own):GB own (qX i):=λv s H R R' f q=>f _ _ (by rw[List.drop_set_of_lt h]) q
@[reducible] def yE(own:Nat)(ix:List Nat)(env:bG):bG:=List.replicate own none++ix.map λi=>(env[i]?).getD none
def PJ(fin:List PyData->aB->DC->Prop)(dg:rM)(dt:DT)(de:DX)(xs:List PyData)(ok:aB->Prop)(env:bG)(az:aB)(Q:DC):Prop:=(ok az/\xs.length<=1000000)/\∃I:Nat->List PyData->Prop,I 0 [] /\
 (∀i ys d,I i ys->xs[i]?=some d->dg (.dat d) env az λlz bO=>bO=az/\dt lz az λb jY=>jY=az/\if b=true then de lz az λy ur=>kS y ur λdy v9=>v9=az/\I (i + 1) (ys++[dy])else I (i + 1) ys)/\∀ys,I xs.length ys->fin ys az Q
@[reducible] def BU(fin:List PyData->aB->DC->Prop)(own:Nat)(ix:List Nat)(di:sT)(dg:rM)(dt:DT)(de:DX)(env:bG)(st:aB)(Q:DC):Prop:=di env st λxs ok az=>PJ fin dg dt de xs ok (yE own ix env) az Q
theorem Ng{fin:List PyData->aB->DC->Prop}{dg:rM}{dt:DT}{de:DX}{xs:List PyData}{env:bG}{az:aB}{Q:DC}(I:Nat->List PyData->Prop)(hl:xs.length<=1000000)(h0:I 0 [])
  (hs:∀i ys d,xs[i]?=some d->I i ys->dg (.dat d) env az λlz bO=>bO=az/\dt lz az λb jY=>jY=az/\if b=true then de lz az λy ur=>kS y ur λdy v9=>v9=az/\I (i + 1) (ys++[dy])else I (i + 1) ys) (hd:∀ys,I xs.length ys->fin ys az Q):PJ fin dg dt de xs (λ_=>True) env az Q:=⟨⟨trivial,hl⟩,I,h0,λi ys d a b=>hs i ys d b a,hd⟩
@[reducible] def E9:List PyData->aB->DC->Prop:=λys st Q=>Q (.dat (.list ys)) st
theorem mL.jO{K:aE}{P:Addr->Prop}{H:Hp}{al:List (List Addr)}{s:St}{env:bG}(h:mL K P H al s env)(own:Nat)(ix:List Nat):mL K P H al (cQ own ix s) (yE own ix env):=by
 refine⟨by simp[cQ],λi dv hi=>?_⟩;by_cases l:i < own
 ·rw[List.getElem?_append_left (by simpa using l),List.getElem?_replicate,if_pos l]at hi;cases hi
 ·rw[List.getElem?_append_right (by simp;omega),List.length_replicate,List.getElem?_map]at hi
  cases q:ix[i - own]? with
  | none=>rw[q]at hi;cases hi
  | some j =>
   rw[q]at hi;have hi:some ((env[j]?).getD none)=some (some dv):=hi
   have e:env[j]?=some (some dv):=by
    cases w:env[j]? with
    | none=>rw[w]at hi;cases hi
    | some u=>rw[w]at hi;exact hi
   obtain⟨v,h1,h2⟩:=h.2 j dv e;refine⟨v,?_,h2⟩;unfold cQ;rw[List.getElem?_append_right (by simp;omega),List.length_replicate,List.getElem?_map,q];show some ((s[j]?).getD none)=_;rw[h1];rfl
theorem DI.JI{J:KF}{H0:Hp}{A0:Addr->Prop}{G:Addr->Prop}{al:List (List Addr)}{H:Hp}{st:aB}(I:DI J H0 A0 G al H st){D:Addr}{ys:List V}(h:H D=none):Ext al H st al (upd H D (.lst ys)) st/\DI J H0 A0 (λc=>G c∨c=D) al (upd H D (.lst ys)) st:=by
 have E:Ext al H st al (upd H D (.lst ys)) st:=.new h
 have g:∀c,(G c∨c=D)->G c∨H c=none:=λc hc=>by
  rcases hc with z | z
  ·exact .inl z
  ·rw[z];exact .inr h
 have keep:∀c o,H c=some o->upd H D (.lst ys) c=some o:=λc o e=>by rw[uN (nN e h)];exact e
 have I1:=I.new (o:=.lst ys) h;refine⟨E,I.len,I.nd,I1.ok,λk a c h1 h2=>(I.cel k a c h1 h2).kN g E (λc hc=>I.lV hc) λ_ b _ o q=>keep _ _ q,I1.fr,I.nw,λa ha hc=>?_,λc hc=>?_,J.y.up _ _ _ _ (λc hc=>.inl hc) I.lk⟩
 ·rcases hc with z | z
  ·exact I.gd a ha z
  ·obtain⟨o,e⟩:=I.ok a ha;rw[z,h]at e;cases e
 ·rcases hc with z | z
  ·exact I1.gs c z
  ·rw[z];exact⟨_,uS,.inl ⟨_,rfl⟩⟩
theorem DI.grow{J:KF}{H0:Hp}{A0:Addr->Prop}{G:Addr->Prop}{al:List (List Addr)}{H:Hp}{st:aB}{D:Addr}{ys zs:List V}(I:DI J H0 A0 (λc=>G c∨c=D) al H st)(h:H D=some (.lst zs))(n0:A0 D∨H0 D=none):DI J H0 A0 (λc=>G c∨c=D) al (upd H D (.lst ys)) st/\∀v d,aO J (Fb (λc=>G c∨c=D) al st) H v d->aO J (Fb (λc=>G c∨c=D) al st) (upd H D (.lst ys)) v d:=by
 have sm:aQ (cutH (Fb (λc=>G c∨c=D) al st) H) (cutH (Fb (λc=>G c∨c=D) al st) (upd H D (.lst ys))):=jd λc o n e=>⟨n,by rw[uN (λz=>n (.inl (.inr z)))];exact e⟩
 have rd:∀v d,aO J (Fb (λc=>G c∨c=D) al st) H v d->aO J (Fb (λc=>G c∨c=D) al st) (upd H D (.lst ys)) v d:=λv d z=>aP.same sm z
 have nD:∀a∈al.flatten,a≠D:=λa ha z=>I.gd a ha (.inr z)
 refine⟨⟨I.len,I.nd,λa ha=>?_,λk fp c h1 h2=>?_,λc o n e=>?_,I.nw,I.gd,λc hc=>?_,I.lk⟩,rd⟩
 ·rw[uN (nD a ha)];exact I.ok a ha
 ·have z:=I.cel k fp c h1 h2;have na:∀a∈fp,a≠D:=λa ha=>nD a (bV h1 ha)
  cases c with
  | live xs =>
   obtain⟨a,ws,e0,g1,g2⟩:=z;exact⟨a,ws,e0,by rw[uN (na a (by rw[e0];exact Xq.mpr rfl))];exact g1,g2.imp λy x q=>rd y x q⟩
  | froz ds=>obtain⟨a,e0,g0⟩:=z;exact⟨a,e0,rd _ _ g0⟩
  | deep xs =>
   obtain⟨a,ws,e0,g1,g2⟩:=z;refine⟨a,ws,e0,by rw[uN (na a (by rw[e0];exact Xq.mpr rfl))];exact g1,g2.imp λy x q=>?_⟩
   cases x with
   | dat d=>exact rd _ _ q
   | ref j=>exact q
  | obj o=>exact⟨z.1,o.keep _ _ _ _ _ _ z.2 (λc hc=>I.lV hc) (λa ha o e=>by rw[uN (na a ha)];exact e) sm⟩
 ·by_cases w:c=D
  ·rw[w]at n e;rcases n0 with y | y
   ·exact absurd y n
   ·rw[y]at e;cases e
  ·rw[uN w];exact I.fr c o n e
 ·by_cases w:c=D
  ·rw[w];exact⟨_,uS,.inl ⟨_,rfl⟩⟩
  ·rw[uN w];exact I.gs c hc
section
variable {X:Cx} {Y:YK} {tg a b c e:Expr} {es:List Expr} {pos p:Pos} {ea eb ec:DX} {K:aE} {J:KF} {n:Nat} {d:mM}
theorem Ext.Um{al:List (List Addr)}{H:Hp}{st:aB}{D:Addr}{ys:List V}{aZ:List (List Addr)}{H1:Hp}{az:aB}(e:Ext al H st aZ H1 az)(hD:H D=none):Ext al H st aZ (upd H1 D (.lst ys)) az:=⟨λc o n q=>by rw[uN (λz=>by rw[z,hD]at q;cases q)];exact e.keep c o n q,e.pre,e.nws,e.lv⟩
def BV(J:KF)(fin:List PyData->aB->DC->Prop):Prop:=∀(H0:Hp) (A0:Addr->Prop) (G:Addr->Prop) (al:List (List Addr)) (H:Hp) (st:aB) (Q:DC) (R:VK) (D:Addr) (eX:List (List Addr)) (H2:Hp) (vs:List V) (ys:List PyData),DI J H0 A0 G al H st->H D=none->Kn J H0 A0 G al H st Q R->fin ys st Q->DI J H0 A0 (λc=>G c∨c=D) eX H2 st->Ext al H st eX H2 st->H2 D=some (.lst vs)->cj (aO J (Fb (λc=>G c∨c=D) eX st) H2) vs ys->R (.ref D) H2
theorem Nh{fin:List PyData->aB->DC->Prop}(hf:BV J fin)
  {own:Nat} {ix:List Nat} {wi:TI} {g:TG} {di:sT} {dg:rM} {dt:DT} {de:DX} (hi:AI J wi di) (hg:AG J g dg) (gb:GB own g):AE J (MK own ix wi g (JH J dt) (PF J de)) (BU fin own ix di dg dt de):=λH0 A0 G al H st s env Q R I E q k=>by
 refine hi H0 A0 G al H st s env _ _ I E q λJj xs ok az aZ H1 e1 I1 ir q1=>?_
 intro D hD;obtain⟨⟨hok,hlen⟩,Iv,i0,istep,ifin⟩:=q1;have k1:=k.go I1 e1;have E1:=E.ext e1
 have gG:∀c,(G c∨c=D)->G c∨H1 c=none:=λc hc=>by
  rcases hc with z | z
  ·exact .inl z
  ·rw[z];exact .inr hD
 have n0:=I1.n0 hD;obtain⟨EB,IB⟩:=I1.JI (ys:=[]) hD;refine⟨λi m ys H2=>(m=xs.length - i/\i<=xs.length/\ys.length<=i)/\∃ds eX,Iv i ds/\H2 D=some (.lst ys)/\cj (aO J (Fb (λc=>G c∨c=D) eX az) H2) ys ds/\DI J H0 A0 (λc=>G c∨c=D) eX H2 az/\Ext aZ H1 az eX H2 az,⟨_,⟨rfl,XZ _,XZ _⟩,[],aZ,i0,uS,.nil,IB,EB⟩,?_⟩;rintro i m ys H2 ⟨⟨em,hil,hyl⟩,ds,eX,hI,gD,hP,I2,E2⟩;refine⟨gD,?_⟩;have IR:=ir (λc=>G c∨c=D) eX H2 az i gG E2 I2 hok;by_cases hx:i < xs.length
 ·right
  obtain⟨d0,HK⟩:∃d0,xs[i]?=some d0:=⟨xs[i],jL hx⟩;obtain⟨go,yl⟩:=IR.1 d0 HK;refine⟨go,Xx (Xh hyl hil) (Xx hlen (by decide)),λys' H'=>∃m',m' < m/\(m'=xs.length - (i + 1)/\i + 1<=xs.length/\ys'.length<=i + 1)/\∃ds eX,Iv (i + 1) ds/\H' D=some (.lst ys')/\cj (aO J (Fb (λc=>G c∨c=D) eX az) H') ys' ds/\DI J H0 A0 (λc=>G c∨c=D) eX H' az/\Ext aZ H1 az eX H' az,λys' H' ⟨m',lt,w⟩=>⟨m',lt,w⟩,λx H3 hy=>?_⟩;obtain⟨s3,r3⟩:=yl x H3 hy;have I3:=I2.same s3;have E3:Ext aZ H1 az eX H3 az:=E2.trans I2 (.same s3);have P3:=hP.imp λy x z=>z.same s3
  have g3:=s3 _ _ gD;have Uo:=(E1.kN gG E3).jO own ix;refine gb x _ H3 _ _ ?_ (hg H0 A0 (λc=>G c∨c=D) eX H3 az _ _ x (.dat d0) _ (λσ2 H4=>JH J dt σ2 H4 λb H5=>if b=true then PF J de σ2 H5 λv H6=>H6 D=some (.lst ys)/\∃m',m' < m/\(m'=xs.length - (i + 1)/\i + 1<=xs.length/\(ys++[v]).length<=i + 1)/\∃ds eX,Iv (i + 1) ds/\upd H6 D (.lst (ys++[v])) D=some (.lst (ys++[v]))/\cj (aO J (Fb (λc=>G c∨c=D) eX az) (upd H6 D (.lst (ys++[v])))) (ys++[v]) ds/\DI J H0 A0 (λc=>G c∨c=D) eX (upd H6 D (.lst (ys++[v]))) az/\Ext aZ H1 az eX (upd H6 D (.lst (ys++[v]))) az else ∃m',m' < m/\(m'=xs.length - (i + 1)/\i + 1<=xs.length/\ys.length<=i + 1)/\∃ds eX,Iv (i + 1) ds/\H5 D=some (.lst ys)/\cj (aO J (Fb (λc=>G c∨c=D) eX az) H5) ys ds/\DI J H0 A0 (λc=>G c∨c=D) eX H5 az/\Ext aZ H1 az eX H5 az) I3 Uo (.d r3) (istep i ds d0 hI HK) λlz bO Ni s2 H4 e4 I4 RY q4=>?_)
  ·intro s2 H4 ed q4;refine⟨?_,q4⟩;rw[ed];unfold cQ;rw[List.drop_left' (by simp)]
  ·obtain⟨rfl,q4⟩:=q4;refine⟨H0,A0,_,Ni,bO,lz,_,I4,RY,q4,λb jY RZ H5 e5 I5 q5=>?_⟩;obtain⟨rfl,q5⟩:=q5;have PK:=e4.trans I4 e5;have E5:=E3.trans I3 PK;have nL:∀(al':List (List Addr)) (H':Hp),DI J H0 A0 (λc=>G c∨c=D) al' H' jY->¬ Lv al' jY D:=λal' H' I' z=>I'.gd D z.mem (.inr rfl)
   have g5:=PK.keep D _ (nL _ _ I3) g3;have P5:=P3.imp λy x z=>aO.ext z PK
   cases b with
   | false =>
    rw[W2 W6]at q5;exact jM ⟨xs.length - (i + 1),by omega,⟨rfl,hx,by omega⟩,ds,RZ,q5,g5,P5,I5,E5⟩
   | true =>
    rw[W4 rfl]at q5;refine iQ ⟨H0,A0,_,RZ,jY,lz,_,I5,RY.ext e5,q5,λy ur Up v H6 e6 I6 d6 q6=>?_⟩;obtain⟨dy,v9,E7,I7,F7,rfl,q7⟩:=lq I6 d6 q6;have PL:=e6.trans I6 E7;have E6:=E5.trans I5 PL;have g6:=PL.keep D _ (nL _ _ I5) g5;have P6:=P5.imp λy x z=>aO.ext z PL
    obtain⟨I8,R0⟩:=I7.grow (ys:=ys++[v]) g6 n0;refine⟨g6,xs.length - (i + 1),by omega,⟨rfl,hx,by simp;omega⟩,ds++[dy],Up,q7,uS,?_,I8,E6.Um hD⟩;exact(P6.imp λy x z=>R0 y x z).append (.cons (R0 _ _ F7) .nil)
 ·left
  have ei:i=xs.length:=by omega
  subst ei;exact⟨IR.2 (WU _) (WU _),hf H0 A0 G aZ H1 az Q R D eX H2 ys ds I1 hD k1 (ifin ds hI) I2 E2 gD hP⟩
end
section
variable {X:Cx} {Y:YK} {tg a b c e:Expr} {es:List Expr} {pos p:Pos} {ea eb ec:DX} {K:aE} {J:KF} {n:Nat} {d:mM} {scope:Scope}
theorem DI.less{H0:Hp}{A0:Addr->Prop}{G G':Addr->Prop}{al:List (List Addr)}{H:Hp}{st:aB}(I:DI J H0 A0 G' al H st)(s:∀c,G c->G' c)(y:J.y.Y H0 A0 G):DI J H0 A0 G al H st:=by
 have sub:∀c,Fb G al st c->Fb G' al st c:=λc z=>by
  rcases z with z | z
  ·exact .inl (s c z)
  ·exact .inr z
 have sm:aQ (cutH (Fb G' al st) H) (cutH (Fb G al st) H):=jd λc o n e=>⟨λz=>n (sub c z),e⟩
 refine⟨I.len,I.nd,I.ok,λk fp c h1 h2=>?_,I.fr,I.nw,λa ha z=>I.gd a ha (s a z),λc hc=>I.gs c (s c hc),y⟩;have z:=I.cel k fp c h1 h2
 cases c with
 | live xs=>obtain⟨a,ws,e0,g1,g2⟩:=z;exact⟨a,ws,e0,g1,g2.imp λy x q=>aP.same sm q⟩
 | froz ds=>obtain⟨a,e0,g0⟩:=z;exact⟨a,e0,aP.same sm g0⟩
 | deep xs =>
  obtain⟨a,ws,e0,g1,g2⟩:=z;refine⟨a,ws,e0,g1,g2.imp λy x q=>?_⟩
  cases x with
  | dat d=>exact aP.same sm q
  | ref j=>exact q
 | obj o=>exact⟨z.1,o.keep _ _ _ _ _ _ z.2 (λc hc=>I.lV hc) (λ_ _ _ e=>e) sm⟩
theorem Nj:BV J E9:=λH0 A0 G al H st Q R D eX H2 vs ys I hD k q I2 E2 g P=>by
 have sub:∀c,Fb G eX st c->Fb (λc=>G c∨c=D) eX st c:=λc z=>by
  rcases z with z | z
  ·exact .inl (.inl z)
  ·exact .inr z
 have nD:¬ Fb G eX st D:=λz=>by
  rcases z with z | z
  ·exact I.Hz hD (.inl z)
  ·exact I2.gd D z.mem (.inr rfl)
 exact k (.dat (.list ys)) st eX _ H2 E2 (I2.less (λc z=>.inl z) I.lk) (.d (aO.lst nD g (P.imp λy x z=>aO.sub z sub))) q
@[reducible] def PM:Nat->List Nat->sT->rM->DT->DX->DX:=BU E9
theorem JJ{fin:List PyData->aB->DC->Prop}(hf:BV (kf X Y) fin)
  {elt iter:Expr} {ifs:List Expr} {g:TG} {di:sT} {dg:rM} {dt:DT} {de:DX} (own:Nat) (N:List Str) (ix:List Nat) (B:kT X own N ix scope) (hi:Nb X Y tg iter di)
  (hg:∀(C:Addr) (fp:List Addr) (s:Shared) (H:Hp),PG (X.jO N scope C fp s H) tg g) (ag:AG (kf X Y) g dg) (gb:GB own g)
  (hin:∀(C:Addr) (fp:List Addr) (s:Shared) (H:Hp),PH (X.jO N scope C fp s H) Y ifs dt/\bR (X.jO N scope C fp s H) Y elt de)
  (hs:∀x,foldedSetIterable iter X.env x=pure x:=by intro _;rfl):bR X Y (.ListComp elt [⟨tg,iter,ifs,0⟩] scope pos) (BU fin own ix di dg dt de):=by
 obtain⟨wi,p1,a1⟩:=hi.h;exact⟨_,Ho own N ix B p1 (λC fp s H=>⟨hg C fp s H,(hin C fp s H).1.h,(hin C fp s H).2.pe⟩) hs,Nh hf a1 ag gb⟩
theorem HL{elt iter:Expr}{ifs:List Expr}{g:TG}{di:sT}{dg:rM}{dt:DT}{de:DX}(own:Nat)(N:List Str)(ix:List Nat)(B:kT X own N ix scope)(hi:Nb X Y tg iter di)
  (hg:∀(C:Addr) (fp:List Addr) (s:Shared) (H:Hp),PG (X.jO N scope C fp s H) tg g) (ag:AG (kf X Y) g dg) (gb:GB own g)
  (hin:∀(C:Addr) (fp:List Addr) (s:Shared) (H:Hp),PH (X.jO N scope C fp s H) Y ifs dt/\bR (X.jO N scope C fp s H) Y elt de)
  (hs:∀x,foldedSetIterable iter X.env x=pure x:=by intro _;rfl):bR X Y (.ListComp elt [⟨tg,iter,ifs,0⟩] scope pos) (PM own ix di dg dt de):=JJ Nj own N ix B hi hg ag gb hin hs
@[reducible] def JK(st:aB)(k:Nat):Bool:=match st[k]? with
 | some (.live _)=>true
 | some (.froz _)=>true
 | some (.deep _)=>true
 | _=>false
@[reducible] def sX(eo:DX)(dx:mM)(env:bG)(st:aB)(Q:DC):Prop:=eo env st λo az=>match o with
 | .ref k=>JK az k=true/\dx env az λxs bO=>match xs with
  | [x]=>match bO[k]? with
   | some (.deep ys)=>ys.length < 1000000/\Q (.dat .none) (bO.set k (.deep (ys++[x])))
   | _=>kS x bO λd jY=>match jY[k]? with
    | some (.live ds)=>ds.length < 1000000/\Q (.dat .none) (jY.set k (.live (ds++[d])))
    | _=>False
  | _=>False
 | _=>False
theorem sY{H0:Hp}{A0:Addr->Prop}{G:Addr->Prop}{al:List (List Addr)}{H:Hp}{st:aB}(I:DI J H0 A0 G al H st){v:V}{k:Nat}(h:i7 J (Fb G al st) H al v (.ref k))(hl:JK st k=true):∃a ys,v=.ref a/\bK J H a ys:=by
 obtain⟨a,r,h1,rfl⟩:=h;have hk:k < st.length:=by rw[← I.len];exact(er h1).1
 have hs:=jL hk;have z:=I.cel k _ _ h1 hs;refine⟨a,?_⟩
 cases q:st[k]with
 | live ds=>rw[q]at z;obtain⟨a',ys,e0,g,_⟩:=z;cases e0;exact⟨ys,rfl,bK.of g⟩
 | deep ds=>rw[q]at z;obtain⟨a',ys,e0,g,_⟩:=z;cases e0;exact⟨ys,rfl,bK.of g⟩
 | froz ds =>
  rw[q]at z;obtain⟨a',e0,g0⟩:=z;cases e0;obtain⟨b,ys,g1,g2,_⟩:=aO.eJ g0;cases g1;exact⟨ys,rfl,g2⟩
 | obj o =>
  unfold JK at hl;rw[hs,q]at hl;cases hl
theorem vk{H:Hp}{v:V}(h:∃a ys,v=.ref a/\bK K H a ys):Pb K "list" v H:=by
 obtain⟨a,ys,rfl,g⟩:=h;exact .inl ⟨rfl,ys,g⟩
theorem bY{apos cpos:Pos}{o:Expr}{eo:DX}(ho:bR X Y o eo)(ha:vb X Y (e::es) n d)(hbase:attributeBase o "append" X.env (eval o X.env)=eval o X.env:=by rfl)
  (hfew:((backTo cpos (starEach (e::es) X.env)).all (λx=>!x.1)&&(backToKw cpos (keywordEach [] X.env)).all (λx=>x.1.isSome)
   && decide ((e::es).length + ([]:List Keyword).length + (if ([]:List Keyword).isEmpty then 0 else 1) < 30))=true:=by rfl)
  (hline:(apos.endLine == cpos.line)=true:=by rfl) (hs:starEach (e::es) X.env=(false,eval e X.env)::starEach es X.env:=by rfl) (hplain:(backTo cpos (starEach es X.env)).any (·.1)=false:=by rfl) :
  bR X Y (.Call (.Attribute o "append" apos) (e::es) [] cpos) (sX eo d):=by
 obtain⟨t,p1,a1⟩:=ho.h;obtain⟨u,p2,a2⟩:=ha.h;refine⟨_,rl Xy XF XH fh p1 p2 hbase hfew hline hs hplain,λH0 A0 G al H st s env Q R I E q k=>a1 H0 A0 G al H st s env _ _ I E q λx az aZ v H1 e1 I1 d1 q1=>?_⟩;split at q1
 ·rename_i kk;refine⟨vk (sY I1 d1 q1.1),a2 H0 A0 G aZ H1 az s env _ _ I1 (E.ext e1) q1.2 λxs bO eX vs H2 e2 I2 d2 q2=>?_⟩;have q2:=q2.2;split at q2
  ·obtain⟨w,rfl,hw⟩:=zF d2;have ve:=e1.trans I1 e2;split at q2
   ·rename_i zs hs;obtain⟨a,r0,ha,rfl⟩:=d1.ext e2;obtain⟨a',ys,e0,g1,g2⟩:=I2.cel kk _ _ ha hs;cases e0;obtain⟨E4,I4⟩:=I2.putD ha hs (g2.append (.cons hw .nil));exact⟨a,ys,w,rfl,rfl,g1,by rw[g2.1];exact WV q2.1 (by decide),(k.go I2 ve) _ _ _ _ _ E4 I4 (.d .non) q2.2⟩
   ·obtain⟨dd,jY,E3,I3,F3,q3⟩:=lq I2 hw q2;split at q3
    ·rename_i ds hs;have Nk:=ve.trans I2 E3;obtain⟨a,r0,ha,rfl⟩:=(d1.ext e2).ext E3;obtain⟨a',ys,e0,g1,g2⟩:=I3.cel kk _ _ ha hs;cases e0;obtain⟨E4,I4⟩:=I3.put ha hs (g2.append (.cons F3 .nil));exact⟨a,ys,w,rfl,rfl,g1,by rw[g2.1];exact WV q3.1 (by decide),(k.go I3 Nk) _ _ _ _ _ E4 I4 (.d .non) q3.2⟩
    ·exact q3.elim
  ·exact q2.elim
 ·exact q1.elim
structure eM where
 nx:bG->aB->Prop
 rt:DC
 bk:bG->aB->Prop:=λ_ _=>False
 ct:bG->aB->Prop:=λ_ _=>False
abbrev DS:=eM->bG->aB->Prop
structure zI(J:KF)(H0:Hp)(A0:Addr->Prop)(G:Addr->Prop)(al:List (List Addr))(H:Hp)(st:aB)(DD:eM)(D:Ends):Prop where
 nx:HJ J H0 A0 G al H st DD.nx D.nx
 rt:Kn J H0 A0 G al H st DD.rt D.rt
 bk:HJ J H0 A0 G al H st DD.bk D.bk
 ct:HJ J H0 A0 G al H st DD.ct D.ct
theorem zI.go{H0:Hp}{A0:Addr->Prop}{G:Addr->Prop}{al aZ:List (List Addr)}{H H1:Hp}{st az:aB}{DD:eM}{D:Ends}(k:zI J H0 A0 G al H st DD D)(I:DI J H0 A0 G aZ H1 az)(e:Ext al H st aZ H1 az):zI J H0 A0 G aZ H1 az DD D:=⟨k.nx.go I e,k.rt.go I e,k.bk.go I e,k.ct.go I e⟩
def AS(J:KF)(t:TS)(s:DS):Prop:=∀(H0:Hp) (A0:Addr->Prop) (G:Addr->Prop) (al:List (List Addr)) (H:Hp) (st:aB) (σ:St) (env:bG) (DD:eM) (D:Ends),DI J H0 A0 G al H st->mL J (Fb G al st) H al σ env->s DD env st->zI J H0 A0 G al H st DD D->t D σ H
structure BW(X:Cx)(Y:YK)(Aq:Stmt)(s:DS):Prop where
 h:∃t,PS X Aq t/\AS (kf X Y) t s
structure vm(X:Cx)(Y:YK)(stms:List Stmt)(s:DS):Prop where
 h:∃t,oy X stms t/\AS (kf X Y) t s
@[reducible] def yF(DD:eM)(env:bG)(st:aB):Prop:=DD.nx env st
@[reducible] def BX(s u:DS)(DD:eM)(env:bG)(st:aB):Prop:=s {DD with nx:=u DD} env st
@[reducible] def BY(e:DX)(DD:eM)(env:bG)(st:aB):Prop:=e env st λ_ az=>DD.nx env az
@[reducible] def JL(e:DX)(DD:eM)(env:bG)(st:aB):Prop:=e env st DD.rt
@[reducible] def PN(c:DT)(s u:DS)(DD:eM)(env:bG)(st:aB):Prop:=c env st λb az=>if b=true then s DD env az else u DD env az
@[reducible] def BZ(e:DX)(g:rM)(DD:eM)(env:bG)(st:aB):Prop:=e env st λdv az=>g dv env az DD.nx
def HM(g:rM)(s:DS)(DD:eM)(xs:List PyData)(ok:aB->Prop)(env:bG)(st:aB):Prop:=∃W:Nat->bG->aB->Prop,W 0 env st/\∀i env st,i<=xs.length->W i env st->ok st/\(i=xs.length->DD.nx env st)/\∀d,xs[i]?=some d->g (.dat d) env st λenv' st'=>s {DD with nx:=W (i + 1),ct:=W (i + 1),bk:=DD.nx} env' st'
@[reducible] def JM(di:sT)(g:rM)(s:DS)(DD:eM)(env:bG)(st:aB):Prop:=di env st λxs ok az=>HM g s DD xs ok env az
theorem md{g:rM}{s:DS}{DD:eM}{xs:List PyData}{ok:aB->Prop}{env:bG}{st:aB}(W:Nat->bG->aB->Prop)(h0:W 0 env st)(hok:∀i env st,W i env st->ok st)
  (hs:∀i env st d,xs[i]?=some d->W i env st->g (.dat d) env st λenv' st'=>s {DD with nx:=W (i + 1),ct:=W (i + 1),bk:=DD.nx} env' st') (hd:∀env st,W xs.length env st->DD.nx env st):HM g s DD xs ok env st :=
 ⟨W,h0,λi env st _ w=>⟨hok i env st w,λe=>hd env st (e ▸ w),λd h=>hs i env st d h w⟩⟩
variable {Aq:Stmt} {stms rest:List Stmt} {s u:DS}
theorem Fc:AS J dq yF:=λH0 A0 G al H st σ env DD D I E h k=>k.nx env st al σ H .refl I E h
theorem B0{t r:TS}(h1:AS J t s)(h2:AS J r u):AS J (Ea t r) (BX s u):=λH0 A0 G al H st σ env DD D I E h k=>h1 H0 A0 G al H st σ env _ _ I E h ⟨λenv' st' al' σ' H' e' I' E' q'=>h2 H0 A0 G al' H' st' σ' env' DD D I' E' q' (k.go I' e'),k.rt,k.bk,k.ct⟩
theorem gr:vm X Y [] yF:=⟨_,ba,Fc⟩
theorem bH(h1:BW X Y Aq s)(h2:vm X Y rest u):vm X Y (Aq::rest) (BX s u):=by
 obtain⟨t,p1,a1⟩:=h1.h;obtain⟨r,p2,a2⟩:=h2.h;exact⟨_,qK p1 p2,B0 a1 a2⟩
theorem aT(h1:BW X Y Aq s):vm X Y [Aq] s:=by
 obtain⟨t,p1,a1⟩:=h1.h;exact⟨_,qO p1,a1⟩
theorem eN(he:bR X Y e ea)(hs:swapsWith e none pos.line X.env=pure false:=by rfl):BW X Y (.Expr e pos) (BY ea):=by
 obtain⟨t,p1,a1⟩:=he.h;exact⟨_,bL p1 hs,λH0 A0 G al H st σ env DD D I E h k=>a1 H0 A0 G al H st σ env _ _ I E h λdv az aZ v H1 e1 I1 d1 q1=>k.nx env az aZ σ H1 e1 I1 (E.ext e1) q1⟩
theorem fi(he:bR X Y e ea):BW X Y (.Return (some e) pos) (JL ea):=by
 obtain⟨t,p1,a1⟩:=he.h;exact⟨_,aX p1,λH0 A0 G al H st σ env DD D I E h k=>a1 H0 A0 G al H st σ env _ _ I E h k.rt⟩
theorem gp{c:Expr}{tc:DT}{x y:List Stmt}(hc:wV X Y c tc)(ha:vm X Y x s)(hb:vm X Y y u):BW X Y (.If c x y pos) (PN tc s u):=by
 obtain⟨t,p1,a1⟩:=hc.h;obtain⟨r,p2,a2⟩:=ha.h;obtain⟨w,p3,a3⟩:=hb.h;refine⟨_,bf p1 p2 p3,λH0 A0 G al H st σ env DD D I E h k=>a1 H0 A0 G al H st σ env _ _ I E h λb az aZ H1 e1 I1 q1=>?_⟩
 cases b with
 | true=>exact iQ (a2 H0 A0 G aZ H1 az σ env DD D I1 (E.ext e1) (by rw[W4 rfl]at q1;exact q1) (k.go I1 e1))
 | false=>exact jM (a3 H0 A0 G aZ H1 az σ env DD D I1 (E.ext e1) (by rw[W2 W6]at q1;exact q1) (k.go I1 e1))
theorem B1{t:TE}{g:TG}{dg:rM}(h1:AE J t ea)(h2:AG J g dg):AS J (Ec t g) (BZ ea dg):=λH0 A0 G al H st σ env DD D I E h k=>h1 H0 A0 G al H st σ env _ _ I E h λdv az aZ v H1 e1 I1 d1 q1=>h2 H0 A0 G aZ H1 az σ env v dv _ _ I1 (E.ext e1) d1 q1 (k.nx.go I1 e1)
theorem bo{i:Nat}{x:Str}{pos':Pos}(hN:X.N.Nodup)(hi:X.N[i]?=some x)(hx:Loc X.env.scope x)(he:bR X Y e ea)(hs:swapsWith e (some (.Name x pos')) pos.line X.env=pure false:=by rfl)(hf:X.fn x=true∨X.env.scope.names.lookup x=some .local:=by first | exact .inl rfl | exact .inr rfl | assumption):BW X Y (.Assign [.Name x pos'] e pos) (BZ ea (gN i)):=by
 obtain⟨t,p1,a1⟩:=he.h;exact⟨_,c7 hN hi hx p1 hs hf,B1 a1 E8⟩
theorem m6{g:rM}(he:bR X Y e ea)(hg:L4 X Y tg g)(hs:swapsWithSole [tg] e pos.line X.env=pure false:=by rfl)(hw:swappedStores [tg] e X.env=pure none:=by rfl)(h1:(assignEach [tg] X.env).map (·.2)=[assign tg X.env]:=by rfl):BW X Y (.Assign [tg] e pos) (BZ ea g):=by
 obtain⟨t,p1,a1⟩:=he.h;obtain⟨gg,p2,a2⟩:=hg.h;exact⟨_,oU p1 p2 hs hw h1,B1 a1 a2⟩
theorem pM{iter:Expr}{body:List Stmt}{di:sT}{g:rM}(hp:PassesOwn (model X.prog X.w) X.A X.env X.xe)(hc:X.calm=true)(hi:Nb X Y tg iter di)(hg:L4 X Y tg g)(hb:vm X Y body s)(hs:∀x,foldedSetIterable iter X.env x=pure x:=by intro _;rfl):BW X Y (.For tg iter body [] pos) (JM di g s):=by
 obtain⟨t,p1,a1⟩:=hi.h;obtain⟨gg,p2,a2⟩:=hg.h;obtain⟨r,p3,a3⟩:=hb.h;refine⟨_,we hp hc p1 p2 p3 hs,λH0 A0 G al H st σ env DD D I E h k=>a1 H0 A0 G al H st σ env _ _ I E h λJj xs ok az aZ H1 e1 I1 ir q1=>?_⟩;obtain⟨W,w0,step⟩:=q1;refine⟨λi m σ' H'=>(m=xs.length - i/\i<=xs.length)/\∃env' st' al',Ext aZ H1 az al' H' st'/\DI (kf X Y) H0 A0 G al' H' st'/\mL X.K (Fb G al' st') H' al' σ' env'/\W i env' st',⟨_,⟨rfl,XZ _⟩,env,az,aZ,.refl,I1,E.ext e1,w0⟩,?_⟩;rintro i m σ2 H2 ⟨⟨em,hil⟩,lz,bO,eX,e2,I2,E2,w2⟩;obtain⟨hok,hnx,hst⟩:=step i lz bO hil w2;have IR:=ir G eX H2 bO i (λc z=>.inl z) e2 I2 hok;have ve:=e1.trans I1 e2;by_cases hx:i < xs.length
 ·obtain⟨d0,HK⟩:∃d0,xs[i]?=some d0:=⟨xs[i],jL hx⟩;obtain⟨go,yl⟩:=IR.1 d0 HK;refine .inr ⟨go,λσ' H'=>∃m',m' < m/\(m'=xs.length - (i + 1)/\i + 1<=xs.length)/\∃env' st' al',Ext aZ H1 az al' H' st'/\DI (kf X Y) H0 A0 G al' H' st'/\mL X.K (Fb G al' st') H' al' σ' env'/\W (i + 1) env' st',λσ' H' z=>z,λx H3 hy=>?_⟩;obtain⟨s3,r3⟩:=yl x H3 hy;have I3:=I2.same s3;have R3:Ext eX H2 bO eX H3 bO:=.same s3;refine a2 H0 A0 G eX H3 bO σ2 lz x (.dat d0) _ _ I3 (E2.ext R3) (.d r3) (hst d0 HK) λPQ ur Ni σ4 H4 e4 I4 E4 q4=>?_
  have PR:=R3.trans I3 e4;have Nd:=e2.trans I2 PR;refine a3 H0 A0 G Ni H4 ur σ4 PQ _ _ I4 E4 q4 ⟨?_,k.rt.go I4 (ve.trans I2 PR),k.nx.go I4 (ve.trans I2 PR),?_⟩
  ·intro env' st' al' σ' H' e' I' E' w';exact⟨xs.length - (i + 1),by omega,⟨rfl,hx⟩,env',st',al',Nd.trans I4 e',I',E',w'⟩
  ·intro env' st' al' σ' H' e' I' E' w';exact⟨xs.length - (i + 1),by omega,⟨rfl,hx⟩,env',st',al',Nd.trans I4 e',I',E',w'⟩
 ·have ei:i=xs.length:=by omega
  exact .inl ⟨IR.2 (by omega) (by omega),k.nx lz bO eX σ2 H2 ve I2 E2 (hnx ei)⟩
def rN(X:Cx)(Y:YK)(body:List Stmt)(DD:eM)(env:bG)(st:aB):Prop:=∃s,vm X Y body s/\s DD env st
theorem aK{DD:eM}{env:bG}{st:aB}(h:BW X Y Aq s)(k:∀R:bG->aB->Prop,(∀env' st',rN X Y rest DD env' st'->R env' st')->s {DD with nx:=R} env st):rN X Y (Aq::rest) DD env st:=by
 obtain⟨t,p1,a1⟩:=h.h;refine⟨BX s (λDD env st=>rN X Y rest DD env st),⟨Ea t (λD σ H=>∃r,oy X rest r/\r D σ H),qK p1 (λpins s σ H D I ⟨_,hu,q⟩=>hu pins s σ H D I q),B0 a1 λH0 A0 G al H st σ env DD D I E h k=>?_⟩,k _ λ_ _ z=>z⟩;obtain⟨s2,⟨r,p2,a2⟩,q⟩:=h;exact⟨r,p2,a2 H0 A0 G al H st σ env DD D I E q k⟩
theorem gw{DD:eM}{env:bG}{st:aB}(h:BW X Y Aq s)(k:s DD env st):rN X Y [Aq] DD env st:=⟨s,aT h,k⟩
theorem rO{N:List Str}{body:List Stmt}{vs:List V}{ds:List PyData}{H:Hp}{Q:VK}{P:Addr->Prop}(hP:∀c,P c->∃o,H c=some o/\jP o)(hv:cj (aO X.K P H) vs ds)(hy:Y.Y H (λ_=>False) P)
  (h:rN X Y body {nx:=λ_ _=>∀v H',aQ H H'->aO X.K P H' v .none->Q v H',rt:=λdv st=>kS dv st λd _=>∀v H',aQ H H'->aO X.K P H' v d->Q v H'} (ds.map (λd=>some (DV.dat d))++List.replicate (N.length - ds.length) none) []) :
  ∃t,oy X body t/\t {nx:=λ_ H'=>Q .non H',rt:=Q} (start N vs) H:=by
 obtain⟨s,⟨t,p1,a1⟩,q⟩:=h;have lv:∀c,¬ Lv [] [] c:=λc ⟨k,xs,ce,h,_⟩=>by simp at h
 have I:DI (kf X Y) H (λ_=>False) P [] H []:=⟨rfl,List.nodup_nil,λ_ h=>by simp at h,λk a c h=>by simp at h,λc o _ e=>e,λ_ h=>by simp at h,λ_ h=>by simp at h,hP,hy⟩
 have fb:∀c,Fb P [] [] c->P c:=λc z=>by
  rcases z with z | z
  ·exact z
  ·exact absurd z (lv c)
 refine⟨t,p1,a1 H (λ_=>False) P [] H [] _ _ _ _ I ⟨by unfold start;simp[hv.1],λi dv hi=>?_⟩ q ⟨λenv' st' al' σ' H' e' I' E' q'=>?_,λdv st' al' v H' e' I' d' q'=>?_,λenv' st' al' σ' H' e' I' E' q'=>q'.elim,λenv' st' al' σ' H' e' I' E' q'=>q'.elim⟩⟩
 ·by_cases l:i < ds.length
  ·rw[List.getElem?_append_left (by simpa using l),List.getElem?_map,jL l]at hi;cases hi;obtain⟨y,hy,hr⟩:=hv.at (jL l);refine⟨y,?_,.d (aO.sub hr fb)⟩;unfold start;rw[List.getElem?_append_left (by rw[List.length_map,hv.1];exact l),List.getElem?_map,hy];rfl
  ·rw[List.getElem?_append_right (by simp;omega)]at hi;rw[List.getElem?_replicate]at hi;split at hi
   ·cases hi
   ·cases hi
 ·exact q' .non H' (λc o e=>I'.fr c o id e) .non
 ·obtain⟨d,bO,_,I2,F,q2⟩:=lq I' d' q';exact q2 v H' (λc o e=>I'.fr c o id e) (aO.sub F λc z=>.inl z)
theorem j8{N:List Str}{body:List Stmt}{vs:List V}{ds:List PyData}{H:Hp}{Q:VK}{P:Addr->Prop}(hP:∀c,P c->∃o,H c=some o/\jP o)(hv:cj (aO X.K P H) vs ds)
  (h:rN X y0 body {nx:=λ_ _=>∀v H',aQ H H'->aO X.K P H' v .none->Q v H',rt:=λdv st=>kS dv st λd _=>∀v H',aQ H H'->aO X.K P H' v d->Q v H'} (ds.map (λd=>some (DV.dat d))++List.replicate (N.length - ds.length) none) []) :
  ∃t,oy X body t/\t {nx:=λ_ H'=>Q .non H',rt:=Q} (start N vs) H:=rO hP hv trivial h
end
@[reducible] def Nl:DV->String
 | .dat .none=>"NoneType"
 | .dat (.bool _)=>"bool"
 | .dat (.int _)=>"int"
 | .dat (.str _)=>"str"
 | .dat (.list _)=>"list"
 | .dat (.tuple _)=>"tuple"
 | .dat (.dict _)=>"dict"
 | .ref _=>"list"
def IsT(K:aE)(n:String)(f:String->Bool):Prop:=∀t∈(["NoneType","bool","int","str","list","tuple"]:List String),PySem.W.kitOne K (.type t) (.type n)=some (f t)
@[reducible] def Fd:String->Bool:=λt=>t == "int"||t == "bool"
@[reducible] def nY(n:String):String->Bool:=λt=>t == n
@[reducible] def JN(f:String->Bool)(ea:DX)(env:bG)(st:aB)(Q:DC):Prop:=ea env st λx az=>match x with
 | .dat d=>Q (.dat (.bool (f (Nl (.dat d))))) az
 | .ref k=>JK az k=true/\Q (.dat (.bool (f "list"))) az
theorem i7.ty{K:aE}{P:Addr->Prop}{al:List (List Addr)}{H:Hp}{v:V}{d:PyData}(h:i7 K P H al v (.dat d)):Ey K H v (Nl (.dat d))/\Nl (.dat d)∈(["NoneType","bool","int","str","list","tuple"]:List String):=by
 cases d with
 | none=>rw[aO.Jr h];exact⟨.non,by simp⟩
 | bool b=>rw[aO.uZ h];exact⟨.bl _,by simp⟩
 | int b=>rw[aO.aU h];exact⟨.int _,by simp⟩
 | str b=>rw[aO.cq h];exact⟨.str _,by simp⟩
 | list ds=>obtain⟨b,ys,rfl,g2,_⟩:=aO.eJ h;exact⟨.lst g2,by simp⟩
 | tuple ds=>obtain⟨b,ys,rfl,g2,_⟩:=aO.gK h;exact⟨.tup g2,by simp⟩
 | dict kv=>have h:aP K _ v (.dict kv):=h;cases h
theorem sZ{X:Cx}{Y:YK}{a:Expr}{ea:DX}{pos p p2:Pos}{T:Str}{n:String}{f:String->Bool}(hf:IsT X.K n f)(hg:Gl X "isinstance")(hm:X.mg "isinstance"=none)(Uq:Gl X T)(Ur:X.mg T=none)(hb:bootBuiltins T=some (.type n))(ha:bR X Y a ea)(hn:T≠"__name__":=by decide)(hd:(T == ("__debug__" : Str))=false:=by decide)
  (h1:starEach [a,.Name T p2] X.env=(false,eval a X.env)::starEach [.Name T p2] X.env:=by rfl):bR X Y (.Call (.Name "isinstance" p) [a,.Name T p2] [] pos) (JN f ea):=by
 obtain⟨t,p1,a1⟩:=ha.h;refine⟨_,oX Bk hg hm qC (pK p1 (pK (D9 (v:=.ty n) Uq Ur hb rfl hn hd) pN rfl) h1) (by decide) (by decide) h1 rfl,λH0 A0 G al H st s env Q R I E q k=>a1 H0 A0 G al H st s env _ _ I E q λx az aZ v H1 e1 I1 d1 q1=>?_⟩;split at q1
 ·obtain⟨ty,mem⟩:=d1.ty;exact⟨v,n,_,_,rfl,ty,hf _ mem,(k.go I1 e1).here I1 (.d (.bl _)) q1⟩
 ·obtain⟨b,ys,rfl,g⟩:=sY I1 d1 q1.1;exact⟨_,n,"list",_,rfl,.lst g,hf _ (by simp),(k.go I1 e1).here I1 (.d (.bl _)) q1.2⟩
theorem tm{K:aE}{n:String}{f:String->Bool}(h1:PySem.W.kitOne K (.type "NoneType") (.type n)=some (f "NoneType"))(h2:PySem.W.kitOne K (.type "bool") (.type n)=some (f "bool"))(h3:PySem.W.kitOne K (.type "int") (.type n)=some (f "int"))(h4:PySem.W.kitOne K (.type "str") (.type n)=some (f "str"))(h5:PySem.W.kitOne K (.type "list") (.type n)=some (f "list"))(h6:PySem.W.kitOne K (.type "tuple") (.type n)=some (f "tuple")):IsT K n f:=λt ht=>by
 simp only[List.mem_cons,List.not_mem_nil,or_false]at ht;rcases ht with rfl | rfl | rfl | rfl | rfl | rfl<;>assumption
@[reducible] def tp(o1 o2:EH)(ea eb ec:DX)(env:bG)(st:aB)(Q:DC):Prop:=ea env st λx az=>eb env az λy bO=>o1 x y bO λz jY=>match z with
 | .dat (.bool b)=>if b=true then ec env jY λw ur=>o2 y w ur Q else Q (.dat (.bool false)) jY
 | _=>False
theorem B2{J:KF}{r r':R2}{o1 o2:EH}{ta tb tc:TE}{ea eb ec:DX}(h1:AO J r o1)(h2:AO J r' o2)(ha:AE J ta ea)(hb:AE J tb eb)(hc:AE J tc ec):AE J (A2 r r' ta tb tc) (tp o1 o2 ea eb ec):=λH0 A0 G al H st s env Q R I E q k=>by
 refine ha H0 A0 G al H st s env _ _ I E q λx az aZ v H1 e1 I1 d1 q1=>?_
 refine hb H0 A0 G aZ H1 az s env _ _ I1 (E.ext e1) q1 λy bO eX u H2 e2 I2 d2 q2=>?_
 have ve:=e1.trans I1 e2;refine h1 H0 A0 G eX H2 bO v u x y _ _ I2 (d1.ext e2) d2 q2 λz jY OE w H3 e3 I3 d3 q3=>?_
 have Nk:=ve.trans I2 e3;split at q3
 ·rename_i b;rw[aO.uZ d3];refine⟨_,rfl,?_⟩
  cases b with
  | false=>exact jM ((k.go I3 Nk).here I3 (.d (.bl _)) (by rw[W2 W6]at q3;exact q3))
  | true =>
   rw[W4 rfl]at q3;refine iQ (hc H0 A0 G OE H3 jY s env _ _ I3 (E.ext Nk) q3 λw ur Ni u4 H4 e4 I4 d4 q4=>?_);exact h2 H0 A0 G Ni H4 ur u u4 y w Q R I4 ((d2.ext e3).ext e4) d4 q4 (k.go I4 (Nk.trans I3 e4))
 ·exact q3.elim
theorem B3{X:Cx}{Y:YK}{a b c:Expr}{ea eb ec:DX}{pos:Pos}{op op':CmpOp}{r r':R2}{o1 o2:EH}(ho:i6 X (compareOp op) r)(ho':i6 X (compareOp op') r')(h1:AO (kf X Y) r o1)(h2:AO (kf X Y) r' o2)(ha:bR X Y a ea)(hb:bR X Y b eb)(hc:bR X Y c ec)
  (hm:lastMarks [op,op'] [b,c]=false:=by with_unfolding_all rfl):wV X Y (.Compare a [op,op'] [b,c] pos) (DA (tp o1 o2 ea eb ec)):=by
 obtain⟨ta,p1,a1⟩:=ha.h;obtain⟨tb,p2,a2⟩:=hb.h;obtain⟨tc,p3,a3⟩:=hc.h;exact⟨_,A4 ho ho' p1 p2 p3 hm,wY (B2 h1 h2 a1 a2 a3)⟩
theorem jh{c:Prop}[Decidable c]{A B:Prop}(h1:c->A)(h2:¬ c->B):if decide c=true then A else B:=by
 by_cases e:c
 ·rw[W4 (XM e)];exact h1 e
 ·rw[W2 (λz=>e (of_decide_eq_true z))];exact h2 e
theorem ji{α:Type}{xs:List α}{j:Nat}{x:α}(h:xs[j]?=some x):oA xs (j:Int)=some x:=by
 have hl:=(er h).1;unfold oA Be;rw[if_pos (by omega),if_pos (by omega)];show xs[((j:Nat):Int).toNat]?=some x;rw[Int.toNat_natCast];exact h
theorem yG{α:Type}{xs:List α}{n:Int}(h:(xs.length:Int)=n)(h0:0 < n)(i:Int):∃x,x∈xs/\oA xs (i % n)=some x:=by
 have a:=Y1 i (b:=n) (by omega);have b:=Int.emod_lt_of_pos i h0;obtain⟨j,hj⟩:∃j:Nat,i % n=(j:Int):=⟨(i % n).toNat,by omega⟩;have hl:j < xs.length:=by omega
 rw[hj];exact⟨xs[j],YT hl,ji (jL hl)⟩
theorem iy(i:Int){n:Int}(h:0 < n):∃k:Nat,i % n=(k:Int)/\(k:Int) < n:=⟨(i % n).toNat,by have:=Y1 i (b:=n) (by omega);omega,by have:=Y1 i (b:=n) (by omega);have:=Int.emod_lt_of_pos i h;omega⟩
theorem vn{K:aE}{P:Addr->Prop}{H:Hp}{ns:List Int}:cj (aO K P H) (ns.map V.int) (ns.map PyData.int):=⟨by simp,λi y x hy hx=>by
 rw[Xv]at hy hx
 cases q:ns[i]? with
 | none=>rw[q]at hy;cases hy
 | some n=>rw[q]at hy hx;cases hy;cases hx;exact .int _⟩
theorem yH{α β:Type}{f:α->β}{l:List α}{j:Nat}{a:α}(h:l[j]?=some a):oA (l.map f) (j:Int)=some (f a):=ji (by rw[Xv,h];rfl)
@[reducible] def JO(n:Nat)(ea:DX)(env:bG)(st:aB)(Q:DC):Prop:=ea env st λx az=>match nX az x with
 | some ds=>match ds[n]? with
  | some d=>Q (.dat d) az
  | none=>False
 | none=>False
theorem aR{X:Cx}{Y:YK}{a:Expr}{ea:DX}{pos p:Pos}{n:Nat}{j}(ha:bR X Y a ea)(hs:sr (.Constant (.int (n:Int)) j p):=by exact λ_ _=>rfl):bR X Y (.Subscript a (.Constant (.int (n:Int)) j p) pos) (JO n ea):=by
 obtain⟨ta,p1,a1⟩:=ha.h;refine⟨_,aF Bf p1 pI hs,λH0 A0 G al H st s env Q R I E q k=>a1 H0 A0 G al H st s env _ _ I E q λx az aZ v H1 e1 I1 d1 q1=>?_⟩;split at q1
 ·rename_i ds e;split at q1
  ·rename_i d hd;obtain⟨b,ys,rfl,g1,g2⟩:=d1.OC I1 e;obtain⟨z,g3,g4⟩:=g2.oA (ji hd);have kk:=(k.go I1 e1).here I1 (.d g4) q1;rcases g1 with g1 | g1
   ·exact .inl ⟨b,ys,_,z,rfl,rfl,g1,g3,kk⟩
   ·exact .inr (.inl ⟨b,ys,_,z,rfl,rfl,g1,g3,kk⟩)
  ·exact q1.elim
 ·exact q1.elim
structure Sh(n:Nat)(d:PyData):Prop where
 cl:d.canLay0=true
 dp:d.depth<=n
theorem Sh.up{n m:Nat}{d:PyData}(h:Sh n d)(l:n<=m):Sh m d:=⟨h.cl,Xh h.dp l⟩
theorem j9{n:Nat}{i:Int}:Sh n (.int i):=⟨rfl,XZ _⟩
theorem cG{n:Nat}{x:Str}(h:PyData.canLay0 (.str x)=true:=by decide +kernel):Sh n (.str x):=⟨h,XZ _⟩
theorem pO{n:Nat}:∀{ds:List PyData},(∀d∈ds,Sh n d)->PyData.canLayAll0 ds=true/\PyData.depthAll ds<=n
 | [],_=>⟨rfl,XZ _⟩
 | d::r,h=>by
  obtain⟨h1,h2⟩:=pO (ds:=r) λx hx=>h x (W9 _ hx)
  have hd:=h d W7;refine⟨?_,?_⟩
  ·show(PyData.canLay0 d&&PyData.canLayAll0 r)=true;rw[hd.cl,h1];rfl
  ·show max (PyData.depth d) (PyData.depthAll r)<=n;exact Nat.max_le.mpr ⟨hd.dp,h2⟩
theorem gx{n:Nat}{ds:List PyData}(h:∀d∈ds,Sh n d):Sh (n + 1) (.list ds):=⟨(pO h).1,YQ (pO h).2⟩
theorem da{n:Nat}{ds:List PyData}(h:∀d∈ds,Sh n d):Sh (n + 1) (.tuple ds):=⟨(pO h).1,YQ (pO h).2⟩
theorem cu{n:Nat}:∀d∈([]:List PyData),Sh n d:=λ_ h=>nomatch h
theorem ay{n:Nat}{x:PyData}{ds:List PyData}(h:Sh n x)(r:∀d∈ds,Sh n d):∀d∈x::ds,Sh n d:=λd hd=>by
 rcases Xj.mp hd with z | z
 ·rw[z];exact h
 ·exact r d z
theorem B4{α:Type}{n:Nat}{f:α->PyData}{l:List α}(h:∀a∈l,Sh n (f a)):∀d∈l.map f,Sh n d:=λd hd=>by
 obtain⟨a,ha,rfl⟩:=YA.mp hd;exact h a ha
theorem Sh.ok{n:Nat}{d:PyData}(h:Sh n d)(l:n<=64:=by decide):PySem.SeqAt.shaped d=true:=by
 show(d.canLay0&&decide (d.depth<=64))=true;rw[h.cl,XM (Xh h.dp l)];rfl
theorem Sh.self{n:Nat}{d:PyData}(h:Sh n d):PyData.eqv d d=true:=PySem.SeqAt.eqv_refl _ h.cl
def sub{α:Type}:List Nat->List α->List α
 | [],_=>[]
 | k::ks,xs=>match xs[k]? with
  | some x=>x::sub ks xs
  | none=>sub ks xs
def mO{α:Type}:List Nat->List α->List α->List α
 | k::ks,y::ys,xs=>mO ks ys (xs.set k y)
 | _,_,xs=>xs
theorem vp{α:Type}{k:Nat}{ks:List Nat}{xs:List α}{x:α}(h:xs[k]?=some x):sub (k::ks) xs=x::sub ks xs:=by
 show(match xs[k]? with | some x=>x::sub ks xs | none=>sub ks xs)=_;rw[h]
theorem cY{α:Type}{xs:List α}:∀{ks:List Nat},(∀k∈ks,k < xs.length)->∀(i:Nat) (y:α),(sub ks xs)[i]?=some y↔∃k,ks[i]?=some k/\xs[k]?=some y
 | [],_,i,y=>⟨λh=>by simp[sub]at h,λ⟨k,h,_⟩=>by simp at h⟩
 | k::ks,h,i,y=>by
  rw[vp (jL (h k W7))]
  cases i with
  | zero =>
   rw[X8];exact⟨λe=>⟨k,rfl,by rw[jL (h k W7)];exact e⟩,λ⟨j,e,q⟩=>by rw[X8]at e;cases e;rw[jL (h k W7)]at q;exact q⟩
  | succ i =>
   rw[Yq,Yq];exact cY (λj hj=>h j (W9 _ hj)) i y
theorem sub_len{α:Type}{xs:List α}:∀{ks:List Nat},(∀k∈ks,k < xs.length)->(sub ks xs).length=ks.length
 | [],_=>rfl
 | k::ks,h=>by
  rw[vp (jL (h k W7)),Xi,Xi,sub_len λj hj=>h j (W9 _ hj)]
theorem tq{α:Type}:∀{ks:List Nat} {ys xs:List α},(mO ks ys xs).length=xs.length
 | [],[],_=>rfl
 | [],_::_,_=>rfl
 | _::_,[],_=>rfl
 | k::ks,y::ys,xs=>by
  show(mO ks ys (xs.set k y)).length=_;rw[tq,Xp]
theorem eO{α:Type}:∀{ks:List Nat} {ys xs:List α} {j:Nat},j∉ks->(mO ks ys xs)[j]?=xs[j]?
 | [],[],_,_,_=>rfl
 | [],_::_,_,_,_=>rfl
 | _::_,[],_,_,_=>rfl
 | k::ks,y::ys,xs,j,h=>by
  show(mO ks ys (xs.set k y))[j]?=_;rw[eO λz=>h (W9 _ z),W8 λe=>h (by rw[← e];exact W7)]
theorem w6{α:Type}:∀{ks:List Nat} {ys xs:List α} {i k:Nat} {y:α},ks.Nodup->ks[i]?=some k->ys[i]?=some y->k < xs.length->(mO ks ys xs)[k]?=some y
 | [],_,_,i,k,y,_,h,_,_=>by simp at h
 | _::_,[],_,i,k,y,_,_,h,_=>by simp at h
 | k0::ks,y0::ys,xs,i,k,y,nd,h1,h2,h3=>by
  show(mO ks ys (xs.set k0 y0))[k]?=_
  cases i with
  | zero =>
   rw[X8]at h1 h2;cases h1;cases h2;rw[eO (Y2.mp nd).1,W3 h3]
  | succ i =>
   rw[Yq]at h1 h2;exact w6 (Y2.mp nd).2 h1 h2 (by rw[Xp];exact h3)
def Ce.nd:Ce->Prop
 | .deep _=>False
 | _=>True
section
variable {K:aE} {J:KF} {H0 H H1:Hp} {A0 G:Addr->Prop} {al aZ:List (List Addr)} {st az:aB} {ks:List Nat}
def Gc(G:Addr->Prop)(al:List (List Addr))(st:aB)(ks:List Nat):Addr->Prop:=λc=>Fb G al st c/\c∉(sub ks al).flatten
theorem pP(hk:∀k∈ks,k < al.length){c:Addr}:c∈(sub ks al).flatten↔∃k f,k∈ks/\al[k]?=some f/\c∈f:=by
 constructor
 ·intro h;obtain⟨f,hf,hc⟩:=X2.mp h;obtain⟨i,hi⟩:=Xs hf;obtain⟨k,h1,h2⟩:=(cY hk i f).mp hi;exact⟨k,f,Xg h1,h2,hc⟩
 ·rintro⟨k,f,h1,h2,h3⟩;obtain⟨i,hi⟩:=Xs h1;exact bV ((cY hk i f).mpr ⟨k,hi,h2⟩) h3
theorem tw(I:DI J H0 A0 G al H st)(hk:∀k∈ks,k < al.length){c:Addr}(h:Lv (sub ks al) (sub ks st) c):Lv al st c:=by
 obtain⟨i,f,ce,h1,h2,h3,h4⟩:=h;obtain⟨k,e1,e2⟩:=(cY hk i f).mp h1;obtain⟨k',e3,e4⟩:=(cY (λj hj=>by rw[← I.len];exact hk j hj) i ce).mp h3;rw[e1]at e3;cases e3;exact⟨k,f,ce,e2,h2,e4,h4⟩
theorem yI(I:DI J H0 A0 G al H st)(hk:∀k∈ks,k < al.length){c:Addr}(h:Fb (Gc G al st ks) (sub ks al) (sub ks st) c):Fb G al st c:=by
 rcases h with z | z
 ·exact z.1
 ·exact .inr (tw I hk z)
theorem An.HN{P P':Addr->Prop}{fp:List Addr}{c:Ce}{al al':List (List Addr)}(h:An K P H al fp c)(n:c.nd)(s:∀c,P' c->P c)(hP:∀c,P c->∃o,H c=some o/\jP o):An K P' H al' fp c:=by
 cases c with
 | live xs =>
  obtain⟨a,ys,e1,e2,e3⟩:=h;exact⟨a,ys,e1,e2,e3.imp λy x r=>r.sub s⟩
 | froz ds =>
  obtain⟨a,e1,e2⟩:=h;exact⟨a,e1,e2.sub s⟩
 | deep xs=>exact n.elim
 | obj o=>exact⟨h.1,o.keep K P H fp P' H h.2 hP (λ_ _ _ e=>e) (jd λc o n e=>⟨λz=>n (s c z),e⟩)⟩
theorem DI.lend(I:DI J H0 A0 G al H st)(nd:ks.Nodup)(hk:∀k∈ks,k < al.length)(nn:∀k∈ks,∀c,st[k]?=some c->c.nd):DI (k0 J.K) H (λc=>c∈(sub ks al).flatten) (Gc G al st ks) (sub ks al) H (sub ks st):=by
 have hk':∀k∈ks,k < st.length:=λj hj=>by rw[← I.len];exact hk j hj
 refine⟨by rw[sub_len hk,sub_len hk'],?_,λb hb=>?_,λi f ce h1 h2=>?_,.refl,λb hb=>.inl hb,λb hb z=>z.2 hb,λb hb=>I.lV hb.1,trivial⟩
 ·unfold List.Nodup;rw[List.pairwise_flatten,List.pairwise_iff_getElem];refine⟨λf hf=>?_,λi j hi hj hij x hx y hy e=>?_⟩
  ·obtain⟨i,hi⟩:=Xs hf;obtain⟨k,_,h2⟩:=(cY hk i f).mp hi;exact(Ym.mp I.nd).1 f (Xg h2)
  ·subst e;obtain⟨k1,a1,b1⟩:=(cY hk i _).mp (jL hi);obtain⟨k2,a2,b2⟩:=(cY hk j _).mp (jL hj);have q:=eI I.nd b1 b2 hx hy;subst q;obtain⟨p1,q1⟩:=er a1;obtain⟨p2,q2⟩:=er a2;exact absurd (q1.trans q2.symm) ((List.pairwise_iff_getElem.mp nd) i j p1 p2 hij)
 ·obtain⟨k,f,_,h2,h3⟩:=(pP hk).mp hb;exact I.ok b (bV h2 h3)
 ·obtain⟨k,e1,e2⟩:=(cY hk i f).mp h1;obtain⟨k',e3,e4⟩:=(cY hk' i ce).mp h2;rw[e1]at e3;cases e3;exact(I.cel k f ce e2 e4).HN (nn k (Xg e1) ce e4) (λc hc=>yI I hk hc) λc hc=>I.lV hc
theorem DI.back(I:DI J H0 A0 G al H st)(nd:ks.Nodup)(hk:∀k∈ks,k < al.length)(Jj:DI (k0 J.K) H (λc=>c∈(sub ks al).flatten) (Gc G al st ks) aZ H1 az)(e:Ext (sub ks al) H (sub ks st) aZ H1 az)(hl:ks.length<=aZ.length)(nn:∀i < ks.length,∀c,az[i]?=some c->c.nd):
  Ext al H st (mO ks aZ al) H1 (mO ks az st)/\DI J H0 A0 G (mO ks aZ al) H1 (mO ks az st)/\∀c,Fb G (mO ks aZ al) (mO ks az st) c->Fb (Gc G al st ks) aZ az c:=by
 have hk':∀k∈ks,k < st.length:=λj hj=>by rw[← I.len];exact hk j hj
 have Fe:∀k∈ks,∃(i:Nat) (f:List Addr) (c:Ce),ks[i]?=some k/\i < ks.length/\aZ[i]?=some f/\az[i]?=some c/\(mO ks aZ al)[k]?=some f/\(mO ks az st)[k]?=some c:=λk h=>by
  obtain⟨i,hi⟩:=Xs h;obtain⟨hil,_⟩:=er hi;have h1:=jL (l:=aZ) (i:=i) (by omega);have h2:=jL (l:=az) (i:=i) (by rw[← Jj.len];omega);exact⟨i,_,_,hi,hil,h1,h2,w6 nd hi h1 (hk k h),w6 nd hi h2 (hk' k h)⟩
 have lentIn:∀{c:Addr},c∈(sub ks al).flatten->c∈al.flatten:=λh=>by
  obtain⟨k,f,_,h2,h3⟩:=(pP hk).mp h;exact bV h2 h3
 have outs:∀{j:Nat} {f:List Addr} {c:Addr},j∉ks->al[j]?=some f->c∈f->c∉(sub ks al).flatten:=λhj hf hc h=>by
  obtain⟨k,g,h1,h2,h3⟩:=(pP hk).mp h;exact hj (by rw[eI I.nd hf h2 hc h3];exact h1)
 have parted:∀b∈(mO ks aZ al).flatten,(∃(i:Nat) (f:List Addr),i < ks.length/\aZ[i]?=some f/\b∈f)∨∃(j:Nat) (f:List Addr),j∉ks/\al[j]?=some f/\b∈f:=λb hb=>by
  obtain⟨f,hf,hbf⟩:=X2.mp hb;obtain⟨j,hj⟩:=Xs hf;by_cases m:j∈ks
  ·obtain⟨i,g,c,_,h2,h3,_,h5,_⟩:=Fe j m;rw[h5]at hj;cases hj;exact .inl ⟨i,f,h2,h3,hbf⟩
  ·rw[eO m]at hj;exact .inr ⟨j,f,m,hj,hbf⟩
 have mem:∀b∈(mO ks aZ al).flatten,b∈al.flatten∨H b=none:=λb hb=>by
  rcases parted b hb with⟨i,f,_,h2,h3⟩ | ⟨j,f,_,h2,h3⟩
  ·rcases e.nws b (bV h2 h3)with z | z
   ·exact .inl (lentIn z)
   ·exact .inr z
  ·exact .inl (bV h2 h3)
 have keepOut:∀{b:Addr} {o:HO},b∉(sub ks al).flatten->H b=some o->H1 b=some o:=λn q=>Jj.fr _ _ n q
 have E:Ext al H st (mO ks aZ al) H1 (mO ks az st):=⟨λb o n q=>e.keep b o (λz=>n (tw I hk z)) q,λj a r h=>by
   by_cases m:j∈ks
   ·obtain⟨i,f,c,h1,_,h3,_,h5,_⟩:=Fe j m;obtain⟨r',q⟩:=e.pre i a r ((cY hk i _).mpr ⟨j,h1,h⟩);rw[h3]at q;cases q;exact⟨r',h5⟩
   ·exact⟨r,by rw[eO m];exact h⟩,mem,λb ⟨j,f,ce,h1,h2,h3,h4⟩=>by
   by_cases m:j∈ks
   ·obtain⟨i,g,c,_,_,q3,q4,q5,q6⟩:=Fe j m;rw[q5]at h1;cases h1;rw[q6]at h3;cases h3;rcases e.lv b ⟨i,f,ce,q3,h2,q4,h4⟩with z | z
    ·exact .inl (tw I hk z)
    ·exact .inr z
   ·rw[eO m]at h1 h3;exact .inl ⟨j,f,ce,h1,h2,h3,h4⟩⟩
 have fb:∀c,Fb G (mO ks aZ al) (mO ks az st) c->Fb (Gc G al st ks) aZ az c:=λc h=>by
  rcases h with z | ⟨j,f,ce,h1,h2,h3,h4⟩
  ·exact .inl ⟨.inl z,λy=>I.gd c (lentIn y) z⟩
  ·by_cases m:j∈ks
   ·obtain⟨i,g,c',_,_,q3,q4,q5,q6⟩:=Fe j m;rw[q5]at h1;cases h1;rw[q6]at h3;cases h3;exact .inr ⟨i,f,ce,q3,h2,q4,h4⟩
   ·rw[eO m]at h1 h3;exact .inl ⟨.inr ⟨j,f,ce,h1,h2,h3,h4⟩,outs m h1 h2⟩
 refine⟨E,⟨by rw[tq,tq];exact I.len,?_,λb hb=>?_,λj f ce h1 h2=>?_,λb o n q=>?_,λb hb=>?_,λb hb z=>?_,λb hb=>?_,I.lk⟩,fb⟩
 ·unfold List.Nodup;rw[List.pairwise_flatten,List.pairwise_iff_getElem]
  have far:∀(i j:Nat) f g x,aZ[i]?=some f->j∉ks->al[j]?=some g->x∈f->x∈g->False:=λi j f g x h1 h2 h3 h4 h5=>by
   rcases e.nws x (bV h1 h4)with z | z
   ·exact outs h2 h3 h5 z
   ·obtain⟨o,q⟩:=I.ok x (bV h3 h5);rw[z]at q;cases q
  refine⟨λf hf=>?_,λi j hi hj hij x hx y hy w=>?_⟩
  ·obtain⟨j,hj⟩:=Xs hf;by_cases m:j∈ks
   ·obtain⟨i,g,c,_,_,h3,_,h5,_⟩:=Fe j m;rw[h5]at hj;cases hj;exact(Ym.mp Jj.nd).1 f (Xg h3)
   ·rw[eO m]at hj;exact(Ym.mp I.nd).1 f (Xg hj)
  ·subst w;have gi:=jL hi;have gj:=jL hj;by_cases m1:i∈ks
   ·obtain⟨i1,f1,c1,a1,_,b1,_,d1,_⟩:=Fe i m1;rw[d1]at gi;have hx':x∈f1:=by rw[W0 gi];exact hx
    by_cases m2:j∈ks
    ·obtain⟨i2,f2,c2,a2,_,b2,_,d2,_⟩:=Fe j m2;rw[d2]at gj;have hy':x∈f2:=by rw[W0 gj];exact hy
     have q:=eI Jj.nd b1 b2 hx' hy';subst q;rw[a1]at a2;cases a2;omega
    ·rw[eO m2]at gj;exact far i1 j f1 _ x b1 m2 gj hx' hy
   ·rw[eO m1]at gi;by_cases m2:j∈ks
    ·obtain⟨i2,f2,c2,a2,_,b2,_,d2,_⟩:=Fe j m2;rw[d2]at gj;have hy':x∈f2:=by rw[W0 gj];exact hy
     exact far i2 i f2 _ x b2 m1 gi hy' hx
    ·rw[eO m2]at gj;exact absurd (eI I.nd gi gj hx hy) (by omega)
 ·rcases parted b hb with⟨i,f,_,h2,h3⟩ | ⟨j,f,h1,h2,h3⟩
  ·exact Jj.ok b (bV h2 h3)
  ·obtain⟨o,q⟩:=I.ok b (bV h2 h3);exact⟨o,keepOut (outs h1 h2 h3) q⟩
 ·by_cases m:j∈ks
  ·obtain⟨i,g,c,_,q2,q3,q4,q5,q6⟩:=Fe j m;rw[q5]at h1;cases h1;rw[q6]at h2;cases h2;exact(Jj.cel i f ce q3 q4).HN (nn i q2 ce q4) fb λc hc=>Jj.lV hc
  ·rw[eO m]at h1 h2;exact(I.cel j f ce h1 h2).ext E (λc hc=>I.lV hc) λ_ b hb o q=>keepOut (outs m h1 hb) q
 ·by_cases w:b∈(sub ks al).flatten
  ·rcases I.nw b (lentIn w)with y | y
   ·exact absurd y n
   ·rw[y]at q;cases q
  ·exact keepOut w (I.fr b o n q)
 ·rcases mem b hb with z | z
  ·exact I.nw b z
  ·exact I.n0 z
 ·rcases mem b hb with w | w
  ·exact I.gd b w z
  ·exact I.Hz w (.inl z)
 ·obtain⟨o,q,m⟩:=I.gs b hb;exact⟨o,keepOut (λw=>I.gd b (lentIn w) hb) q,m⟩
end
abbrev DB:=List DV->aB->(PyData->aB->Prop)->Prop
def yJ(K:aE)(G:Addr->Prop)(al:List (List Addr))(H:Hp)(st:aB)(Q:VK)(d:PyData)(st':aB):Prop:=∀(v:V) (H':Hp) (al':List (List Addr)) (own:aB),DI (k0 K) H (λc=>c∈al.flatten) G al' H' (st'++own)->Ext al H st al' H' (st'++own)->aO K (Fb G al' (st'++own)) H' v d->Q v H'
def OH(K:aE)(T:DB):Sp:=λvs H Q _=>∃(G:Addr->Prop) (al:List (List Addr)) (st:aB) (xs:List DV),DI (k0 K) H (λc=>c∈al.flatten) G al H st/\cj (i7 K (Fb G al st) H al) vs xs/\T xs st (yJ K G al H st Q)
def zJ(K:aE)(sp:Sp)(T:DB):Prop:=∀(vs:List V) (H:Hp) (Q:VK) (G:Addr->Prop) (al:List (List Addr)) (st:aB) (xs:List DV),DI (k0 K) H (λc=>c∈al.flatten) G al H st->cj (i7 K (Fb G al st) H al) vs xs->T xs st (yJ K G al H st Q)->sp vs H Q E0
theorem w8{K:aE}{T:DB}:zJ K (OH K T) T:=λ_ _ _ G al st xs h1 h2 h3=>⟨G,al,st,xs,h1,h2,h3⟩
def vq(T:DB):Prop:=∀xs st (Q Q':PyData->aB->Prop),(∀d s,Q d s->Q' d s)->T xs st Q->T xs st Q'
@[reducible] def w9:List Bool->List DV->Option (List Nat)
 | [],[]=>some []
 | true::js,.ref k::xs=>match w9 js xs with
  | some ks=>some (k::ks)
  | none=>none
 | false::js,.dat _::xs=>w9 js xs
 | _,_=>none
@[reducible] def xa:Nat->List Bool->List DV->List DV
 | p,true::js,_::xs=>.ref p::xa (p + 1) js xs
 | p,false::js,x::xs=>x::xa p js xs
 | _,_,_=>[]
@[reducible] def L5:aB->Bool
 | []=>true
 | .deep _::_=>false
 | _::r=>L5 r
@[reducible] def pQ(js:List Bool)(T:DB)(xs:List DV)(st:aB)(Q:DC):Prop:=match w9 js xs with
 | some ks=>ks.Nodup/\(∀k∈ks,k < st.length)/\L5 (sub ks st)=true/\T (xa 0 js xs) (sub ks st) λd az=>az.length=ks.length/\L5 az=true/\Q (.dat d) (mO ks az st)
 | none=>False
theorem pR:∀{st:aB},L5 st=true->∀(i:Nat) c,st[i]?=some c->c.nd
 | [],_,i,c,h=>by simp at h
 | .deep _::_,h,_,_,_=>by cases h
 | .live x::r,h,i,c,e=>by
  cases i with
  | zero=>cases e;trivial
  | succ i=>exact pR (st:=r) h i c (by simpa using e)
 | .froz x::r,h,i,c,e=>by
  cases i with
  | zero=>cases e;trivial
  | succ i=>exact pR (st:=r) h i c (by simpa using e)
 | .obj x::r,h,i,c,e=>by
  cases i with
  | zero=>cases e;trivial
  | succ i=>exact pR (st:=r) h i c (by simpa using e)
theorem yK{α:Type}:∀{ks:List Nat} {ys zs xs:List α},ys.length=ks.length->mO ks (ys++zs) xs=mO ks ys xs
 | [],[],[],_,_=>rfl
 | [],[],_::_,_,_=>rfl
 | [],_::_,_,_,h=>by simp at h
 | _::_,[],_,_,h=>by simp at h
 | k::ks,y::ys,zs,xs,h=>by
  show mO ks (ys++zs) (xs.set k y)=mO ks ys (xs.set k y);exact yK (by simpa using h)
section
variable {K:aE} {J:KF} {H0 H H1:Hp} {A0 G:Addr->Prop} {al aZ:List (List Addr)} {st az:aB} {ks:List Nat}
theorem xb(I:DI J H0 A0 G al H st)(hk:∀k∈ks,k < al.length):∀{js:List Bool} {xs:List DV} {vs:List V} {r:List Nat} {p:Nat},cj (i7 J (Fb G al st) H al) vs xs->w9 js xs=some r->(∀i,r[i]?=ks[p + i]?)->cj (i7 J (Fb (Gc G al st ks) (sub ks al) (sub ks st)) H (sub ks al)) vs (xa p js xs)
 | [],[],vs,r,p,h,e,q=>by
  cases vs with
  | nil=>exact .nil
  | cons _ _=>have:=h.1;simp at this
 | true::js,.ref k::xs,vs,r,p,h,e,q=>by
  have e:(match w9 js xs with | some ks=>some (k::ks) | none=>none)=some r:=e;split at e
  ·rename_i r' e';cases e
   cases vs with
   | nil=>have:=h.1;simp at this
   | cons v vs =>
    obtain⟨a,f,h1,h2⟩:=h.2 0 v _ rfl rfl;have hp:ks[p]?=some k:=by have:=q 0;rw[X8]at this;exact this.symm
    refine .cons ⟨a,f,(cY hk p _).mpr ⟨k,hp,h1⟩,h2⟩ (xb I hk (p:=p + 1) ⟨by simpa using h.1,λi y x a b=>h.2 (i + 1) y x (by simpa using a) (by simpa using b)⟩ e' λi=>?_);have:=q (i + 1);rw[List.getElem?_cons_succ]at this;rw[this]
    congr 1
    omega
  ·cases e
 | false::js,.dat d::xs,vs,r,p,h,e,q=>by
  cases vs with
  | nil=>have:=h.1;simp at this
  | cons v vs =>
   have hd:aO J (Fb G al st) H v d:=h.2 0 v _ rfl rfl;exact .cons (.d (hd.sub λc hc=>yI I hk hc)) (xb I hk (p:=p) ⟨by simpa using h.1,λi y x a b=>h.2 (i + 1) y x (by simpa using a) (by simpa using b)⟩ e q)
 | [],_::_,_,_,_,_,e,_=>by cases e
 | true::_,[],_,_,_,_,e,_=>by cases e
 | false::_,[],_,_,_,_,e,_=>by cases e
 | true::_,.dat _::_,_,_,_,_,e,_=>by cases e
 | false::_,.ref _::_,_,_,_,_,e,_=>by cases e
theorem B5{sp:Sp}{T:DB}{js:List Bool}(h:zJ J.K sp T)(m:vq T):AB J (λvs H Q=>sp (vs++[]) H Q E0) (pQ js T):=λH0 A0 G al H st vs xs Q R I hp q k=>by
 unfold pQ at q;split at q
 ·rename_i ks e;obtain⟨nd,hk',nn,q⟩:=q;have hk:∀k∈ks,k < al.length:=λj hj=>by rw[I.len];exact hk' j hj
  rw[XC]
  have Us:∀k∈ks,∀c,st[k]?=some c->c.nd:=λj hj c hc=>by
   obtain⟨i,hi⟩:=Xs hj;exact pR nn i c ((cY hk' i c).mpr ⟨j,hi,hc⟩)
  refine h vs H R (Gc G al st ks) (sub ks al) (sub ks st) (xa 0 js xs) (I.lend nd hk Us) (xb I hk hp e λi=>by rw[Nat.zero_add]) (m _ _ _ _ (λd az hd v H' al' own Jj e F=>?_) q);obtain⟨hl,n1,hq⟩:=hd;have l1:ks.length<=al'.length:=by rw[Jj.len,Xr];omega
  obtain⟨E,I2,fb⟩:=I.back nd hk Jj e l1 λi hi c hc=>pR n1 i c (by rw[Xc (by omega)]at hc;exact hc)
  rw[yK hl]at E I2 fb;exact k (.dat d) _ _ v H' E I2 (.d (F.sub fb)) hq
 ·exact q.elim
end
section
variable {X:Cx} {Y:YK} {x:Str} {e:Expr} {es:List Expr} {p pos:Pos} {n:Nat} {d:mM}
theorem cD{kk:Nat}{ps:List Str}{sp:Sp}{T:DB}{js:List Bool}(h:gI X.prog X.w X.K X.mg X.base cN x kk ps sp)(hs:zJ X.K sp T)(m:vq T)(hr:cm kk X.A)(hg:Gl X x)(ha:vb X Y (e::es) n d)(hdb:(x == ("__debug__" : Str))=false:=by decide)
  (he:starEach (e::es) X.env=(false,eval e X.env)::starEach es X.env:=by rfl) (hpl:(backTo pos (starEach es X.env)).any (·.1)=false:=by rfl):bR X Y (.Call (.Name x p) (e::es) [] pos) (Ao (pQ js T) d):=by
 obtain⟨t,p1,a1⟩:=ha.h;exact⟨_,eF h hr hg p1 hdb he hpl,sS (B5 hs m) a1⟩
theorem m7{N:List Str}{body:List Stmt}{vs:List V}{xs:List DV}{H:Hp}{Q:VK}{G:Addr->Prop}{al:List (List Addr)}{st:aB}(I:DI (kf X y0) H (λc=>c∈al.flatten) G al H st)(hv:cj (i7 X.K (Fb G al st) H al) vs xs)
  (h:rN X y0 body {nx:=λ_ bO=>yJ X.K G al H st Q .none (bO.take st.length),rt:=λdv bO=>kS dv bO λd jY=>yJ X.K G al H st Q d (jY.take st.length)} (xs.map some++List.replicate (N.length - xs.length) none) st) :
  ∃t,oy X body t/\t {nx:=λ_ H'=>Q .non H',rt:=Q} (start N vs) H:=by
 obtain⟨s,⟨t,p1,a1⟩,q⟩:=h;refine⟨t,p1,a1 H (λc=>c∈al.flatten) G al H st _ _ _ _ I ⟨by unfold start;simp[hv.1],λi dv hi=>?_⟩ q ⟨λenv' st' al' σ' H' e' I' E' q'=>?_,λdv st' al' v H' e' I' d' q'=>?_,λenv' st' al' σ' H' e' I' E' q'=>q'.elim,λenv' st' al' σ' H' e' I' E' q'=>q'.elim⟩⟩
 ·by_cases l:i < xs.length
  ·rw[List.getElem?_append_left (by simpa using l),List.getElem?_map,jL l]at hi;cases hi;obtain⟨y,hy,hr⟩:=hv.at (jL l);refine⟨y,?_,hr⟩;unfold start;rw[List.getElem?_append_left (by rw[List.length_map,hv.1];exact l),List.getElem?_map,hy];rfl
  ·rw[List.getElem?_append_right (by simp;omega)]at hi;rw[List.getElem?_replicate]at hi;split at hi
   ·cases hi
   ·cases hi
 ·refine q' .non H' al' (st'.drop st.length) ?_ ?_ .non
  ·rw[XU];exact I'
  ·rw[XU];exact e'
 ·obtain⟨d,bO,E2,I2,F,q2⟩:=lq I' d' q';refine q2 v H' al' (bO.drop st.length) ?_ ?_ ?_
  ·rw[XU];exact I2
  ·rw[XU];exact e'.trans I' E2
  ·rw[XU];exact F
end
theorem cH{s u:DS}{DD:eM}{env:bG}{st:aB}(k:∀R:bG->aB->Prop,(∀env' st',u DD env' st'->R env' st')->s {DD with nx:=R} env st):BX s u DD env st:=k (u DD) (λ_ _ h=>h)
abbrev L6:=List (Str×PyData)
def Nn(K:aE)(P:Addr->Prop)(H:Hp)(dd:Option Addr)(fs:L6):Prop:=fs=[]∨∃dx vs,dd=some dx/\H dx=some (.ext (XD dx vs))/\¬ P dx/\vs.map (·.1)=fs.map (·.1)/\cj (aO K P H) (vs.map (·.2)) (fs.map (·.2))
def yx(K:aE)(E:XK)(P0:Addr->Prop)(Ex:Addr->L6->Prop):YK:=⟨λH0 A0 G=>(∀c,P0 c->G c)/\∀C fs dd H',Ex C fs->pC A0 H0 H'->Nn K P0 H' dd fs->E (.ref C) dd H',λ_ _ _ _ s h=>⟨λc z=>s c (h.1 c z),h.2⟩⟩
abbrev R4:=List PyData->(PyData->Prop)->(Addr->L6->Prop)->Prop
def Ut(K:aE)(T:R4):Sp:=λvs H Q E=>∃(P:Addr->Prop) (ds:List PyData),(∀c,P c->∃o,H c=some o/\jP o)/\cj (aO K P H) vs ds/\T ds (λd=>∀v H',aQ H H'->aO K P H' v d->Q v H') (λC fs=>∀dd H',aQ H H'->Nn K P H' dd fs->E (.ref C) dd H')
section
variable {K:aE} {E:XK} {P0:Addr->Prop} {Ex:Addr->L6->Prop}
end
section
variable {X:Cx} {a b c e:Expr} {es:List Expr} {pos p:Pos} {n:Nat} {d:mM} {x:Str} {E:XK} {P0:Addr->Prop} {Ex:Addr->L6->Prop}
@[reducible] def tD(C:Addr)(Ex:Addr->L6->Prop)(_:eM)(_:bG)(_:aB):Prop:=Ex C []
theorem rP{C:Addr}{np cpos:Pos}{bx:Bool}(hz:Rz X E)(hg:Gl X x)(hm:X.mg x=some (.ref C))(q:PySem.W.excIn X.K C (px bx) (uu bx)=true)(hc:X.calm=true)(hd:(x == ("__debug__" : Str))=false:=by decide)(hpl:backTo cpos (starEach [] X.env)=[]:=by rfl):BW X (yx X.K E P0 Ex) (.Raise (some (.Call (.Name x np) [] [] cpos)) none pos) (tD C Ex) :=
 ⟨_,mX hz hg hm q hc hd hpl,λH0 A0 G al H st σ env DD D I En q k=>I.lk.2 C [] none H q I.fr (.inl rfl)⟩
theorem zK{N:List Str}{body:List Stmt}{vs:List V}{ds:List PyData}{H:Hp}{Q:VK}{P:Addr->Prop}(hP:∀c,P c->∃o,H c=some o/\jP o)(hv:cj (aO X.K P H) vs ds)(hE:∀C fs,Ex C fs->∀dd H',aQ H H'->Nn X.K P H' dd fs->E (.ref C) dd H')
  (h:rN X (yx X.K E P Ex) body {nx:=λ_ _=>∀v H',aQ H H'->aO X.K P H' v .none->Q v H',rt:=λdv st=>kS dv st λd _=>∀v H',aQ H H'->aO X.K P H' v d->Q v H'} (ds.map (λd=>some (DV.dat d))++List.replicate (N.length - ds.length) none) []) :
  ∃t,oy X body t/\t {nx:=λ_ H'=>Q .non H',rt:=Q} (start N vs) H :=
 rO (Y:=yx X.K E P Ex) hP hv ⟨λ_ z=>z,λC fs dd H' e k x=>hE C fs e dd H' (λc o q=>k c o id q) x⟩ h
end
section
variable {X:Cx} {Y:YK} {a b c e:Expr} {es:List Expr} {pos p:Pos} {ea eb ec:DX} {K:aE} {J:KF} {n:Nat} {d:mM}
@[reducible] def me(xs:List DV)(st:aB)(Q:DC):Prop:=match xs with
 | [.dat (.int i),.dat (.int j)]=>(0 < j/\j < 1073741824)/\Q (.dat (.tuple [.int (i / j),.int (i % j)])) st
 | _=>False
theorem zL:AB J (λxs H Q=>∃i j,xs=[.int i,.int j]/\Mu i j/\∀p,H p=none->Q (.ref p) (upd H p (.tup [.int (i / j),.int (i % j)]))) me:=λH0 A0 G al H st vs ds Q R I h q k=>by
 unfold me at q;split at q
 ·obtain⟨v,u,rfl,h1,h2⟩:=M8 h;rw[aO.aU h1,aO.aU h2];refine⟨_,_,rfl,q.1,λp hp=>?_⟩;exact k.laid I (jf hp) (.d (aO.tup (I.Hz hp) uS (.cons (.int _) (.cons (.int _) .nil)))) q.2
 ·exact q.elim
theorem m8(hg:Gl X "divmod")(hm:X.mg "divmod"=none)(ha:vb X Y (e::es) n d)(he:starEach (e::es) X.env=(false,eval e X.env)::starEach es X.env:=by rfl)(hpl:(backTo pos (starEach es X.env)).any (·.1)=false:=by rfl):bR X Y (.Call (.Name "divmod" p) (e::es) [] pos) (Ao me d):=vg uD zL hg hm (by rfl) ha (by decide) (by decide) he hpl
@[reducible] def xc(eo:DX)(dx:mM)(env:bG)(st:aB)(Q:DC):Prop:=eo env st λo az=>match o with
 | .ref k=>JK az k=true/\dx env az λxs bO=>match xs with
  | [.dat (.int i)]=>match bO[k]? with
   | some (.live ds)=>∃j dd,seqIndex? i ds.length=some j/\ds[j]?=some dd/\-9223372036854775808<=i/\i < 9223372036854775808/\Q (.dat dd) (bO.set k (.live (ds.eraseIdx j)))
   | _=>False
  | _=>False
 | _=>False
theorem zM{α:Type}{R:V->α->Prop}{ys:List V}{xs:List α}(h:cj R ys xs)(j:Nat):cj R (ys.eraseIdx j) (xs.eraseIdx j):=by
 rw[Yx,Yx];exact(h.take j).append (h.drop (j + 1))
theorem B6{apos cpos:Pos}{o:Expr}{eo:DX}(ho:bR X Y o eo)(ha:vb X Y (e::es) n d)(hbase:attributeBase o "pop" X.env (eval o X.env)=eval o X.env:=by rfl)
  (hfew:((backTo cpos (starEach (e::es) X.env)).all (λx=>!x.1)&&(backToKw cpos (keywordEach [] X.env)).all (λx=>x.1.isSome)
   && decide ((e::es).length + ([]:List Keyword).length + (if ([]:List Keyword).isEmpty then 0 else 1) < 30))=true:=by rfl)
  (hline:(apos.endLine == cpos.line)=true:=by rfl) (hs:starEach (e::es) X.env=(false,eval e X.env)::starEach es X.env:=by rfl) (hplain:(backTo cpos (starEach es X.env)).any (·.1)=false:=by rfl) :
  bR X Y (.Call (.Attribute o "pop" apos) (e::es) [] cpos) (xc eo d):=by
 obtain⟨t,p1,a1⟩:=ho.h;obtain⟨u,p2,a2⟩:=ha.h;refine⟨_,rl Xy PySem.F.slot_list_pop PySem.F.type_list_pop Bg p1 p2 hbase hfew hline hs hplain,λH0 A0 G al H st s env Q R I E q k=>a1 H0 A0 G al H st s env _ _ I E q λx az aZ v H1 e1 I1 d1 q1=>?_⟩;split at q1
 ·rename_i kk;refine⟨vk (sY I1 d1 q1.1),a2 H0 A0 G aZ H1 az s env _ _ I1 (E.ext e1) q1.2 λxs bO eX vs H2 e2 I2 d2 q2=>?_⟩;have q2:=q2.2;split at q2
  ·obtain⟨w,rfl,hw⟩:=zF d2;rw[aO.aU hw];split at q2
   ·rename_i ds hs;obtain⟨j,dd,h1,h2,h3,h4,q3⟩:=q2;obtain⟨a,r0,ha,rfl⟩:=d1.ext e2;obtain⟨a',ys,e0,g1,g2⟩:=I2.cel kk _ _ ha hs;cases e0;obtain⟨y,hy,ry⟩:=g2.at h2;obtain⟨E4,I4⟩:=I2.put ha hs (zM g2 j);exact⟨a,ys,_,j,y,rfl,rfl,g1,h3,h4,by rw[g2.1];exact h1,hy,(k.go I2 (e1.trans I1 e2)) _ _ _ _ _ E4 I4 (.d (ry.ext E4)) q3⟩
   ·exact q2.elim
  ·exact q2.elim
 ·exact q1.elim
end
abbrev HP:=bG->aB->(List DV->(aB->Prop)->aB->Prop)->Prop
def Uu(J:KF)(H0:Hp)(A0:Addr->Prop)(G:Addr->Prop)(al:List (List Addr))(H:Hp)(st:aB)(Jj:It)(xs:List DV)(ok:aB->Prop):Prop:=∀(G1:Addr->Prop) (aZ:List (List Addr)) (H1:Hp) (az:aB) (i:Nat),(∀c,G1 c->G c∨H c=none)->Ext al H st aZ H1 az->DI J H0 A0 G1 aZ H1 az->ok az ->
 (∀d,xs[i]?=some d->Jj.go i H1/\∀x H2,Jj.yld i H1 x H2->aQ H1 H2/\i7 J (Fb G1 aZ az) H2 aZ x d)/\(xs.length<=i->i<=xs.length->Jj.stop i H1)
def Uv(J:KF)(wi:TI)(di:HP):Prop:=∀(H0:Hp) (A0:Addr->Prop) (G:Addr->Prop) (al:List (List Addr)) (H:Hp) (st:aB) (s:St) (env:bG) (Q:List DV->(aB->Prop)->aB->Prop) (R:It->Hp->Prop),DI J H0 A0 G al H st->mL J (Fb G al st) H al s env->di env st Q ->
 (∀Jj xs ok st' al' H',Ext al H st al' H' st'->DI J H0 A0 G al' H' st'->Uu J H0 A0 G al' H' st' Jj xs ok->Q xs ok st'->R Jj H')->wi s H R
structure Uw(X:Cx)(Y:YK)(tg iter:Expr)(d:HP):Prop where
 h:∃wi,PI X tg iter wi/\Uv (kf X Y) wi d
section
variable {X:Cx} {Y:YK} {tg a b c e:Expr} {es:List Expr} {pos p:Pos} {ea eb ec:DX} {K:aE} {J:KF} {n:Nat} {d:mM} {scope:Scope}
def vt(J:KF)(fin:List DV->aB->DC->Prop):Prop:=∀(H0:Hp) (A0:Addr->Prop) (G:Addr->Prop) (al:List (List Addr)) (H:Hp) (st:aB) (Q:DC) (R:VK) (D:Addr) (eX:List (List Addr)) (H2:Hp) (bO:aB) (vs:List V) (ys:List DV),DI J H0 A0 G al H st->H D=none->Kn J H0 A0 G al H st Q R->fin ys bO Q->DI J H0 A0 (λc=>G c∨c=D) eX H2 bO->Ext al H st eX H2 bO->H2 D=some (.lst vs)->cj (i7 J (Fb (λc=>G c∨c=D) eX bO) H2 eX) vs ys->R (.ref D) H2
end
abbrev tE(h:Heap)(z TI TO:Addr)(f0:Value)(b:Bool):Prop :=
 h.get? z=some {cls:=.type "zip",dict:=none,data:=.fields #[f0,.bool b,.bool false,.ref TI,.ref TO],slots:=#[]}
section
variable {prog:Program} {w:World} {A:Around} {E:Value->Shared->Prop} {s:Shared}
theorem oo{a:Addr}{Q:Option Obj->Shared->Prop}(h:Q (s.heap.get? a) s):wpAny (model prog w) A (loadIfAlive a) Q E s:=λ_ _ _=>h
theorem vv{z TI TO T:Addr}{bb:Bool}{oT:Obj}{Q:Bool->Shared->Prop}(hz:tE s.heap z TI TO (rawInt T) bb)(hT:s.heap.get? T=some oT)
  (h:∀h₁,tE h₁ z TI TO (rawInt T) true->h₁.objs.size=s.heap.objs.size->(∀c o,c≠z->s.heap.get? c=some o->h₁.get? c=some o)->Q false {s with heap:=h₁}) :
  wpAny (model prog w) A (Builtin.SmallTypes.ownedTupleIsFree (.ref z)) Q E s:=by
 unfold Builtin.SmallTypes.ownedTupleIsFree;refine wpAny_bind (wpAny_field hz rfl (x:=rawInt T) rfl ?_);show wpAny _ _ (loadIfAlive T >>= _) _ _ _;refine wpAny_bind (oo ?_);rw[hT];show wpAny _ _ (field (.ref z) 1 >>= _) _ _ _;refine wpAny_bind (wpAny_field hz rfl (x:=.bool bb) rfl ?_)
 cases bb with
 | true=>exact WX (h s.heap hz rfl λc o _ e=>e)
 | false =>
  show wpAny _ _ (setField (.ref z) 1 (.bool true) >>= _) _ _ _;refine wpAny_bind (wpAny_setField_rec hz (by simp) λh₁ hz₁ hs₁=>wpAny_pure ?_);exact h h₁ hz₁ hs₁.1 λc o n e=>hs₁.extBut _ _ n e
theorem pS{z TI TO i1 i2 l1 l2 T:Addr}{bb:Bool}{oT:Obj}{k1 k2:Nat}{xs ys:Array Value}{x y:Value}{Q:Value->Shared->Prop}(D:ZipApart z TI TO i1 i2 l1 l2)
  (hz:tE s.heap z TI TO (rawInt T) bb) (hTI:IsPair s.heap TI (.ref i1) (.ref i2)) (hT:s.heap.get? T=some oT)
  (h1:s.heap.IsListIter i1 l1 k1) (h2:s.heap.IsListIter i2 l2 k2) (Ar:s.heap.IsList l1 xs) (Bp:s.heap.IsList l2 ys) (hx:xs[k1]?=some x) (hy:ys[k2]?=some y)
  (hQ:∀h',tE h' z TI TO (rawInt T) true->h'.IsListIter i1 l1 (k1 + 1)->h'.IsListIter i2 l2 (k2 + 1)->IsPair h' s.heap.objs.size x y->h'.objs.size=s.heap.objs.size + 1 ->
   (∀c o,c≠z->c≠i1->c≠i2->s.heap.get? c=some o->h'.get? c=some o)->Q (.ref s.heap.objs.size) {s with heap:=h'}) :
  wpAny (model prog w) A (Builtin.«zip.__next__» ⟨[.ref z],[]⟩) (λfin s'=>∃v,fin=.done (.ret v)/\Q v s') E s:=by
 show wpAny _ _ (field (.ref z) 2 >>= _) _ _ _;refine wpAny_bind (wpAny_field hz rfl (x:=.bool false) rfl ?_);show wpAny _ _ (field (.ref z) 3 >>= _) _ _ _;refine wpAny_bind (wpAny_field hz rfl (x:=.ref TI) rfl ?_);refine wpAny_bind (wpAny_seqItems hTI rfl ?_);show wpAny _ _ (Builtin.SmallTypes.ownedTupleIsFree (.ref z) >>= _) _ _ _;refine wpAny_bind (vv hz hT λh₁ hz₁ z₁ k₁=>?_);simp only[Bool.false_eq_true,if_false];refine wpAny_bind ?_;simp only[← Array.forIn_toList,List.forIn_cons,List.forIn_nil];have h1₁:h₁.IsListIter i1 l1 k1:=h1.at λo e=>k₁ _ o D.i1z e
 have h2₁:h₁.IsListIter i2 l2 k2:=h2.at λo e=>k₁ _ o D.i2z e
 refine WS (WS (Xu ?_));show wpAny _ _ (Builtin.SmallTypes.nextOf (.ref i1) >>= _) _ _ _;have hl1₁:h₁.IsList l1 xs:=Ar.at λo e=>k₁ _ o D.l1z e
 have hl2₁:h₁.IsList l2 ys:=Bp.at λo e=>k₁ _ o D.l2z e
 refine WS (Za h1₁ hl1₁ hx λh₂ h1₂ hs₂=>WX ?_);refine WX ?_;show wpAny _ _ ((holding [x] (Builtin.SmallTypes.nextOf (.ref i2) >>= λv=>pure (some v)) >>= _) >>= _) _ _ _;refine WS (WS (Xu ?_));refine WS (Za (h2₁.extBut hs₂.extBut D.i12.symm) (hl2₁.extBut hs₂.extBut D.l2i1) hy λh₃ h2₃ hs₃=>WX ?_);refine WX ?_;refine WX ?_;show wpAny _ _ (newTuple [x,y] >>= _) _ _ _;refine WS (wpAny_newTuple ?_);have sz:h₃.objs.size=s.heap.objs.size:=by rw[hs₃.1,hs₂.1,z₁]
 have zl:z < h₃.objs.size:=by rw[sz,← z₁];exact WT hz₁
 refine WX ⟨_,rfl,?_⟩;show Q (.ref h₃.objs.size) _;have up:∀c o,h₃.get? c=some o->(h₃.push {cls:=.type "tuple",data:=.seq #[x,y]}).get? c=some o:=λc o e=>WW _ e
 have hT:=Xf h₃ (o:={cls:=.type "tuple",data:=.seq #[x,y]}) rfl;rw[sz]at hT ⊢;refine hQ _ (up _ _ (hs₃.extBut _ _ D.i2z.symm (hs₂.extBut _ _ D.i1z.symm hz₁))) ((h1₂.extBut hs₃.extBut D.i12).at λo e=>up _ o e) (h2₃.at λo e=>up _ o e) hT (by rw[Yj,sz]) λc o c1 c2 c3 e=>up c o (hs₃.extBut _ _ c3 (hs₂.extBut _ _ c2 (k₁ c o c1 e)))
theorem qD{z TI TO i1 i2 l1 l2 T:Addr}{bb:Bool}{oT:Obj}{k1 k2:Nat}{xs ys:Array Value}{Q:Fin->Shared->Prop}(hh:A.handled=none)(D:ZipApart z TI TO i1 i2 l1 l2)
  (hz:tE s.heap z TI TO (rawInt T) bb) (hTI:IsPair s.heap TI (.ref i1) (.ref i2)) (hT:s.heap.get? T=some oT)
  (h1:s.heap.IsListIter i1 l1 k1) (Ar:s.heap.IsList l1 xs) (hx:xs[k1]?=none)
  (hE:∀h' e,(∀c o,c≠z->c≠i1->s.heap.get? c=some o->h'.get? c=some o)->(∃o,h'.get? e=some o/\o.cls=.type "StopIteration")->E (.ref e) {s with heap:=h'}) :
  wpAny (model prog w) A (Builtin.«zip.__next__» ⟨[.ref z],[]⟩) Q E s:=by
 show wpAny _ _ (field (.ref z) 2 >>= _) _ _ _;refine wpAny_bind (wpAny_field hz rfl (x:=.bool false) rfl ?_);show wpAny _ _ (field (.ref z) 3 >>= _) _ _ _;refine wpAny_bind (wpAny_field hz rfl (x:=.ref TI) rfl ?_);refine wpAny_bind (wpAny_seqItems hTI rfl ?_);show wpAny _ _ (Builtin.SmallTypes.ownedTupleIsFree (.ref z) >>= _) _ _ _;refine wpAny_bind (vv hz hT λh₁ hz₁ z₁ k₁=>?_);simp only[Bool.false_eq_true,if_false];refine wpAny_bind ?_;simp only[← Array.forIn_toList,List.forIn_cons,List.forIn_nil];refine wpAny_bind (wpAny_bind (wpAny_holding ?_));show wpAny _ _ (Builtin.SmallTypes.nextOf (.ref i1) >>= _) _ _ _;refine wpAny_bind (wpAny_nextOf_list_end hh (h1.at λo e=>k₁ _ o D.i1z e) (Ar.at λo e=>k₁ _ o D.l1z e) hx λh₂ e hs₂ he=>?_);exact hE h₂ e (λc o c1 c2 x=>hs₂ _ _ c2 (k₁ c o c1 x)) he
theorem xf{z TI TO i1 i2 l1 l2 T:Addr}{bb:Bool}{oT:Obj}{k1 k2:Nat}{xs ys:Array Value}{x y:Value}{Q:Option Value->Shared->Prop}(D:ZipApart z TI TO i1 i2 l1 l2)
  (hz:tE s.heap z TI TO (rawInt T) bb) (hTI:IsPair s.heap TI (.ref i1) (.ref i2)) (hT:s.heap.get? T=some oT)
  (h1:s.heap.IsListIter i1 l1 k1) (h2:s.heap.IsListIter i2 l2 k2) (Ar:s.heap.IsList l1 xs) (Bp:s.heap.IsList l2 ys) (hx:xs[k1]?=some x) (hy:ys[k2]?=some y)
  (hQ:∀h',tE h' z TI TO (rawInt T) true->h'.IsListIter i1 l1 (k1 + 1)->h'.IsListIter i2 l2 (k2 + 1)->IsPair h' s.heap.objs.size x y->h'.objs.size=s.heap.objs.size + 1 ->
   (∀c o,c≠z->c≠i1->c≠i2->s.heap.get? c=some o->h'.get? c=some o)->Q (some (.ref s.heap.objs.size)) {s with heap:=h'}) :
  wpAny (model prog w) A (pyNext (.ref z)) Q E s:=by
 have hT':s.TypeIs (.ref z) "zip":=⟨_,hz,rfl⟩;unfold pyNext;exact wpAny_bind (wpAny_attempt (wpAny_callSpecial?_slot (name:=Str.ofString "__next__") hT' F.slot_zip_next
  (YO F.slot_zip_next hT' F.entry_zip_next
   (pS D hz hTI hT h1 h2 Ar Bp hx hy λh' a1 a2 a3 a4 a5 a6=>WX (hQ h' a1 a2 a3 a4 a5 a6)) (F.args_zip_next_1 _))))
theorem pT{z TI TO i1 i2 l1 l2 T:Addr}{bb:Bool}{oT:Obj}{k1 k2:Nat}{xs ys:Array Value}{Q:Option Value->Shared->Prop}(hh:A.handled=none)(D:ZipApart z TI TO i1 i2 l1 l2)
  (hz:tE s.heap z TI TO (rawInt T) bb) (hTI:IsPair s.heap TI (.ref i1) (.ref i2)) (hT:s.heap.get? T=some oT)
  (h1:s.heap.IsListIter i1 l1 k1) (Ar:s.heap.IsList l1 xs) (hx:xs[k1]?=none)
  (hQ:∀h',(∀c o,c≠z->c≠i1->s.heap.get? c=some o->h'.get? c=some o)->Q none {s with heap:=h'}):wpAny (model prog w) A (pyNext (.ref z)) Q E s:=by
 have hT':s.TypeIs (.ref z) "zip":=⟨_,hz,rfl⟩;unfold pyNext;refine wpAny_bind (wpAny_attempt (wpAny_callSpecial?_slot (name:=Str.ofString "__next__") hT' F.slot_zip_next
  (YO F.slot_zip_next hT' F.entry_zip_next (qD (k2:=k2) (ys:=ys) hh D hz hTI hT h1 Ar hx λh' e hk he=>?_) (F.args_zip_next_1 _))))
 obtain⟨o,ho,hc⟩:=he;refine WS (wpAny_isInstance (T:="StopIteration") (b:=true) ⟨o,ho,hc⟩ isSubtype_stop ?_);exact WX (hQ _ hk)
end
namespace FD
theorem jI:entryFor table "dict.update.loop"=some Builtin.«dict.update.loop»:=entryFor_of_tree (by kernel_rfl)
theorem dH:plainId "dict.update.loop"=true:=by decide +kernel
end FD
structure Ff(d z TI TO i1 i2 l1 l2:Addr)(xs ys:Array Value)(i:Nat)(h:Heap):Prop where
 zip:(IsZip h z TI TO .none/\∃a b,IsPair h TO a b)∨∃(T:Addr) (bb:Bool) (oT:Obj),tE h z TI TO (rawInt T) bb/\h.get? T=some oT/\T≠z/\T≠i1/\T≠i2/\T≠d
 ti:IsPair h TI (.ref i1) (.ref i2)
 i1:h.IsListIter i1 l1 i
 i2:h.IsListIter i2 l2 i
 l1:h.IsList l1 xs
 l2:h.IsList l2 ys
section
variable {prog:Program} {w:World} {K:Type} [DecidableEq K] {knd:KeyKind prog w K} {A:Around} {E:Value->Shared->Prop} {s:Shared} {R:Result->Shared->Prop}
variable {d z TI TO i1 i2 l1 l2:Addr} {xs ys:Array Value}
theorem Ff.next{i:Nat}{x y:Value}{Q:Option Value->Shared->Prop}(D:ZipApart z TI TO i1 i2 l1 l2)(nd:d≠z/\d≠TI/\d≠TO/\d≠i1/\d≠i2/\d≠l1/\d≠l2)(Z:Ff d z TI TO i1 i2 l1 l2 xs ys i s.heap)(hd:d < s.heap.objs.size)(hx:xs[i]?=some x)(hy:ys[i]?=some y)
  (hQ:∀h',Ff d z TI TO i1 i2 l1 l2 xs ys (i + 1) h'->IsPair h' s.heap.objs.size x y->(∀c o,c≠z->c≠TO->c≠i1->c≠i2->s.heap.get? c=some o->h'.get? c=some o)->Q (some (.ref s.heap.objs.size)) {s with heap:=h'}) :
  wpAny (model prog w) A (pyNext (.ref z)) Q E s:=by
 rcases Z.zip with⟨hz,a,b,hTO⟩ | ⟨T,bb,oT,hz,hT,t1,t2,t3,t4⟩
 ·refine wpAny_pyNext_zip_item D hz Z.ti hTO Z.i1 Z.i2 Z.l1 Z.l2 hx hy λh' a1 a2 a3 a4 a5 a6 a7=>hQ h' ⟨.inr ⟨_,false,_,a1,a5,?_,?_,?_,?_⟩,a7 _ _ D.TIz D.TITO D.TIi1 D.TIi2 Z.ti,a3,a4,Z.l1.at λo e=>a7 _ o D.l1z D.l1TO D.l1i1 D.l1i2 e,Z.l2.at λo e=>a7 _ o D.l2z D.l2TO D.l2i1 D.l2i2 e⟩ a5 a7
  ·exact Xw (WT hz)
  ·exact Xw (by obtain⟨_,e,_⟩:=Z.i1;exact WT e)
  ·exact Xw (by obtain⟨_,e,_⟩:=Z.i2;exact WT e)
  ·exact Xw hd
 ·refine xf D hz Z.ti hT Z.i1 Z.i2 Z.l1 Z.l2 hx hy λh' a1 a3 a4 a5 a6 a7=>hQ h' ⟨.inr ⟨T,true,oT,a1,a7 _ _ t1 t2 t3 hT,t1,t2,t3,t4⟩,a7 _ _ D.TIz D.TIi1 D.TIi2 Z.ti,a3,a4,Z.l1.at λo e=>a7 _ o D.l1z D.l1i1 D.l1i2 e,Z.l2.at λo e=>a7 _ o D.l2z D.l2i1 D.l2i2 e⟩ a5 λc o c1 _ c3 c4 e=>a7 c o c1 c3 c4 e
theorem Ff.done{i:Nat}{Q:Option Value->Shared->Prop}(hh:A.handled=none)(D:ZipApart z TI TO i1 i2 l1 l2)(Z:Ff d z TI TO i1 i2 l1 l2 xs ys i s.heap)(hx:xs[i]?=none)
  (hQ:∀h',(∀c o,c≠z->c≠TO->c≠i1->c≠i2->s.heap.get? c=some o->h'.get? c=some o)->Q none {s with heap:=h'}) :
  wpAny (model prog w) A (pyNext (.ref z)) Q E s:=by
 rcases Z.zip with⟨hz,a,b,hTO⟩ | ⟨T,bb,oT,hz,hT,t1,t2,t3,t4⟩
 ·exact wpAny_pyNext_zip_end hh D hz Z.ti hTO Z.i1 Z.i2 Z.l1 Z.l2 (.inl hx) hQ
 ·exact pT (k2:=i) (ys:=ys) hh D hz Z.ti hT Z.i1 Z.l1 hx λh' k=>hQ h' λc o c1 _ c3 _ e=>k c o c1 c3 e
theorem Ff.keep{i:Nat}{h h':Heap}(D:ZipApart z TI TO i1 i2 l1 l2)(nd:d≠z/\d≠TI/\d≠TO/\d≠i1/\d≠i2/\d≠l1/\d≠l2)(Z:Ff d z TI TO i1 i2 l1 l2 xs ys i h)(k:∀c o,c≠d->h.get? c=some o->h'.get? c=some o):Ff d z TI TO i1 i2 l1 l2 xs ys i h':=by
 obtain⟨n1,n2,n3,n4,n5,n6,n7⟩:=nd;refine⟨?_,k _ _ n2.symm Z.ti,Z.i1.at λo e=>k _ o n4.symm e,Z.i2.at λo e=>k _ o n5.symm e,Z.l1.at λo e=>k _ o n6.symm e,Z.l2.at λo e=>k _ o n7.symm e⟩;rcases Z.zip with⟨hz,a,b,hTO⟩ | ⟨T,bb,oT,hz,hT,t1,t2,t3,t4⟩
 ·exact .inl ⟨k _ _ n1.symm hz,a,b,k _ _ n3.symm hTO⟩
 ·exact .inr ⟨T,bb,oT,k _ _ n1.symm hz,k _ _ t4 hT,t1,t2,t3,t4⟩
theorem zN(hh:A.handled=none)(D:ZipApart z TI TO i1 i2 l1 l2)(nd:d≠z/\d≠TI/\d≠TO/\d≠i1/\d≠i2/\d≠l1/\d≠l2){kvs:List (K×Value)}(hn:(kvs.map (·.1)).Nodup)(hxs:xs.size=kvs.length)(hys:ys.size=kvs.length)
  (hkv:∀(i:Nat) kv,kvs[i]?=some kv->∃x,xs[i]?=some x/\knd.is kv.1 x=true/\ys[i]?=some kv.2) (hz:kvs.length<=1000) :
  ∀(k i:Nat) (t:Tok) (s:Shared),kvs.length - i=k->i<=kvs.length->Ff d z TI TO i1 i2 l1 l2 xs ys i s.heap->s.heap.DictOf knd d (kvs.take i) ->
   (∀h' tk,h'.DictOf knd d kvs->(∀c o,c≠z->c≠TO->c≠i1->c≠i2->c≠d->s.heap.get? c=some o->h'.get? c=some o)->R (.ok (.ret .none)) {s with heap:=h',toks:=tk}) ->
   codeAny (model prog w) A (.builtin "dict.update.loop" ⟨[.ref d,.ref z,.int i t,.none],[]⟩) R s:=by
 intro k
 induction k with
 | zero =>
  intro i t s hk hi Z hD hR;have hin:i=kvs.length:=by omega
  subst hin;refine codeAny_builtin FD.jI ?_;rw[Around.under_plainId FD.dH _];show wpAny _ A.in1 (pyNext (.ref z) >>= _) _ _ s;refine wpAny_bind (Z.done (by simp[hh]) D (Array.getElem?_eq_none (by omega)) λh' k=>?_);show wpAny _ A.in1 (Builtin.Dict.addKeywords d [] >>= λ_=>ret Value.none) _ _ _;rw[List.take_length]at hD;refine wpAny_bind (wpAny_pure (wpAny_pure (hR h' s.toks ?_ λc o c1 c2 c3 c4 _ e=>k c o c1 c2 c3 c4 e)));obtain⟨o,es,ep,ho,rest⟩:=hD;exact⟨o,es,ep,k _ _ nd.1 nd.2.2.1 nd.2.2.2.1 nd.2.2.2.2.1 ho,rest⟩
 | succ k ih =>
  intro i t s hk hi Z hD hR;have hlt:i < kvs.length:=by omega
  have hkvi:kvs[i]?=some kvs[i]:=jL hlt;obtain⟨x,hx,hkey,hy⟩:=hkv i _ hkvi;generalize kvs[i]=kv at hkvi hkey hy;have hdl:d < s.heap.objs.size:=by obtain⟨o,es,ep,ho,rest⟩:=hD;exact WT ho
  refine codeAny_builtin FD.jI ?_;rw[Around.under_plainId FD.dH _];show wpAny _ A.in1 (pyNext (.ref z) >>= _) _ _ s;refine WS (Z.next D nd hdl hx hy λh' Z' hP k1=>?_)
  have hD':h'.DictOf knd d (kvs.take i):=by
   obtain⟨o,es,ep,ho,rest⟩:=hD;exact⟨o,es,ep,k1 _ _ nd.1 nd.2.2.1 nd.2.2.2.1 nd.2.2.2.2.1 ho,rest⟩
  refine wpAny_bind (wpAny_holding ?_);refine wpAny_bind (wpAny_tryCatch ?_);show wpAny _ _ (Builtin.Dict.pairItems (.ref s.heap.objs.size)) _ _ _;unfold Builtin.Dict.pairItems;refine wpAny_bind (wpAny_typeOf (T:="tuple") ⟨_,hP,rfl⟩ ?_);show wpAny _ _ (seqItems? (.ref s.heap.objs.size) >>= _) _ _ _;refine wpAny_bind (wpAny_seqItems hP rfl (wpAny_pure ?_));show wpAny _ _ (holding [x,kv.2] (dictSet d x kv.2)) _ _ _;refine wpAny_holding ?_;unfold dictSet;refine wpAny_holding (wpAny_bind (knd.pyHash (k:=kv.1) hkey ?_));have hlen:(kvs.take i).length<=sizeLine:=by rw[List.length_take,sizeLine_eq];omega
  refine wpAny_dictSetHashed_pairs (s:={s with heap:=h',toks:=s.toks + 1}) hkey hD' (λh2 R5 Eg=>?_) hlen
  have hst:stored (kvs.take i) kv.1 kv.2=kvs.take (i + 1):=by
   have hm:=merged_take_succ ([]:List (K×Value)) kvs i kv hkvi;have R6:∀j,((kvs.take j).map (·.1)).Nodup:=λj=>by rw[List.map_take];exact(List.take_sublist _ _).nodup hn
   rw[merged_nil_of_nodup _ (R6 i),merged_nil_of_nodup _ (R6 (i + 1))]at hm;exact hm.symm
  rw[hst]at R5;refine WX ⟨plainId_quiet FD.dH _,?_⟩;have k2:∀c o,c≠d->h'.get? c=some o->h2.get? c=some o:=λc o n e=>Eg.extBut _ _ n e
  refine ih (i + 1) 0 {s with heap:=h2,toks:=s.toks + 1} (by omega) hlt (Z'.keep D nd k2) R5 λh3 tk Ux k3=>hR h3 tk Ux λc o c1 c2 c3 c4 c5 e=>k3 c o c1 c2 c3 c4 c5 (k2 c o c5 (k1 c o c1 c2 c3 c4 e))
end
namespace FD
theorem pU:typeLookup (.type "zip") "__getattr__"=pure none:=by rw[typeLookup_type,Zd];kernel_rfl
theorem vw:typeLookup (.type "zip") "keys"=pure none:=by rw[typeLookup_type,Zd];kernel_rfl
theorem tH:entryFor table "zip.__getattribute__"=some Builtin.«object.__getattribute__»:=entryFor_alias (id':="object.__getattribute__") (by kernel_rfl) (by decide +kernel) (by decide +kernel) (by kernel_rfl)
end FD
set_option maxHeartbeats 4000000 in
theorem pV(a:Addr)(fs:Array Value)(sl:Array (Option Value))(u:Tok):
  Meets (Builtin.«object.__getattribute__» ⟨[.ref a,.str "keys" u],[]⟩) (λA R s=>s.heap.get? a=some {cls:=.type "zip",dict:=none,data:=.fields fs,slots:=sl}/\raisesAttr (.ref a) "keys" A R s) :=
 Meets.of_wp λprog w A R s hs=>by
  have hmiss:=FD.vw;have hname:(["__module__","__name__","__qualname__","__doc__","__annotations__"]:List Str).contains "keys"=false:=by decide +kernel
  obtain⟨hp,g,d,tk,os⟩:=s;obtain⟨hx,hs⟩:=hs;have hT:(⟨hp,g,d,tk,os⟩:Shared).TypeIs (.ref a) "zip":=⟨_,hx,rfl⟩;unfold Builtin.«object.__getattribute__»;repeat (any_goals (first | assumption | wp_step))
  try simp only[hname,Bool.false_eq_true,if_false]
  repeat (any_goals (first | assumption | wp_step))
  exact wpAny_raiseAttrError hs.1 hs.2 (attrMsg_fits (by decide +kernel) (by decide))
set_option maxHeartbeats 4000000 in
theorem B7{prog:Program}{w:World}{A:Around}{E:Value->Shared->Prop}{s:Shared}{a:Addr}{fs:Array Value}{sl:Array (Option Value)}{Q:Option Value->Shared->Prop}(hx:s.heap.get? a=some {cls:=.type "zip",dict:=none,data:=.fields fs,slots:=sl})(hA:A.handled=none)
  (h:∀h' tk,(∀b ob,s.heap.get? b=some ob->h'.get? b=some ob)->Q none {s with heap:=h',toks:=tk}):wpAny (model prog w) A (getAttr? (.ref a) "keys") Q E s:=by
 obtain⟨hp,g,d,tk,os⟩:=s;have hT:∀tk',(⟨hp,g,d,tk',os⟩:Shared).TypeIs (.ref a) "zip":=λ_=>⟨_,hx,rfl⟩
 have f1:=sub_AttributeError;have f3:=F.slot_zip_getattribute.lookup;have f4:=F.slot_zip_getattribute.bind (.ref a);have f5:=FD.pU;unfold getAttr? getAttrBy? getAttrBy
 repeat (any_goals (first | assumption | exact hT _ | ((with_reducible show wpAny _ _ (call (Value.builtin "zip.__getattribute__") _ _) _ _ _);refine call_meets F.slot_zip_getattribute (hT _) FD.tH (F.args_zip_getattribute_2 _ _) (pV a fs sl _) ⟨hx,hA,λh' tk' e hx'=>?_⟩) | wp_step))
 obtain⟨t',u',he⟩:=hx'.there;have kp:=hx'.keeps;show wpAny _ _ (getattributeRaised _ _ _ _ _ _ _) _ _ _;unfold getattributeRaised
 repeat (any_goals (first | assumption | wp_step))
 exact h _ _ kp
section
variable {prog:Program} {w:World} {K:Type} [DecidableEq K] {knd:KeyKind prog w K} {A:Around} {E:Value->Shared->Prop} {s:Shared} {z TI TO i1 i2 l1 l2:Addr} {xs ys:Array Value}
theorem qF{a b:Value}{kvs:List (K×Value)}{Q:Value->Shared->Prop}(hh:A.handled=none)(D:ZipApart z TI TO i1 i2 l1 l2)(hz:IsZip s.heap z TI TO .none)(hTI:IsPair s.heap TI (.ref i1) (.ref i2))(hTO:IsPair s.heap TO a b)
  (h1:s.heap.IsListIter i1 l1 0) (h2:s.heap.IsListIter i2 l2 0) (Ar:s.heap.IsList l1 xs) (Bp:s.heap.IsList l2 ys) (hn:(kvs.map (·.1)).Nodup) (hxs:xs.size=kvs.length) (hys:ys.size=kvs.length)
  (hkv:∀(i:Nat) kv,kvs[i]?=some kv->∃x,xs[i]?=some x/\knd.is kv.1 x=true/\ys[i]?=some kv.2) (hsz:kvs.length<=1000)
  (h:∀h' tk,h'.DictOf knd s.heap.objs.size kvs->(∀c o,c≠z->c≠TO->c≠i1->c≠i2->s.heap.get? c=some o->h'.get? c=some o)->Q (.ref s.heap.objs.size) {s with heap:=h',toks:=tk}) :
  wpAny (model prog w) A (call (.type "dict") [.ref z]) Q E s:=by
 refine callType_codes (Q₁:=λobj s₁=>obj=.ref s.heap.objs.size/\s₁={s with heap:=s.heap.push {cls:=.type "dict",data:=.dict #[]}}) F.kt_called_dict (F.kt_typeCall_dict_1 _) F.entry_dict_init (kt_code_dict_new _ ⟨rfl,rfl⟩) ?_;rintro obj s₁ ⟨rfl,rfl⟩;have up:∀c o,s.heap.get? c=some o->(s.heap.push {cls:=.type "dict",data:=.dict #[]}).get? c=some o:=λc o e=>WW _ e
 have hnew:(s.heap.push {cls:=.type "dict",data:=.dict #[]}).DictOf knd s.heap.objs.size []:=Heap.DictOf.new s.heap;have ne:∀c o,s.heap.get? c=some o->s.heap.objs.size≠c:=λc o e=>Xw (WT e)
 have nd:s.heap.objs.size≠z/\s.heap.objs.size≠TI/\s.heap.objs.size≠TO/\s.heap.objs.size≠i1/\s.heap.objs.size≠i2/\s.heap.objs.size≠l1/\s.heap.objs.size≠l2 :=
  ⟨ne _ _ hz,ne _ _ hTI,ne _ _ hTO,(by obtain⟨_,e,_⟩:=h1;exact ne _ _ e),(by obtain⟨_,e,_⟩:=h2;exact ne _ _ e),(by obtain⟨_,e,_⟩:=Ar;exact ne _ _ e),(by obtain⟨_,e,_⟩:=Bp;exact ne _ _ e)⟩
 refine⟨hnew.typeIs,F.args_dict_init_2 _ _,?_⟩;unfold Builtin.«dict.__init__»;refine wpAny_bind ?_;unfold Builtin.Dict.selfAndRest;refine wpAny_bind (wpAny_notOrdered_dict hnew.typeIs ?_);show wpAny _ _ (pure (s.heap.objs.size,[Value.ref z])) _ _ _;refine wpAny_pure ?_;show wpAny _ _ (Builtin.Dict.updateFrom "dict.__init__" s.heap.objs.size (.ref z) [] .none) _ _ _;unfold Builtin.Dict.updateFrom;refine wpAny_bind (wpAny_typeOf (T:="zip") ⟨_,up _ _ hz,rfl⟩ ?_);rw[if_pos (by decide)];refine wpAny_bind (B7 (up _ _ hz) (by simp[hh]) λh1' Wm k1=>?_);show wpAny _ _ (rule _ >>= _) _ _ _;refine wpAny_bind (wpAny_rule ?_);refine wpAny_bind (wpAny_pyIter_zip (k1 _ _ (up _ _ hz)) ?_);refine wpAny_pure ⟨plainId_quiet FD.dH _,?_⟩;refine zN (knd:=knd) (by simp[hh]) D nd hn hxs hys hkv hsz kvs.length 0 0 _ (by omega) (Nat.zero_le _) ⟨.inl ⟨k1 _ _ (up _ _ hz),a,b,k1 _ _ (up _ _ hTO)⟩,k1 _ _ (up _ _ hTI),h1.at λo e=>k1 _ o (up _ _ e),h2.at λo e=>k1 _ o (up _ _ e),Ar.at λo e=>k1 _ o (up _ _ e),Bp.at λo e=>k1 _ o (up _ _ e)⟩ ?_ ?_
 ·obtain⟨o,es,ep,ho,rest⟩:=hnew;exact⟨o,es,ep,k1 _ _ ho,rest⟩
 ·intro h' tk hD kk;exact⟨rfl,h h' tk hD λc o c1 c2 c3 c4 e=>kk c o c1 c2 c3 c4 (ne _ _ e).symm (k1 _ _ (up _ _ e))⟩
end
section
variable {X:Cx} {a b:Expr} {ta:TA} {p p2 pos zpos:Pos}
def JP(K:aE)(ta:TA):TE:=λσ H Q=>ta σ H λvs H1=>∃(l1 l2:Addr) (ks:List Str) (ys:List V),vs=[.ref l1,.ref l2]/\bK K H1 l1 (ks.map V.str)/\bK K H1 l2 ys/\ks.Nodup/\ys.length=ks.length/\ks.length<=1000/\∀d,H1 d=none->Q (.ref d) (upd H1 d (.dK ((ks.zip ys).map λp=>(Sum.inr p.1,p.2))))
theorem B8(hgd:Gl X "dict")(hmd:X.mg "dict"=none)(hgz:Gl X "zip")(hmz:X.mg "zip"=none)(hc:X.calm=true)(ha:PA X [a,b] ta)(hs:starEach [a,b] X.env=[(false,eval a X.env),(false,eval b X.env)]:=by rfl)(Eg:starEach [b] X.env=[(false,eval b X.env)]:=by rfl)
  (R7:starEach [.Call (.Name "zip" p2) [a,b] [] zpos] X.env=[(false,eval (.Call (.Name "zip" p2) [a,b] [] zpos) X.env)]:=by rfl) :
  PE X (.Call (.Name "dict" p) [.Call (.Name "zip" p2) [a,b] [] zpos] [] pos) (JP X.K ta):=by
 intro pins s σ H Q I h;refine Call_ (mS I hgd hmd Ew (XN ?_ (by rw[R7];rfl) rfl));rw[R7];refine YC ?_;refine Call_ (mS I hgz hmz Jb (XN (bD (ha zpos pins s σ H _ I h) λus s1 ⟨vs,H1,I1,r1,q1⟩=>?_) (by rw[hs,Eg]) (by rw[Eg];rfl)));obtain⟨l1,l2,ks,ys,rfl,s1',s2',nd,hl,Np,q⟩:=q1;obtain⟨u1,u2,rfl,Uy,Uz⟩:=vals2 r1;cases Uy;cases Uz;obtain⟨UA,r1,p1,_⟩:=I1.list s1';obtain⟨JQ,r2,p2',_⟩:=I1.list s2';refine call_zip_2 p1.isList p2'.isList λh' hz hTI hTO h1 h2 hsz kk=>?_
 refine YG ?_;have lu:UA.length=ks.length:=by rw[← r1.length,WY]
 have lv:JQ.length=ks.length:=by rw[← r2.length,hl]
 have n1:=p1.lt;have n2:=p2'.lt;have ez:(ks.zip JQ).length=ks.length:=by rw[List.length_zip];omega
 refine qF (knd:=ck X.prog X.w) (kvs:=(ks.zip JQ).map λp=>(Sum.inr p.1,p.2)) (show X.A.handled=none from I1.ok.hd hc) ⟨?_,?_,?_,?_,?_,?_,?_,?_,?_,?_,?_,?_,?_,?_,?_,?_,?_,?_⟩ hz hTI hTO h1 h2 (p1.isList.at λo e=>kk _ o e) (p2'.isList.at λo e=>kk _ o e) ?_ ?_ ?_ ?_ ?_ ?_
 all_goals first | exact W5 (Nat.add_lt_add_left (by decide) _) | exact Xw (Nat.add_lt_add_left (by decide) _) | exact W5 (Y0 (by decide)) | exact Xw (Y0 (by decide)) | exact W5 (WV n1 (X3 _ _)) | exact W5 (WV n2 (X3 _ _)) | exact W5 n1 | exact W5 n2 | skip
 ·have e:((ks.zip JQ).map λp=>((Sum.inr p.1:Key),p.2)).map (·.1)=ks.map Sum.inr:=by
   rw[Yp,show((λx:Key×Value=>x.1) ∘ λp:Str×Value=>(Sum.inr p.1,p.2))=Sum.inr ∘ Prod.fst from rfl,← Yp,List.map_fst_zip (by omega)]
  rw[e];exact List.Pairwise.map _ (λa b h z=>h (Y3 z)) nd
 ·rw[List.length_map,ez];simpa using lu
 ·rw[List.length_map,ez];simpa using lv
 ·intro i kv hi;rw[Xv]at hi
  cases hzp:(ks.zip JQ)[i]? with
  | none=>rw[hzp]at hi;cases hi
  | some pr =>
   rw[hzp]at hi;cases hi;obtain⟨g1,g2⟩:=List.getElem?_zip_eq_some.mp hzp;obtain⟨u,hu,ru⟩:=r1.get (i:=i) (x:=.str pr.1) (by rw[List.getElem?_map,g1];rfl);obtain⟨t,rfl⟩:=ru;exact⟨_,by simpa using hu,nT _ _ _ _,by simpa using g2⟩
 ·rw[WY,ez];exact Np
 intro h'' tk hD kp
 have kp':∀c o,s1.heap.get? c=some o->h''.get? c=some o:=λc o e=>by
  have hc:=WT e;have ne:∀k,c≠s1.heap.objs.size + k:=λk=>W5 (WV hc (X3 _ _))
  exact kp c o (ne 4) (ne 3) (ne 0) (ne 1) (kk c o e)
 have hD':h''.DictOf (ck X.prog X.w) (s1.heap.objs.size + 5) ((ks.zip JQ).map λp=>(Sum.inr p.1,p.2)):=by
  have e:h'.objs.size=s1.heap.objs.size + 5:=hsz;rw[← e];exact hD
 have hkv:∀(ks:List Str) (ys:List V) (us:List Value),Vals ys us->KV ((ks.zip ys).map λp=>((Sum.inr p.1:Key),p.2)) ((ks.zip us).map λp=>((Sum.inr p.1:Key),p.2)):=by
  intro ks
  induction ks with
  | nil=>intro ys us _;exact .nil
  | cons k r ih =>
   intro ys us hv
   cases hv with
   | nil=>exact .nil
   | cons h t=>exact .cons ⟨rfl,h⟩ (ih _ _ t)
 have hnew:dn X.prog X.w (upd H1 (s1.heap.objs.size + 5) (.dK ((ks.zip ys).map λp=>(Sum.inr p.1,p.2)))) h'' (s1.heap.objs.size + 5) (.dK ((ks.zip ys).map λp=>(Sum.inr p.1,p.2))):=by
  show((ks.zip ys).map λp=>((Sum.inr p.1:Key),p.2)).length<=sizeLine/\((s1.heap.objs.size + 5:Nat) == sysModules)=false/\_;refine⟨?_,?_,_,hkv ks ys JQ r2,hD'⟩
  ·rw[WY,List.length_zip,Y4];omega
  ·have hb:sysModules < s1.heap.objs.size:=Nat.lt_trans (by decide) (I1.mod.glob.keeps I1.bk).lt;exact beq_false_of_ne (Xw (WV hb (X3 _ _)))
 refine⟨.ref (s1.heap.objs.size + 5),_,I1.laid (t':=tk) kp' (X3 _ 5) hnew,?_,q _ (I1.hok.fresh (X3 _ 5))⟩;show Value.ref h'.objs.size=Value.ref (s1.heap.objs.size + 5);rw[show h'.objs.size=s1.heap.objs.size + 5 from hsz]
end
section
variable {X:Cx} {CW:Addr} {cx n:Str} {i:Nat} {b₀:Stmt} {suite orelse:List Stmt} {np hpos pos:Pos} {tb te:TS}
end
section
variable {X:Cx} {Y:YK} {CW:Addr} {cx n x:Str} {i:Nat} {b₀:Stmt} {suite orelse:List Stmt} {np hpos pos:Pos} {s se:DS} {nn:Nat} {d:mM} {e:Expr} {es:List Expr}
end
theorem fF{K:aE}{M:Model}{A:Around}{E:Value->Shared->Prop}{h:Heap}{g:Array GenState}{d:Drawn}{t:Nat}{os:OsState}{a C CW:Addr}{oe:Obj}{Q:Bool->Shared->Prop}{b:Bool}(X:K.In h)(he:h.get? a=some oe)(hcls:oe.cls=.ref C)
  (q:PySem.W.ktsIn K CW "BaseException"=true) (m:PySem.W.mroIn K C (.ref CW)=some b) (hq:Q b ⟨h,g,d,t,os⟩):wpAny M A (excMatches (.ref a) (.ref CW)) Q E ⟨h,g,d,t,os⟩:=by
 obtain⟨nm,qn,N,bs,bm,hdct,sn,sub,ab,col,dd,k0,k1,k2,k3,k5,newId,hC,hbase,_⟩:=PySem.W.kts_cls X q;have hcB:(Value.ref CW::bm).contains (.type "BaseException")=true:=by rw[List.contains_cons,hbase,Bool.or_true]
 have f:=tc_notTuple;have L:=PySem.W.looks_mroIn (M:=M) X m;unfold excMatches;cases b<;>repeat (first | (with_reducible refine wpAny_loadPart_at he ?_;rw[hcls]) | with_reducible refine wpAny_loadPart_at hC ?_ | (with_reducible refine wpAny_isSubtype_exc hC ?_;rw[hcB]) | with_reducible refine L.at ?_ | wp_step)
 all_goals exact hq
structure Fg(X:Cx)(pins:List (Addr×Obj))(σ:St)(H0 H:Hp)(a C t:Addr)(dd:Option Addr)(B:Heap)(s0 s1:Shared)(h:Heap):Prop where
 hst:X.stack=X.env::X.outer
 hf:X.env.frame=some X.env.locals
 hex:X.ex=[]
 I0:Inv X pins σ H0 s0
 ho:s1.os=s0.os
 hb:AllBare s1.gens
 F:Hs X.prog X.w (X.env::X.outer) H0 H s0.heap B a (.ref C) (.ref t) s1.heap
 fl:Heap.FlyingW B (X.env::X.outer) a (.ref C) (.ref t) h
 sm:s1.heap.UpToSlots h
 di:iw h a dd
section
variable {X:Cx} {pins:List (Addr×Obj)} {σ:St} {H0 H:Hp} {a C t:Addr} {dd:Option Addr} {B h:Heap} {s0 s1:Shared}
theorem Fg.inv(L:Fg X pins σ H0 H a C t dd B s0 s1 h){h':Heap}(st:B.StaysIn h')(u:s1.heap.UpToSlots h')(tk:Nat):Inv X pins σ H {s1 with heap:=h',toks:=tk}:=by
 refine L.I0.xX (ch:=[]) L.ho ?_ (L.F.hok.kept st) L.hb (λb z=>nomatch z);show Un (gQ X.stack) [] H0 H s0.heap h';rw[L.hst];exact L.F.RU st u
theorem Fg.now(L:Fg X pins σ H0 H a C t dd B s0 s1 h)(tk:Nat):Inv X pins σ H {s1 with heap:=h,toks:=tk}:=L.inv L.fl.1 L.sm tk
theorem Fg.PU(L:Fg X pins σ H0 H a C t dd B s0 s1 h)(b:Addr)(hB:B.get? b=none)(hn:b∉gQ (X.env::X.outer)):X.s₀.heap.get? b=none:=by
 cases e:X.s₀.heap.get? b with
 | none=>rfl
 | some o =>
  obtain⟨o1,e1⟩:=L.I0.base.there b o e (by rw[L.hex];exact λz=>nomatch z);obtain⟨o3,e3⟩:=L.F.there b o1 e1 hn;rw[hB]at e3;cases e3
theorem Fg.MR(L:Fg X pins σ H0 H a C t dd B s0 s1 h){b:Addr}{o:Obj}{vs:Array Value}(e1:h.get? b=some o)(e2:o.data=.fields vs):b∉gQ (X.env::X.outer):=λhm=>by
 obtain⟨_,o',ho',hn'⟩:=L.fl.2.2.1.mem hm;rw[e1]at ho';cases ho';exact hn' _ e2
end
def vx(X:Cx)(hs:List ExceptHandler)(th:Ends->St->XK):Prop:=∀(pins:List (Addr×Obj)) (σ:St) (H0 H:Hp) (D:Ends) (a C t:Addr) (dd:Option Addr) (B:Heap) (s0 s1:Shared) (h:Heap),
 Fg X pins σ H0 H a C t dd B s0 s1 h->th D σ (.ref C) dd H->wpAny (model X.prog X.w) X.A (handleBy (.ref a) X.env hs) (SP X pins D) X.xe {s1 with heap:=h}
def B9(E:XK):Ends->St->XK:=λ_ _=>E
def Nq(K:aE)(CW:Addr)(i:Nat)(tb:TS)(rest:Ends->St->XK):Ends->St->XK:=λD σ cls dd H2=>∃C,cls=.ref C/\((PySem.W.mroIn K C (.ref CW)=some true /\
 ∀a,H2 a=none->tb {nx:=λσ' H'=>D.nx (σ'.set i none) H',rt:=D.rt,bk:=λσ' H'=>D.bk (σ'.set i none) H',ct:=λσ' H'=>D.ct (σ'.set i none) H'} (σ.set i (some (.ref a))) (upd H2 a (.ext (Hv C a dd)))) ∨
 (PySem.W.mroIn K C (.ref CW)=some false/\rest D σ cls dd H2))
def PV(K:aE)(CW:Addr)(tb:TS)(rest:Ends->St->XK):Ends->St->XK:=λD σ cls dd H2=>∃C,cls=.ref C/\((PySem.W.mroIn K C (.ref CW)=some true/\tb D σ H2)∨(PySem.W.mroIn K C (.ref CW)=some false/\rest D σ cls dd H2))
section
variable {X:Cx} {CW:Addr} {cx n:Str} {i:Nat} {b₀:Stmt} {suite:List Stmt} {np hpos pos:Pos} {tb:TS} {hs:List ExceptHandler} {th:Ends->St->XK} {E:XK}
theorem xg(hp:j6 X E):vx X [] (B9 E):=by
 intro pins σ H0 H D a C t dd B s0 s1 h L hE;refine wpAny_handleBy_nil ?_;obtain⟨f1,f2,f3,oe,vs,T,oT,ts,he,hcls,hd,h1,hnT,hTe,hT,hdT,h3⟩:=id L.fl;have hz:3 < ts.size:=(Array.getElem?_eq_some_iff.mp h3).1;unfold PySem.passOn;refine wpAny_bind (wpAny_field he hd h1 ?_);rw[if_neg (by intro z;cases z)];unfold setFlight;refine wpAny_bind (wpAny_bind (wpAny_field he hd h1 ?_));rw[if_pos (by rfl),L.hf];refine wpAny_setField hT hdT hz ?_;refine wpAny_throw ?_;have other:∀b,b≠T->(h.update T (Obj.mapFields (·.setIfInBounds 3 (rawInt X.env.locals)))).get? b=h.get? b:=λb hb=>Heap.get?_update_other _ _ (Ne.symm hb)
 have self':=Yl (Obj.mapFields (·.setIfInBounds 3 (rawInt X.env.locals))) hT (Obj.isFreed_of_fields (Obj.data_mapFields hdT _));have st:B.StaysIn (h.update T (Obj.mapFields (·.setIfInBounds 3 (rawInt X.env.locals)))):=λb o hbo=>(other b λq=>by rw[q,hnT]at hbo;cases hbo).trans (f1 b o hbo)
 have up:s1.heap.UpToSlots (h.update T (Obj.mapFields (·.setIfInBounds 3 (rawInt X.env.locals)))):=λb o hb hnf=>by
  obtain⟨sl,q⟩:=L.sm b o hb hnf;refine⟨sl,(other b λz=>?_).trans q⟩;rw[z,hT]at q;have e:=W0 q;rw[e]at hdT;exact hnf ts hdT
 have I':=L.inv st up s1.toks;obtain⟨od,gd,qd⟩:=L.di;exact hp pins σ H _ a C t T dd I' ⟨hTe,oe,vs,_,_,(other a (Ne.symm hTe)).trans he,hcls.1,hcls.2,hd,h1,self',Obj.data_mapFields hdT _,by simp[hz]⟩ ⟨od,(other a (Ne.symm hTe)).trans gd,qd⟩ L.F.new (jW.has L.F.hok hnT)
  (L.PU a f2 (L.MR he hd)) (L.PU T hnT (L.MR hT hdT)) hE
theorem Fh:vx X [] (B9 E0):=λ_ _ _ _ _ _ _ _ _ _ _ _ _ _ h=>h.elim
theorem Ca(hg:Gl X cx)(hm:X.mg cx=some (.ref CW))(q:PySem.W.ktsIn X.K CW "BaseException"=true)(hN:X.N.Nodup)(hi:X.N[i]?=some n)(hk:X.env.kindOf n=some .local)(hs':∀a E,oy (X.hand a E) (b₀::suite) tb)(hr:vx X hs th)
  (hd:(cx == ("__debug__" : Str))=false:=by decide):vx X (.ExceptHandler (some (.Name cx np)) (some n) (b₀::suite) hpos::hs) (Nq X.K CW i tb th):=by
 intro pins σ H0 H D a C t dd B s0 s1 h L hE;obtain⟨C',hC',hE⟩:=hE;cases hC';have I5:=L.now s1.toks;obtain⟨oe,vs,g1,g2,g3,g4⟩:=L.fl.first;refine wpAny_handleBy_cons (Ze ?_) (by intro q;cases q);refine gR (X:=X.hand a λ_ _=>False) (I5.hand a _) hg hm ?_ hd;rcases hE with⟨hsub,hE⟩ | ⟨hsub,hE⟩;rotate_left
 ·exact fF I5.iM g1 g2 q hsub (hr pins σ H0 H D a C t dd B s0 s1 h L hE)
 refine fF I5.iM g1 g2 q hsub (codeAny_handlers_suite_as ?_);have PX:∀A3:Around,wpAny (model X.prog X.w) A3 (setFlight (.ref a) none) (λ_ s'=>∃h6,s'={s1 with heap:=h6}/\Heap.FlyingW B (X.env::X.outer) a (.ref C) (.ref t) h6/\h.UpToSlots h6) (λ_ _=>False) {s1 with heap:=h}:=λA3=>lands_againW (s:={s1 with heap:=h}) L.fl λh6 HQ Nr=>⟨h6,rfl,HQ,Nr⟩
 refine Xa (fL (jb (.ref a) none) (PX _)) (λ_ s6 z6=>?_) λ_ _ z=>z.elim
 obtain⟨⟨h6,rfl,HQ,Nr⟩,UB⟩:=z6;obtain⟨Wn,UC,UD⟩:iw h6 a dd:=L.di.dk UB;have I6:=L.inv HQ.1 (L.sm.trans Nr) s1.toks;obtain⟨oe,vs,g1,g2,g3,g4⟩:=HQ.first;have nH:H a=none:=L.F.new;have nB:B.get? a=none:=HQ.2.1
 have nf:a∉gQ (X.env::X.outer):=λhm=>by
  obtain⟨_,o,ho',hn'⟩:=HQ.2.2.1.mem hm;rw[g1]at ho';cases ho';exact hn' _ g3
 have hL:a≠X.env.locals:=λz=>nf ((bh L.hf).mpr (.inl z))
 have hfs:a∉X.fs:=λz=>nf ((bh L.hf).mpr (.inr z))
 have old:∀b o,s0.heap.get? b=some o->b≠a:=λb o e z=>by
  subst z;obtain⟨o',e'⟩:=L.F.there b o e nf;rw[nB]at e';cases e'
 have hcc:∀x c,X.env.cells.lookup x=some c->c≠a:=λx c e z=>by
  obtain⟨v,o,ho',hd'⟩:=I6.cell x c e;have Dy:h6.get? c=some o:=ho';rw[z,g1]at Dy;cases Dy;rw[g3]at hd';cases hd'
 have hpp:∀p∈X.pn++pins,p.1≠a:=λp hp z=>by
  have:=(L.I0.pin p hp).1;exact old _ _ this z
 have qd:oe.dict=dd:=by
  have z:h6.get? a=some oe:=g1;rw[UC]at z;cases z;exact UD
 have I7:=I6.adopt (φ:=Hv C a dd) nH (L.PU a nB nf) hL hfs hcc hpp ⟨⟨oe,vs,g1,g2,g3,qd⟩,⟨oe,g1⟩,λu v ⟨o,ws,q1,q2,q3,q4⟩ k=>⟨o,ws,k o q1,q2,q3,q4⟩⟩;refine mR I7 hN hi (.inl hk) (v:=.ref a) rfl (λs8 I8 _=>?_) (.inr hk);refine Xa (hs' a _ pins s8 _ _ _ (I8.hand a _) (hE a nH)) (λfl s9 h9=>?_) (λ_ _ z=>z)
 cases fl with
 | next =>
  obtain⟨σ',H9,I9,q9⟩:=h9;exact yq (I9.j4 L.I0.ok) hN hi hk λs' I'=>⟨_,H9,I',q9⟩
 | brk =>
  obtain⟨σ',H9,I9,q9⟩:=h9;exact yq (I9.j4 L.I0.ok) hN hi hk λs' I'=>⟨_,H9,I',q9⟩
 | cont =>
  obtain⟨σ',H9,I9,q9⟩:=h9;exact yq (I9.j4 L.I0.ok) hN hi hk λs' I'=>⟨_,H9,I',q9⟩
 | ret u =>
  obtain⟨v,σ',H9,I9,r9,q9⟩:=h9;exact yq (I9.j4 L.I0.ok) hN hi hk λs' I'=>⟨v,_,H9,I',r9,q9⟩
theorem HR(hg:Gl X cx)(hm:X.mg cx=some (.ref CW))(q:PySem.W.ktsIn X.K CW "BaseException"=true)(hs':∀a E,oy (X.hand a E) (b₀::suite) tb)(hr:vx X hs th)
  (hd:(cx == ("__debug__" : Str))=false:=by decide):vx X (.ExceptHandler (some (.Name cx np)) none (b₀::suite) hpos::hs) (PV X.K CW tb th):=by
 intro pins σ H0 H D a C t dd B s0 s1 h L hE;obtain⟨C',hC',hE⟩:=hE;cases hC';have I5:=L.now s1.toks;obtain⟨oe,vs,g1,g2,g3,g4⟩:=L.fl.first;refine wpAny_handleBy_cons (Ze ?_) (by intro q;cases q);refine gR (X:=X.hand a λ_ _=>False) (I5.hand a _) hg hm ?_ hd;rcases hE with⟨hsub,hE⟩ | ⟨hsub,hE⟩;rotate_left
 ·exact fF I5.iM g1 g2 q hsub (hr pins σ H0 H D a C t dd B s0 s1 h L hE)
 refine fF I5.iM g1 g2 q hsub (codeAny_handlers_suite ?_);refine lands_againW (s:={s1 with heap:=h}) L.fl λh6 HQ Nr=>?_
 have I6:=L.inv HQ.1 (L.sm.trans Nr) s1.toks;refine Xa (hs' a _ pins _ _ _ _ (I6.hand a _) hE) (λfl s9 h9=>?_) (λ_ _ z=>z)
 cases fl with
 | next =>
  obtain⟨σ',H9,I9,q9⟩:=h9;exact⟨σ',H9,I9.j4 L.I0.ok,q9⟩
 | brk =>
  obtain⟨σ',H9,I9,q9⟩:=h9;exact⟨σ',H9,I9.j4 L.I0.ok,q9⟩
 | cont =>
  obtain⟨σ',H9,I9,q9⟩:=h9;exact⟨σ',H9,I9.j4 L.I0.ok,q9⟩
 | ret u =>
  obtain⟨v,σ',H9,I9,r9,q9⟩:=h9;exact⟨v,σ',H9,I9.j4 L.I0.ok,r9,q9⟩
def R8(X:Cx)(hs:List ExceptHandler)(pins:List (Addr×Obj))(D:Ends):Value->Shared->Prop:=λe s₁=>wpAny (model X.prog X.w) X.A (noteFrame e X.env) (λ_ s₂=>wpAny (model X.prog X.w) X.A (setFlight e none) (λ_ s₃=>wpAny (model X.prog X.w) X.A (handleBy e X.env hs) (SP X pins D) X.xe s₃) X.xe s₂) X.xe s₁
theorem Fi{pins:List (Addr×Obj)}{σ:St}{H:Hp}{s s1:Shared}{D:Ends}{e:Value}(hd:vx X hs th)(hst:X.stack=X.env::X.outer)(hf:X.env.frame=some X.env.locals)(hex:X.ex=[])
  (I:Inv X pins σ H s) (hc:cX X.prog X.w X.stack H s (th D σ) e s1):R8 X hs pins D e s1:=by
 obtain⟨a,C,t,H',B,dd,rfl,ho,hb,F,hdd,hE⟩:=hc;have hfr:X.A.frames=some (X.env::X.outer):=by rw[← hst];exact I.ok.frames
 have F0:Hs X.prog X.w (X.env::X.outer) H H' s.heap B a (.ref C) (.ref t) s1.heap:=by rw[← hst];exact F
 have lib1:=wpAny_looks_onW (M:=model X.prog X.w) (A:=X.A) (E:=X.xe) (s:=s1) (Q:=λ_ s'=>∃h4,s'={s1 with heap:=h4}/\Heap.HeldW B (X.env::X.outer) a (.ref C) (.ref t) X.env.locals h4/\s1.heap.UpToSlots h4) hfr hf F0.fly λh4 jH Jn=>⟨h4,rfl,jH,Jn⟩
 refine Xa (fL (sF (.ref a) X.env) lib1) (λ_ s4 z4=>?_) λ_ _ z=>z
 obtain⟨⟨h4,rfl,jH,Jn⟩,Pp⟩:=z4;have lib2:=wpAny_landsW (M:=model X.prog X.w) (A:=X.A) (E:=X.xe) (s:={s1 with heap:=h4}) (Q:=λ_ s'=>∃h5,s'={s1 with heap:=h5}/\Heap.FlyingW B (X.env::X.outer) a (.ref C) (.ref t) h5/\h4.UpToSlots h5) jH λh5 PY PZ=>⟨h5,rfl,PY,PZ⟩
 refine Xa (fL (jb (.ref a) none) lib2) (λ_ s5 z5=>?_) λ_ _ z=>z
 obtain⟨⟨h5,rfl,PY,PZ⟩,UE⟩:=z5;exact hd pins σ H H' D a C t dd B s s1 h5 ⟨hst,hf,hex,I,ho,hb,F0,PY,Jn.trans PZ,(hdd.dk Pp).dk UE⟩ hE
end
def Arr(X:Cx)(pins:List (Addr×Obj))(σ:St)(E:XK)(E':Value->Shared->Prop):Prop:=∀(H0:Hp) (s0:Shared) (e:Value) (s':Shared),Inv X pins σ H0 s0->cX X.prog X.w X.stack H0 s0 E e s'->E' e s'
def JR(X:Cx)(e:Expr)(t:XK->TE):Prop:=∀(E':Value->Shared->Prop) (pins:List (Addr×Obj)) (s:Shared) (σ:St) (H:Hp) (Q:VK) (E:XK),Arr X pins σ E E'->Inv X pins σ H s->t E σ H Q->wpAny (model X.prog X.w) X.A (eval e X.env) (EP X pins σ Q) E' s
def OI(X:Cx)(es:List Expr)(t:XK->TA):Prop:=∀(pos:Pos) (E':Value->Shared->Prop) (pins:List (Addr×Obj)) (s:Shared) (σ:St) (H:Hp) (Q:List V->Hp->Prop) (E:XK),Arr X pins σ E E'->Inv X pins σ H s->t E σ H Q->wpAny (model X.prog X.w) X.A (spliced (backTo pos (starEach es X.env))) (AP X pins σ Q) E' s
def L7(X:Cx)(body:List Stmt)(t:XK->TS):Prop:=∀(E':Value->Shared->Prop) (pins:List (Addr×Obj)) (s:Shared) (σ:St) (H:Hp) (D:Ends) (E:XK),Arr X pins σ E E'->Inv X pins σ H s->t E D σ H->wpAny (model X.prog X.w) X.A (execs body X.env) (SP X pins D) E' s
section
variable {X:Cx} {e o:Expr} {es:List Expr} {te:TE} {t:TA} {tx:XK->TE} {ts:XK->TA} {pos cpos apos epos p:Pos} {body:List Stmt} {tb:XK->TS}
theorem JS(h:∀E',PE (X.en E') e te):JR X e (λ_=>te):=λE' pins s σ H Q _ _ I q=>bD (h E' pins s σ H Q (I.en E') q) λ_ _ ⟨x,H1,I1,r,z⟩=>⟨x,H1,I1.e9,r,z⟩
theorem Cb{x:Str}{k:Nat}{ps:List Str}{sp:Sp}(h:gI X.prog X.w X.K X.mg X.base (cX X.prog X.w) x k ps sp)(hr:cm k X.A)(hg:Gl X x)(ha:∀E',PA (X.en E') (e::es) t)(hdb:(x == ("__debug__" : Str))=false:=by decide)
  (he:starEach (e::es) X.env=(false,eval e X.env)::starEach es X.env:=by rfl) (hpl:(backTo cpos (starEach es X.env)).any (·.1)=false:=by rfl):JR X (.Call (.Name x p) (e::es) [] cpos) (λE=>uE sp [] E t):=by
 intro E' pins s σ H Q E hx I hw;obtain⟨f,fd,F,b,kp,m⟩:=h.ex;refine XO (gR (X:=X.en E') (I.en E') hg m ?_ hdb);refine XQ (h₀:=X.base) I.ok.mod.kin kp (bD (ha E' cpos pins s σ H _ (I.en E') hw) λus s1 ⟨vs,H1,I1,r,q1⟩=>⟨I1.iM,?_⟩) he hpl;have I1':=I1.e9;have hl:(us++[]).length=ps.length:=by rw[← (r.append (show Vals [] []from .nil)).length];exact F.len _ _ _ _ q1
 refine Yy (Yk (F.run X.A X.stack s1 H1 ⟨us,[]⟩ (us++[]) (vs++[]) _ _ hr I1'.A8 (b s1 us I1'.iM hl) (r.append .nil) q1) λr s' hq=>?_)
 cases r with
 | error e=>exact hx _ _ e s' I1' hq
 | ok fl =>
  cases fl with
  | ret u=>exact I1'.after hq
  | next=>exact False.elim hq
  | brk=>exact False.elim hq
  | cont=>exact False.elim hq
theorem pW{m:Str}{k:Nat}{ps:List Str}{sp:Sp}{C:Addr}{ta:TE}{pl:Sem Bool}(ho:∀E',PE (X.en E') o ta)(h:c8 X.prog X.w X.K X.mg X.base (cX X.prog X.w) C m k ps sp)(hr:cm k X.A)(ha:∀E',PA (X.en E') (e::es) t)
  (hst:starEach (e::es) X.env=(false,eval e X.env)::starEach es X.env:=by rfl) (hpl:(backTo pos (starEach es X.env)).any (·.1)=false:=by rfl)
  (ht:eval (.Call (.Attribute o m apos) (e::es) [] pos) X.env=(do
   let ov ← eval o X.env
   standAt apos.atName
   let (f,first) ← holding [ov] (getMethod ov m pl)
   callWith pos f first (backTo pos (starEach (e::es) X.env)) (backToKw pos (keywordEach [] X.env))):=by rfl) :
  JR X (.Call (.Attribute o m apos) (e::es) [] pos) (λE=>rb C m sp [] E ta t):=by
 intro E' pins s σ H Q E hx I hw;obtain⟨f,fd,F,b,M⟩:=h.ex;refine Yv (pl:=pl) (bD (ho E' pins s σ H _ (I.en E') hw) λu s1 ⟨x,H1,I1,rx,a,dx,fs,ex,ea,l,q⟩=>?_) ht;subst ex;obtain rfl:u=Value.ref a:=rx;refine lh (X:=X.en E') I1 ea h.cl M l ?_;refine XQ (first:=[.ref a]) (h₀:=X.base) I.ok.mod.kin M.kp (bD (ha E' pos pins s1 σ H1 _ I1 q) λus s2 ⟨vs,H2,I2,r,q2⟩=>⟨I2.iM,?_⟩) hst hpl;have I1':=I2.e9;have r2:Vals (V.ref a::(vs++[])) ((Value.ref a::us)++[]):=.cons rfl (r.append .nil);have hl:((Value.ref a::us)++[]).length=ps.length:=by rw[← r2.length];exact F.len _ _ _ _ q2
 refine Yy (Yk (F.run X.A X.stack s2 H2 ⟨Value.ref a::us,[]⟩ ((Value.ref a::us)++[]) (V.ref a::(vs++[])) _ _ hr I1'.A8 (b s2 (Value.ref a::us) I1'.iM hl) r2 q2) λr s' hq=>?_)
 cases r with
 | error e=>exact hx _ _ e s' I1' hq
 | ok fl =>
  cases fl with
  | ret u=>exact I1'.after hq
  | next=>exact False.elim hq
  | brk=>exact False.elim hq
  | cont=>exact False.elim hq
theorem Fj:OI X [] (λ_=>sk):=λ_ _ _ _ _ H _ _ _ I h=>YG ⟨[],H,I,.nil,h⟩
theorem vy(ha:JR X e tx)(hr:OI X es ts)(hs:starEach (e::es) X.env=(false,eval e X.env)::starEach es X.env:=by rfl):OI X (e::es) (λE=>A7 (tx E) (ts E)):=by
 intro pos E' pins s σ H Q E hx I h;rw[hs];show wpAny _ _ (spliced ((false,eval e X.env)::backTo pos (starEach es X.env))) _ _ s;refine YC (bD (ha E' pins s σ H _ E hx I h) λu s1 ⟨x,H1,I1,r1,q1⟩=>?_);exact bD (hr pos E' pins s1 σ H1 _ E hx I1 q1) λus s2 ⟨xs,H2,I2,r2,q2⟩=>⟨x::xs,H2,I2,.cons r1 r2,q2⟩
theorem Fl{x1}(h:OI X es ts):JR X (.Tuple es x1 pos) (λE=>IL (ts E)):=by
 intro E' pins s σ H Q E hx I hq;refine wpAny_Tuple_spliced (bD (h pos E' pins s σ H _ E hx I hq) λus s1 ⟨xs,H1,I1,r,z,q⟩=>⟨by rw[← r.length];exact z,?_⟩);have hf:H1 s1.heap.objs.size=none:=I1.hok.fresh (WU _);refine⟨.ref s1.heap.objs.size,upd H1 s1.heap.objs.size (.tup xs),I1.laid (t':=s1.toks) (λb u e=>WW _ e) (WU _) ?_,rfl,q _ hf⟩;exact⟨z,us,r,⟨_,Xf _ rfl,rfl,_,rfl⟩⟩
theorem yL(h:JR X e tx):L7 X [.Return (some e) pos] (λE=>Iw (tx E)):=by
 intro E' pins s σ H D E hx I hw;refine Yn (bD (wpAny_Return_some (Q:=SP X pins D) (bD (h E' pins s σ H _ E hx I hw) λv s1 ⟨x,H1,I1,r1,q1⟩=>⟨x,σ,H1,I1,r1,q1⟩)) λfl s1 h1=>?_)
 cases fl with
 | next=>exact XR h1
 | brk=>exact h1
 | cont=>exact h1
 | ret u=>exact h1
theorem Cd:L7 X [.Return none pos] (λ_=>Mj):=by
 intro E' pins s σ H D E hx I hw;exact Yn (wpAny_Return_none ⟨.non,σ,H,I,rfl,hw⟩)
theorem Fm:L7 X [] (λ_=>dq):=λE' pins s σ H D E hx I hw=>XR ⟨σ,H,I,hw⟩
theorem vz(h:JR X e tx)(hb:L7 X body tb)(hsw:swapsWith e none epos.line X.env=pure false:=by rfl):L7 X (.Expr e epos::body) (λE=>Ea (Hg (tx E)) (tb E)):=by
 intro E' pins s σ H D E hx I hw;refine Yn (wpAny_Expr_any (bD (h E' pins s σ H _ E hx I hw) λv s1 ⟨x,H1,I1,r1,q1⟩=>?_) I.quiet hsw);exact hb E' pins s1 σ H1 D E hx I1 q1
def Nt(t:XK->TS)(th:Ends->St->XK):TS:=λD σ H=>t (th D σ) D σ H
theorem oG{h₀:ExceptHandler}{hs:List ExceptHandler}{th:Ends->St->XK}(hb:L7 X body tb)(hd:vx X (h₀::hs) th)(hst:X.stack=X.env::X.outer:=by rfl)(hf:X.env.frame=some X.env.locals:=by rfl)(hex:X.ex=[]:=by rfl):
  PS X (.Try body (h₀::hs) [] [] pos) (Nt tb th):=by
 intro pins s σ H D I hw;refine wpAny_Try_except ?_;refine Xa (hb (R8 X (h₀::hs) pins D) pins s σ H D (th D σ) (λH0 s0 e s' I0 hc=>Fi hd hst hf hex I0 hc) I hw) (λfl s1 h1=>?_) λ_ _ z=>z
 cases fl with
 | next=>exact XR h1
 | brk=>exact h1
 | cont=>exact h1
 | ret u=>exact h1
end
theorem jJ{P:Program}{w:World}{K:aE}{mg:Str->Option Value}{base:Heap}{CX:uq}{k:Nat}{f:Addr}{fd:FuncData}{ps:List Str}{sp:Sp}(h:∀vs H Q E,sp vs H Q E->False):bw P w K mg base CX k f fd ps sp :=
 ⟨λvs H Q E z=>(h vs H Q E z).elim,λ_ _ _ H _ _ vs Q E _ _ _ _ z=>(h vs H Q E z).elim⟩
theorem JT{A:Around}{k:Nat}{v:Option Value}(hr:cm k A):(A.mark v).units + 1 < cLine:=show A.units + 1 < cLine from yk hr
abbrev vA:=List PyData->(List PyData->Prop)->Prop
def yM(K:aE)(P:Addr->Prop)(H:Hp)(Q:VK)(zs:List PyData):Prop:=∀(a:Addr) (ys:List V) (H':Hp),aQ H H'->H a=none->H' a=some (.lst ys)->cj (aO K (λc=>P c∨c=a) H') ys zs->Q (.ref a) H'
def Nu(K:aE)(T:vA):Sp:=λvs H Q _=>∃(P:Addr->Prop) (ds:List PyData),(∀c,P c->∃o,H c=some o/\jP o)/\cj (aO K P H) vs ds/\T ds (yM K P H Q)
def yN(K:aE)(sp:Sp)(T:vA):Prop:=∀(vs:List V) (H:Hp) (Q:VK) (P:Addr->Prop) (ds:List PyData),(∀c,P c->∃o,H c=some o/\jP o)->cj (aO K P H) vs ds->T ds (yM K P H Q)->sp vs H Q E0
theorem Nv{K:aE}{T:vA}:yN K (Nu K T) T:=λ_ _ _ P ds h1 h2 h3=>⟨P,ds,h1,h2,h3⟩
def Cf(T:vA):Prop:=∀ds (Q Q':List PyData->Prop),(∀z,Q z->Q' z)->T ds Q->T ds Q'
@[reducible] def oH(T:vA)(xs:List DV)(st:aB)(Q:DC):Prop:=eA xs st λds az=>T ds λzs=>Q (.ref az.length) (az++[.live zs])
theorem zO{J:KF}{sp:Sp}{T:vA}(h:yN J.K sp T)(m:Cf T):AB J (λvs H Q=>sp (vs++[]) H Q E0) (oH T):=λH0 A0 G al H st vs ds Q R I hp q k=>by
 obtain⟨es,az,E1,I1,F1,q1⟩:=kE I hp q;rw[XC];refine h vs H R (Fb G al az) es (λc hc=>I1.lV hc) F1 (m _ _ _ (λzs hz a ys H' s na ga r=>?_) q1)
 have hs:∀c,Fb G (al++[[a]]) (az++[.live zs]) c->Fb G al az c∨c=a:=λc hc=>by
  rcases hc with z | ⟨j,f,ce,e1,e2,e3,e4⟩
  ·exact .inl (.inl z)
  ·by_cases l:j < al.length
   ·rw[Xc l]at e1;rw[Xc (by rw[← I1.len];exact l)]at e3;exact .inl (.inr ⟨j,f,ce,e1,e2,e3,e4⟩)
   ·have hj:j=al.length:=by
     have:=(er e1).1;rw[List.length_append]at this;simp at this;omega
    subst hj;rw[Xk (WU _),YV]at e1;cases e1;exact .inr (v8 e2)
 obtain⟨E2,I2⟩:=I1.more (fp:=[a]) (c:=.live zs) (λb hb=>by rw[v8 hb];exact na) (by simp) s (λb hb=>⟨.lst ys,by rw[v8 hb];exact ga⟩) ⟨a,ys,rfl,ga,r.imp λy x z=>z.sub hs⟩;exact k (.ref az.length) _ _ (.ref a) H' (E1.trans I1 E2) I2 ⟨a,[],by rw[← I1.len,List.getElem?_append_right (Nat.le_refl _),Nat.sub_self];rfl,rfl⟩ hz
section
variable {X:Cx} {Y:YK} {x:Str} {e:Expr} {es:List Expr} {p pos:Pos} {n:Nat} {d:mM}
theorem zP{kk:Nat}{ps:List Str}{sp:Sp}{T:vA}(h:gI X.prog X.w X.K X.mg X.base cN x kk ps sp)(hs:yN X.K sp T)(m:Cf T)(hr:cm kk X.A)(hg:Gl X x)(ha:vb X Y (e::es) n d)(hdb:(x == ("__debug__" : Str))=false:=by decide)
  (he:starEach (e::es) X.env=(false,eval e X.env)::starEach es X.env:=by rfl) (hpl:(backTo pos (starEach es X.env)).any (·.1)=false:=by rfl):bR X Y (.Call (.Name x p) (e::es) [] pos) (Ao (oH T) d):=by
 obtain⟨t,p1,a1⟩:=ha.h;exact⟨_,eF h hr hg p1 hdb he hpl,sS (zO hs m) a1⟩
@[reducible] def JU(T:List PyData->Prop)(dv:DV)(st:aB):Prop:=match dv with
 | .ref k=>match st[k]? with
  | some (.live zs)=>T zs
  | _=>False
 | _=>False
theorem xh{N:List Str}{body:List Stmt}{vs:List V}{ds:List PyData}{H:Hp}{Q:VK}{P:Addr->Prop}(hP:∀c,P c->∃o,H c=some o/\jP o)(hv:cj (aO X.K P H) vs ds)
  (h:rN X y0 body {nx:=λ_ _=>False,rt:=JU (yM X.K P H Q)} (ds.map (λd=>some (DV.dat d))++List.replicate (N.length - ds.length) none) []) :
  ∃t,oy X body t/\t {nx:=λ_ H'=>Q .non H',rt:=Q} (start N vs) H:=by
 obtain⟨s,⟨t,p1,a1⟩,q⟩:=h;have I:DI (kf X y0) H (λ_=>False) P [] H []:=⟨rfl,List.nodup_nil,λ_ h=>by simp at h,λk a c h=>by simp at h,λc o _ e=>e,λ_ h=>by simp at h,λ_ h=>by simp at h,hP,trivial⟩;refine⟨t,p1,a1 H (λ_=>False) P [] H [] _ _ _ _ I ⟨by unfold start;simp[hv.1],λi dv hi=>?_⟩ q ⟨λenv' st' al' σ' H' e' I' E' q'=>q'.elim,λdv st' al' v H' e' I' d' q'=>?_,λenv' st' al' σ' H' e' I' E' q'=>q'.elim,λenv' st' al' σ' H' e' I' E' q'=>q'.elim⟩⟩
 ·by_cases l:i < ds.length
  ·rw[List.getElem?_append_left (by simpa using l),List.getElem?_map,jL l]at hi;cases hi;obtain⟨y,hy,hr⟩:=hv.at (jL l);refine⟨y,?_,?_⟩
   ·unfold start;rw[List.getElem?_append_left (by rw[List.length_map,hv.1];exact l),List.getElem?_map,hy];rfl
   ·exact hr.sub λc hc=>by
     rcases hc with z | ⟨k,f,ce,h,_⟩
     ·exact z
     ·simp at h
  ·rw[List.getElem?_append_right (by simp;omega)]at hi;rw[List.getElem?_replicate]at hi;split at hi
   ·cases hi
   ·cases hi
 ·cases dv with
  | dat d=>exact q'.elim
  | ref k =>
   obtain⟨a,r,ha,rfl⟩:=d';have q':(match st'[k]? with | some (.live zs)=>yM X.K P H Q zs | _=>False):=q';split at q'
   ·rename_i zs hs;obtain⟨a',ys,e1,e2,e3⟩:=I'.cel k _ _ ha hs;cases e1;have ma:a∈al'.flatten:=bV ha W7
    have na:H a=none:=by
     rcases I'.nw a ma with z | z
     ·exact z.elim
     ·exact z
    refine q' a ys H' (λc o e=>I'.fr c o (λz=>z) e) na e2 (e3.imp λy x z=>z.sub λc hc=>?_);rcases hc with z | rfl
    ·exact .inl z
    ·exact .inr ⟨k,_,_,ha,W7,hs,rfl⟩
   ·exact q'.elim
theorem Fo{body:List Stmt}{t:TS}{DD:eM}{env:bG}{st:aB}(h:oy X body t)(q:∀(H0:Hp) (A0 G:Addr->Prop) (al:List (List Addr)) (H:Hp) (σ:St) (D:Ends),DI (kf X Y) H0 A0 G al H st->mL X.K (Fb G al st) H al σ env->zI (kf X Y) H0 A0 G al H st DD D->t D σ H):rN X Y body DD env st :=
 ⟨λDD env st=>∀(H0:Hp) (A0 G:Addr->Prop) (al:List (List Addr)) (H:Hp) (σ:St) (D:Ends),DI (kf X Y) H0 A0 G al H st->mL X.K (Fb G al st) H al σ env->zI (kf X Y) H0 A0 G al H st DD D->t D σ H,⟨t,h,λH0 A0 G al H st σ env DD D I E q k=>q H0 A0 G al H σ D I E k⟩,q⟩
end
end L2
local macro_rules | `(tactic| walk_at "cond")=>`(tactic| first | rfl | decide | omega | (show (0:Int) < _; decide) | (show (0:Int) < _; omega) | exact ⟨by decide,by decide⟩ | exact ⟨by omega,by omega⟩ | exact Or.inl ⟨by decide,by decide⟩ | exact Or.inr ⟨by decide,by decide⟩ | exact Or.inl ⟨by omega,by omega⟩ | exact Or.inr ⟨by omega,by omega⟩ | assumption)
local macro_rules | `(tactic| walk_at "rd1")=>`(tactic| first
 | refine⟨_,rfl,?_⟩
 | refine⟨_,_,rfl,rfl,?_⟩
 | (refine And.intro ?_ ?_;walk_at "cond"))
local macro_rules | `(tactic| walk_at "vc")=>`(tactic| try dsimp only [L2.yF,L2.BX,L2.BY,L2.JL,L2.PN,L2.BZ,L2.BG,L2.eC,L2.sL,L2.oI,L2.Jw,L2.BH,L2.vd,L2.JC,L2.sO,L2.nX,L2.iR,L2.rJ,L2.M4,L2.JO,L2.BK,L2.BL,L2.Px,L2.DA,L2.yz,L2.ET,L2.BN,L2.Ao,L2.BO,L2.vh,L2.me,L2.xc,L2.yC,L2.pQ,L2.oH,L2.JU,L2.tD,List.zip_cons_cons,List.zip_nil_left,List.zip_nil_right,L2.w9,L2.xa,L2.L5,L2.sub,L2.mO,List.take_succ_cons,List.take_zero,L2.kS,L2.eA,L2.EJ,L2.yu,L2.EL,L2.EM,L2.yv,L2.EX,L2.sV,L2.gN,L2.yD,L2.pL,L2.gT,L2.gS,L2.JK,L2.sX,L2.PM,L2.BU,L2.JM,L2.E9,L2.JN,L2.Nl,L2.Fd,L2.nY,L2.tp,L2.yE,L2.BR,id_eq,List.map_cons,List.map_nil,List.replicate,List.getElem?_cons_zero,List.getElem?_cons_succ,List.set_cons_zero,List.set_cons_succ,List.nil_append,List.cons_append,List.length_cons,List.length_nil,Nat.zero_add,Nat.reduceAdd,Option.getD_some,Option.getD_none,List.getElem?_nil])
local macro_rules | `(tactic| walk_at "vs")=>`(tactic| try dsimp only [L2.yF,L2.BY,L2.JL,L2.PN,L2.BZ,L2.BG,L2.eC,L2.sL,L2.oI,L2.Jw,L2.BH,L2.vd,L2.JC,L2.sO,L2.nX,L2.iR,L2.rJ,L2.M4,L2.JO,L2.BK,L2.BL,L2.Px,L2.DA,L2.yz,L2.ET,L2.BN,L2.Ao,L2.BO,L2.vh,L2.me,L2.xc,L2.yC,L2.pQ,L2.oH,L2.JU,L2.tD,List.zip_cons_cons,List.zip_nil_left,List.zip_nil_right,L2.w9,L2.xa,L2.L5,L2.sub,L2.mO,List.take_succ_cons,List.take_zero,L2.kS,L2.eA,L2.EJ,L2.yu,L2.EL,L2.EM,L2.yv,L2.EX,L2.sV,L2.gN,L2.yD,L2.pL,L2.gT,L2.gS,L2.JK,L2.sX,L2.PM,L2.BU,L2.JM,L2.E9,L2.JN,L2.Nl,L2.Fd,L2.nY,L2.tp,L2.yE,L2.BR,id_eq,List.map_cons,List.map_nil,List.replicate,List.getElem?_cons_zero,List.getElem?_cons_succ,List.set_cons_zero,List.set_cons_succ,List.nil_append,List.cons_append,List.length_cons,List.length_nil,Nat.zero_add,Nat.reduceAdd,Option.getD_some,Option.getD_none,List.getElem?_nil])
local macro_rules | `(tactic| walk_at "rd")=>`(tactic| repeat walk_at "rd1")
set_option maxHeartbeats 4000000
local macro_rules | `(tactic| walk_at "sc")=>`(tactic| exact ⟨rfl,rfl,rfl,by decide +kernel,rfl,by decide +kernel,by decide +kernel⟩)
namespace Mine
open PySem L2
theorem UG{α:Type}{P:List α->Prop}(h:P []):∀us:List α,us.length=0->P us:=λus hl=>by
 cases us with
 | nil=>exact h
 | cons a r=>exact absurd hl (X4 _)
theorem Fp{α:Type}{P:List α->Prop}(h:∀a0:α,P [a0]):∀us:List α,us.length=1->P us:=λus hl=>by
 cases us with
 | nil=>exact absurd hl.symm (X4 _)
 | cons a r=>exact UG (P:=λr=>P (a::r)) (h a) r (X5 hl)
theorem ln2{α:Type}{P:List α->Prop}(h:∀a0 a1:α,P [a0,a1]):∀us:List α,us.length=2->P us:=λus hl=>by
 cases us with
 | nil=>exact absurd hl.symm (X4 _)
 | cons a r=>exact Fp (P:=λr=>P (a::r)) (λa1=>h a a1) r (X5 hl)
theorem tI{α:Type}{P:List α->Prop}(h:∀a0 a1 a2:α,P [a0,a1,a2]):∀us:List α,us.length=3->P us:=λus hl=>by
 cases us with
 | nil=>exact absurd hl.symm (X4 _)
 | cons a r=>exact ln2 (P:=λr=>P (a::r)) (λa1 a2=>h a a1 a2) r (X5 hl)
theorem Nw{α:Type}{P:List α->Prop}(h:∀a0 a1 a2 a3:α,P [a0,a1,a2,a3]):∀us:List α,us.length=4->P us:=λus hl=>by
 cases us with
 | nil=>exact absurd hl.symm (X4 _)
 | cons a r=>exact tI (P:=λr=>P (a::r)) (λa1 a2 a3=>h a a1 a2 a3) r (X5 hl)
theorem UH{α:Type}{P:List α->Prop}(h:∀a0 a1 a2 a3 a4:α,P [a0,a1,a2,a3,a4]):∀us:List α,us.length=5->P us:=λus hl=>by
 cases us with
 | nil=>exact absurd hl.symm (X4 _)
 | cons a r=>exact Nw (P:=λr=>P (a::r)) (λa1 a2 a3 a4=>h a a1 a2 a3 a4) r (X5 hl)
theorem R9{α:Type}{xs:List α}(h:xs.length=1):∃a0,xs=[a0]:=Fp (P:=λxs=>∃a0,xs=[a0]) (λa0=>⟨a0,rfl⟩) xs h
theorem OJ{α:Type}{xs:List α}(h:xs.length=2):∃a0 a1,xs=[a0,a1]:=ln2 (P:=λxs=>∃a0 a1,xs=[a0,a1]) (λa0 a1=>⟨a0,a1,rfl⟩) xs h
theorem UI{α:Type}{xs:List α}(h:xs.length=3):∃a0 a1 a2,xs=[a0,a1,a2]:=tI (P:=λxs=>∃a0 a1 a2,xs=[a0,a1,a2]) (λa0 a1 a2=>⟨a0,a1,a2,rfl⟩) xs h
theorem Sa{α:Type}{xs:List α}(h:xs.length=4):∃a0 a1 a2 a3,xs=[a0,a1,a2,a3]:=Nw (P:=λxs=>∃a0 a1 a2 a3,xs=[a0,a1,a2,a3]) (λa0 a1 a2 a3=>⟨a0,a1,a2,a3,rfl⟩) xs h
theorem UJ{α:Type}{xs:List α}(h:xs.length=5):∃a0 a1 a2 a3 a4,xs=[a0,a1,a2,a3,a4]:=UH (P:=λxs=>∃a0 a1 a2 a3 a4,xs=[a0,a1,a2,a3,a4]) (λa0 a1 a2 a3 a4=>⟨a0,a1,a2,a3,a4,rfl⟩) xs h
def tf(p:Program)(i:Nat):Stmt:=p.main.body.getD i (.Pass ⟨0,0,0,0⟩)
def top(i:Nat):Stmt:=tf PySem.Challenge.pw_stackwarden_k67_loops_and_budget i
abbrev ka:Stmt:=top 39
abbrev lA:Stmt:=top 35
abbrev lB:Stmt:=top 36
abbrev lC:Stmt:=top 37
abbrev pX:Stmt:=top 38
abbrev lD:Stmt:=top 31
abbrev jj:Stmt:=top 32
abbrev lE:Stmt:=top 33
abbrev jk:Stmt:=top 34
abbrev m9:Stmt:=top 5
abbrev jl:Stmt:=top 6
abbrev iz:Stmt:=top 20
abbrev lF:Stmt:=top 21
abbrev fj:Stmt:=iC (top 28) 12
abbrev fV:Stmt:=iC (top 28) 3
abbrev df:Stmt:=iC (top 28) 5
abbrev bZ:Stmt:=iC (top 28) 6
abbrev nc:Stmt:=top 14
abbrev ng:Stmt:=top 16
abbrev lG:Stmt:=top 15
abbrev cv:Stmt:=iC (top 28) 7
abbrev dJ:Stmt:=iC (top 28) 4
abbrev cR:Stmt:=iC (top 28) 10
abbrev cw:Stmt:=iC (top 28) 9
abbrev fq:Stmt:=iC (top 28) 8
abbrev fW:Stmt:=iC (top 27) 0
abbrev fX:Stmt:=iC (top 28) 2
abbrev ft:Stmt:=iC (top 28) 1
abbrev dM:Stmt:=iC (top 28) 0
abbrev kb:Stmt:=top 29
abbrev mf:Stmt:=top 40
structure ax(K:aE)(C:Addr):Prop where
 cl:yd K C
 oJ:cO K C "depth"
 mh:cO K C "known"
structure au(K:aE)(C:Addr):Prop where
 cl:yd K C
 rQ:cO K C "program"
 xi:cO K C "said"
 pY:cO K C "left"
structure L8(K:aE)(C:Addr):Prop where
 cl:yd K C
 P1:cO K C "make"
 Ny:cO K C "fields"
abbrev kI:Stmt:=inner (top 23)
abbrev nh:Stmt:=inner (top 24)
inductive Kd where
 | any | num | whole (c:Nat) | raw (c m:Nat)
 deriving DecidableEq
def tJ:Kd->List PyData
 | .any=>[.str "any"]
 | .num=>[.str "number"]
 | .whole c=>[.str "whole",.int c]
 | .raw c m=>[.str "raw",.int c,.int m]
abbrev DE:=List (Option Nat×List Kd)
structure Wf(ms:DE):Prop where
 ne:0 < ms.length
 few:ms.length<=8
 first:∀m,ms[0]?=some m->m.1=none
 ahead:∀(i:Nat) m,ms[i]?=some m->0 < i->∃j,m.1=some j/\j < i
def P2(ms:DE)(c:Nat):Option Nat:=(ms[c]?).bind (·.1)
def Nz(ms:DE):Nat->Nat->List Nat
 | 0,_=>[]
 | n + 1,c=>c::(match P2 ms c with | none=>[] | some j=>Nz ms n j)
def xj(ms:DE)(c:Nat):List Nat:=Nz ms (c + 1) c
def rest(ms:DE):Option Nat->List Nat
 | none=>[]
 | some j=>xj ms j
def P4(zs:List Nat):Kd->Prop
 | .any=>True
 | .num=>True
 | .whole c=>c < zs.length
 | .raw c m=>∃z,zs[c]?=some z/\m < 2 ^ z
theorem aH{H:Hp}{p:Addr}(h:H p=none)(o:HO):aQ H (upd H p o):=λb u q=>by rw[uN (nN q h)];exact q
structure UK(sh:List (Option Nat×Nat))(zs:List Nat):Prop where
 len:sh.length=zs.length
 ne:0 < sh.length
 s0:sh[0]?=some (none,0)
 z0:zs[0]?=some 0
 six:∀z∈zs,z<=6
 go:∀(i:Nat) (s:Option Nat×Nat),0 < i->sh[i]?=some s->∃j z,s.1=some j/\j < i/\zs[j]?=some z/\zs[i]?=some (z + s.2)
structure Good(ms:DE)(zs:List Nat):Prop where
 wf:Wf ms
 len:ms.length=zs.length
 UL:∀m,ms[0]?=some m->m.2=[]
 z0:zs[0]?=some 0
 six:∀z∈zs,z<=6
 go:∀(i:Nat) m,0 < i->ms[i]?=some m->∃j z,m.1=some j/\j < i/\zs[j]?=some z/\zs[i]?=some (z + m.2.length)
 kds:∀(i:Nat) m,ms[i]?=some m->∀k∈m.2,P4 zs k
def ownOf(ms:DE)(c:Nat):List Kd:=match ms[c]? with | some m=>m.2 | none=>[]
def vB(ms:DE):List Nat->List Kd
 | []=>[]
 | e::r=>vB ms r++ownOf ms e
def fields(ms:DE)(c:Nat):List Kd:=vB ms (xj ms c)
theorem dP.append{K:aE}{H:Hp}:∀{xs ys:List V} {ds es:List PyData},dP K H xs ds->dP K H ys es->dP K H (xs++ys) (ds++es)
 | [],_,[],_,_,r=>r
 | [],_,_::_,_,h,_=>nomatch h.1
 | _::_,_,[],_,h,_=>nomatch h.1
 | x::xs,ys,d::ds,es,h,r=>dP.cons (h.2 0 x d rfl rfl) (dP.append ⟨by simpa using h.1,λi a b h1 h2=>h.2 (i + 1) a b (by simpa using h1) (by simpa using h2)⟩ r)
abbrev pZ(ks:List Kd):List PyData:=ks.map λk=>PyData.tuple (tJ k)
def below(ms:DE):Kd->Kd->Bool
 | _,.any=>true
 | .num,.num=>true
 | .whole c,.whole d=>decide (d∈xj ms c)
 | .raw c m,.raw d n=>decide (c=d)&&decide (m&&&n=n)
 | _,_=>false
theorem JV(k:Kd):PySem.SeqAt.shaped (.tuple (tJ k))=true:=by
 cases k<;>(simp only[tJ,PySem.SeqAt.shaped,PyData.canLay0,PyData.canLayAll0,PyData.depth,PyData.depthAll];decide +kernel)
theorem aP.gK{K:aE}{H:Hp}{v:V}{ds:List PyData}(h:aP K H v (.tuple ds)):∃(a:Addr) (xs:List V),v=.ref a/\cg K H a xs/\dP K H xs ds:=by
 cases h with
 | tup h hl hi=>exact⟨_,_,rfl,h,hl,hi⟩
theorem aP.aU{K:aE}{H:Hp}{v:V}{i:Int}(h:aP K H v (.int i)):v=.int i:=by cases h;rfl
def iT(n:Int):Prop:=-2147483648<=n/\n<=2147483647
def dw(n:Int):Int:=(n + 2147483648) % 4294967296 - 2147483648
def rk(sign:Str)(a b:Int):Int :=
 if sign="add" then dw (a + b)else if sign="sub" then dw (a - b)else if sign="mul" then dw (a * b)
 else if sign="less" then(if a < b then 1 else 0)else if sign="same" then(if a=b then 1 else 0)else if sign="div" then dw (a.fdiv b)else a.fmod b
def parts(sign:Str):Prop:=sign="div"∨sign="rem"
instance (sign:Str):Decidable (parts sign):=by unfold parts;exact inferInstance
theorem Fq(n:Int):-2147483648<=dw n/\dw n<=2147483647/\(n - dw n) % 4294967296=0:=by
 unfold dw;omega
theorem dv:¬ parts "add"/\¬ parts "sub"/\¬ parts "mul"/\¬ parts "less"/\¬ parts "same":=by decide +kernel
theorem JW(a b:Int):rk "add" a b=dw (a + b):=by unfold rk;rw[if_pos rfl]
theorem xk(a b:Int):rk "sub" a b=dw (a - b):=by unfold rk;rw[if_neg (by decide +kernel),if_pos rfl]
theorem JX(a b:Int):rk "mul" a b=dw (a * b):=by unfold rk;rw[if_neg (by decide +kernel),if_neg (by decide +kernel),if_pos rfl]
theorem yO(a b:Int):rk "less" a b=if a < b then 1 else 0:=by unfold rk;rw[if_neg (by decide +kernel),if_neg (by decide +kernel),if_neg (by decide +kernel),if_pos rfl]
theorem Fs(a b:Int):rk "same" a b=if a=b then 1 else 0:=by unfold rk;rw[if_neg (by decide +kernel),if_neg (by decide +kernel),if_neg (by decide +kernel),if_neg (by decide +kernel),if_pos rfl]
theorem JY(a b:Int):rk "div" a b=dw (a.fdiv b):=by unfold rk;rw[if_neg (by decide +kernel),if_neg (by decide +kernel),if_neg (by decide +kernel),if_neg (by decide +kernel),if_neg (by decide +kernel),if_pos rfl]
theorem JZ(a b:Int):rk "rem" a b=a.fmod b:=by unfold rk;rw[if_neg (by decide +kernel),if_neg (by decide +kernel),if_neg (by decide +kernel),if_neg (by decide +kernel),if_neg (by decide +kernel),if_neg (by decide +kernel)]
theorem aP.eJ{K:aE}{H:Hp}{v:V}{ds:List PyData}(h:aP K H v (.list ds)):∃(a:Addr) (xs:List V),v=.ref a/\bK K H a xs/\dP K H xs ds:=by
 cases h with
 | lst h hl hi=>exact⟨_,_,rfl,h,hl,hi⟩
theorem vC{H H':Hp}{a:Addr}(s:aQ H H')(hn:H a=none)(o:HO):aQ H (upd H' a o):=λc p e=>by
 rw[uN (nN e hn)];exact s c p e
def J0(t:Str×Kd):PyData:=.tuple [.str t.1,.tuple (tJ t.2)]
def yc(h:List Kd×Kd):PyData:=.tuple [.list (pZ h.1),.tuple (tJ h.2)]
def jQ(b sd:Addr)(bud:Int):List (Str×V):=[("program",.ref b),("said",.ref sd),("left",.int bud)]
def zQ(p:Int)(d:Addr):List (Str×V):=[("depth",.int p),("known",.ref d)]
theorem NA{f:Str}{v:V}{r:List (Str×V)}:List.lookup f ((f,v)::r)=some v:=by simp
theorem J5{f g:Str}{v:V}{r:List (Str×V)}(h:¬ g=f):List.lookup g ((f,v)::r)=List.lookup g r:=by
 have hb:(g == f)=false:=by simpa using h
 simp[List.lookup,hb]
theorem UM{f:Str}{v w:V}{r:List (Str×V)}:cW f w ((f,v)::r)=(f,w)::r:=by
 show(if f=f then _ else _)=_;rw[W4 rfl]
theorem L9{f g:Str}{v w:V}{r:List (Str×V)}(h:¬ f=g):cW g w ((f,v)::r)=(f,v)::cW g w r:=by
 show(if f=g then _ else _)=_;rw[W2 h]
theorem mi{p:Int}{d:Addr}:(zQ p d).lookup ("known" : Str)=some (.ref d):=by
 unfold zQ;rw[J5 (by decide +kernel),NA]
theorem J6{p:Int}{d:Addr}:cW "known" (.ref d) (cW "depth" (.int p) [])=zQ p d:=by
 have e1:cW "depth" (.int p) []=([("depth",.int p)]:List (Str×V)):=rfl;rw[e1,L9 (by decide +kernel)];rfl
theorem xl{b sd:Addr}{bud:Int}:(jQ b sd bud).lookup ("program" : Str)=some (.ref b):=NA
theorem yP{b sd:Addr}{bud:Int}:(jQ b sd bud).lookup ("said" : Str)=some (.ref sd):=by
 unfold jQ;rw[J5 (by decide +kernel),NA]
theorem tK{b sd:Addr}{bud:Int}:(jQ b sd bud).lookup ("left" : Str)=some (.int bud):=by
 unfold jQ;rw[J5 (by decide +kernel),J5 (by decide +kernel),NA]
theorem bq{b sd:Addr}{bud:Int}{m:Str}(h:¬ m∈(["program","said","left"]:List Str)):(jQ b sd bud).lookup m=none:=by
 simp only[List.mem_cons,List.not_mem_nil,or_false,not_or]at h;unfold jQ;rw[J5 h.1,J5 h.2.1,J5 h.2.2];rfl
theorem J7{b sd:Addr}{bud:Int}:cW "left" (.int bud) (cW "said" (.ref sd) (cW "program" (.ref b) []))=jQ b sd bud:=by
 have e1:cW "program" (.ref b) []=([("program",.ref b)]:List (Str×V)):=rfl;have e2:cW "said" (.ref sd) ([("program",.ref b)]:List (Str×V))=([("program",.ref b),("said",.ref sd)]:List (Str×V)):=by rw[L9 (by decide +kernel)];rfl
 rw[e1,e2,L9 (by decide +kernel),L9 (by decide +kernel)];rfl
theorem HS{α:Type}{fin:List PyData->aB->DC->Prop}{dg:rM}{dt:DT}{de:DX}{xs:List PyData}{env:bG}{az:aB}{Q:DC}(as:List α)(g f:α->PyData)(hx:xs=as.map g)(hl:as.length<=1000000)
  (hs:∀(i:Nat) a,as[i]?=some a->∀(P:PyData->Prop) (N:Prop),P (f a)->dg (.dat (g a)) env az λlz bO=>bO=az/\dt lz az λb jY=>jY=az/\if b=true then de lz az λy ur=>kS y ur λdy v9=>v9=az/\P dy else N)
  (hd:fin (as.map f) az Q):PJ fin dg dt de xs (λ_=>True) env az Q:=by
 subst hx;refine Ng (λi ys=>ys=(as.take i).map f) (by rw[List.length_map];exact hl) (by simp) (λi ys d hd' hy=>?_) (λys hy=>?_)
 ·rw[Xv]at hd'
  cases w:as[i]? with
  | none=>rw[w]at hd';cases hd'
  | some a =>
   rw[w]at hd';cases hd';refine hs i a w (λdy=>ys++[dy]=(as.take (i + 1)).map f) (ys=(as.take (i + 1)).map f) ?_;rw[hy,YH,w,Yd];rfl
 ·rw[WY,YW]at hy;rw[hy];exact hd
structure kU where
 tk:List (Str×Kd)
 gv:Kd
 bd:List PyData
 an:PyData
 nm:List Str
def xm(p:kU):PyData:=.tuple [.list (p.tk.map J0),.tuple (tJ p.gv),.list p.bd,p.an]
def J8(ms:PyData)(ps:List kU):PyData:=.tuple [ms,.list (ps.map xm)]
def xn(ps:List kU):List (List Kd×Kd):=ps.map λp=>(p.tk.map (·.2),p.gv)
structure jK where
 said:List Int
 left:Int
 env:Str->Option Int
inductive Res where
 | val (k:Int) | vals (ks:List Int) | ok | fault (k:Int) | gave (k:Int) | weary
def Res.bad:Res->Bool
 | .fault _=>true
 | .gave _=>true
 | .weary=>true
 | _=>false
inductive Tk where
 | E (t:PyData) | Es (ts:List PyData) | Cl (p:Nat) (ts:List PyData) | Tw (op:Str) (a b:PyData) | G (p:Nat) (ks:List Int) | Ss (ts:List PyData) | S (t:PyData) | N (t:PyData) | W (c:PyData) (b:List PyData) | T (a:List PyData) (x:Str) (b:List PyData)
def Tk.Sb:Tk->Bool
 | .E _=>true
 | .Es _=>true
 | .Cl _ _=>true
 | .Tw _ _ _=>true
 | _=>false
def jR(x:Str)(k:Int)(e:Str->Option Int):Str->Option Int:=λy=>if y=x then some k else e y
def Ft(op:Str):Prop:=op="add"∨op="sub"∨op="mul"∨op="less"∨op="same"∨parts op
inductive Act(m:List Str):PyData->PyData->Int->jK->Res->jK->Prop where
 | let' {x:Str} {kd e:PyData} {k:Int} {s:jK}:x∈m->Act m (.tuple [.str "let",.str x,kd,e]) e k s .ok {s with env:=jR x k s.env}
 | set {x:Str} {e:PyData} {k:Int} {s:jK}:x∈m->Act m (.tuple [.str "set",.str x,e]) e k s .ok {s with env:=jR x k s.env}
 | say {e:PyData} {k:Int} {s:jK}:s.said.length < 1000000->Act m (.tuple [.str "say",e]) e k s .ok {s with said:=s.said++[k]}
 | toss {e:PyData} {k:Int} {s:jK}:Act m (.tuple [.str "toss",e]) e k s (.fault k) s
 | drop {e:PyData} {k:Int} {s:jK}:Act m (.tuple [.str "drop",e]) e k s .ok s
 | give {e:PyData} {k:Int} {s:jK}:Act m (.tuple [.str "give",e]) e k s (.gave k) s
inductive Arg:PyData->PyData->Prop where
 | let' {x:Str} {kd e:PyData}:Arg (.tuple [.str "let",.str x,kd,e]) e
 | set {x:Str} {e:PyData}:Arg (.tuple [.str "set",.str x,e]) e
 | say {e:PyData}:Arg (.tuple [.str "say",e]) e
 | toss {e:PyData}:Arg (.tuple [.str "toss",e]) e
 | drop {e:PyData}:Arg (.tuple [.str "drop",e]) e
 | give {e:PyData}:Arg (.tuple [.str "give",e]) e
inductive NB:PyData->Prop where
 | if' {c:PyData} {a b:List PyData}:NB (.tuple [.str "if",c,.list a,.list b])
 | wh {c:PyData} {b:List PyData}:NB (.tuple [.str "while",c,.list b])
 | tr {x:Str} {a b:List PyData}:NB (.tuple [.str "try",.list a,.str x,.list b])
def envOf(ns:List Str)(ks:List Int):Str->Option Int:=λx=>((ns.zip ks).find? λq=>decide (q.1=x)).map (·.2)
inductive Ev(ps:List kU):Nat->Int->List Str->Tk->jK->Res->jK->Prop where
 | num {n d m k s}:Ev ps (n + 1) d m (.E (.tuple [.str "num",.int k])) s (.val k) s
 | var {n d m x k} {s:jK}:s.env x=some k->Ev ps (n + 1) d m (.E (.tuple [.str "var",.str x])) s (.val k) s
 | callE {n d m p ts s r s'}:ts.length<=100->Ev ps n d m (.Cl p ts) s r s'->Ev ps (n + 1) d m (.E (.tuple [.str "call",.int (p:Nat),.list ts])) s r s'
 | two {n d m op a b s r s'}:Ft op->Ev ps n d m (.Tw op a b) s r s'->Ev ps (n + 1) d m (.E (.tuple [.str op,a,b])) s r s'
 | nil {n d m s}:Ev ps (n + 1) d m (.Es []) s (.vals []) s
 | cons {n d m t ts k ks s s1 s2}:Ev ps n d m (.E t) s (.val k) s1->Ev ps (n + 1) d m (.Es ts) s1 (.vals ks) s2->Ev ps (n + 1) d m (.Es (t::ts)) s (.vals (k::ks)) s2
 | consB {n d m t ts r s s1}:Ev ps n d m (.E t) s r s1->r.bad=true->Ev ps (n + 1) d m (.Es (t::ts)) s r s1
 | consC {n d m t ts k r s s1 s2}:Ev ps n d m (.E t) s (.val k) s1->Ev ps (n + 1) d m (.Es ts) s1 r s2->r.bad=true->Ev ps (n + 1) d m (.Es (t::ts)) s r s2
 | clB {n d m p ts r s s1}:Ev ps n d m (.Es ts) s r s1->r.bad=true->Ev ps (n + 1) d m (.Cl p ts) s r s1
 | clW {n d m p ts ks s s1}:Ev ps n d m (.Es ts) s (.vals ks) s1->s1.left<=0->Ev ps (n + 1) d m (.Cl p ts) s .weary s1
 | clD {n d m p ts ks s s1}:Ev ps n d m (.Es ts) s (.vals ks) s1->0 < s1.left->12<=d->Ev ps (n + 1) d m (.Cl p ts) s (.fault 2) {s1 with left:=s1.left - 1}
 | clG {n d m p ts ks r s s1 s2}:Ev ps n d m (.Es ts) s (.vals ks) s1->0 < s1.left->d < 12->Ev ps n (d + 1) [] (.G p ks) {s1 with left:=s1.left - 1} r s2->Ev ps (n + 1) d m (.Cl p ts) s r {s2 with env:=s1.env}
 | gB {n d m p ks r s s1 s2} {q:kU}:ps[p]?=some q->ks.length=q.tk.length->Ev ps n d q.nm (.Ss q.bd) {s with env:=envOf (q.tk.map (·.1)) ks} .ok s1->Ev ps n d q.nm (.E q.an) s1 r s2->Ev ps (n + 1) d m (.G p ks) s r s2
 | gG {n d m p ks k s s1} {q:kU}:ps[p]?=some q->ks.length=q.tk.length->Ev ps n d q.nm (.Ss q.bd) {s with env:=envOf (q.tk.map (·.1)) ks} (.gave k) s1->Ev ps (n + 1) d m (.G p ks) s (.val k) s1
 | gX {n d m p ks r s s1} {q:kU}:ps[p]?=some q->ks.length=q.tk.length->Ev ps n d q.nm (.Ss q.bd) {s with env:=envOf (q.tk.map (·.1)) ks} r s1->r.bad=true->(∀k,r≠.gave k)->Ev ps (n + 1) d m (.G p ks) s r s1
 | twB {n d m op a b r s s1}:Ev ps n d m (.Es [a,b]) s r s1->r.bad=true->Ev ps (n + 1) d m (.Tw op a b) s r s1
 | twG {n d m op a b k l s s1}:Ev ps n d m (.Es [a,b]) s (.vals [k,l]) s1->(parts op->l≠0)->iT k->iT l->Ev ps (n + 1) d m (.Tw op a b) s (.val (rk op k l)) s1
 | ssN {n d m s}:Ev ps (n + 1) d m (.Ss []) s .ok s
 | ssC {n d m t ts r s s1 s2}:Ev ps n d m (.S t) s .ok s1->Ev ps (n + 1) d m (.Ss ts) s1 r s2->Ev ps (n + 1) d m (.Ss (t::ts)) s r s2
 | ssB {n d m t ts r s s1}:Ev ps n d m (.S t) s r s1->r.bad=true->Ev ps (n + 1) d m (.Ss (t::ts)) s r s1
 | sG {n d m t e k r s s1 s2}:Ev ps n d m (.E e) s (.val k) s1->Act m t e k s1 r s2->Ev ps (n + 1) d m (.S t) s r s2
 | sB {n d m t e r s s1}:Arg t e->Ev ps n d m (.E e) s r s1->r.bad=true->Ev ps (n + 1) d m (.S t) s r s1
 | sN {n d m t r s s1}:NB t->Ev ps n d m (.N t) s r s1->Ev ps (n + 1) d m (.S t) s r s1
 | ifG {n d m c a b k r s s1 s2}:Ev ps n d m (.E c) s (.val k) s1->Ev ps n d m (.Ss (if k=0 then b else a)) s1 r s2->Ev ps (n + 1) d m (.N (.tuple [.str "if",c,.list a,.list b])) s r s2
 | LS {n d m c a b r s s1}:Ev ps n d m (.E c) s r s1->r.bad=true->Ev ps (n + 1) d m (.N (.tuple [.str "if",c,.list a,.list b])) s r s1
 | wh {n d m c b r s s1}:Ev ps (n + 1) d m (.W c b) s r s1->Ev ps (n + 1) d m (.N (.tuple [.str "while",c,.list b])) s r s1
 | w0 {n d m c b s s1}:Ev ps n d m (.E c) s (.val 0) s1->Ev ps (n + 1) d m (.W c b) s .ok s1
 | wB {n d m c b r s s1}:Ev ps n d m (.E c) s r s1->r.bad=true->Ev ps (n + 1) d m (.W c b) s r s1
 | wL {n d m c b k r s s1 s2}:Ev ps n d m (.E c) s (.val k) s1->k≠0->Ev ps n d m (.Ss b) s1 r s2->r.bad=true->Ev ps (n + 1) d m (.W c b) s r s2
 | wS {n d m c b k s s1 s2}:Ev ps n d m (.E c) s (.val k) s1->k≠0->Ev ps n d m (.Ss b) s1 .ok s2->s2.left<=0->Ev ps (n + 1) d m (.W c b) s .weary s2
 | wM {n d m c b k r s s1 s2 s3}:Ev ps n d m (.E c) s (.val k) s1->k≠0->Ev ps n d m (.Ss b) s1 .ok s2->0 < s2.left->Ev ps (n + 1) d m (.W c b) {s2 with left:=s2.left - 1} r s3->Ev ps (n + 1) d m (.W c b) s r s3
 | tr {n d m a x b r s s1}:Ev ps n d m (.T a x b) s r s1->Ev ps (n + 1) d m (.N (.tuple [.str "try",.list a,.str x,.list b])) s r s1
 | tG {n d m a x b r s s1}:Ev ps n d m (.Ss a) s r s1->(∀k,r≠.fault k)->Ev ps (n + 1) d m (.T a x b) s r s1
 | tF {n d m a x b k r s s1 s2}:Ev ps n d m (.Ss a) s (.fault k) s1->x∈m->Ev ps n d m (.Ss b) {s1 with env:=jR x k s1.env} r s2->Ev ps (n + 1) d m (.T a x b) s r s2
section
variable {ps:List kU} {n:Nat} {d:Int} {m:List Str} {t:Tk} {s s':jK} {r:Res}
theorem Act.left{t e:PyData}{k:Int}(h:Act m t e k s r s'):s'.left=s.left:=by cases h<;>rfl
theorem Act.arg{t e:PyData}{k:Int}(h:Act m t e k s r s'):Arg t e:=by cases h<;>constructor
theorem Ev.le(h:Ev ps n d m t s r s'):s'.left<=s.left:=by
 induction h with
 | num=>exact Xz _
 | var _=>exact Xz _
 | nil=>exact Xz _
 | ssN=>exact Xz _
 | callE _ _ ih=>exact ih
 | two _ _ ih=>exact ih
 | cons _ _ i1 i2=>exact XI i2 i1
 | consB _ _ ih=>exact ih
 | consC _ _ _ i1 i2=>exact XI i2 i1
 | clB _ _ ih=>exact ih
 | clW _ _ ih=>exact ih
 | clD _ _ _ ih=>dsimp only;omega
 | clG _ _ _ _ i1 i2=>dsimp only at i2 ⊢;omega
 | gB _ _ _ _ i1 i2=>dsimp only at i1 ⊢;omega
 | gG _ _ _ ih=>exact ih
 | gX _ _ _ _ _ ih=>exact ih
 | twB _ _ ih=>exact ih
 | twG _ _ _ _ ih=>exact ih
 | ssC _ _ i1 i2=>exact XI i2 i1
 | ssB _ _ ih=>exact ih
 | sG _ a ih=>rw[a.left];exact ih
 | sB _ _ _ ih=>exact ih
 | sN _ _ ih=>exact ih
 | ifG _ _ i1 i2=>exact XI i2 i1
 | LS _ _ ih=>exact ih
 | wh _ ih=>exact ih
 | w0 _ ih=>exact ih
 | wB _ _ ih=>exact ih
 | wL _ _ _ _ i1 i2=>exact XI i2 i1
 | wS _ _ _ _ i1 i2=>exact XI i2 i1
 | wM _ _ _ _ _ i1 i2 i3=>dsimp only at i3;omega
 | tr _ ih=>exact ih
 | tG _ _ ih=>exact ih
 | tF _ _ _ i1 i2=>dsimp only at i2;omega
theorem Ev.up(h:Ev ps n d m t s r s'):Ev ps (n + 1) d m t s r s':=by
 induction h with
 | num=>exact .num
 | var h=>exact .var h
 | nil=>exact .nil
 | ssN=>exact .ssN
 | callE a _ ih=>exact .callE a ih
 | two a _ ih=>exact .two a ih
 | cons _ _ i1 i2=>exact .cons i1 i2
 | consB _ a ih=>exact .consB ih a
 | consC _ _ a i1 i2=>exact .consC i1 i2 a
 | clB _ a ih=>exact .clB ih a
 | clW _ a ih=>exact .clW ih a
 | clD _ a b ih=>exact .clD ih a b
 | clG _ a b _ i1 i2=>exact .clG i1 a b i2
 | gB a b _ _ i1 i2=>exact .gB a b i1 i2
 | gG a b _ ih=>exact .gG a b ih
 | gX a b _ c e ih=>exact .gX a b ih c e
 | twB _ a ih=>exact .twB ih a
 | twG _ a b c ih=>exact .twG ih a b c
 | ssC _ _ i1 i2=>exact .ssC i1 i2
 | ssB _ a ih=>exact .ssB ih a
 | sG _ a ih=>exact .sG ih a
 | sB a _ b ih=>exact .sB a ih b
 | sN a _ ih=>exact .sN a ih
 | ifG _ _ i1 i2=>exact .ifG i1 i2
 | LS _ a ih=>exact .LS ih a
 | wh _ ih=>exact .wh ih
 | w0 _ ih=>exact .w0 ih
 | wB _ a ih=>exact .wB ih a
 | wL _ a _ b i1 i2=>exact .wL i1 a i2 b
 | wS _ a _ b i1 i2=>exact .wS i1 a i2 b
 | wM _ a _ b _ i1 i2 i3=>exact .wM i1 a i2 b i3
 | tr _ ih=>exact .tr ih
 | tG _ a ih=>exact .tG ih a
 | tF _ a _ i1 i2=>exact .tF i1 a i2
theorem Ev.mono{k:Nat}(h:Ev ps n d m t s r s')(l:n<=k):Ev ps k d m t s r s':=by
 induction l with
 | refl=>exact h
 | step _ ih=>exact ih.up
theorem Ev.tL(h:Ev ps n d m t s r s'):t.Sb=true->s'.env=s.env:=by
 induction h with
 | num=>intro _;rfl
 | var _=>intro _;rfl
 | nil=>intro _;rfl
 | callE _ _ ih=>intro _;exact ih rfl
 | two _ _ ih=>intro _;exact ih rfl
 | cons _ _ i1 i2=>intro _;rw[i2 rfl,i1 rfl]
 | consB _ _ ih=>intro _;exact ih rfl
 | consC _ _ _ i1 i2=>intro _;rw[i2 rfl,i1 rfl]
 | clB _ _ ih=>intro _;exact ih rfl
 | clW _ _ ih=>intro _;exact ih rfl
 | clD _ _ _ ih=>intro _;exact ih rfl
 | clG _ _ _ _ i1 _=>intro _;exact i1 rfl
 | twB _ _ ih=>intro _;exact ih rfl
 | twG _ _ _ _ ih=>intro _;exact ih rfl
 | _=>intro z;cases z
end
structure RW where
 x:Addr
 dx:Addr
 b:Addr
 sd:Addr
 ms:PyData
 ps:List kU
 H0:Hp
structure CL where
 c:Addr
 dc:Addr
 d:Addr
 dep:Int
 nm:List Str
structure P7(ps:List kU):Prop where
 few:ps.length<=100
 tks:∀q∈ps,q.tk.length<=100
 nd:∀q∈ps,(q.tk.map (·.1)).Nodup
 sub:∀q∈ps,∀x∈q.tk.map (·.1),x∈q.nm
 nms:∀q∈ps,q.nm.length<=900
structure fu(K:aE)(C:Addr)(R:RW)(H:Hp)(said:List Int)(left:Int):Prop where
 hx:H R.x=some (.ins C R.dx (jQ R.b R.sd left))
 hs:H R.sd=some (.lst (said.map V.int))
 s0:aQ R.H0 H
 pr:aP K R.H0 (.ref R.b) (J8 R.ms R.ps)
 nx:R.H0 R.x=none
 ns:R.H0 R.sd=none
 wf:P7 R.ps
structure gy(CC:Addr)(R:RW)(L:CL)(H:Hp)(env:Str->Option Int):Prop where
 hc:H L.c=some (.ins CC L.dc (zQ L.dep L.d))
 hd:∃kvs:List (Key×V),H L.d=some (.dK kvs)/\(kvs.map (·.1)).Nodup/\(∀k∈kvs.map (·.1),∃y∈L.nm,k=Sum.inr y)/\∀y,gJ kvs (Sum.inr y)=(env y).map V.int
 nd:R.H0 L.d=none
 few:L.nm.length<=900
def kc(R:RW)(H H':Hp):Prop:=∀a o,a≠R.x->a≠R.sd->H a=some o->H' a=some o
def oq(R:RW)(L:CL)(H H':Hp):Prop:=∀a o,a≠R.x->a≠R.sd->a≠L.d->H a=some o->H' a=some o
def Sd(f:Str)(k:Int)(dd:Option Addr)(H:Hp):Prop:=∃dx,dd=some dx/\H dx=some (.ext (XD dx [(f,.int k)]))
def nj(mg:Str->Option Value)(E:XK):Res->Hp->Prop
 | .fault k,H=>∀C dd,mg "Fault"=some (.ref C)->Sd "number" k dd H->E (.ref C) dd H
 | .gave k,H=>∀C dd,mg "Gave"=some (.ref C)->Sd "value" k dd H->E (.ref C) dd H
 | .weary,H=>∀C dd,mg "Weary"=some (.ref C)->E (.ref C) dd H
 | _,_=>True
def ke(Q:VK):Res->Hp->Prop
 | .val k,H=>Q (.int k) H
 | .ok,H=>Q .non H
 | _,_=>True
theorem ke.bad{Q:VK}{r:Res}{H:Hp}(h:r.bad=true):ke Q r H:=by cases r<;>first | trivial | cases h
section
variable {R:RW} {L:CL} {H H1 H2:Hp}
theorem kc.refl:kc R H H:=λ_ _ _ _ h=>h
theorem kc.trans(a:kc R H H1)(b:kc R H1 H2):kc R H H2:=λc o n1 n2 h=>b c o n1 n2 (a c o n1 n2 h)
theorem kc.of(s:aQ H H1):kc R H H1:=λc o _ _ h=>s c o h
theorem kc.s(k:kc R H H1):oq R L H H1:=λc o n1 n2 _ h=>k c o n1 n2 h
theorem oq.refl:oq R L H H:=λ_ _ _ _ _ h=>h
theorem oq.trans(a:oq R L H H1)(b:oq R L H1 H2):oq R L H H2:=λc o n1 n2 n3 h=>b c o n1 n2 n3 (a c o n1 n2 n3 h)
theorem oq.of(s:aQ H H1):oq R L H H1:=λc o _ _ _ h=>s c o h
end
section
variable {K:aE} {C CC:Addr} {R:RW} {L:CL} {H H1:Hp} {said Se:List Int} {left yQ:Int} {env:Str->Option Int}
theorem fu.xs(I:fu K C R H said left):R.x≠R.sd:=cz I.hx I.hs (by intro z;cases z)
theorem gy.cx(J:gy CC R L H env)(I:fu K C R H said left):L.c≠R.x:=cz J.hc I.hx (by intro z;injection z with _ _ h;have:=X1 List.length h;cases this)
theorem gy.cs(J:gy CC R L H env)(I:fu K C R H said left):L.c≠R.sd:=cz J.hc I.hs (by intro z;cases z)
theorem gy.dx(J:gy CC R L H env)(I:fu K C R H said left):L.d≠R.x:=let ⟨_,h,_⟩:=J.hd;cz h I.hx (by intro z;cases z)
theorem gy.ds(J:gy CC R L H env)(I:fu K C R H said left):L.d≠R.sd:=let ⟨_,h,_⟩:=J.hd;cz h I.hs (by intro z;cases z)
theorem gy.cd(J:gy CC R L H env):L.c≠L.d:=let ⟨_,h,_⟩:=J.hd;cz J.hc h (by intro z;cases z)
theorem gy.keep(J:gy CC R L H env)(I:fu K C R H said left)(k:kc R H H1):gy CC R L H1 env :=
 ⟨k _ _ (J.cx I) (J.cs I) J.hc,let ⟨kvs,h,a,b,c⟩:=J.hd;⟨kvs,k _ _ (J.dx I) (J.ds I) h,a,b,c⟩,J.nd,J.few⟩
theorem fu.same(I:fu K C R H said left)(s:aQ H H1):fu K C R H1 said left:=⟨s _ _ I.hx,s _ _ I.hs,I.s0.trans s,I.pr,I.nx,I.ns,I.wf⟩
theorem gy.same(J:gy CC R L H env)(s:aQ H H1):gy CC R L H1 env:=⟨s _ _ J.hc,let ⟨kvs,h,a,b,c⟩:=J.hd;⟨kvs,s _ _ h,a,b,c⟩,J.nd,J.few⟩
theorem fu.spent(I:fu K C R H said left):fu K C R (upd H R.x (.ins C R.dx (jQ R.b R.sd yQ))) said yQ :=
 ⟨uS,(uN I.xs.symm).trans I.hs,λa o e=>(uN (nN e I.nx)).trans (I.s0 _ _ e),I.pr,I.nx,I.ns,I.wf⟩
theorem fu.say(I:fu K C R H said left)(k:Int):fu K C R (upd H R.sd (.lst (said.map V.int++[.int k]))) (said++[k]) left :=
 ⟨(uN I.xs).trans I.hx,by rw[uS];simp,λa o e=>(uN (nN e I.ns)).trans (I.s0 _ _ e),I.pr,I.nx,I.ns,I.wf⟩
theorem fu.dict(I:fu K C R H said left)(J:gy CC R L H env)(o:HO):fu K C R (upd H L.d o) said left :=
 ⟨(uN (J.dx I).symm).trans I.hx,(uN (J.ds I).symm).trans I.hs,λa o e=>(uN (nN e J.nd)).trans (I.s0 _ _ e),I.pr,I.nx,I.ns,I.wf⟩
end
theorem J9{b sd:Addr}{l l1:Int}:cW "left" (.int l1) (jQ b sd l)=jQ b sd l1:=by
 unfold jQ;rw[L9 (by decide +kernel),L9 (by decide +kernel),UM]
theorem tM{K:aE}{H0 H:Hp}{v:V}{ds:List PyData}(h:aP K H0 v (.tuple ds))(s:aQ H0 H):∃(t:Addr) (ts:List V),v=.ref t/\cg K H t ts/\ts.length=ds.length/\∀(i:Nat) x d,ts[i]?=some x->ds[i]?=some d->aP K H0 x d:=by
 obtain⟨t,ts,e,hT,hR⟩:=aP.gK h;exact⟨t,ts,e,s.tup hT,hR.1,hR.2⟩
theorem aP.cq{K:aE}{H:Hp}{v:V}{x:Str}(h:aP K H v (.str x)):v=.str x:=by cases h;rfl
theorem iU{K:aE}{H0 H:Hp}{v:V}{w:Str}{a:PyData}(h:aP K H0 v (.tuple [.str w,a]))(s:aQ H0 H):∃(t:Addr) (x:V),v=.ref t/\cg K H t [.str w,x]/\aP K H0 x a:=by
 obtain⟨t,ts,e,hT,hl,hR⟩:=tM h s;obtain⟨u0,u1,rfl⟩:=OJ hl;have z:=aP.cq (hR 0 u0 _ rfl rfl);subst z;exact⟨t,u1,e,hT,hR 1 u1 _ rfl rfl⟩
theorem p0{K:aE}{H0 H:Hp}{v:V}{w:Str}{a b:PyData}(h:aP K H0 v (.tuple [.str w,a,b]))(s:aQ H0 H):∃(t:Addr) (x y:V),v=.ref t/\cg K H t [.str w,x,y]/\aP K H0 x a/\aP K H0 y b:=by
 obtain⟨t,ts,e,hT,hl,hR⟩:=tM h s;obtain⟨u0,u1,u2,rfl⟩:=UI hl;have z:=aP.cq (hR 0 u0 _ rfl rfl);subst z;exact⟨t,u1,u2,e,hT,hR 1 u1 _ rfl rfl,hR 2 u2 _ rfl rfl⟩
theorem nZ{K:aE}{H0 H:Hp}{v:V}{w:Str}{a b c:PyData}(h:aP K H0 v (.tuple [.str w,a,b,c]))(s:aQ H0 H):∃(t:Addr) (x y z:V),v=.ref t/\cg K H t [.str w,x,y,z]/\aP K H0 x a/\aP K H0 y b/\aP K H0 z c:=by
 obtain⟨t,ts,e,hT,hl,hR⟩:=tM h s;obtain⟨u0,u1,u2,u3,rfl⟩:=Sa hl;have z:=aP.cq (hR 0 u0 _ rfl rfl);subst z;exact⟨t,u1,u2,u3,e,hT,hR 1 u1 _ rfl rfl,hR 2 u2 _ rfl rfl,hR 3 u3 _ rfl rfl⟩
def endOf:Res->Option (List V)
 | .val k=>some [.str "gave",.int k]
 | .fault k=>some [.str "fault",.int k]
 | .weary=>some [.str "weary"]
 | _=>none
theorem Fu{op:Str}(h:Ft op):op≠"num"/\op≠"var"/\op≠"call"/\op≠"new"/\op≠"get"/\op≠"either":=by
 rcases h with rfl | rfl | rfl | rfl | rfl | rfl | rfl<;>decide +kernel
theorem Fv{K:aE}{i:Nat}{a:Addr}{xs:List V}{σ:St}{H:Hp}{R:It->Hp->Prop}{A B:Prop}(e:σ[i]?=some (some (.ref a)))(hA:A∨B)(h1:A->bK K H a xs)(h2:B->cg K H a xs)(h:∀J,(J=Dw K a/\A)∨(J=LQ K a/\B)->R J H):Pz K (D8 i) σ H R:=by
 refine⟨_,e,a,rfl,?_⟩;rcases hA with hA | hA
 ·exact .inl ⟨⟨_,h1 hA⟩,h _ (.inl ⟨rfl,hA⟩)⟩
 ·exact .inr ⟨⟨_,h2 hA⟩,h _ (.inr ⟨rfl,hA⟩)⟩
theorem NC{own:Nat}{ix:List Nat}{σ:St}{K:aE}{J:It}{a:Addr}{xs:List V}{g:TG}{tt:TT}{te:TE}{H1:Hp}{Q:VK}{D:Addr}{A B:Prop}(hJ:(J=Dw K a/\A)∨(J=LQ K a/\B))(Pv:Nat->List V->Hp->Prop)(hn:xs.length<=sizeLine)(h0:Pv 0 [] (upd H1 D (.lst [])))(hD:∀i ys H,i<=xs.length->Pv i ys H->H D=some (.lst ys)/\ys.length<=i/\(A->bK K H a xs)/\(B->cg K H a xs))
  (hs:∀i x ys H2,xs[i]?=some x->Pv i ys H2->g x (cQ own ix σ) H2 λσ2 H4=>σ2.drop own=(ix.map λi=>(σ[i]?).getD none)/\tt σ2 H4 λb H5=>if b=true then te σ2 H5 λv H6=>H6 D=some (.lst ys)/\Pv (i + 1) (ys++[v]) (upd H6 D (.lst (ys++[v])))else Pv (i + 1) ys H5)
  (hd:∀ys H2,Pv xs.length ys H2->Q (.ref D) H2) :
  LU J own ix σ g tt te D H1 Q:=by
 rcases hJ with⟨rfl,h⟩ | ⟨rfl,h⟩
 ·exact sC Pv hn h0 (λi ys H hi p=>⟨(hD i ys H hi p).1,(hD i ys H hi p).2.1,(hD i ys H hi p).2.2.1 h⟩) hs hd
 ·exact Jk Pv hn h0 (λi ys H hi p=>⟨(hD i ys H hi p).1,(hD i ys H hi p).2.1,(hD i ys H hi p).2.2.2 h⟩) hs hd
structure Sf(K:aE)(C:Addr)(R:RW)(L:CL)(n:Nat)(ts:List PyData)(s s':jK)(r:Res)(H:Hp)(D:Addr)(i:Nat)(zs:List V)(H2:Hp)(si:jK)(ks:List Int)(r':Res):Prop where
 ez:zs=ks.map V.int
 len:ks.length=i
 kp:kc R H H2
 hD:H2 D=some (.lst zs)
 I:fu K C R H2 si.said si.left
 env:si.env=s.env
 ev:Ev R.ps (n + 1) L.dep L.nm (.Es (ts.drop i)) si r' s'
 rr:(∃ks',r'=.vals ks'/\r=.vals (ks++ks'))∨(r'=r/\r.bad=true)
section
variable {K:aE} {C CC:Addr} {R:RW} {L:CL} {H H1:Hp} {said:List Int} {left:Int} {env:Str->Option Int} {a:Addr} {xs:List V}
theorem kc.tup(k:kc R H H1)(I:fu K C R H said left)(h:cg K H a xs):cg K H1 a xs:=by
 rcases h with(h | ⟨o,h⟩) | h
 ·exact .inl (.inl (k _ _ (cz h I.hx (by intro z;cases z)) (cz h I.hs (by intro z;cases z)) h))
 ·exact .inl (.inr ⟨o,k _ _ (cz h I.hx (by intro z;cases z)) (cz h I.hs (by intro z;cases z)) h⟩)
 ·exact .inr h
theorem fu.h0(I:fu K C R H said left)(h:H a=none):R.H0 a=none:=by
 cases e:R.H0 a with
 | none=>rfl
 | some o=>rw[I.s0 _ _ e]at h;cases h
theorem fu.other(I:fu K C R H said left)(nx:a≠R.x)(ns:a≠R.sd)(n0:R.H0 a=none)(o:HO):fu K C R (upd H a o) said left :=
 ⟨(uN nx.symm).trans I.hx,(uN ns.symm).trans I.hs,λc u e=>(uN (nN e n0)).trans (I.s0 _ _ e),I.pr,I.nx,I.ns,I.wf⟩
theorem kc.new(k:kc R H H1)(n:H a=none)(o:HO):kc R H (upd H1 a o):=λc u n1 n2 e=>(uN (nN e n)).trans (k c u n1 n2 e)
end
theorem Ev.UN{ps:List kU}{n:Nat}{d:Int}{m:List Str}{ts:List PyData}{s s':jK}{r:Res}(h:Ev ps n d m (.Es ts) s r s'):(∃ks,r=.vals ks)∨r.bad=true:=by
 cases h with
 | nil=>exact .inl ⟨_,rfl⟩
 | cons _ _=>exact .inl ⟨_,rfl⟩
 | consB _ b=>exact .inr b
 | consC _ _ b=>exact .inr b
theorem kc.OK{R:RW}{H:Hp}{o:HO}:kc R H (upd H R.x o):=λ_ _ n _ h=>(uN n).trans h
theorem p4{p:Int}{d:Addr}:(zQ p d).lookup ("depth" : Str)=some (.int p):=NA
theorem Cg:∀{l:List Key} {nm:List Str},l.Nodup->(∀k∈l,∃y∈nm,k=Sum.inr y)->l.length<=nm.length
 | [],_,_,_=>XZ _
 | k::r,nm,nd,h=>by
  obtain⟨y,hy,e⟩:=h k W7;obtain⟨n1,n2⟩:=Y2.mp nd
  have z:=Cg (l:=r) (nm:=nm.erase y) n2 λk' hk'=>by
   obtain⟨y',hy',e'⟩:=h k' (W9 _ hk');refine⟨y',(List.mem_erase_of_ne λw=>n1 ?_).mpr hy',e'⟩;rw[e,← w,← e'];exact hk'
  rw[List.length_erase_of_mem hy]at z;have:=List.length_pos_of_mem hy;rw[Xi];omega
theorem rR{kvs:List (Key×V)}{k:Key}{v:V}(nd:(kvs.map (·.1)).Nodup):((putK kvs k v).map (·.1)).Nodup/\∀k'∈(putK kvs k v).map (·.1),k'∈kvs.map (·.1)∨k'=k:=by
 unfold putK;split
 ·have e:(kvs.map λkv=>if kv.1=k then(kv.1,v)else kv).map (·.1)=kvs.map (·.1):=by
   rw[Yp];refine List.map_congr_left λp _=>?_
   show(if p.1=k then(p.1,v)else p).1=p.1;split<;>rfl
  rw[e];exact⟨nd,λk' h=>.inl h⟩
 ·rename_i h;rw[List.map_append];refine⟨List.nodup_append.mpr ⟨nd,by simp,λa ha b hb w=>h ?_⟩,λk' hk'=>?_⟩
  ·rw[List.map_singleton,Xq]at hb;obtain⟨p,hp,e⟩:=YA.mp ha;exact List.any_eq_true.mpr ⟨p,hp,XM (e.trans (w.trans hb))⟩
  ·rcases X9.mp hk' with z | z
   ·exact .inl z
   ·rw[List.map_singleton,Xq]at z;exact .inr z
theorem gy.put{CC:Addr}{R:RW}{L:CL}{H:Hp}{env:Str->Option Int}(J:gy CC R L H env){x:Str}(hx:x∈L.nm)(k:Int):∃o:HO,zz H L.d (.str x) (.int k) (upd H L.d o)/\gy CC R L (upd H L.d o) (jR x k env):=by
 obtain⟨kvs,h,nd,hk,hv⟩:=J.hd;have l:=Cg nd hk;rw[WY]at l;have f:=J.few;refine⟨_,zz.k (k:=Sum.inr x) h (sK (by omega)),⟨(uN J.cd).trans J.hc,⟨_,uS,(rR nd).1,λk' hk'=>?_,λy=>?_⟩,J.nd,J.few⟩⟩
 ·rcases (rR nd).2 k' hk' with z | z
  ·exact hk k' z
  ·exact⟨x,hx,z⟩
 ·rw[Bz];unfold jR;by_cases e:y=x
  ·rw[W4 (by rw[e]),W4 e];rfl
  ·rw[W2 (λz=>e (Y3 z)),W2 e];exact hv y
theorem oq.P8{R:RW}{L:CL}{H:Hp}{o:HO}:oq R L H (upd H L.d o):=λ_ _ _ _ n h=>(uN n).trans h
theorem oq.UO{R:RW}{L:CL}{H:Hp}{o:HO}:oq R L H (upd H R.sd o):=λ_ _ _ n _ h=>(uN n).trans h
theorem oq.tup{K:aE}{C CC:Addr}{R:RW}{L:CL}{H H1:Hp}{said:List Int}{left:Int}{env:Str->Option Int}{a:Addr}{xs:List V}(k:oq R L H H1)(I:fu K C R H said left)(J:gy CC R L H env)(h:cg K H a xs):cg K H1 a xs:=by
 obtain⟨kvs,hd,_⟩:=J.hd;rcases h with(h | ⟨o,h⟩) | h
 ·exact .inl (.inl (k _ _ (cz h I.hx (by intro z;cases z)) (cz h I.hs (by intro z;cases z)) (cz h hd (by intro z;cases z)) h))
 ·exact .inl (.inr ⟨o,k _ _ (cz h I.hx (by intro z;cases z)) (cz h I.hs (by intro z;cases z)) (cz h hd (by intro z;cases z)) h⟩)
 ·exact .inr h
theorem Ev.Aq{ps:List kU}{n:Nat}{d:Int}{m:List Str}{t:PyData}{s s':jK}{r:Res}(h:Ev ps (n + 1) d m (.S t) s r s'):(∃e r1 s1,Arg t e/\Ev ps n d m (.E e) s r1 s1/\((∃k,r1=.val k/\Act m t e k s1 r s')∨(r1.bad=true/\r1=r/\s1=s')))∨(NB t/\Ev ps n d m (.N t) s r s'):=by
 cases h with
 | sG h a=>exact .inl ⟨_,_,_,a.arg,h,.inl ⟨_,rfl,a⟩⟩
 | sB a h b=>exact .inl ⟨_,_,_,a,h,.inr ⟨b,rfl,rfl⟩⟩
 | sN a h=>exact .inr ⟨a,h⟩
def Tk.UP:Tk->Bool
 | .Ss _=>true
 | .S _=>true
 | .N _=>true
 | .W _ _=>true
 | .T _ _ _=>true
 | _=>false
theorem Ev.Ka{ps:List kU}{n:Nat}{d:Int}{m:List Str}{t:Tk}{s s':jK}{r:Res}(h:Ev ps n d m t s r s'):t.UP=true->r=.ok∨r.bad=true:=by
 induction h with
 | ssN=>intro _;exact .inl rfl
 | ssC _ _ _ i2=>intro _;exact i2 rfl
 | ssB _ b _=>intro _;exact .inr b
 | sG _ a _=>intro _;cases a<;>first | exact .inl rfl | exact .inr rfl
 | sB _ _ b _=>intro _;exact .inr b
 | sN _ _ ih=>intro _;exact ih rfl
 | ifG _ _ _ i2=>intro _;exact i2 rfl
 | LS _ b _=>intro _;exact .inr b
 | wh _ ih=>intro _;exact ih rfl
 | w0 _ _=>intro _;exact .inl rfl
 | wB _ b _=>intro _;exact .inr b
 | wL _ _ _ b _ _=>intro _;exact .inr b
 | wS _ _ _ _ _ _=>intro _;exact .inr rfl
 | wM _ _ _ _ _ _ _ i3=>intro _;exact i3 rfl
 | tr _ ih=>intro _;exact ih rfl
 | tG _ _ ih=>intro _;exact ih rfl
 | tF _ _ _ _ i2=>intro _;exact i2 rfl
 | _=>intro z;cases z
theorem ke.drop{Q:VK}{r:Res}{H:Hp}(h:r=.ok∨r.bad=true)(q:ke Q r H):ke (λ_ H=>Q .non H) r H:=by
 rcases h with rfl | h
 ·exact q
 ·exact ke.bad h
theorem Ev.P9{ps:List kU}{n:Nat}{d:Int}{m:List Str}{t:Tk}{s s':jK}{r:Res}(h:Ev ps n d m t s r s'):(t.Sb=true∨∃p ks,t=.G p ks)->∀k,r≠.gave k:=by
 induction h with
 | num=>intro _ _ z;cases z
 | var _=>intro _ _ z;cases z
 | nil=>intro _ _ z;cases z
 | callE _ _ ih=>intro _;exact ih (.inl rfl)
 | two _ _ ih=>intro _;exact ih (.inl rfl)
 | cons _ _ _ _=>intro _ _ z;cases z
 | consB _ _ ih=>intro _;exact ih (.inl rfl)
 | consC _ _ _ _ i2=>intro _;exact i2 (.inl rfl)
 | clB _ _ ih=>intro _;exact ih (.inl rfl)
 | clW _ _ _=>intro _ _ z;cases z
 | clD _ _ _ _=>intro _ _ z;cases z
 | clG _ _ _ _ _ i2=>intro _;exact i2 (.inr ⟨_,_,rfl⟩)
 | gB _ _ _ _ _ i2=>intro _;exact i2 (.inl rfl)
 | gG _ _ _ _=>intro _ _ z;cases z
 | gX _ _ _ _ h _=>intro _;exact h
 | twB _ _ ih=>intro _;exact ih (.inl rfl)
 | twG _ _ _ _ _=>intro _ _ z;cases z
 | _=>intro z;rcases z with z | ⟨_,_,z⟩<;>cases z
theorem yR:∀(ns:List Str) (ks:List Int) (y:Str),gJ ((ns.zip (ks.map V.int)).map λp=>((Sum.inr p.1:Key),p.2)) (Sum.inr y)=(envOf ns ks y).map V.int
 | [],_,_=>rfl
 | _::_,[],_=>rfl
 | a::ns,k::ks,y=>by
  have ih:=yR ns ks y;unfold envOf at ih ⊢;show gJ (((Sum.inr a:Key),V.int k)::((ns.zip (ks.map V.int)).map λp=>((Sum.inr p.1:Key),p.2))) (Sum.inr y)=(((a,k)::ns.zip ks).find? _ |>.map _).map _;by_cases e:a=y
  ·rw[cA (by rw[e]),List.find?_cons_of_pos (by simpa using e)];rfl
  ·rw[cB (λz=>e (Sum.inr.inj z)),List.find?_cons_of_neg (by simpa using e)];exact ih
theorem rS{ns:List Str}{ks:List Int}(h:ks.length=ns.length):((ns.zip (ks.map V.int)).map λp=>((Sum.inr p.1:Key),p.2)).map (·.1)=ns.map Sum.inr:=by
 rw[Yp];show(ns.zip (ks.map V.int)).map (λp=>(Sum.inr p.1:Key))=_;rw[show(λp:Str×V=>(Sum.inr p.1:Key))=Sum.inr ∘ Prod.fst from rfl,← Yp,List.map_fst_zip (by rw[WY];omega)]
def Tk.UQ:Tk->Bool
 | .E _=>true
 | .Cl _ _=>true
 | .Tw _ _ _=>true
 | .G _ _=>true
 | _=>false
theorem Ev.vR{ps:List kU}{n:Nat}{d:Int}{m:List Str}{t:Tk}{s s':jK}{r:Res}(h:Ev ps n d m t s r s'):t.UQ=true->(∃k,r=.val k)∨r.bad=true:=by
 induction h with
 | num=>intro _;exact .inl ⟨_,rfl⟩
 | var _=>intro _;exact .inl ⟨_,rfl⟩
 | callE _ _ ih=>intro _;exact ih rfl
 | two _ _ ih=>intro _;exact ih rfl
 | clB _ b _=>intro _;exact .inr b
 | clW _ _ _=>intro _;exact .inr rfl
 | clD _ _ _ _=>intro _;exact .inr rfl
 | clG _ _ _ _ _ i2=>intro _;exact i2 rfl
 | gB _ _ _ _ _ i2=>intro _;exact i2 rfl
 | gG _ _ _ _=>intro _;exact .inl ⟨_,rfl⟩
 | gX _ _ _ b _ _=>intro _;exact .inr b
 | twB _ b _=>intro _;exact .inr b
 | twG _ _ _ _ _=>intro _;exact .inl ⟨_,rfl⟩
 | _=>intro z;cases z
def aM(ns:List Int):List PyData:=ns.map PyData.int
structure n8(src:List Int):Prop where
 ne:src≠[]
 few:src.length<=100
inductive iA:Nat->Nat->List PyData->Prop where
 | nil {n:Nat}:iA n 0 []
 | say {n c:Nat} {w:Int} {ts:List PyData}:iT w->iA n c ts->iA n (c + 1) (.tuple [.str "say",.int w]::ts)
 | echo {n c:Nat} {w:Int} {ts:List PyData}:iT w->iA n c ts->iA n (c + 1) (.tuple [.str "echo",.int w]::ts)
 | give {n c:Nat} {w:Int} {ts:List PyData}:iT w->iA n c ts->iA n (c + 1) (.tuple [.str "give",.int w]::ts)
 | ifs {n c ca cb k:Nat} {a b ts:List PyData}:k < 2->iA n ca a->iA n cb b->iA (n + 1) c ts->iA (n + 1) (c + ca + cb + 1) (.tuple [.str "if",.int (k:Int),.list a,.list b]::ts)
 | loop {n c ci way sel:Nat} {uv:Int} {a ts:List PyData}:way < 3->iT uv->sel < 4->iA n ci a->iA (n + 1) c ts->iA (n + 1) (c + ci + 1) (.tuple [.str "loop",.int (way:Int),.int uv,.int (sel:Int),.list a]::ts)
theorem iA.app{n c d:Nat}{ts us:List PyData}(h:iA n c ts)(g:iA n d us):iA n (c + d) (ts++us):=by
 induction h with
 | nil=>rw[Nat.zero_add];exact g
 | say w _ ih=>rw[YE];exact .say w (ih g)
 | echo w _ ih=>rw[YE];exact .echo w (ih g)
 | give w _ ih=>rw[YE];exact .give w (ih g)
 | @ifs n c ca cb k a b ts hk h1 h2 _ _ _ ih =>
  rw[show c + ca + cb + 1 + d=(c + d) + ca + cb + 1 by omega];exact .ifs hk h1 h2 (ih g)
 | @loop n c ci way sel uv a ts h1 h2 h3 h4 _ _ ih =>
  rw[show c + ci + 1 + d=(c + d) + ci + 1 by omega];exact .loop h1 h2 h3 h4 (ih g)
def Qa(n room i:Nat)(env:bG)(st:aB):Prop:=∃(ts:List PyData) (c:Nat) (src:List Int) (n9:Nat) (o4 o5 o6 o7 o8:Option DV),env=[some (.ref 0),some (.dat (.int (n:Int))),some (.ref 1),some (.ref 2),o4,o5,o6,o7,o8]/\st=[.live (aM src),.live [.int (n9:Int)],.live ts]/\iA n c ts/\ts.length<=i/\n8 src/\c + n9=room
theorem ND{A B P G L:Prop}[Decidable A][Decidable B](p:P)(g:G)(l:L):if decide A=true then(P/\if decide B=true then G else L)else L:=by
 by_cases h:A
 ·rw[W4 (XM h)];refine⟨p,?_⟩;by_cases h2:B
  ·rw[W4 (XM h2)];exact g
  ·rw[if_neg (by simpa using h2)];exact l
 ·rw[if_neg (by simpa using h)];exact l
theorem iA.len{n c:Nat}{ts:List PyData}(h:iA n c ts):ts.length<=c:=by
 induction h with
 | nil=>exact WU _
 | say _ _ ih=>rw[Xi];omega
 | echo _ _ ih=>rw[Xi];omega
 | give _ _ ih=>rw[Xi];omega
 | ifs _ _ _ _ _ _ ih=>rw[Xi];omega
 | loop _ _ _ _ _ _ ih=>rw[Xi];omega
theorem vD(a b:Str):(a++b).length=a.length + b.length:=by
 show(a.cps++b.cps).size=_;exact Array.size_append
structure Nm where
 n0:Str
 n1:Str
 pre:Str
 suf:Str
 echo:Nat
def Nm.x(m:Nm)(c:Nat):Str:=m.pre++⟨#[97 + c / 26 % 26]⟩++⟨#[97 + c % 26]⟩++m.suf
def mj(w:Int):PyData:=.tuple [.str "num",.int w]
def kO(x:Str):PyData:=.tuple [.str "var",.str x]
def Nm.uv(m:Nm)(b:Int)(sel:Nat):PyData:=if sel < 2 then mj b else if sel=2 then kO m.n0 else kO m.n1
def Nm.ask(m:Nm)(x:Str)(way:Nat):PyData:=if way=0 then kO x else if way=1 then .tuple [.str "less",mj 0,kO x]else .tuple [.str "call",.int (m.echo:Int),.list [kO x]]
def vF(x:Str):PyData:=.tuple [.str "set",.str x,.tuple [.str "sub",kO x,mj 1]]
inductive mP(m:Nm):Nat->Nat->List PyData->List PyData->Prop where
 | nil {c:Nat}:mP m c c [] []
 | say {c c':Nat} {w:Int} {ts bs:List PyData}:mP m c c' ts bs->mP m c c' (.tuple [.str "say",.int w]::ts) (.tuple [.str "say",mj w]::bs)
 | echo {c c':Nat} {w:Int} {ts bs:List PyData}:mP m c c' ts bs->mP m c c' (.tuple [.str "echo",.int w]::ts) (.tuple [.str "drop",.tuple [.str "call",.int (m.echo:Int),.list [mj w]]]::bs)
 | give {c c':Nat} {w:Int} {ts bs:List PyData}:mP m c c' ts bs->mP m c c' (.tuple [.str "give",.int w]::ts) (.tuple [.str "give",mj w]::bs)
 | ifs {c c1 c2 c':Nat} {k:Int} {a a' b b' ts bs:List PyData}:mP m c c1 a a'->mP m c1 c2 b b'->mP m c2 c' ts bs->mP m c c' (.tuple [.str "if",.int k,.list a,.list b]::ts) (.tuple [.str "if",mj k,.list a',.list b']::bs)
 | loop {c c1 c' way sel:Nat} {uv:Int} {a a' ts bs:List PyData}:mP m (c + 1) c1 a a'->mP m c1 c' ts bs->mP m c c' (.tuple [.str "loop",.int (way:Int),.int uv,.int (sel:Int),.list a]::ts)
   (.tuple [.str "let",.str (m.x c),.tuple [.str "number"],m.uv uv sel]::.tuple [.str "while",m.ask (m.x c) way,.list (a'++[vF (m.x c)])]::bs)
theorem mP.app{m:Nm}{c c1 c2:Nat}{ts bs us ds:List PyData}(h:mP m c c1 ts bs):mP m c1 c2 us ds->mP m c c2 (ts++us) (bs++ds):=by
 induction h with
 | nil=>intro g;exact g
 | say _ ih=>intro g;exact .say (ih g)
 | echo _ ih=>intro g;exact .echo (ih g)
 | give _ ih=>intro g;exact .give (ih g)
 | ifs h1 h2 _ _ _ ih=>intro g;exact .ifs h1 h2 (ih g)
 | loop h1 _ _ ih=>intro g;exact .loop h1 (ih g)
theorem HU:∀i:Nat,i < 26->oA (Str.ofString "abcdefghijklmnopqrstuvwxyz").cps.toList (i:Int)=some (97 + i):=by decide +kernel
def Si(m:Nm)(deep cnt c0:Nat)(ts:List PyData)(i:Nat)(env:bG)(st:aB):Prop:=∃(bs:List PyData) (c1 cr:Nat) (o5 o6 o7 o8 o9 rT:Option DV),env=[some (.dat (.list ts)),some (.dat (.list [.str m.n0,.str m.n1,.str m.pre,.str m.suf])),some (.dat (.int (m.echo:Int))),some (.ref 0),some (.ref 1),o5,o6,o7,o8,o9,rT]/\st=[.live [.int (c1:Int)],.live bs]/\mP m c0 c1 (ts.take i) bs/\iA deep cr (ts.drop i)/\c1 + cr<=c0 + cnt/\bs.length<=2 * i
inductive tN where
 | gave (k:Int) | weary
structure jS where
 said:List Int
 left:Int
 fin:Option tN
inductive Goes(way:Nat)(cnt:Int):jS->Bool->jS->Prop where
 | w0 {s:jS}:way=0->Goes way cnt s (!decide (cnt=0)) s
 | w1 {s:jS}:way=1->Goes way cnt s (decide (0 < cnt)) s
 | wW {s:jS}:way=2->s.left=0->Goes way cnt s false {s with fin:=some .weary}
 | w2 {s:jS}:way=2->0 < s.left->s.said.length < 1000000->Goes way cnt s (!decide (cnt=0)) {s with said:=s.said++[cnt],left:=s.left - 1}
inductive Tq where
 | L (ts:List PyData) | W (way:Nat) (cnt:Int) (a:List PyData)
def jm(i0 i1 b:Int)(sel:Nat):Int:=if sel < 2 then b else if sel=2 then i0 else i1
inductive Do(i0 i1:Int):Tq->jS->jS->Prop where
 | nil {s}:Do i0 i1 (.L []) s s
 | skip {t ts} {s:jS}:s.fin≠none->Do i0 i1 (.L (t::ts)) s s
 | say {w ts} {s s':jS}:s.fin=none->s.said.length < 1000000->Do i0 i1 (.L ts) {s with said:=s.said++[w]} s'->Do i0 i1 (.L (.tuple [.str "say",.int w]::ts)) s s'
 | echoG {w ts} {s s':jS}:s.fin=none->s.said.length < 1000000->0 < s.left->Do i0 i1 (.L ts) {s with said:=s.said++[w],left:=s.left - 1} s'->Do i0 i1 (.L (.tuple [.str "echo",.int w]::ts)) s s'
 | echoW {w ts} {s s':jS}:s.fin=none->s.left=0->Do i0 i1 (.L ts) {s with fin:=some .weary} s'->Do i0 i1 (.L (.tuple [.str "echo",.int w]::ts)) s s'
 | give {w ts} {s s':jS}:s.fin=none->Do i0 i1 (.L ts) {s with fin:=some (.gave w)} s'->Do i0 i1 (.L (.tuple [.str "give",.int w]::ts)) s s'
 | ifs {k:Nat} {a b ts} {s s1 s':jS}:s.fin=none->Do i0 i1 (.L (if k=0 then b else a)) s s1->Do i0 i1 (.L ts) s1 s'->Do i0 i1 (.L (.tuple [.str "if",.int (k:Int),.list a,.list b]::ts)) s s'
 | loop {way sel:Nat} {b:Int} {a ts} {s s1 s':jS}:s.fin=none->Do i0 i1 (.W way (jm i0 i1 b sel) a) s s1->Do i0 i1 (.L ts) s1 s'->Do i0 i1 (.L (.tuple [.str "loop",.int (way:Int),.int b,.int (sel:Int),.list a]::ts)) s s'
 | wStop {way cnt a s s1}:Goes way cnt s false s1->Do i0 i1 (.W way cnt a) s s1
 | wFin {way cnt a s s1} {s2:jS}:Goes way cnt s true s1->Do i0 i1 (.L a) s1 s2->s2.fin≠none->Do i0 i1 (.W way cnt a) s s2
 | wWeary {way cnt a s s1} {s2:jS}:Goes way cnt s true s1->Do i0 i1 (.L a) s1 s2->s2.fin=none->s2.left=0->Do i0 i1 (.W way cnt a) s {s2 with fin:=some .weary}
 | wMore {way cnt a s s1 s3} {s2:jS}:Goes way cnt s true s1->Do i0 i1 (.L a) s1 s2->s2.fin=none->0 < s2.left->Do i0 i1 (.W way (dw (cnt - 1)) a) {s2 with left:=s2.left - 1} s3->Do i0 i1 (.W way cnt a) s s3
theorem Goes.le{way:Nat}{cnt:Int}{s s':jS}{b:Bool}(h:Goes way cnt s b s'):s'.left<=s.left/\(0<=s.left->0<=s'.left):=by
 cases h with
 | w0 _=>exact⟨Xz _,id⟩
 | w1 _=>exact⟨Xz _,id⟩
 | wW _ _=>exact⟨Xz _,id⟩
 | w2 _ h _=>dsimp only;exact⟨by omega,λ_=>by omega⟩
theorem Do.le{i0 i1:Int}{t:Tq}{s s':jS}(h:Do i0 i1 t s s'):s'.left<=s.left/\(0<=s.left->0<=s'.left):=by
 induction h with
 | nil=>exact⟨Xz _,id⟩
 | skip _=>exact⟨Xz _,id⟩
 | say _ _ _ ih=>exact ih
 | echoG _ _ h _ ih=>dsimp only at ih;exact⟨by omega,λ_=>ih.2 (by omega)⟩
 | echoW _ _ _ ih=>exact ih
 | give _ _ ih=>exact ih
 | ifs _ _ _ i1 i2=>exact⟨XI i2.1 i1.1,λz=>i2.2 (i1.2 z)⟩
 | loop _ _ _ i1 i2=>exact⟨XI i2.1 i1.1,λz=>i2.2 (i1.2 z)⟩
 | wStop g=>exact g.le
 | wFin g _ _ ih=>exact⟨XI ih.1 g.le.1,λz=>ih.2 (g.le.2 z)⟩
 | wWeary g _ _ _ ih=>exact⟨XI ih.1 g.le.1,λz=>ih.2 (g.le.2 z)⟩
 | wMore g _ _ _ _ i1 i2 =>
  have z:=g.le;dsimp only at i2;exact⟨by omega,λ_=>i2.2 (by omega)⟩
theorem Do.done{i0 i1:Int}{ts:List PyData}{s s':jS}(h:Do i0 i1 (.L ts) s s')(f:s.fin≠none):s'=s:=by
 cases h with
 | nil=>rfl
 | skip _=>rfl
 | say z _ _=>exact absurd z f
 | echoG z _ _ _=>exact absurd z f
 | echoW z _ _=>exact absurd z f
 | give z _=>exact absurd z f
 | ifs z _ _=>exact absurd z f
 | loop z _ _=>exact absurd z f
def vt(K:aE)(H:Hp)(fv:V):Option tN->Prop
 | none=>fv=.non
 | some (.gave k)=>∃t,fv=.ref t/\cg K H t [.str "gave",.int k]
 | some .weary=>∃t,fv=.ref t/\cg K H t [.str "weary"]
theorem vt.fM{K:aE}{H:Hp}{fv:V}{f:Option tN}(h:vt K H fv f):fv=.non↔f=none:=by
 cases f with
 | none=>exact⟨λ_=>rfl,λ_=>h⟩
 | some x =>
  cases x with
  | gave k=>obtain⟨t,rfl,_⟩:=h;exact⟨λz=>(nomatch z),λz=>(nomatch z)⟩
  | weary=>obtain⟨t,rfl,_⟩:=h;exact⟨λz=>(nomatch z),λz=>(nomatch z)⟩
structure qz(K:aE)(H0:Hp)(a l:Addr)(fv:V)(H:Hp)(s:jS):Prop where
 ha:H a=some (.lst [.ref l,.int s.left,fv])
 hf:vt K H fv s.fin
 hl:H l=some (.lst (s.said.map V.int))
 ne:a≠l
 s0:aQ H0 H
 na:H0 a=none
 nl:H0 l=none
theorem vt.same{K:aE}{H H':Hp}{fv:V}{f:Option tN}(h:vt K H fv f)(s:∀t xs,cg K H t xs->cg K H' t xs):vt K H' fv f:=by
 cases f with
 | none=>exact h
 | some x =>
  cases x with
  | gave k=>obtain⟨t,e,z⟩:=h;exact⟨t,e,s _ _ z⟩
  | weary=>obtain⟨t,e,z⟩:=h;exact⟨t,e,s _ _ z⟩
theorem oK{K:aE}{H:Hp}{a:Addr}{ys zs:List V}(h:H a=some (.lst ys))(t:Addr)(xs:List V)(z:cg K H t xs):cg K (upd H a (.lst zs)) t xs:=by
 rcases z with(z | ⟨o,z⟩) | z
 ·exact .inl (.inl ((uN (cz z h (by intro w;cases w))).trans z))
 ·exact .inl (.inr ⟨o,(uN (cz z h (by intro w;cases w))).trans z⟩)
 ·exact .inr z
section
variable {K:aE} {H0 H:Hp} {a l:Addr} {fv:V} {s:jS}
theorem qz.same{H':Hp}(I:qz K H0 a l fv H s)(e:aQ H H'):qz K H0 a l fv H' s:=⟨e _ _ I.ha,I.hf.same λ_ _ z=>e.tup z,e _ _ I.hl,I.ne,I.s0.trans e,I.na,I.nl⟩
theorem qz.left(I:qz K H0 a l fv H s)(k:Int):qz K H0 a l fv (upd H a (.lst [.ref l,.int k,fv])) {s with left:=k} :=
 ⟨uS,I.hf.same (oK I.ha),(uN I.ne.symm).trans I.hl,I.ne,λc o e=>(uN (nN e I.na)).trans (I.s0 _ _ e),I.na,I.nl⟩
theorem qz.put(I:qz K H0 a l fv H s){fw:V}{f:Option tN}(h:vt K H fw f):qz K H0 a l fw (upd H a (.lst [.ref l,.int s.left,fw])) {s with fin:=f} :=
 ⟨uS,h.same (oK I.ha),(uN I.ne.symm).trans I.hl,I.ne,λc o e=>(uN (nN e I.na)).trans (I.s0 _ _ e),I.na,I.nl⟩
theorem qz.say(I:qz K H0 a l fv H s)(k:Int):qz K H0 a l fv (upd H l (.lst (s.said.map V.int++[.int k]))) {s with said:=s.said++[k]} :=
 ⟨(uN I.ne).trans I.ha,I.hf.same (oK I.hl),by rw[uS];simp,I.ne,λc o e=>(uN (nN e I.nl)).trans (I.s0 _ _ e),I.na,I.nl⟩
end
theorem iA.tail{n c:Nat}{t:PyData}{ts:List PyData}(h:iA n c (t::ts)):∃c',iA n c' ts:=by cases h<;>exact⟨_,by assumption⟩
theorem NF{K:aE}{H0 H:Hp}{v:V}{w:Str}{a b c d:PyData}(h:aP K H0 v (.tuple [.str w,a,b,c,d]))(s:aQ H0 H):∃(t:Addr) (x y z u:V),v=.ref t/\cg K H t [.str w,x,y,z,u]/\aP K H0 x a/\aP K H0 y b/\aP K H0 z c/\aP K H0 u d:=by
 obtain⟨t,ts,e,hT,hl,hR⟩:=tM h s;obtain⟨u0,u1,u2,u3,u4,rfl⟩:=UJ hl;have z:=aP.cq (hR 0 u0 _ rfl rfl);subst z;exact⟨t,u1,u2,u3,u4,e,hT,hR 1 u1 _ rfl rfl,hR 2 u2 _ rfl rfl,hR 3 u3 _ rfl rfl,hR 4 u4 _ rfl rfl⟩
theorem Ci{i0 i1 b:Int}{sel:Nat}(h:sel < 4):oA [V.int b,.int b,.int i0,.int i1] (sel:Int)=some (.int (jm i0 i1 b sel)):=by
 have z:sel=0∨sel=1∨sel=2∨sel=3:=by omega
 rcases z with rfl | rfl | rfl | rfl
 ·exact ji (j:=0) rfl
 ·exact ji (j:=1) rfl
 ·exact ji (j:=2) rfl
 ·exact ji (j:=3) rfl
theorem Qb{w:Str}:∀ks:List Int,ks.length<=2->cutD (.str w::aM ks) (some 1) none=aM ks
 | [],_=>rfl
 | [_],_=>rfl
 | [_,_],_=>rfl
theorem Fw{ns:List Int}{i:Nat}{d:PyData}(h:(aM ns)[i]?=some d):∃k,d=.int k:=by
 unfold aM at h;rw[List.getElem?_map]at h
 cases e:ns[i]? with
 | none=>rw[e]at h;cases h
 | some k=>rw[e]at h;cases h;exact⟨k,rfl⟩
theorem nk(a b:List Int):aM (a++b)=aM a++aM b:=Yd
theorem kJ(a:List Int):(aM a).length=a.length:=WY _
def mu(s:jS):Int:=(s.said.length:Int) + 100 * s.left
theorem Goes.ex(way:Nat)(hw:way < 3)(cnt:Int)(s:jS)(h0:0<=s.left)(hf:s.fin=none)(hm:mu s<=100000):∃b s',Goes way cnt s b s'/\mu s'<=mu s/\(b=true->s'.fin=none):=by
 have z:way=0∨way=1∨way=2:=by omega
 unfold mu at hm ⊢;rcases z with rfl | rfl | rfl
 ·exact⟨_,_,.w0 rfl,Xz _,λ_=>hf⟩
 ·exact⟨_,_,.w1 rfl,Xz _,λ_=>hf⟩
 ·by_cases e:s.left=0
  ·exact⟨_,_,.wW rfl e,Xz _,λz=>(nomatch z)⟩
  ·refine⟨_,_,.w2 rfl (by omega) (by omega),?_,λ_=>hf⟩;dsimp only;rw[List.length_append,List.length_singleton];omega
theorem Do.ex{i0 i1:Int}{n c:Nat}{ts:List PyData}(h:iA n c ts):c<=90->∀s:jS,0<=s.left->mu s + c<=100000->∃s',Do i0 i1 (.L ts) s s'/\mu s'<=mu s + c:=by
 induction h with
 | nil=>intro _ s _ _;exact⟨s,.nil,by omega⟩
 | @say n c w ts hw _ ih =>
  intro hc s h0 hm;by_cases f:s.fin=none
  ·unfold mu at hm ih ⊢;obtain⟨s',d,m⟩:=ih (by omega) {s with said:=s.said++[w]} h0 (by dsimp only;rw[List.length_append,List.length_singleton];omega);dsimp only at m;rw[List.length_append,List.length_singleton]at m;exact⟨s',.say f (by omega) d,by omega⟩
  ·exact⟨s,.skip f,by omega⟩
 | @echo n c w ts hw _ ih =>
  intro hc s h0 hm;by_cases f:s.fin=none
  ·unfold mu at hm ih ⊢;by_cases e:s.left=0
   ·obtain⟨s',d,m⟩:=ih (by omega) {s with fin:=some .weary} h0 (by dsimp only;omega);exact⟨s',.echoW f e d,by dsimp only at m;omega⟩
   ·obtain⟨s',d,m⟩:=ih (by omega) {s with said:=s.said++[w],left:=s.left - 1} (by dsimp only;omega) (by dsimp only;rw[List.length_append,List.length_singleton];omega);dsimp only at m;rw[List.length_append,List.length_singleton]at m;exact⟨s',.echoG f (by omega) (by omega) d,by omega⟩
  ·exact⟨s,.skip f,by omega⟩
 | @give n c w ts hw _ ih =>
  intro hc s h0 hm;by_cases f:s.fin=none
  ·obtain⟨s',d,m⟩:=ih (by omega) {s with fin:=some (.gave w)} h0 (by unfold mu at hm ⊢;dsimp only;omega);exact⟨s',.give f d,by unfold mu at m ⊢;dsimp only at m;omega⟩
  ·exact⟨s,.skip f,by omega⟩
 | @ifs n c ca cb k a b ts hk _ _ _ ia ib ih =>
  intro hc s h0 hm;by_cases f:s.fin=none
  ·by_cases e:k=0
   ·obtain⟨s1,d1,m1⟩:=ib (by omega) s h0 (by omega);obtain⟨s',d,m⟩:=ih (by omega) s1 (d1.le.2 h0) (by omega);exact⟨s',.ifs f (by rw[W4 e];exact d1) d,by omega⟩
   ·obtain⟨s1,d1,m1⟩:=ia (by omega) s h0 (by omega);obtain⟨s',d,m⟩:=ih (by omega) s1 (d1.le.2 h0) (by omega);exact⟨s',.ifs f (by rw[W2 e];exact d1) d,by omega⟩
  ·exact⟨s,.skip f,by omega⟩
 | @loop n c ci way sel uv a ts hw hb hs _ _ ia ih =>
  intro hc s h0 hm;by_cases f:s.fin=none
  ·have W:∀(k:Nat) (s:jS) (cnt:Int),s.left.toNat<=k->0<=s.left->s.fin=none->mu s + ci + 1<=100000->∃s1,Do i0 i1 (.W way cnt a) s s1/\mu s1<=mu s + ci + 1:=by
    intro k
    induction k with
    | zero =>
     intro s cnt hk h0 f hm;obtain⟨b,sg,g,mg,fg⟩:=Goes.ex way hw cnt s h0 f (by omega)
     cases b with
     | false=>exact⟨sg,.wStop g,by omega⟩
     | true =>
      have lg:=g.le;obtain⟨s2,d2,m2⟩:=ia (by omega) sg (lg.2 h0) (by omega);have l2:=d2.le;by_cases f2:s2.fin=none
      ·exact⟨_,.wWeary g d2 f2 (by omega),by unfold mu at m2 mg ⊢;dsimp only;omega⟩
      ·exact⟨s2,.wFin g d2 f2,by omega⟩
    | succ k ihk =>
     intro s cnt hk h0 f hm;obtain⟨b,sg,g,mg,fg⟩:=Goes.ex way hw cnt s h0 f (by omega)
     cases b with
     | false=>exact⟨sg,.wStop g,by omega⟩
     | true =>
      have lg:=g.le;obtain⟨s2,d2,m2⟩:=ia (by omega) sg (lg.2 h0) (by omega);have l2:=d2.le;by_cases f2:s2.fin=none
      ·by_cases e:s2.left=0
       ·exact⟨_,.wWeary g d2 f2 e,by unfold mu at m2 mg ⊢;dsimp only;omega⟩
       ·have z:=l2.2 (lg.2 h0);obtain⟨s3,d3,m3⟩:=ihk {s2 with left:=s2.left - 1} (dw (cnt - 1)) (by dsimp only;omega) (by dsimp only;omega) f2 (by unfold mu at m2 mg hm ⊢;dsimp only;omega);exact⟨s3,.wMore g d2 f2 (by omega) d3,by unfold mu at m2 mg hm m3 ⊢;dsimp only at m3;omega⟩
      ·exact⟨s2,.wFin g d2 f2,by omega⟩
   obtain⟨s1,d1,m1⟩:=W s.left.toNat s (jm i0 i1 uv sel) (WU _) h0 f (by omega);obtain⟨s',d,m⟩:=ih (by omega) s1 (d1.le.2 h0) (by omega);exact⟨s',.loop f d1 d,by omega⟩
  ·exact⟨s,.skip f,by omega⟩
def rV:kU:=⟨[("z",.num)],.num,[.tuple [.str "say",kO "z"]],kO "z",["z"]⟩
structure Wd(m:Nm)(ps:List kU)(nl:List Str):Prop where
 ec:ps[m.echo]?=some rV
 nx:∀c,c < 100->m.x c∈nl
 inj:∀c c',c < 100->c' < 100->m.x c=m.x c'->c=c'
 x0:∀c,c < 100->m.n0≠m.x c
 x1:∀c,c < 100->m.n1≠m.x c
def zR:Option tN->Res
 | none=>.ok
 | some (.gave k)=>.gave k
 | some .weary=>.weary
theorem ml{f:Option tN}(h:f≠none):(zR f).bad=true:=by
 cases f with
 | none=>exact absurd rfl h
 | some x=>cases x<;>rfl
section
variable {m:Nm} {ps:List kU} {nl:List Str} {k:Nat} {d:Int} {s s1 s2:jK} {r:Res} {e:PyData} {w:Int}
theorem jo:Ev ps (k + 1) d nl (.E (mj w)) s (.val w) s:=.num
theorem iB{x:Str}(h:s.env x=some w):Ev ps (k + 1) d nl (.E (kO x)) s (.val w) s:=.var h
theorem Cj(h:Ev ps k d nl (.E e) s (.val w) s):Ev ps (k + 1) d nl (.Es [e]) s (.vals [w]) s:=.cons h .nil
theorem xo{a b:PyData}{u v:Int}{op:Str}(o:Ft op)(np:¬ parts op)(ha:Ev ps k d nl (.E a) s (.val u) s)(hb:Ev ps k d nl (.E b) s (.val v) s)(hu:iT u)(hv:iT v):Ev ps (k + 3) d nl (.E (.tuple [.str op,a,b])) s (.val (rk op u v)) s :=
 .two o (.twG (.cons ha (.cons hb .nil)) (λz=>absurd z np) hu hv)
theorem yS(W:Wd m ps nl)(h:Ev ps (k + 1) 1 nl (.E e) s (.val w) s)(hl:0 < s.left)(hs:s.said.length < 1000000):Ev ps (k + 6) 1 nl (.E (.tuple [.str "call",.int (m.echo:Int),.list [e]])) s (.val w) ⟨s.said++[w],s.left - 1,s.env⟩:=by
 have g:Ev ps (k + 4) 2 [] (.G m.echo [w]) {s with left:=s.left - 1} (.val w) ⟨s.said++[w],s.left - 1,envOf ["z"] [w]⟩:=by
  have z:envOf ["z"] [w] "z"=some w:=by
   show(([(("z" : Str),w)].find? λq=>decide (q.1=("z" : Str))).map (·.2))=some w;rw[List.find?_cons_of_pos (by simp)];rfl
  refine .gB W.ec rfl (s1:=⟨s.said++[w],s.left - 1,envOf ["z"] [w]⟩) ?_ (iB z);exact .ssC (.sG (iB (s:=⟨s.said,s.left - 1,envOf ["z"] [w]⟩) z) (.say hs)) .ssN
 exact .callE (by show 1<=100;decide) (.clG (ks:=[w]) ((Cj h).mono (by omega)) hl (by decide) g)
theorem vG(h:Ev ps (k + 1) 1 nl (.E e) s (.val w) s)(hl:s.left=0):Ev ps (k + 6) 1 nl (.E (.tuple [.str "call",.int (m.echo:Int),.list [e]])) s .weary s :=
 .callE (by show 1<=100;decide) (.clW ((Cj h).mono (by omega)) (by omega))
theorem Ck{as bs:List PyData}:∀{s s1:jK},Ev ps (k + 1) d nl (.Ss as) s .ok s1->Ev ps (k + 1) d nl (.Ss bs) s1 r s2->Ev ps (k + 1) d nl (.Ss (as++bs)) s r s2:=by
 induction as with
 | nil=>intro s s1 h g;cases h with | ssN=>exact g
 | cons a as ih =>
  intro s s1 h g
  cases h with
  | ssC h1 h2=>exact .ssC h1 (ih h2 g)
  | ssB h1 b=>cases b
theorem Fx{as bs:List PyData}(hb:r.bad=true):∀{s s1:jK},Ev ps (k + 1) d nl (.Ss as) s r s1->Ev ps (k + 1) d nl (.Ss (as++bs)) s r s1:=by
 induction as with
 | nil=>intro s s1 h;cases h with | ssN=>cases hb
 | cons a as ih =>
  intro s s1 h
  cases h with
  | ssC h1 h2=>exact .ssC h1 (ih h2)
  | ssB h1 b=>exact .ssB h1 b
end
theorem tO{m:Nm}{ps:List kU}{nl:List Str}(W:Wd m ps nl){way:Nat}{cnt:Int}{s s':jS}{b:Bool}{env:Str->Option Int}{x:Str}{k:Nat}(g:Goes way cnt s b s')(f:s.fin=none)(hx:env x=some cnt)(hw:iT cnt):
  (s'.fin=none->∃v:Int,(b=true↔v≠0)/\Ev ps (k + 6) 1 nl (.E (m.ask x way)) ⟨s.said,s.left,env⟩ (.val v) ⟨s'.said,s'.left,env⟩)/\(s'.fin≠none->b=false/\s'.fin=some .weary/\Ev ps (k + 6) 1 nl (.E (m.ask x way)) ⟨s.said,s.left,env⟩ .weary ⟨s'.said,s'.left,env⟩):=by
 cases g with
 | w0 h =>
  subst h;exact⟨λ_=>⟨cnt,by simp,iB (s:=⟨s.said,s.left,env⟩) hx⟩,λz=>absurd f z⟩
 | w1 h =>
  subst h;refine⟨λ_=>⟨rk "less" 0 cnt,?_,(xo (k:=k + 1) (s:=⟨s.said,s.left,env⟩) (.inr (.inr (.inr (.inl rfl)))) dv.2.2.2.1 (jo (w:=0)) (iB hx) (by unfold iT;omega) hw).mono (show k + 1 + 3<=k + 6 by omega)⟩,λz=>absurd f z⟩;rw[yO];by_cases z:(0:Int) < cnt
  ·rw[if_pos z];simp[z]
  ·rw[if_neg z];simp[z]
 | wW h hl =>
  subst h;exact⟨λz=>(nomatch z),λ_=>⟨rfl,rfl,vG (s:=⟨s.said,s.left,env⟩) (iB hx) hl⟩⟩
 | w2 h hl hs =>
  subst h;exact⟨λ_=>⟨cnt,by simp,yS (s:=⟨s.said,s.left,env⟩) W (iB hx) hl hs⟩,λz=>absurd f z⟩
def uw(m:Nm)(c c1:Nat)(e e':Str->Option Int):Prop:=∀y,(∀i,c<=i->i < c1->y≠m.x i)->e' y=e y
theorem mP.le{m:Nm}{c c1:Nat}{ts bs:List PyData}(h:mP m c c1 ts bs):c<=c1:=by
 induction h with
 | nil=>exact WU _
 | say _ ih=>exact ih
 | echo _ ih=>exact ih
 | give _ ih=>exact ih
 | ifs _ _ _ a b c=>omega
 | loop _ _ a b=>omega
theorem uw.trans{m:Nm}{c c1 c2:Nat}{e e1 e2:Str->Option Int}(a:uw m c c1 e e1)(b:uw m c1 c2 e1 e2)(h1:c<=c1)(h2:c1<=c2):uw m c c2 e e2:=λy hy=>(b y λi a b=>hy i (by omega) b).trans (a y λi a b=>hy i a (by omega))
theorem uw.up{m:Nm}{c c1 c' c2:Nat}{e e1:Str->Option Int}(a:uw m c c1 e e1)(h1:c'<=c)(h2:c1<=c2):uw m c' c2 e e1:=λy hy=>a y λi a b=>hy i (by omega) (by omega)
structure Kb(m:Nm)(i0 i1:Int)(e:Str->Option Int):Prop where
 e0:e m.n0=some i0
 e1:e m.n1=some i1
theorem uw.ok{m:Nm}{ps:List kU}{nl:List Str}(W:Wd m ps nl){c c1:Nat}{i0 i1:Int}{e e1:Str->Option Int}(a:uw m c c1 e e1)(l:c1<=100)(h:Kb m i0 i1 e):Kb m i0 i1 e1 :=
 ⟨(a _ λi _ b=>W.x0 i (by omega)).trans h.e0,(a _ λi _ b=>W.x1 i (by omega)).trans h.e1⟩
theorem yT{m:Nm}{ps:List kU}{nl:List Str}(W:Wd m ps nl){c:Nat}{i0 i1 k:Int}{e:Str->Option Int}(l:c < 100)(h:Kb m i0 i1 e):Kb m i0 i1 (jR (m.x c) k e):=by
 refine⟨?_,?_⟩
 ·unfold jR;rw[if_neg (W.x0 c l)];exact h.e0
 ·unfold jR;rw[if_neg (W.x1 c l)];exact h.e1
theorem uw.put{m:Nm}{c c1:Nat}{k:Int}{e:Str->Option Int}(h:c < c1):uw m c c1 e (jR (m.x c) k e):=λy hy=>by
 unfold jR;rw[if_neg (hy c (Nat.le_refl _) h)]
def UR(m:Nm)(ps:List kU)(nl:List Str)(i0 i1:Int)(t:Tq)(s s':jS):Prop:=s.fin=none->match t with
 | .L ts=>∀(n cn c0 c1:Nat) (bs:List PyData) (env:Str->Option Int),iA n cn ts->mP m c0 c1 ts bs->c1<=99->Kb m i0 i1 env->∃env',Ev ps (3 * n + 9) 1 nl (.Ss bs) ⟨s.said,s.left,env⟩ (zR s'.fin) ⟨s'.said,s'.left,env'⟩/\uw m c0 c1 env env'
 | .W way cnt a=>∀(n cn c c1:Nat) (as:List PyData) (env:Str->Option Int),iA n cn a->mP m (c + 1) c1 a as->c1<=99->Kb m i0 i1 env->iT cnt->env (m.x c)=some cnt->∃env',Ev ps (3 * n + 10) 1 nl (.W (m.ask (m.x c) way) (as++[vF (m.x c)])) ⟨s.said,s.left,env⟩ (zR s'.fin) ⟨s'.said,s'.left,env'⟩/\uw m c c1 env env'
theorem Cm(k:Int):iT (dw k):=by unfold iT;have:=Fq k;omega
theorem yU{m:Nm}{ps:List kU}{nl:List Str}(W:Wd m ps nl){k c:Nat}(l:c < 100){s:jK}{cnt:Int}(hx:s.env (m.x c)=some cnt)(hw:iT cnt):Ev ps (k + 7) 1 nl (.S (vF (m.x c))) s .ok ⟨s.said,s.left,jR (m.x c) (dw (cnt - 1)) s.env⟩:=by
 have z:=xo (ps:=ps) (d:=1) (nl:=nl) (k:=k + 3) (s:=s) (.inr (.inl rfl)) dv.2.1 (iB hx) (jo (w:=1)) hw (by unfold iT;omega);rw[xk]at z;exact .sG z (.set (W.nx c l))
theorem Do.ev{m:Nm}{ps:List kU}{nl:List Str}{i0 i1:Int}(W:Wd m ps nl)(w0:iT i0)(w1:iT i1){t:Tq}{s s':jS}(h:Do i0 i1 t s s'):UR m ps nl i0 i1 t s s':=by
 induction h with
 | @nil s =>
  intro f n cn c0 c1 bs env ht hb hc he
  cases hb with
  | nil=>rw[f];exact⟨env,.ssN,λ_ _=>rfl⟩
 | skip hf=>intro f;exact absurd f hf
 | @say w ts s s' hf hs d ih =>
  intro f n cn c0 c1 bs env ht hb hc he
  cases hb with
  | say hb =>
   obtain⟨_,ht⟩:=ht.tail;obtain⟨env',v,a⟩:=ih f n _ c0 c1 _ env ht hb hc he;exact⟨env',.ssC (.sG jo (.say hs)) v,a⟩
 | @echoG w ts s s' hf hs hl d ih =>
  intro f n cn c0 c1 bs env ht hb hc he
  cases hb with
  | echo hb =>
   obtain⟨_,ht⟩:=ht.tail;obtain⟨env',v,a⟩:=ih f n _ c0 c1 _ env ht hb hc he;have z:=yS (k:=3 * n + 1) (s:=⟨s.said,s.left,env⟩) W (jo (w:=w)) hl hs;exact⟨env',.ssC (.sG z .drop) v,a⟩
 | @echoW w ts s s' hf hl d ih =>
  intro f n cn c0 c1 bs env ht hb hc he;have e:=d.done (λz=>(nomatch z));subst e
  cases hb with
  | echo hb =>
   have z:=vG (m:=m) (ps:=ps) (nl:=nl) (k:=3 * n + 1) (s:=⟨s.said,s.left,env⟩) (jo (w:=w)) hl;exact⟨env,.ssB (.sB .drop z rfl) rfl,λ_ _=>rfl⟩
 | @give w ts s s' hf d ih =>
  intro f n cn c0 c1 bs env ht hb hc he;have e:=d.done (λz=>(nomatch z));subst e
  cases hb with
  | give hb=>exact⟨env,.ssB (.sG jo .give) rfl,λ_ _=>rfl⟩
 | @ifs k a b ts s s1 s' hf d1 d2 i1 i2 =>
  intro f n cn c0 c1 bs env ht hb hc he
  cases ht with
  | @ifs n c ca cb _ _ _ _ hk ta tb tt =>
   cases hb with
   | @ifs _ Wo US _ _ _ a' _ b' _ bs' ha hb hr =>
    have l1:=ha.le;have l2:=hb.le;have l3:=hr.le
    have inner:∃gz,Ev ps (3 * n + 9) 1 nl (.Ss (if (k:Int)=0 then b' else a')) ⟨s.said,s.left,env⟩ (zR s1.fin) ⟨s1.said,s1.left,gz⟩/\uw m c0 US env gz:=by
     by_cases e:k=0
     ·rw[W4 e]at i1;obtain⟨gz,v,a⟩:=i1 f n _ _ _ _ env tb hb (by omega) he;exact⟨gz,by rw[W4 (by omega)];exact v,a.up l1 (WU _)⟩
     ·rw[W2 e]at i1;obtain⟨gz,v,a⟩:=i1 f n _ _ _ _ env ta ha (by omega) he;exact⟨gz,by rw[W2 (by omega)];exact v,a.up (WU _) l2⟩
    obtain⟨gz,v,a⟩:=inner;have st:Ev ps (3 * n + 11) 1 nl (.S (.tuple [.str "if",mj (k:Int),.list a',.list b'])) ⟨s.said,s.left,env⟩ (zR s1.fin) ⟨s1.said,s1.left,gz⟩:=.sN .if' (.ifG jo v);by_cases f1:s1.fin=none
    ·obtain⟨env',v2,a2⟩:=i2 f1 (n + 1) _ _ _ _ gz tt hr hc (a.ok W (by omega) he);rw[f1]at st;exact⟨env',.ssC st v2,a.trans a2 (by omega) l3⟩
    ·have e:=d2.done f1;subst e;exact⟨gz,.ssB st (ml f1),a.up (WU _) l3⟩
 | @loop way sel b a ts s s1 s' hf d1 d2 UT UU =>
  intro f n cn c0 c1 bs env ht hb hc he
  cases ht with
  | @loop n c ci _ _ _ _ _ hw hbg hsl ta tt =>
   cases hb with
   | @loop _ cc _ _ _ _ _ a' _ bs' ha hr =>
    have l1:=ha.le;have l2:=hr.le;have lx:c0 < 100:=by omega
    have hbE:Ev ps (3 * n + 10) 1 nl (.E (m.uv b sel)) ⟨s.said,s.left,env⟩ (.val (jm i0 i1 b sel)) ⟨s.said,s.left,env⟩/\iT (jm i0 i1 b sel):=by
     unfold Nm.uv jm;by_cases e1:sel < 2
     ·rw[W4 e1,W4 e1];exact⟨jo,hbg⟩
     ·rw[W2 e1,W2 e1];by_cases e2:sel=2
      ·rw[W4 e2,W4 e2];exact⟨iB (s:=⟨s.said,s.left,env⟩) he.e0,w0⟩
      ·rw[W2 e2,W2 e2];exact⟨iB (s:=⟨s.said,s.left,env⟩) he.e1,w1⟩
    have az:Ev ps (3 * n + 11) 1 nl (.S (.tuple [.str "let",.str (m.x c0),.tuple [.str "number"],m.uv b sel])) ⟨s.said,s.left,env⟩ .ok ⟨s.said,s.left,jR (m.x c0) (jm i0 i1 b sel) env⟩:=.sG hbE.1 (.let' (W.nx c0 lx));obtain⟨gz,v,a1⟩:=UT f n _ c0 _ _ (jR (m.x c0) (jm i0 i1 b sel) env) ta ha (by omega) (yT W lx he) hbE.2 (by unfold jR;rw[if_pos rfl]);have bO:Ev ps (3 * n + 11) 1 nl (.S (.tuple [.str "while",m.ask (m.x c0) way,.list (a'++[vF (m.x c0)])])) ⟨s.said,s.left,jR (m.x c0) (jm i0 i1 b sel) env⟩ (zR s1.fin) ⟨s1.said,s1.left,gz⟩:=.sN .wh (.wh v);have ag:uw m c0 cc env gz:=λy hy=>(a1 y hy).trans (uw.put (by omega) y hy)
    by_cases f1:s1.fin=none
    ·obtain⟨env',v2,a2⟩:=UU f1 (n + 1) _ _ _ _ gz tt hr hc (ag.ok W (by omega) he);rw[f1]at bO;exact⟨env',.ssC az (.ssC bO v2),ag.trans a2 (by omega) l2⟩
    ·have e:=d2.done f1;subst e;exact⟨gz,.ssC az (.ssB bO (ml f1)),ag.up (WU _) l2⟩
 | @wStop way cnt a s s1 g =>
  intro f n cn c c1 as env ht hb hc he hw hx;obtain⟨q1,q2⟩:=tO (k:=3 * n + 3) W g f hx hw;by_cases f1:s1.fin=none
  ·obtain⟨v,hv,e⟩:=q1 f1
   have z:v=0:=by
    rcases Classical.em (v=0)with z | z
    ·exact z
    ·exact absurd (hv.mpr z) (by decide)
   subst z;rw[f1];exact⟨env,.w0 e,λ_ _=>rfl⟩
  ·obtain⟨_,h2,e⟩:=q2 f1;rw[h2];exact⟨env,.wB e rfl,λ_ _=>rfl⟩
 | @wFin way cnt a s sg s2 g d Kc ih =>
  intro f n cn c c1 as env ht hb hc he hw hx;obtain⟨q1,q2⟩:=tO (k:=3 * n + 3) W g f hx hw;by_cases f1:sg.fin=none
  ·obtain⟨v,hv,e⟩:=q1 f1;obtain⟨gz,v1,a1⟩:=ih f1 n _ _ _ _ env ht hb hc he;exact⟨gz,.wL e (hv.mp rfl) (Fx (ml Kc) v1) (ml Kc),a1.up (by omega) (WU _)⟩
  ·exact absurd (q2 f1).1 (by decide)
 | @wWeary way cnt a s sg s2 g d Kc Bp ih =>
  intro f n cn c c1 as env ht hb hc he hw hx;obtain⟨q1,q2⟩:=tO (k:=3 * n + 3) W g f hx hw;have lb:=hb.le;by_cases f1:sg.fin=none
  ·obtain⟨v,hv,e⟩:=q1 f1;obtain⟨gz,v1,a1⟩:=ih f1 n _ _ _ _ env ht hb hc he;rw[Kc]at v1;have x1:gz (m.x c)=some cnt:=(a1 _ λi h1 h2 z=>absurd (W.inj c i (by omega) (by omega) z) (by omega)).trans hx;have st:=yU W (k:=3 * n + 1) (c:=c) (by omega) (s:=⟨s2.said,s2.left,gz⟩) x1 hw;exact⟨_,.wS e (hv.mp rfl) (Ck v1 (.ssC st .ssN)) (by show s2.left<=0;omega),λy hy=>(uw.put (by omega) y hy).trans (a1.up (by omega) (WU _) y hy)⟩
  ·exact absurd (q2 f1).1 (by decide)
 | @wMore way cnt a s sg s3 s2 g d Kc Bp d3 ih UW =>
  intro f n cn c c1 as env ht hb hc he hw hx;obtain⟨q1,q2⟩:=tO (k:=3 * n + 3) W g f hx hw;have lb:=hb.le;by_cases f1:sg.fin=none
  ·obtain⟨v,hv,e⟩:=q1 f1;obtain⟨gz,v1,a1⟩:=ih f1 n _ _ _ _ env ht hb hc he;rw[Kc]at v1;have x1:gz (m.x c)=some cnt:=(a1 _ λi h1 h2 z=>absurd (W.inj c i (by omega) (by omega) z) (by omega)).trans hx;have st:=yU W (k:=3 * n + 1) (c:=c) (by omega) (s:=⟨s2.said,s2.left,gz⟩) x1 hw;obtain⟨env',v3,a3⟩:=UW Kc n _ c _ _ (jR (m.x c) (dw (cnt - 1)) gz) ht hb hc (yT W (by omega) (a1.ok W (by omega) he)) (Cm _) (by unfold jR;rw[if_pos rfl]);exact⟨env',.wM e (hv.mp rfl) (Ck v1 (.ssC st .ssN)) Bp v3,λy hy=>(a3 y hy).trans ((uw.put (by omega) y hy).trans (a1.up (by omega) (Nat.le_refl _) y hy))⟩
  ·exact absurd (q2 f1).1 (by decide)
def Fy(a:Nat):Str:=Str.ofString "n"++Txt.slice (Str.ofString "opq") none (some (a:Int))
def Fz(a:Nat):Str:=Str.ofString "m"++Txt.slice (Str.ofString "rst") none (some (a:Int))
def Cn(a:Nat):Str:=Txt.slice (Str.ofString "uv") none (some (a:Int))
def FA(a:Nat):Str:=Txt.slice (Str.ofString "wxy") none (some (a:Int))
theorem Ke:∀a:Nat,a < 4->(Txt.slice (Str.ofString "opq") none (some (a:Int))).length<=3/\(Fy a).cps.toList.head?=some 110/\PyData.canLay0 (.str (Fy a))=true:=by decide +kernel
theorem Kf:∀a:Nat,a < 4->(Txt.slice (Str.ofString "rst") none (some (a:Int))).length<=3/\(Fz a).cps.toList.head?=some 109/\PyData.canLay0 (.str (Fz a))=true:=by decide +kernel
theorem Kg:∀a:Nat,a < 3->(Cn a).length<=3/\((Cn a).cps.toList=[]∨(Cn a).cps.toList.head?=some 117):=by decide +kernel
theorem Kh:∀a:Nat,a < 4->(FA a).length<=3:=by decide +kernel
theorem Ki:∀p:Nat,p < 3->∀q:Nat,q < 4->∀c:Nat,c < 64->PyData.canLay0 (.str (Cn p++⟨#[97 + c / 26 % 26]⟩++⟨#[97 + c % 26]⟩++FA q))=true:=by decide +kernel
theorem tP(a b:Str):(a++b).cps.toList=a.cps.toList++b.cps.toList:=by
 show(a.cps++b.cps).toList=_;exact Array.toList_append
theorem Kj(m:Nm)(c:Nat):(m.x c).cps.toList=m.pre.cps.toList++[97 + c / 26 % 26,97 + c % 26]++m.suf.cps.toList:=by
 unfold Nm.x;rw[tP,tP,tP];simp
theorem NG(m:Nm)(c c':Nat)(h:c < 100)(h':c' < 100)(e:m.x c=m.x c'):c=c':=by
 have z:(m.x c).cps.toList=(m.x c').cps.toList:=by rw[e]
 rw[Kj,Kj,List.append_assoc,List.append_assoc]at z;have z:=List.append_cancel_left z;have z:=List.append_cancel_right z;simp at z;omega
theorem Co(m:Nm)(c:Nat)(h:c < 100)(hp:m.pre.cps.toList=[]∨m.pre.cps.toList.head?=some 117):∃k,(m.x c).cps.toList.head?=some k/\k≠110/\k≠109:=by
 rw[Kj];rcases hp with e | e
 ·rw[e];refine⟨97 + c / 26 % 26,rfl,?_,?_⟩<;>omega
 ·cases q:m.pre.cps.toList with
  | nil=>rw[q]at e;cases e
  | cons a r =>
   rw[q]at e;cases e;exact⟨117,rfl,by decide,by decide⟩
def rW(m:Nm):List Str:=m.n0::m.n1::(List.range 100).map m.x
def p5(m:Nm)(bs:List PyData):kU:=⟨[(m.n0,.num),(m.n1,.num)],.num,bs,.tuple [.str "sub",kO m.n0,mj 0],rW m⟩
def vH(m:Nm)(bs:List PyData):List kU:=if m.echo=0 then [rV,p5 m bs]else [p5 m bs,rV]
structure tQ(m:Nm):Prop where
 ec:m.echo < 2
 h0:m.n0.cps.toList.head?=some 110
 h1:m.n1.cps.toList.head?=some 109
 hp:m.pre.cps.toList=[]∨m.pre.cps.toList.head?=some 117
 lp:m.pre.length<=3
 ls:m.suf.length<=3
 c0:PyData.canLay0 (.str m.n0)=true
 c1:PyData.canLay0 (.str m.n1)=true
 cx:∀c,c < 64->PyData.canLay0 (.str (m.x c))=true
theorem tQ.wd{m:Nm}(h:tQ m)(bs:List PyData):Wd m (vH m bs) (rW m):=by
 refine⟨?_,λc hc=>W9 _ (W9 _ (YA.mpr ⟨c,Zb.mpr hc,rfl⟩)),NG m,λc hc e=>?_,λc hc e=>?_⟩
 ·have z:=h.ec;unfold vH;by_cases e:m.echo=0
  ·rw[W4 e,e];rfl
  ·rw[W2 e,show m.echo=1 by omega];rfl
 ·obtain⟨k,hk,n1,_⟩:=Co m c hc h.hp;rw[← e,h.h0]at hk;exact n1 (W0 hk).symm
 ·obtain⟨k,hk,_,n2⟩:=Co m c hc h.hp;rw[← e,h.h1]at hk;exact n2 (W0 hk).symm
theorem tQ.ne{m:Nm}(h:tQ m):m.n0≠m.n1:=λe=>by
 have:=h.h0;rw[e,h.h1]at this;cases this
theorem tQ.wf{m:Nm}(h:tQ m)(bs:List PyData):P7 (vH m bs):=by
 have mem:∀q∈vH m bs,q=rV∨q=p5 m bs:=λq hq=>by
  unfold vH at hq;split at hq
  ·simp at hq;exact hq
  ·simp at hq;exact hq.symm
 have len:(vH m bs).length=2:=by unfold vH;split<;>rfl
 refine⟨by omega,λq hq=>?_,λq hq=>?_,λq hq=>?_,λq hq=>?_⟩<;>rcases mem q hq with rfl | rfl
 ·show 1<=100;decide
 ·show 2<=100;decide
 ·show([("z" : Str)]:List Str).Nodup;simp
 ·show([m.n0,m.n1]:List Str).Nodup;simp[h.ne]
 ·intro x hx;exact hx
 ·intro x hx;show x∈rW m;have hx:x∈[m.n0,m.n1]:=hx;simp at hx;rcases hx with rfl | rfl
  ·exact W7
  ·exact W9 _ W7
 ·show 1<=900;decide
 ·show(rW m).length<=900;unfold rW;simp
def mn(f:Option tN)(i0:Int):Str×List Int:=match f with
 | none=>("gave",[i0])
 | some (.gave k)=>("gave",[k])
 | some .weary=>("weary",[])
theorem NH{m:Nm}(h:tQ m){i0 i1 bud:Int}(w0:iT i0)(w1:iT i1){n cn c1:Nat}{ts bs:List PyData}(hn:n<=4)(ht:iA n cn ts)(hb:mP m 0 c1 ts bs)(hc:c1<=99){s':jS}(d:Do i0 i1 (.L ts) ⟨[],bud,none⟩ s'):
  ∃r sR,Ev (vH m bs) 60 1 [] (.G (1 - m.echo) [i0,i1]) ⟨[],bud,λ_=>none⟩ r sR/\sR.said=s'.said/\sR.left=s'.left/\endOf r=some (.str (mn s'.fin i0).1::(mn s'.fin i0).2.map V.int):=by
 have W:=h.wd bs
 have hp:(vH m bs)[1 - m.echo]?=some (p5 m bs):=by
  have z:=h.ec;unfold vH;by_cases e:m.echo=0
  ·rw[W4 e,e];rfl
  ·rw[W2 e,show m.echo=1 by omega];rfl
 have e0:Kb m i0 i1 (envOf [m.n0,m.n1] [i0,i1]):=by
  refine⟨?_,?_⟩
  ·show(([(m.n0,i0),(m.n1,i1)].find? λq=>decide (q.1=m.n0)).map (·.2))=some i0;rw[List.find?_cons_of_pos (by simp)];rfl
  ·show(([(m.n0,i0),(m.n1,i1)].find? λq=>decide (q.1=m.n1)).map (·.2))=some i1;rw[List.find?_cons_of_neg (by simpa using h.ne),List.find?_cons_of_pos (by simp)];rfl
 obtain⟨env',v,a⟩:=Do.ev W w0 w1 d rfl n cn 0 c1 bs _ ht hb hc e0;have v:=v.mono (show 3 * n + 9<=59 by omega);have ok:=a.ok W (by omega) e0
 cases f:s'.fin with
 | none =>
  rw[f]at v;have z:=xo (ps:=vH m bs) (d:=1) (nl:=rW m) (k:=56) (s:=⟨s'.said,s'.left,env'⟩) (.inr (.inl rfl)) dv.2.1 (iB ok.e0) (jo (w:=0)) w0 (by unfold iT;omega);rw[xk]at z;refine⟨_,_,.gB (n:=59) hp rfl v z,rfl,rfl,?_⟩;have e:dw (i0 - 0)=i0:=by unfold dw;unfold iT at w0;omega
  rw[e];rfl
 | some x =>
  rw[f]at v
  cases x with
  | gave k=>exact⟨_,_,.gG (n:=59) hp rfl v,rfl,rfl,rfl⟩
  | weary=>exact⟨_,_,.gX (n:=59) hp rfl v rfl (λ_ z=>(nomatch z)),rfl,rfl,rfl⟩
def Qc(ns:List Int)(cl:Int)(m:Nm)(i:Nat)(env:bG)(st:aB):Prop:=∃(ws src:List Int) (o7 o8 o9:Option DV),env=[some (.dat (.list (List.map PyData.int ns))),some (.ref 0),some (.dat (.int cl)),some (.dat (.int (m.echo:Int))),some (.dat (.tuple [.str "number"])),some (.dat (.list [.str m.n0,.str m.n1,.str m.pre,.str m.suf])),some (.ref 1),o7,o8,o9,none,none,none,none,none,none,none,none,none,none]/\st=[.live (aM src),.live (aM ws)]/\ws.length=i/\(∀w∈ws,iT w)/\n8 src
theorem iA.one{n c:Nat}{ts:List PyData}(h:iA n c ts)(l:ts.length<=3):∃c',c'<=c/\iA n c' (cutD ts none (some 1)):=by
 have e:cutD ts none (some 1)=ts.take 1:=by
  match ts,l with
  | [],_=>rfl
  | [_],_=>rfl
  | [_,_],_=>rfl
  | [_,_,_],_=>rfl
 rw[e]
 cases h with
 | nil=>exact⟨0,WU _,.nil⟩
 | say hw _=>exact⟨1,by omega,.say hw .nil⟩
 | echo hw _=>exact⟨1,by omega,.echo hw .nil⟩
 | give hw _=>exact⟨1,by omega,.give hw .nil⟩
 | @ifs n c ca cb _ _ _ _ hk h1 h2 _=>exact⟨0 + ca + cb + 1,by omega,.ifs hk h1 h2 .nil⟩
 | @loop n c ci _ _ _ _ _ h1 h2 h3 h4 _=>exact⟨0 + ci + 1,by omega,.loop h1 h2 h3 h4 .nil⟩
theorem Cp{m:Nm}(h:m.echo < 2)(bs:List PyData):oA [PyData.list [xm rV,xm (p5 m bs)],.list [xm (p5 m bs),xm rV]] (m.echo:Int)=some (.list ((vH m bs).map xm)):=by
 unfold vH;by_cases e:m.echo=0
 ·rw[W4 e,e];exact ji (j:=0) rfl
 ·rw[W2 e,show m.echo=1 by omega];exact ji (j:=1) rfl
structure Sg(σ:St)(v3 v6 v10 v11 Kk Kl:V):Prop where
 len:σ.length=20
 s3:σ[3]?=some (some v3)
 s6:σ[6]?=some (some v6)
 LV:σ[10]?=some (some v10)
 LY:σ[11]?=some (some v11)
 Qd:σ[12]?=some (some Kk)
 FC:σ[15]?=some (some Kl)
theorem mq{σ:St}{i j:Nat}{x:Option V}{y:Option V}(h:σ[i]?=some x)(n:j≠i):(σ.set j y)[i]?=some x:=by rw[W8 n];exact h
theorem yV{σ:St}{i:Nat}{y:Option V}(h:i < σ.length):(σ.set i y)[i]?=some y:=W3 h
theorem Sg.set{σ:St}{v3 v6 v10 v11 Kk Kl:V}(h:Sg σ v3 v6 v10 v11 Kk Kl){j:Nat}(hj:16<=j)(y:Option V):Sg (σ.set j y) v3 v6 v10 v11 Kk Kl :=
 ⟨by rw[Xp];exact h.len,mq h.s3 (by omega),mq h.s6 (by omega),mq h.LV (by omega),mq h.LY (by omega),mq h.Qd (by omega),mq h.FC (by omega)⟩
def BV(K:aE)(H1:Hp)(a l:Addr)(s':jS)(i0:Int)(σ1:St)(σ:St)(H:Hp):Prop:=σ=σ1/\∃t',aQ H1 H/\H a=some (.lst [.ref l,.int s'.left,.ref t'])/\H l=some (.lst (s'.said.map V.int))/\cg K H t' (.str (mn s'.fin i0).1::(mn s'.fin i0).2.map V.int)
theorem FE(f:Option tN)(i0:Int):(mn f i0).2.length<=2/\PyData.canLay0 (.str (mn f i0).1)=true:=by
 cases f with
 | none=>exact⟨by show 1<=2;decide,by show PyData.canLay0 (.str "gave")=true;decide +kernel⟩
 | some x =>
  cases x with
  | gave k=>exact⟨by show 1<=2;decide,by show PyData.canLay0 (.str "gave")=true;decide +kernel⟩
  | weary=>exact⟨by show 0<=2;decide,by show PyData.canLay0 (.str "weary")=true;decide +kernel⟩
theorem Qe{G:Prop}{R:St->Hp->Prop}(P:St->Hp->Prop)(main:(∀σ' H',P σ' H'->R σ' H')->G)(k:∀σ' H',P σ' H'->R σ' H'):G:=main k
theorem vI{K:aE}{H:Hp}(ns:List Int):dP K H (ns.map V.int) (aM ns):=by
 refine⟨by unfold aM;rw[List.length_map,List.length_map],λi x d hx hd=>?_⟩;unfold aM at hd;rw[List.getElem?_map]at hx hd
 cases e:ns[i]? with
 | none=>rw[e]at hx;cases hx
 | some k=>rw[e]at hx hd;cases hx;cases hd;exact .int _
theorem yW{K:aE}{H:Hp}{t u l:Addr}{w:Str}{ks ns:List Int}{k:Int}(g1:cg K H t [.ref u,.ref l,.int k])(g2:cg K H u (.str w::ks.map V.int))(g3:H l=some (.lst (ns.map V.int))):aP K H (.ref t) (.tuple [.tuple (.str w::aM ks),.list (aM ns),.int k]) :=
 aP.Bj g1 (.cons (aP.Bj g2 (.cons (.str _) (vI ks))) (.cons (aP.uK (bK.of g3) (vI ns)) (.cons (.int _) .nil)))
theorem mP.sh{m:Nm}(h:tQ m){c c1:Nat}{ts bs:List PyData}(hb:mP m c c1 ts bs):∀{n cn:Nat},iA n cn ts->c1 < 64->∀d∈bs,Sh (2 * n + 5) d:=by
 have num:∀{k:Nat} {w:Int},Sh (k + 1) (mj w):=λ{k w}=>da (ay (cG (by decide +kernel)) (ay j9 cu))
 have var:∀{k:Nat} {x:Str},PyData.canLay0 (.str x)=true->Sh (k + 1) (kO x):=λhx=>da (ay (cG (by decide +kernel)) (ay (cG hx) cu))
 induction hb with
 | nil=>intro n cn _ _ d hd;exact nomatch hd
 | say _ ih=>intro n cn ht hc;obtain⟨_,ht⟩:=ht.tail;exact ay ((da (ay (cG (by decide +kernel)) (ay (num (k:=0)) cu))).up (by omega)) (ih ht hc)
 | give _ ih=>intro n cn ht hc;obtain⟨_,ht⟩:=ht.tail;exact ay ((da (ay (cG (by decide +kernel)) (ay (num (k:=0)) cu))).up (by omega)) (ih ht hc)
 | echo _ ih =>
  intro n cn ht hc;obtain⟨_,ht⟩:=ht.tail;exact ay ((da (ay (cG (by decide +kernel)) (ay (da (ay (cG (by decide +kernel)) (ay j9 (ay (gx (ay (num (k:=0)) cu)) cu)))) cu))).up (by omega)) (ih ht hc)
 | @ifs _ _ _ _ _ _ _ _ _ _ _ ha hb hr i1 i2 ih =>
  intro n cn ht hc
  cases ht with
  | ifs hk ta tb tt =>
   have l1:=hb.le;have l2:=hr.le;exact ay ((da (ay (cG (by decide +kernel)) (ay (num (k:=_)) (ay (gx (i1 ta (by omega))) (ay (gx (i2 tb (by omega))) cu))))).up (by omega)) (ih tt hc)
 | @loop c cc _ way sel uv _ a' _ _ ha hr i1 ih =>
  intro n cn ht hc
  cases ht with
  | @loop n _ _ _ _ _ _ _ hw hbg hsl ta tt =>
   have l1:=ha.le;have l2:=hr.le;have cx:=h.cx c (by omega)
   have sb:Sh (2 * n + 6) (m.uv uv sel):=by
    unfold Nm.uv;split
    ·exact num
    ·split
     ·exact var h.c0
     ·exact var h.c1
   have sa:Sh (2 * n + 6) (m.ask (m.x c) way):=by
    unfold Nm.ask;split
    ·exact var cx
    ·split
     ·exact(da (ay (cG (by decide +kernel)) (ay (num (k:=0)) (ay (var (k:=0) cx) cu)))).up (by omega)
     ·exact(da (ay (cG (by decide +kernel)) (ay j9 (ay (gx (ay (var (k:=0) cx) cu)) cu)))).up (by omega)
   have sl:Sh (2 * n + 5) (vF (m.x c)):=(da (ay (cG (by decide +kernel)) (ay (cG cx) (ay (da (ay (cG (by decide +kernel)) (ay (var (k:=0) cx) (ay (num (k:=0)) cu)))) cu)))).up (by omega);refine ay ((da (ay (cG (by decide +kernel)) (ay (cG cx) (ay ((da (ay (cG (by decide +kernel)) cu)).up (show 1<=2 * n + 6 by omega)) (ay sb cu))))).up (by omega)) (ay ((da (ay (cG (by decide +kernel)) (ay sa (ay (gx (n:=2 * n + 5) λd hd=>?_) cu)))).up (by omega)) (ih tt hc));rcases X9.mp hd with z | z
   ·exact i1 ta (by omega) d z
   ·rw[v8 z];exact sl
def Km:PyData:=.list [.tuple [.none,.list []]]
theorem yX{K:aE}{H:Hp}{v:V}{ps:List kU}{p1 p2 p3 b:Addr}(h1:H p1=none)(h2:upd H p1 (.lst []) p2=none)(h3:upd (upd H p1 (.lst [])) p2 (.tup [.non,.ref p1]) p3=none)(h4:upd (upd (upd H p1 (.lst [])) p2 (.tup [.non,.ref p1])) p3 (.lst [.ref p2]) b=none)(r:aP K H v (.list (ps.map xm))):
  aQ H (upd (upd (upd (upd H p1 (.lst [])) p2 (.tup [.non,.ref p1])) p3 (.lst [.ref p2])) b (.tup [.ref p3,v]))/\aP K (upd (upd (upd (upd H p1 (.lst [])) p2 (.tup [.non,.ref p1])) p3 (.lst [.ref p2])) b (.tup [.ref p3,v])) (.ref b) (J8 Km ps):=by
 have s1:=aH h1 (.lst []);have s2:=aH h2 (.tup [.non,.ref p1]);have s3:=aH h3 (.lst [.ref p2]);have s4:=aH h4 (.tup [.ref p3,v]);have S:=((s1.trans s2).trans s3).trans s4;refine⟨S,aP.Bj (cg.of uS) (.cons (aP.uK (bK.of (s4 _ _ uS)) (.cons (aP.Bj ((s3.trans s4).tup (cg.of uS)) (.cons .non (.cons (aP.uK (bK.of ((s2.trans (s3.trans s4)) _ _ uS)) .nil) .nil))) .nil)) (.cons (aP.same S r) .nil))⟩
def vJ:Ap:=λds Q=>∃(w:Str) (ks ns:List Int) (l:Int),ds=[.tuple [.tuple (.str w::aM ks),.list (aM ns),.int l],.tuple [.tuple (.str w::aM ks),.list (aM ns),.int l]]/\ks.length<=2/\ns.length<=100000/\PyData.canLay0 (.str w)=true/\Q (.bool true)
def gA(K:aE):Sp:=Na K vJ
def lH(n:Nat):DB:=λxs st Q=>∃(m:Nm) (ts:List PyData) (deep cnt c0:Nat),n=deep + 1/\xs=[.dat (.list ts),.dat (.list [.str m.n0,.str m.n1,.str m.pre,.str m.suf]),.dat (.int (m.echo:Int)),.ref 0]/\st=[.live [.int (c0:Int)]]/\iA deep cnt ts/\m.pre.length<=3/\m.suf.length<=3/\c0 + cnt<=60/\∀bs c1,mP m c0 c1 ts bs->c1<=c0 + cnt->bs.length<=200->Q (.list bs) [.live [.int (c1:Int)]]
def fN(K:aE)(n:Nat):Sp:=OH K (lH n)
theorem gZ{n:Nat}:vq (lH n):=by
 rintro xs st Q Q' f ⟨m,ts,deep,cnt,c0,hn,e1,e2,a,b,c,d,q⟩;exact⟨m,ts,deep,cnt,c0,hn,e1,e2,a,b,c,d,λbs c1 h1 h2 h3=>f _ _ (q bs c1 h1 h2 h3)⟩
theorem g7{K:aE}{n:Nat}:zJ K (fN K n) (lH n):=w8
def g8(K:aE):Sp:=λvs H Q _=>∃(H0:Hp) (a l:Addr) (fv:V) (s:jS),vs=[.ref a]/\qz K H0 a l fv H s/\s.fin=none/\0<=s.left/\(s.left=0->∀H' fw,qz K H0 a l fw H' {s with fin:=some .weary}->Q (.bl false) H')/\(0 < s.left->∀H',qz K H0 a l fv H' {s with left:=s.left - 1}->Q (.bl true) H')
def kg(K:aE):Sp:=λvs H Q _=>∃(H0:Hp) (a l:Addr) (fv:V) (s s':jS) (way:Nat) (cnt:Int) (b:Bool),vs=[.int (way:Int),.int cnt,.ref a]/\qz K H0 a l fv H s/\s.fin=none/\0<=s.left/\Goes way cnt s b s'/\∀H' fw,qz K H0 a l fw H' s'->Q (.bl b) H'
def kK(K:aE)(n:Nat):Sp:=λvs H Q _=>∃(H0:Hp) (a l:Addr) (fv tv iv:V) (ts:List PyData) (i0 i1:Int) (deep c:Nat) (s s':jS),n=deep + 1/\vs=[tv,iv,.ref a]/\aP K H0 tv (.list ts)/\aP K H0 iv (.list [.int i0,.int i1])/\iA deep c ts/\qz K H0 a l fv H s/\0<=s.left/\Do i0 i1 (.L ts) s s'/\∀H' fw,qz K H0 a l fw H' s'->Q (.int 0) H'
def lI:DB:=λxs st Q=>∃(src:List Int) (m:Int),xs=[.ref 0,.dat (.int m)]/\st=[.live (aM src)]/\n8 src/\0 < m/\∀(r:Int) (src':List Int),0<=r->r < m->n8 src'->Q (.int r) [.live (aM src')]
def fO(K:aE) : Sp:=OH K (lI )
theorem g9:vq lI:=by
 rintro xs st Q Q' f ⟨src,m,e1,e2,h0,hm,q⟩;exact⟨src,m,e1,e2,h0,hm,λr src' a b c=>f _ _ (q r src' a b c)⟩
theorem hZ{K:aE} : zJ K (fO K ) (lI ):=w8
def jq:vA:=λds Q=>∃(ns:List Int),ds=[.list (aM ns)]/\ns.length<=63/\∀src,n8 src->Q (aM src)
def fG(K:aE):Sp:=Nu K jq
theorem qG:Cf jq:=by
 rintro ds Q Q' f ⟨ns,e,h,q⟩;exact⟨ns,e,h,λsrc z=>f _ (q src z)⟩
theorem qH{K:aE}:yN K (fG K) jq:=Nv
def jr:Ap:=λds Q=>∃(c:Int),ds=[.int c]/\∀n:Int,iT n->Q (.int n)
def fP(K:aE):Sp:=Na K jr
theorem ic:BP jr:=by
 rintro ds Q Q' f ⟨c,z1,q⟩;exact⟨c,z1,by intros;apply f;apply q<;>assumption⟩
theorem ie{K:aE}:L3 K (fP K) jr:=HH
def jt(n:Nat):DB:=λxs st Q=>∃(src:List Int) (deep room:Nat),n=deep + 1/\xs=[.ref 0,.dat (.int (deep:Int)),.ref 1]/\st=[.live (aM src),.live [.int (room:Int)]]/\n8 src/\room<=50/\∀ts c src' room',iA deep c ts->ts.length<=3->n8 src'->c + room'=room->Q (.list ts) [.live (aM src'),.live [.int (room':Int)]]
def dz(K:aE)(n:Nat):Sp:=OH K (jt n)
theorem fH{n:Nat}:vq (jt n):=by
 rintro xs st Q Q' f ⟨src,deep,room,hn,e1,e2,h0,Qf,q⟩;exact⟨src,deep,room,hn,e1,e2,h0,Qf,λts c s r a b c d=>f _ _ (q ts _ s r a b c d)⟩
theorem fJ{K:aE}{n:Nat}:zJ K (dz K n) (jt n):=w8
def kh:Kd->Bool
 | .num=>true
 | _=>false
theorem Cq(k:Kd):PyData.eqv (.tuple (tJ k)) (.tuple [.str "number"])=kh k:=by
 cases k with
 | any=>decide +kernel
 | num=>decide +kernel
 | whole c=>rfl
 | raw c m=>rfl
def ju(K:aE):Sp:=λvs H Q _=>∃(tl:Addr) (g:V) (ys:List V) (ks:List Kd) (gk:Kd),vs=[.ref tl,g]/\bK K H tl ys/\dP K H ys (pZ ks)/\aP K H g (.tuple (tJ gk))/\ks.length<=100 /\
 ∀(H':Hp),aQ H H'->Q (.bl ((ks++[gk]).all kh)) H'
def rX:Ap:=λds Q=>∃(ks:List Kd) (gk:Kd),ds=[.list (pZ ks),.tuple (tJ gk)]/\ks.length<=100/\Q (.bool ((ks++[gk]).all kh))
theorem xp:BP rX:=by
 rintro ds Q Q' f ⟨ks,gk,e,h,q⟩;exact⟨ks,gk,e,h,f _ q⟩
theorem xq{K:aE}:L3 K (ju K) rX:=by
 rintro vs H Q P ds hP hv ⟨ks,gk,rfl,h,q⟩;obtain⟨v,u,rfl,r1,r2⟩:=M8 hv;obtain⟨a,ys,rfl,g1,_,g2⟩:=aO.eJ r1;exact⟨a,u,ys,ks,gk,rfl,g1,⟨g2.1,λi x d a b=>(g2.2 i x d a b).now⟩,r2.now,h,λH' s=>q _ H' s (.bl _)⟩
def vK(hs:List (List Kd×Kd))(j:Int)(n:Nat):Prop:=∃h,0<=j/\hs[j.toNat]?=some h/\(h.1++[h.2]).all kh=true/\n=h.1.length
def tS(bI:Addr):R4:=λds Q Ex=>∃(hs:List (List Kd×Kd)) (j:Int) (ws:List Int),ds=[.list (hs.map yc),.int j,.list (ws.map PyData.int)]/\(∀h∈hs,h.1.length<=100)/\(vK hs j ws.length->Q .none)/\(¬ vK hs j ws.length->Ex bI [])
def iD(K:aE)(bI:Addr):Sp:=Ut K (tS bI)
def iE:Ap:=λds Q=>∃(p:kU),ds=[xm p]/\p.tk.length<=100/\Q (.list (pZ (p.tk.map (·.2))))
def eP(K:aE):Sp:=Na K iE
theorem p7:BP iE:=by
 rintro ds Q Q' f ⟨p,e,h,q⟩;exact⟨p,e,h,f _ q⟩
theorem p8{K:aE}:L3 K (eP K) iE:=HH
def xr:Ap:=λds Q=>∃(ms:PyData) (ps:List kU),ds=[J8 ms ps]/\ps.length<=100/\(∀p∈ps,p.tk.length<=100)/\Q (.list ((xn ps).map yc))
def ki(K:aE):Sp:=Na K xr
def nq(K:aE)(n:Nat)(C:Addr)(aj:Addr)(mg:Str->Option Value):Sp:=λvs H Q E=>∃(R:RW) (L:CL) (tv:V) (a b:List PyData) (x:Str) (s s':jK) (r:Res),vs=[.ref R.x,.ref L.c,tv]/\fu K C R H s.said s.left/\gy aj R L H s.env/\aP K R.H0 tv (.tuple [.str "try",.list a,.str x,.list b])/\Ev R.ps n L.dep L.nm (.T a x b) s r s'/\∀H',oq R L H H'->fu K C R H' s'.said s'.left->gy aj R L H' s'.env->ke Q r H'/\nj mg E r H'
def mr(K:aE)(C:Addr)(mg:Str->Option Value):Sp:=λvs H Q E=>∃(R:RW) (said:List Int) (left:Int),vs=[.ref R.x]/\fu K C R H said left/\(left<=0->∀C' dd,mg "Weary"=some (.ref C')->E (.ref C') dd H)/\(0 < left->Q .non (upd H R.x (.ins C R.dx (jQ R.b R.sd (left - 1)))))
def gE(K:aE)(n:Nat)(C:Addr)(aj:Addr)(mg:Str->Option Value):Sp:=λvs H Q E=>∃(R:RW) (L:CL) (a:Addr) (us:List V) (ts:List PyData) (s s':jK) (r:Res),vs=[.ref R.x,.ref L.c,.ref a]/\fu K C R H s.said s.left/\gy aj R L H s.env/\(bK K R.H0 a us∨cg K H a us)/\dP K R.H0 us ts/\ts.length<=100/\Ev R.ps n L.dep L.nm (.Es ts) s r s'/\(∀H' l ks,r=.vals ks->kc R H H'->fu K C R H' s'.said s'.left->H l=none->H' l=some (.lst (ks.map V.int))->Q (.ref l) H')/\∀H',kc R H H'->fu K C R H' s'.said s'.left->nj mg E r H'
def fA(K:aE)(n:Nat)(C:Addr)(aj:Addr)(mg:Str->Option Value):Sp:=λvs H Q E=>∃(R:RW) (L:CL) (tv:V) (p:Nat) (ts:List PyData) (s s':jK) (r:Res),vs=[.ref R.x,.ref L.c,tv]/\fu K C R H s.said s.left/\gy aj R L H s.env/\aP K R.H0 tv (.tuple [.str "call",.int (p:Int),.list ts])/\ts.length<=100/\Ev R.ps n L.dep L.nm (.Cl p ts) s r s'/\∀H',kc R H H'->fu K C R H' s'.said s'.left->ke Q r H'/\nj mg E r H'
def jv(_K:aE):Sp:=λvs H Q _=>∃n:Int,vs=[.int n]/\Q (.int (dw n)) H
def lJ(_K:aE)(mg:Str->Option Value):Sp:=λvs H Q E=>∃(sign:Str) (a b:Int),vs=[.str sign,.int a,.int b]/\parts sign/\iT a/\iT b/\(b=0->∀C,mg "Nought"=some (.ref C)->E (.ref C) none H)/\(b≠0->Q (.int (rk sign a b)) H)
def kj(_K:aE)(mg:Str->Option Value):Sp:=λvs H Q E=>∃(sign:Str) (a b:Int),vs=[.str sign,.int a,.int b]/\(sign="add"∨sign="sub"∨sign="mul"∨sign="less"∨sign="same"∨parts sign)/\iT a/\iT b/\(parts sign->b=0->∀C,mg "Nought"=some (.ref C)->E (.ref C) none H)/\((parts sign->b≠0)->Q (.int (rk sign a b)) H)
def fY(K:aE)(n:Nat)(C:Addr)(aj:Addr)(mg:Str->Option Value):Sp:=λvs H Q E=>∃(R:RW) (L:CL) (tv:V) (op:Str) (a b:PyData) (s s':jK) (r:Res),vs=[.ref R.x,.ref L.c,tv]/\fu K C R H s.said s.left/\gy aj R L H s.env/\aP K R.H0 tv (.tuple [.str op,a,b])/\Ft op/\Ev R.ps n L.dep L.nm (.Tw op a b) s r s'/\∀H',kc R H H'->fu K C R H' s'.said s'.left->ke Q r H'/\nj mg E r H'
def cT(K:aE)(n:Nat)(C:Addr)(aj:Addr)(mg:Str->Option Value):Sp:=λvs H Q E=>∃(R:RW) (L:CL) (tv:V) (tree:PyData) (s s':jK) (r:Res),vs=[.ref R.x,.ref L.c,tv]/\fu K C R H s.said s.left/\gy aj R L H s.env/\aP K R.H0 tv tree/\Ev R.ps n L.dep L.nm (.E tree) s r s'/\∀H',kc R H H'->fu K C R H' s'.said s'.left->ke Q r H'/\nj mg E r H'
def iF(K:aE)(n:Nat)(C:Addr)(aj:Addr)(mg:Str->Option Value):Sp:=λvs H Q E=>∃(R:RW) (L:CL) (tv:V) (t:PyData) (s s':jK) (r:Res),vs=[.ref R.x,.ref L.c,tv]/\fu K C R H s.said s.left/\gy aj R L H s.env/\aP K R.H0 tv t/\Ev R.ps n L.dep L.nm (.N t) s r s'/\∀H',oq R L H H'->fu K C R H' s'.said s'.left->gy aj R L H' s'.env->ke Q r H'/\nj mg E r H'
def fZ(K:aE)(n:Nat)(C:Addr)(aj:Addr)(mg:Str->Option Value):Sp:=λvs H Q E=>∃(R:RW) (L:CL) (tv:V) (t:PyData) (s s':jK) (r:Res),vs=[.ref R.x,.ref L.c,tv]/\fu K C R H s.said s.left/\gy aj R L H s.env/\aP K R.H0 tv t/\Ev R.ps n L.dep L.nm (.S t) s r s'/\∀H',oq R L H H'->fu K C R H' s'.said s'.left->gy aj R L H' s'.env->ke Q r H'/\nj mg E r H'
def iV(K:aE)(n:Nat)(C:Addr)(aj:Addr)(mg:Str->Option Value):Sp:=λvs H Q E=>∃(R:RW) (L:CL) (tv:V) (ts:List PyData) (s s':jK) (r:Res),vs=[.ref R.x,.ref L.c,tv]/\fu K C R H s.said s.left/\gy aj R L H s.env/\aP K R.H0 tv (.list ts)/\Ev R.ps n L.dep L.nm (.Ss ts) s r s'/\∀H',oq R L H H'->fu K C R H' s'.said s'.left->gy aj R L H' s'.env->ke Q r H'/\nj mg E r H'
def jw(_K:aE)(C:Addr):Sp:=λvs H Q _=>∃(x dx d:Addr) (p:Int),vs=[.ref x,.int p,.ref d]/\H x=some (.ins C dx []) /\
 ∀(H':Hp),H' x=some (.ins C dx (zQ p d))->(∀c o,c≠x->H c=some o->H' c=some o)->Q .non H'
def mv(K:aE)(n:Nat)(C:Addr)(mg:Str->Option Value):Sp:=λvs H Q E=>∃(R:RW) (il:Addr) (p:Nat) (dep:Int) (ks:List Int) (m:List Str) (s s':jK) (r:Res),vs=[.ref R.x,.int (p:Int),.ref il,.int dep]/\fu K C R H s.said s.left/\bK K H il (ks.map V.int)/\Ev R.ps n dep m (.G p ks) s r s'/\∀H',kc R H H'->fu K C R H' s'.said s'.left->ke Q r H'/\nj mg E r H'
def nr(K:aE)(C:Addr)(mg:Str->Option Value):Sp:=λvs H Q _=>∃(R:RW) (il:Addr) (p:Nat) (ks:List Int) (m:List Str) (s s':jK) (r:Res),vs=[.ref R.x,.int (p:Int),.ref il]/\fu K C R H s.said s.left/\bK K H il (ks.map V.int)/\Ev R.ps 60 1 m (.G p ks) s r s'/\∀H' t ts,kc R H H'->fu K C R H' s'.said s'.left->cg K H' t ts->endOf r=some ts->Q (.ref t) H'
def gc(_K:aE)(C:Addr):Sp:=λvs H Q _=>∃(x dx b:Addr) (bud:Int),vs=[.ref x,.ref b,.int bud]/\H x=some (.ins C dx []) /\
 ∀(sd:Addr) (H':Hp),H sd=none->H' x=some (.ins C dx (jQ b sd bud))->H' sd=some (.lst [])->(∀c o,c≠x->H c=some o->H' c=some o)->Q .non H'
def gF(K:aE):Sp:=λvs H Q _=>∃(b il:Addr) (j:Nat) (bud:Int) (ms:PyData) (ps:List kU) (p:kU) (ks:List Int) (m:List Str) (s':jK) (r:Res) (ts:List V),vs=[.ref b,.int (j:Int),.ref il,.int bud]/\aP K H (.ref b) (J8 ms ps)/\P7 ps/\bK K H il (ks.map V.int)/\ps[j]?=some p/\(p.tk.map (·.2)++[p.gv]).all kh=true/\ks.length=p.tk.length/\Ev ps 60 1 m (.G j ks) ⟨[],bud,λ_=>none⟩ r s'/\endOf r=some ts/\∀(t u l:Addr) (H':Hp),aQ H H'->H l=none->cg K H' t [.ref u,.ref l,.int s'.left]->cg K H' u ts->H' l=some (.lst (s'.said.map V.int))->Q (.ref t) H'
def tT(K:aE):Sp:=λvs H Q _=>∃(a:Addr) (ns:List Int),vs=[.ref a]/\bK K H a (ns.map V.int)/\ns.length<=63/\∀H',Q (.bl true) H'
section
variable {P:Program} {w:World} {K:aE} {mg:Str->Option Value} {base:Heap}
theorem xt:aI ["self","number"] ["self","number"] (dS kI):=by walk_at "sc"
theorem xu{f:Addr}{fd:FuncData}(F:iK K "__init__" "Fault.__init__" kI f fd):bw P w K mg base cN 1 f fd ["self","number"] (wO K ["number"]):=by
 refine F.ok xt (λvs H Q E h=>?_) (λcdv A outer s H vs Q E hr h=>?_)
 ·obtain⟨a,C,ys,rfl,hl,_⟩:=h;exact X1 (· + 1) hl
 obtain⟨a,C,ys,rfl,hl,hk,hno,e,q⟩:=h;obtain⟨y0,rfl⟩:=R9 hl;refine⟨_,(qO (Hu (pv 0) (pv 1) rfl)),?_⟩;refine⟨_,rfl,_,rfl,a,C,rfl,hk,hno _ (List.Mem.head _),.inl ⟨e,λdx hd hda=>?_⟩⟩;exact q dx hd hda
theorem zS:aI ["self","value"] ["self","value"] (dS nh):=by walk_at "sc"
theorem zT{f:Addr}{fd:FuncData}(F:iK K "__init__" "Gave.__init__" nh f fd):bw P w K mg base cN 1 f fd ["self","value"] (wO K ["value"]):=by
 refine F.ok zS (λvs H Q E h=>?_) (λcdv A outer s H vs Q E hr h=>?_)
 ·obtain⟨a,C,ys,rfl,hl,_⟩:=h;exact X1 (· + 1) hl
 obtain⟨a,C,ys,rfl,hl,hk,hno,e,q⟩:=h;obtain⟨y0,rfl⟩:=R9 hl;refine⟨_,(qO (Hu (pv 0) (pv 1) rfl)),?_⟩;refine⟨_,rfl,_,rfl,a,C,rfl,hk,hno _ (List.Mem.head _),.inl ⟨e,λdx hd hda=>?_⟩⟩;exact q dx hd hda
theorem kW:aI ["_law_found","_law_due","_law_word_here"] ["_law_found","_law_due"] (dS ka):=by walk_at "sc"
theorem qI{f:Addr}{fd:FuncData}(F:iK K "_law_alike" "_law_alike" ka f fd)(p9:mg "bool"=none)(vL:mg "int"=none)(bS:mg "isinstance"=none)(kl:mg "len"=none)(gL:mg "list"=none)(mw:mg "tuple"=none){aj:Addr}(aA:ax K aj)(mx:IsT K "bool" (nY "bool"))(qa:IsT K "int" Fd)(my:IsT K "list" (nY "list"))(km:IsT K "tuple" (nY "tuple")):bw P w K mg base cN 1 f fd ["_law_found","_law_due"] (gA K):=by
 refine F.ok kW (λvs H Q E h=>?_) (λcdv A outer s H vs Q E hr h=>?_)
 ·obtain⟨PP,ds,hP,hv,w,ks,ns,l,rfl,h1,h2,hc,q⟩:=h;exact hv.1
 obtain⟨PP,ds,hP,hv,w,ks,ns,l,rfl,h1,h2,hc,q⟩:=h;refine j8 hP hv ?_;show rN _ _ _ _ [some _,some _,none] [];clear hP hv;refine aK (gp (zC.dt (vf (pF (pE (sZ km rfl bS rfl mw Bi (ah 0)))) (vf (HE (hr.units) (pG rfl kl (ae (ah 0) aq)) ar) (sQ (pF (pE (sZ my rfl bS rfl gL oB (aR (n:=1) (ah 0))))))))) (aT (fi HA)) gr) (λR kk=>?_);walk_at "vc";refine MG rfl (MG rfl (MG rfl (kk _ _ ?_)));clear kk R;refine aK (pM Ye rfl (pJ (c9 (c9 (aR (n:=1) (ah 0)) (cE (ae (aR (n:=2) (ah 0)) aq))) (yA rfl gL (ae (rK (aR (n:=0) (ah 0)) (kG ar) kF) aq)))) (eK (i:=2) kW.nd rfl (Xe rfl)) (aT (gp (zC.dt (vf (pF (pE (sZ qa rfl bS rfl vL Ja (ah 2)))) (sQ (pE (sZ mx rfl bS rfl p9 Eu (ah 2)))))) (aT (fi HA)) gr))) (λR kk=>?_);walk_at "vc";rw[Qb ks h1,show [PyData.int l]=aM [l]from rfl,← nk,← nk,kJ,kJ,kJ];refine⟨by omega,by rw[Xr];show ns.length + 1 + ks.length<=1000000;omega,?_⟩;refine md (λi env st=>∃o,env=[some (.dat (.tuple [.tuple (.str w::aM ks),.list (aM ns),.int l])),some (.dat (.tuple [.tuple (.str w::aM ks),.list (aM ns),.int l])),o]/\st=[]) ⟨_,rfl,rfl⟩ (λ_ _ _ _=>trivial) ?_ ?_
 ·rintro i env st d hd ⟨o,rfl,rfl⟩;obtain⟨k,rfl⟩:=Fw hd;walk_at "vc";exact MG rfl (MG rfl ⟨_,rfl,rfl⟩)
 ·rintro env st ⟨o,rfl,rfl⟩;refine kk _ _ ?_;clear kk R;refine gw (fi (M3 (hr.units) (ah 0) (ah 1))) ?_;walk_at "vc";have sh:Sh 4 (.tuple [.tuple (.str w::aM ks),.list (aM ns),.int l]):=da (ay (da (ay (cG hc) (B4 λ_ _=>j9))) (ay (gx (B4 λ_ _=>j9)) (ay j9 cu)));refine⟨⟨sh.ok,sh.ok⟩,?_⟩;rw[sh.self];exact q
theorem bF:aI ["_law_things_here","_law_names","_law_echo","_law_counted","_law_body_here","_law_thing","_law_first","_law_x","_law_begin","_law_asks","_law_inner"] ["_law_things_here","_law_names","_law_echo","_law_counted"] (dS lA):=by walk_at "sc"
theorem tU{n:Nat}{f:Addr}{fd:FuncData}(F:iK K "_law_body" "_law_body" lA f fd){aj:Addr}(aA:ax K aj)(fQ:gI P w K mg base cN "_law_body" (n + 1) ["_law_things_here","_law_names","_law_echo","_law_counted"] (fN K n)):bw P w K mg base cN (n + 1 + 1) f fd ["_law_things_here","_law_names","_law_echo","_law_counted"] (fN K (n + 1)):=by
 refine F.ok bF (λvs H Q E h=>?_) (λcdv A outer s H vs Q E hr h=>?_)
 ·obtain⟨GG,NI,NJ,NK,hI,hv,m,ts,deep,cnt,c0,hn,rfl,rfl,ht,hp,hs,UX,q⟩:=h;exact hv.1
 obtain⟨GG,NI,NJ,NK,hI,hv,m,ts,deep,cnt,c0,hn,rfl,rfl,ht,hp,hs,UX,q⟩:=h;refine m7 hI hv ?_;show rN _ _ _ _ [some _,some _,some _,some _,none,none,none,none,none,none,none] _;clear hI hv;obtain rfl:n=deep:=X5 hn;have lt:=ht.len;refine aK (bo (i:=4) bF.nd rfl (Xe rfl) (lW aq)) (λR kk=>?_);walk_at "vc";refine kk _ _ ?_;clear kk R;refine aK (pM Ye rfl (pJ (ah 0)) (eK (i:=5) bF.nd rfl (Xe rfl)) (aT (gp (j7 (hr.units) (aR (n:=0) (ah 5)) aD) (aT (eN (bY (ah 4) (ae (aL (ae aD (ae (aL (ae aD (ae (ah 2) (ae (cE (ae (aL (ae aD (ae (aR (n:=1) (ah 5)) aq))) aq)) aq)))) aq))) aq)))) (aT (gp (j7 (hr.units) (aR (n:=0) (ah 5)) aD) (bH (bo (i:=6) bF.nd rfl (Xe rfl) (cD (js:=[false,false,false,true]) fQ g7 gZ (hr.mono (by omega)) rfl (ae (aR (n:=2) (ah 5)) (ae (ah 1) (ae (ah 2) (ae (ah 3) aq))))))
   (aT (eN (bY (ah 4) (ae (aL (ae aD (ae (aL (ae aD (ae (aR (n:=1) (ah 5)) aq))) (ae (ah 6) (ae (cD (js:=[false,false,false,true]) fQ g7 gZ (hr.mono (by omega)) rfl (ae (aR (n:=3) (ah 5)) (ae (ah 1) (ae (ah 2) (ae (ah 3) aq))))) aq))))) aq))))) (aT (gp (j7 (hr.units) (aR (n:=0) (ah 5)) aD) (bH (bo (i:=7) bF.nd rfl (Xe rfl) (c9 (aR (n:=2) (ah 1)) (lX aD (bp (dG (aR (n:=0) (ah 3)) ar) ar) (λ_ _=>rfl))))
   (bH (bo (i:=7) bF.nd rfl (Xe rfl) (c9 (c9 (ah 7) (lX aD (bp (aR (n:=0) (ah 3)) ar) (λ_ _=>rfl))) (aR (n:=3) (ah 1))))
   (bH (m6 (c9 (aR (n:=0) (ah 3)) ar) (w4 (ah 3) ar))
   (bH (bo (i:=8) bF.nd rfl (Xe rfl) (lX (cE (ae (aL (ae aD (ae (aR (n:=2) (ah 5)) aq))) (ae (aL (ae aD (ae (aR (n:=2) (ah 5)) aq))) (ae (aL (ae aD (ae (aR (n:=0) (ah 1)) aq))) (ae (aL (ae aD (ae (aR (n:=1) (ah 1)) aq))) aq))))) (aR (n:=3) (ah 5)) (λ_ _=>rfl)))
   (bH (bo (i:=9) bF.nd rfl (Xe rfl) (lX (cE (ae (aL (ae aD (ae (ah 7) aq))) (ae (aL (ae aD (ae (aL (ae aD (ae ar aq))) (ae (aL (ae aD (ae (ah 7) aq))) aq)))) (ae (aL (ae aD (ae (ah 2) (ae (cE (ae (aL (ae aD (ae (ah 7) aq))) aq)) aq)))) aq)))) (aR (n:=1) (ah 5)) (λ_ _=>rfl)))
   (bH (bo (i:=10) bF.nd rfl (Xe rfl) (cD (js:=[false,false,false,true]) fQ g7 gZ (hr.mono (by omega)) rfl (ae (aR (n:=4) (ah 5)) (ae (ah 1) (ae (ah 2) (ae (ah 3) aq))))))
   (bH (eN (bY (ah 4) (ae (aL (ae aD (ae (ah 7) (ae (aL (ae aD aq)) (ae (ah 8) aq))))) aq)))
   (aT (eN (bY (ah 4) (ae (aL (ae aD (ae (ah 9) (ae (c9 (ah 10) (cE (ae (aL (ae aD (ae (ah 7) (ae (aL (ae aD (ae (aL (ae aD (ae (ah 7) aq))) (ae (aL (ae aD (ae ar aq))) aq)))) aq)))) aq))) aq)))) aq))))))))))) (aT (eN (bY (ah 4) (ae (aL (ae (aR (n:=0) (ah 5)) (ae (aL (ae aD (ae (aR (n:=1) (ah 5)) aq))) aq))) aq))))))))))) (λR kk=>?_)
 walk_at "vc";refine md (Si m n cnt c0 ts) ⟨[],c0,cnt,_,_,_,_,_,_,rfl,rfl,.nil,ht,WU _,WU _⟩ (λ_ _ _ _=>trivial) ?_ ?_
 ·rintro i env st d hd ⟨bs,c1,cr,o5,o6,o7,o8,o9,rT,rfl,rfl,hb,hr',hc,hl⟩;have hi:i < ts.length:=(er hd).1;have et:ts.take (i + 1)=ts.take i++[d]:=by rw[YH,hd];rfl
  have ed:ts.drop i=d::ts.drop (i + 1):=by
   rw[XY hi]
   congr 1
   rw[jL hi]at hd;exact W0 hd
  rw[ed]at hr'
  have fin:∀(ds:List PyData) (c2 OL:Nat) (o5 o6 o7 o8 o9 rT:Option DV),mP m c1 c2 [d] ds->iA n OL (ts.drop (i + 1))->c2 + OL<=c0 + cnt->ds.length<=2->Si m n cnt c0 ts (i + 1) [some (.dat (.list ts)),some (.dat (.list [.str m.n0,.str m.n1,.str m.pre,.str m.suf])),some (.dat (.int (m.echo:Int))),some (.ref 0),some (.ref 1),o5,o6,o7,o8,o9,rT] [.live [.int (c2:Int)],.live (bs++ds)]:=λds c2 OL o5 o6 o7 o8 o9 rT h1 h2 h3 h4 =>
   ⟨bs++ds,c2,OL,o5,o6,o7,o8,o9,rT,rfl,rfl,by rw[et];exact hb.app h1,h2,h3,by rw[Xr];omega⟩
  cases hr' with
  | say hw h1 =>
   walk_at "vs";exact bu (by decide +kernel) (bu (by decide +kernel) (bu (by decide +kernel) ⟨rfl,by omega,fin _ c1 _ _ _ _ _ _ _ (.say .nil) h1 (by omega) (by show 1<=2;decide)⟩))
  | echo hw h1 =>
   walk_at "vs";exact jN rfl ⟨rfl,by omega,fin _ c1 _ _ _ _ _ _ _ (.echo .nil) h1 (by omega) (by show 1<=2;decide)⟩
  | give hw h1 =>
   walk_at "vs";exact bu (by decide +kernel) (bu (by decide +kernel) (bu (by decide +kernel) ⟨rfl,by omega,fin _ c1 _ _ _ _ _ _ _ (.give .nil) h1 (by omega) (by show 1<=2;decide)⟩))
  | @ifs n' c ca cb k a b _ hk h1 h2 h3 =>
   walk_at "vs";refine bu (by decide +kernel) (jN rfl ?_);refine cH (λR1 k1=>?_);walk_at "vs";refine⟨by simp,by simp,rfl,m,a,n',ca,c1,rfl,rfl,rfl,h1,hp,hs,by omega,λUY c2 Qg Qh Ar=>⟨rfl,rfl,k1 _ _ ?_⟩⟩;clear k1 R1;walk_at "vs";refine⟨rfl,by simp,by simp,rfl,m,b,n',cb,c2,rfl,rfl,rfl,h2,hp,hs,by omega,λWq c3 UZ LR Bp=>⟨rfl,rfl,by omega,fin _ c3 c _ _ _ _ _ _ (.ifs Qg UZ .nil) h3 (by omega) (by show 1<=2;decide)⟩⟩
  | @loop n' c ci way sel bg a _ hy hbg hsl h1 h2 =>
   walk_at "vs";refine bu (by decide +kernel) (bu (by decide +kernel) (jN rfl ?_));refine cH (λR1 k1=>?_);walk_at "vs";have e1:(c1:Int) / 26 % 26=((c1 / 26 % 26:Nat):Int):=by omega
   have e2:(c1:Int) % 26=((c1 % 26:Nat):Int):=by omega
   have one:∀k:Nat,(⟨#[k]⟩:Str).length=1:=λ_=>rfl
   have la:∀a b:Str,(a++b).length=a.length + b.length:=λa b=>vD a b
   rw[e1];refine⟨⟨by decide,by decide⟩,by decide,by decide,_,HU _ (Nat.mod_lt _ (by decide)),by rw[one];omega,k1 _ _ ?_⟩;clear k1 R1;refine cH (λR1 k1=>?_);walk_at "vs";rw[e2];refine⟨by decide,by decide,_,HU _ (Nat.mod_lt _ (by decide)),by rw[la,one,one];omega,by rw[la,la,one,one];omega,k1 _ _ ?_⟩;clear k1 R1;refine cH (λR1 k1=>?_);walk_at "vs";refine⟨0,rfl,k1 _ _ ?_⟩;clear k1 R1;rw[List.set_cons_zero,show((c1:Int) + 1)=((c1 + 1:Nat):Int)by omega];refine cH (λR1 k1=>?_);walk_at "vs"
   have eb:oA [mj bg,mj bg,kO m.n0,kO m.n1] (sel:Int)=some (m.uv bg sel):=by
    match sel,hsl with
    | 0,_=>rfl
    | 1,_=>rfl
    | 2,_=>rfl
    | 3,_=>rfl
   refine⟨_,eb,k1 _ _ ?_⟩;clear k1 R1;refine cH (λR1 k1=>?_);walk_at "vs"
   have ea:oA [kO (m.x c1),.tuple [.str "less",mj 0,kO (m.x c1)],.tuple [.str "call",.int (m.echo:Int),.list [kO (m.x c1)]]] (way:Int)=some (m.ask (m.x c1) way):=by
    match way,hy with
    | 0,_=>rfl
    | 1,_=>rfl
    | 2,_=>rfl
   refine⟨_,ea,k1 _ _ ?_⟩;clear k1 R1;refine cH (λR1 k1=>?_);walk_at "vs";refine⟨by simp,by simp,rfl,m,a,n',ci,c1 + 1,rfl,rfl,rfl,h1,hp,hs,by omega,λUY c2 Qg Qh Ar=>⟨rfl,rfl,k1 _ _ ?_⟩⟩;clear k1 R1;refine cH (λR1 k1=>?_);walk_at "vs";refine⟨rfl,by omega,k1 _ _ ?_⟩;clear k1 R1;walk_at "vs";refine⟨rfl,by omega,by rw[List.length_append];show bs.length + 1 < 1000000;omega,?_⟩;rw[List.append_assoc];exact fin _ c2 c _ _ _ _ _ _ (.loop Qg .nil) h2 (by omega) (by show 2<=2;decide)
 ·rintro env st ⟨bs,c1,cr,o5,o6,o7,o8,o9,rT,rfl,rfl,hb,hr',hc,hl⟩;refine kk _ _ ?_;clear kk R;refine gw (fi (ah 4)) ?_;walk_at "vc";rw[YW]at hb;exact q bs c1 hb (by omega) (by omega)
theorem tV:aI ["_law_state"] ["_law_state"] (dS lB):=by walk_at "sc"
theorem tW{f:Addr}{fd:FuncData}(F:iK K "_law_take" "_law_take" lB f fd){aj:Addr}(aA:ax K aj):bw P w K mg base cN 1 f fd ["_law_state"] (g8 K):=by
 refine F.ok tV (λvs H Q E h=>?_) (λcdv A outer s H vs Q E hr h=>?_)
 ·obtain⟨H0,a,l,fv,s,rfl,I,hf,h0,q1,q2⟩:=h;rfl
 obtain⟨H0,a,l,fv,s,rfl,I,hf,h0,q1,q2⟩:=h;refine⟨_,(qK (bf (tR bz (aF bA (pv 0) pI (λ_ _=>rfl)) pI (aC _)) (qO (oU (ff (pK aW pN)) (oS (pv 0) pI set_list))) (qO (oU (eD i8 (aF bA (pv 0) pI (λ_ _=>rfl)) pI) (oS (pv 0) pI set_list))))
   (qO (aX (i9 AZ (aF bA (pv 0) pI (λ_ _=>rfl)) kY (aC _))))),?_⟩
 have e:=I.hf.fM.mpr hf;subst e;refine⟨_,rfl,a,_,_,_,rfl,rfl,bK.of I.ha,aN (j:=1) rfl,rfl,_,rfl,?_⟩;by_cases z:s.left=0
 ·refine jN (by rw[z]) ?_;refine⟨LP,λt ht=>?_⟩;have s1:=aH ht (.tup [.str "weary"]);have I1:=I.same s1;have I2:=I1.put (fw:=.ref t) (f:=some .weary) ⟨t,rfl,cg.of uS⟩;refine⟨_,rfl,a,_,_,2,rfl,rfl,I1.ha,rfl,?_⟩;exact⟨_,rfl,a,_,_,_,rfl,rfl,bK.of uS,aN (j:=2) rfl,rfl,q1 z _ _ I2⟩
 ·refine bu (λy=>z (V.int.inj y)) ?_;refine⟨_,rfl,a,_,_,_,rfl,rfl,bK.of I.ha,aN (j:=1) rfl,_,_,rfl,rfl,?_⟩;refine⟨_,rfl,a,_,_,1,rfl,rfl,I.ha,rfl,?_⟩;exact⟨_,rfl,a,_,_,_,rfl,rfl,bK.of uS,aN (j:=2) rfl,rfl,q2 (by omega) _ (I.left _)⟩
theorem tX:aI ["_law_way","_law_count","_law_state"] ["_law_way","_law_count","_law_state"] (dS lC):=by walk_at "sc"
theorem tY{f:Addr}{fd:FuncData}(F:iK K "_law_goes" "_law_goes" lC f fd){aj:Addr}(aA:ax K aj)(ig:gI P w K mg base cN "_law_take" 1 ["_law_state"] (g8 K)):bw P w K mg base cN 2 f fd ["_law_way","_law_count","_law_state"] (kg K):=by
 refine F.ok tX (λvs H Q E h=>?_) (λcdv A outer s H vs Q E hr h=>?_)
 ·obtain⟨H0,a,l,fv,s,s',way,cnt,b,rfl,I,hf,h0,hg,q⟩:=h;rfl
 obtain⟨H0,a,l,fv,s,s',way,cnt,b,rfl,I,hf,h0,hg,q⟩:=h;refine⟨_,(qK (bf (tR bz (pv 0) pI (aC _)) (qO (aX (i9 uC (pv 1) pI (aC _)))) ba)
   (qK (bf (tR bz (pv 0) pI (aC _)) (qO (aX (i9 Hj (pv 1) pI (aC _)))) ba)
   (qK (bf (oQ (kZ (eF ig (hr.mono (by decide)) rfl (pK (pv 2) pN)))) (qO (aX xY)) ba)
   (qK (bL (rl Xy XF XH fh (aF bA (pv 2) pI (λ_ _=>rfl)) (pK (pv 1) pN)))
   (qO (aX (i9 uC (pv 1) pI (aC _)))))))),?_⟩
 cases hg with
 | w0 hw =>
  subst hw;refine⟨_,rfl,rfl,_,rfl,jN rfl ?_⟩;exact⟨_,rfl,rfl,by simpa using q H fv I⟩
 | w1 hw =>
  subst hw;refine⟨_,rfl,rfl,_,rfl,bu (by decide) ?_⟩;dsimp only[dq];refine⟨_,rfl,rfl,_,rfl,jN rfl ?_⟩;exact⟨_,rfl,_,_,rfl,rfl,q H fv I⟩
 | wW hw hl =>
  subst hw;refine⟨_,rfl,rfl,_,rfl,bu (by decide) ?_⟩;dsimp only[dq];refine⟨_,rfl,rfl,_,rfl,bu (by decide) ?_⟩;dsimp only[dq];refine⟨_,rfl,H0,a,l,fv,s,rfl,I,hf,h0,λ_ H' fw I'=>⟨_,rfl,iQ ?_⟩,λz=>absurd z (by omega)⟩;exact q H' fw I'
 | w2 hw hl hs =>
  subst hw;refine⟨_,rfl,rfl,_,rfl,bu (by decide) ?_⟩;dsimp only[dq];refine⟨_,rfl,rfl,_,rfl,bu (by decide) ?_⟩;dsimp only[dq];refine⟨_,rfl,H0,a,l,fv,s,rfl,I,hf,h0,λz=>absurd z (by omega),λ_ H' I'=>⟨_,rfl,jM ?_⟩⟩;dsimp only[dq];refine⟨_,rfl,a,_,_,_,rfl,rfl,bK.of I'.ha,aN (j:=0) rfl,.inl ⟨rfl,_,bK.of I'.hl⟩,_,rfl,l,_,_,rfl,rfl,I'.hl,(by rw[List.length_map];exact Nat.lt_of_lt_of_le hs (by decide)),?_⟩;exact⟨_,rfl,rfl,by simpa using q _ fv (I'.say cnt)⟩
theorem jx:aI ["_law_things_here","_law_inputs","_law_state","_law_thing","_law_count"] ["_law_things_here","_law_inputs","_law_state"] (dS pX):=by walk_at "sc"
theorem xv{n:Nat}{f:Addr}{fd:FuncData}(F:iK K "_law_do" "_law_do" pX f fd){aj:Addr}(aA:ax K aj)(kL:gI P w K mg base cN "_law_do" (n + 2) ["_law_things_here","_law_inputs","_law_state"] (kK K n))(vM:gI P w K mg base cN "_law_goes" 2 ["_law_way","_law_count","_law_state"] (kg K))(ig:gI P w K mg base cN "_law_take" 1 ["_law_state"] (g8 K)):bw P w K mg base cN (n + 2 + 1) f fd ["_law_things_here","_law_inputs","_law_state"] (kK K (n + 1)):=by
 refine F.ok jx (λvs H Q E h=>?_) (λcdv A outer s H vs Q E hr h=>?_)
 ·obtain⟨H0,a,l,fv,tv,iv,ts,i0,i1,deep,c,s,s',hn,rfl,hT,hV,ht,I,h0,hd,q⟩:=h;rfl
 obtain⟨H0,a,l,fv,tv,iv,ts,i0,i1,deep,c,s,s',hn,rfl,hT,hV,ht,I,h0,hd,q⟩:=h;refine⟨_,(qK (we Ye rfl (oz (pv 0)) (gU (i:=3) jx.nd rfl (Xe rfl)) (qK (bf (tR yb (aF bA (pv 2) pI (λ_ _=>rfl)) kY (aC _)) (qO (aX pI)) ba)
   (qO (bf (PW.pt (pw_or (tR bz (aF aJ (pv 3) pI (λ_ _=>rfl)) aW (aC _)) (pw_or1 (PW.pt (pw_and (tR bz (aF aJ (pv 3) pI (λ_ _=>rfl)) aW (aC _)) (pw_and1 (kZ (eF ig (hr.mono (by omega)) rfl (pK (pv 2) pN))))))))) (qO (bL (rl Xy XF XH fh (aF bA (pv 2) pI (λ_ _=>rfl)) (pK (aF aJ (pv 3) pI (λ_ _=>rfl)) pN)))) (qO (bf (tR bz (aF aJ (pv 3) pI (λ_ _=>rfl)) aW (aC _)) (qO (oU (ff (pK aW (pK (aF aJ (pv 3) pI (λ_ _=>rfl)) pN))) (oS (pv 2) pI set_list))) (qO (bf (tR bz (aF aJ (pv 3) pI (λ_ _=>rfl)) aW (aC _)) (qO (bL (eF kL (hr.mono (by omega)) rfl (pK (aF bA (eE (pK (aF aJ (pv 3) pI (λ_ _=>rfl)) (pK (aF aJ (pv 3) pI (λ_ _=>rfl)) pN))) (aF aJ (pv 3) pI (λ_ _=>rfl)) (λ_ _=>rfl)) (pK (pv 1) (pK (pv 2) pN)))))) (qO (bf (tR bz (aF aJ (pv 3) pI (λ_ _=>rfl)) aW (aC _)) (qK (c7 (i:=4) jx.nd rfl (Xe rfl) (aF bA (eE (pK (aF aJ (pv 3) pI (λ_ _=>rfl)) (pK (aF aJ (pv 3) pI (λ_ _=>rfl)) (pK (aF bA (pv 1) pI (λ_ _=>rfl)) (pK (aF bA (pv 1) pI (λ_ _=>rfl)) pN))))) (aF aJ (pv 3) pI (λ_ _=>rfl)) (λ_ _=>rfl)))
   (qO (uA Ye (kZ (eF vM (hr.mono (by omega)) rfl (pK (aF aJ (pv 3) pI (λ_ _=>rfl)) (pK (pv 4) (pK (pv 2) pN))))) (qK (bL (eF kL (hr.mono (by omega)) rfl (pK (aF aJ (pv 3) pI (λ_ _=>rfl)) (pK (pv 1) (pK (pv 2) pN)))))
   (qK (bf (PW.pt (pw_or (tR yb (aF bA (pv 2) pI (λ_ _=>rfl)) kY (aC _)) (pw_or1 (oQ (kZ (eF ig (hr.mono (by omega)) rfl (pK (pv 2) pN))))))) (qO (aX pI)) ba)
   (qO (c7 (i:=4) jx.nd rfl (Xe rfl) (eD i8 (eD wg (eD oV (eD i8 (pv 4) pI) pI) pI) pI)))))))) ba))))))))))
   (qO (aX pI))),?_⟩
 obtain rfl:n=deep:=X5 hn;obtain⟨ta,us,rfl,hL,hU⟩:=aP.eJ hT;have lu:us.length=ts.length:=hU.1;refine⟨_,rfl,ta,rfl,⟨_,I.s0.seq hL⟩,?_⟩;refine uB (xs:=us) (λi σ H2=>∃(u v:Option V) (si:jS) (fv:V) (cr:Nat),σ=[some (.ref ta),some iv,some (.ref a),u,v]/\qz K H0 a l fv H2 si/\0<=si.left/\Do i0 i1 (.L (ts.drop i)) si s'/\iA n cr (ts.drop i)) ⟨none,none,s,fv,c,rfl,I,h0,hd,ht⟩ ?_ ?_ ?_
 ·rintro i σ H2 _ ⟨u,v,si,fv,cr,rfl,I2,_⟩;exact I2.s0.seq hL
 ·rintro i x σ H2 hx ⟨u,v,si,fv,cr,rfl,I2,h2,d2,t2⟩;have hi:i < ts.length:=by rw[← lu];exact(er hx).1
  have hrx:=hU.2 i x _ hx (jL hi);rw[XY hi]at d2 t2;refine⟨_,rfl,a,_,_,_,rfl,rfl,bK.of I2.ha,aN (j:=2) rfl,rfl,_,rfl,?_⟩;have go:si.fin=none->fv=.non:=I2.hf.fM.mpr;generalize ts[i]=tt at hrx d2 t2;obtain⟨cr',t3⟩:=t2.tail
  cases d2 with
  | skip hf=>exact uJ (λz=>hf (I2.hf.fM.mp z)) (q H2 fv I2)
  | @say w _ _ _ hf hs d3 =>
   refine om (go hf) ?_;dsimp only[dq];obtain⟨t,x1,rfl,hS,g1⟩:=iU hrx I2.s0;have z1:=aP.aU g1;subst z1;refine⟨_,rfl,t,_,_,_,rfl,rfl,hS,aN (j:=0) rfl,rfl,_,rfl,?_⟩;refine jN rfl (iQ ?_);exact⟨_,rfl,a,_,_,_,rfl,rfl,bK.of I2.ha,aN (j:=0) rfl,.inl ⟨rfl,_,bK.of I2.hl⟩,_,rfl,t,_,_,_,rfl,rfl,hS,aN (j:=1) rfl,l,_,_,rfl,rfl,I2.hl,(by rw[List.length_map];exact Nat.lt_of_lt_of_le hs (by decide)),some _,v,_,fv,_,rfl,I2.say w,h2,d3,t3⟩
  | @echoG w _ _ _ hf hs hl d3 =>
   refine om (go hf) ?_;dsimp only[dq];obtain⟨t,x1,rfl,hS,g1⟩:=iU hrx I2.s0;have z1:=aP.aU g1;subst z1;refine⟨_,rfl,t,_,_,_,rfl,rfl,hS,aN (j:=0) rfl,rfl,_,rfl,?_⟩;refine bu (by decide +kernel) ?_;refine⟨_,rfl,t,_,_,_,rfl,rfl,hS,aN (j:=0) rfl,rfl,_,rfl,?_⟩;refine jN rfl ?_;refine⟨_,rfl,H0,a,l,fv,si,rfl,I2,hf,h2,λz=>absurd z (by omega),λ_ H3 I3=>⟨_,rfl,iQ ?_⟩⟩
   have As:cg K H3 t [.str "echo",.int w]:=by
    obtain⟨t',x1',e',As,g3⟩:=iU hrx I3.s0;cases e';have z1:=aP.aU g3;subst z1;exact As
   exact⟨_,rfl,a,_,_,_,rfl,rfl,bK.of I3.ha,aN (j:=0) rfl,.inl ⟨rfl,_,bK.of I3.hl⟩,_,rfl,t,_,_,_,rfl,rfl,As,aN (j:=1) rfl,l,_,_,rfl,rfl,I3.hl,(by rw[WY];exact WV hs (by decide)),some _,v,_,fv,_,rfl,I3.say w,(by show 0<=si.left - 1;omega),d3,t3⟩
  | @echoW w _ _ _ hf hl d3 =>
   refine om (go hf) ?_;dsimp only[dq];obtain⟨t,x1,rfl,hS,g1⟩:=iU hrx I2.s0;refine⟨_,rfl,t,_,_,_,rfl,rfl,hS,aN (j:=0) rfl,rfl,_,rfl,?_⟩;refine bu (by decide +kernel) ?_;refine⟨_,rfl,t,_,_,_,rfl,rfl,hS,aN (j:=0) rfl,rfl,_,rfl,?_⟩;refine jN rfl ?_;refine⟨_,rfl,H0,a,l,fv,si,rfl,I2,hf,h2,λ_ H3 fw I3=>⟨_,rfl,jM ?_⟩,λz=>absurd z (by omega)⟩;obtain⟨t',x1',e',As,_⟩:=iU hrx I3.s0;cases e';refine⟨_,rfl,t,_,_,_,rfl,rfl,As,aN (j:=0) rfl,rfl,_,rfl,bu (by decide +kernel) ?_⟩;refine⟨_,rfl,t,_,_,_,rfl,rfl,As,aN (j:=0) rfl,rfl,_,rfl,bu (by decide +kernel) ?_⟩;refine⟨_,rfl,t,_,_,_,rfl,rfl,As,aN (j:=0) rfl,rfl,_,rfl,bu (by decide +kernel) ?_⟩;exact⟨some _,v,_,fw,_,rfl,I3,h2,d3,t3⟩
  | @give w _ _ _ hf d3 =>
   refine om (go hf) ?_;dsimp only[dq];obtain⟨t,x1,rfl,hS,g1⟩:=iU hrx I2.s0;have z1:=aP.aU g1;subst z1;refine⟨_,rfl,t,_,_,_,rfl,rfl,hS,aN (j:=0) rfl,rfl,_,rfl,?_⟩;refine bu (by decide +kernel) ?_;refine⟨_,rfl,t,_,_,_,rfl,rfl,hS,aN (j:=0) rfl,rfl,_,rfl,?_⟩;refine bu (by decide +kernel) (jM ?_);refine⟨_,rfl,t,_,_,_,rfl,rfl,hS,aN (j:=0) rfl,rfl,_,rfl,jN rfl ?_⟩;refine⟨_,rfl,t,_,_,_,rfl,rfl,hS,aN (j:=1) rfl,AL,λu' hu'=>?_⟩;have s1:=aH hu' (.tup [.str "gave",.int w]);have I3:=I2.same s1;exact⟨_,rfl,a,_,_,2,rfl,rfl,I3.ha,rfl,some _,v,_,.ref u',_,rfl,I3.put (f:=some (.gave w)) ⟨u',rfl,cg.of uS⟩,h2,d3,t3⟩
  | @ifs k aa bb _ _ s1 _ hf d3 d4 =>
   refine om (go hf) ?_;dsimp only[dq];obtain⟨t,x1,x2,x3,rfl,hS,g1,g2,g3⟩:=nZ hrx I2.s0;have z1:=aP.aU g1;subst z1;refine⟨_,rfl,t,_,_,_,rfl,rfl,hS,aN (j:=0) rfl,rfl,_,rfl,?_⟩;refine bu (by decide +kernel) ?_;refine⟨_,rfl,t,_,_,_,rfl,rfl,hS,aN (j:=0) rfl,rfl,_,rfl,?_⟩;refine bu (by decide +kernel) (jM ?_);refine⟨_,rfl,t,_,_,_,rfl,rfl,hS,aN (j:=0) rfl,rfl,_,rfl,bu (by decide +kernel) ?_⟩;refine⟨_,rfl,t,_,_,_,rfl,rfl,hS,aN (j:=0) rfl,rfl,_,rfl,jN rfl ?_⟩;refine⟨_,rfl,t,_,_,_,rfl,rfl,hS,aN (j:=3) rfl,_,rfl,t,_,_,_,rfl,rfl,hS,aN (j:=2) rfl,AL,λu' hu'=>?_⟩;have s1':=aH hu' (.lst [x3,x2]);have I3:=I2.same s1';obtain⟨nn,ca,cb,hk,NL,U0,rfl⟩:∃nn ca cb,k < 2/\iA nn ca aa/\iA nn cb bb/\n=nn + 1:=by cases t2;exact⟨_,_,_,by assumption,by assumption,by assumption,rfl⟩
   have As:=s1'.tup hS;have U1:k=0∨k=1:=by omega
   rcases U1 with rfl | rfl
   ·rw[W4 rfl]at d3;exact⟨_,rfl,t,_,_,_,rfl,rfl,As,aN (j:=1) rfl,u',_,_,_,rfl,rfl,bK.of uS,aN (j:=0) rfl,_,rfl,_,rfl,H0,a,l,fv,x3,iv,bb,i0,i1,nn,cb,si,s1,rfl,rfl,g3,hV,U0,I3,h2,d3,λH' fw I'=>⟨some _,v,s1,fw,cr',rfl,I',d3.le.2 h2,d4,t3⟩⟩
   ·rw[W2 (by decide)]at d3;exact⟨_,rfl,t,_,_,_,rfl,rfl,As,aN (j:=1) rfl,u',_,_,_,rfl,rfl,bK.of uS,aN (j:=1) rfl,_,rfl,_,rfl,H0,a,l,fv,x2,iv,aa,i0,i1,nn,ca,si,s1,rfl,rfl,g2,hV,NL,I3,h2,d3,λH' fw I'=>⟨some _,v,s1,fw,cr',rfl,I',d3.le.2 h2,d4,t3⟩⟩
  | @loop way sel b aa _ _ s1 _ hf d3 d4 =>
   refine om (go hf) ?_;dsimp only[dq];obtain⟨t,x1,x2,x3,x4,rfl,NM,g1,g2,g3,g4⟩:=NF hrx (show aQ H0 H0 from λ_ _ e=>e);have hS:=I2.s0.tup NM;have z1:=aP.aU g1;have z2:=aP.aU g2;have z3:=aP.aU g3;subst z1 z2 z3;obtain⟨ia,is,rfl,hI,hIR⟩:=aP.eJ hV;obtain⟨j0,j1,rfl⟩:=OJ hIR.1;have y0:=aP.aU (hIR.2 0 j0 _ rfl rfl);have y1:=aP.aU (hIR.2 1 j1 _ rfl rfl);subst y0 y1;refine⟨_,rfl,t,_,_,_,rfl,rfl,hS,aN (j:=0) rfl,rfl,_,rfl,?_⟩;refine bu (by decide +kernel) ?_;refine⟨_,rfl,t,_,_,_,rfl,rfl,hS,aN (j:=0) rfl,rfl,_,rfl,?_⟩;refine bu (by decide +kernel) (jM ?_);refine⟨_,rfl,t,_,_,_,rfl,rfl,hS,aN (j:=0) rfl,rfl,_,rfl,bu (by decide +kernel) ?_⟩;refine⟨_,rfl,t,_,_,_,rfl,rfl,hS,aN (j:=0) rfl,rfl,_,rfl,bu (by decide +kernel) ?_⟩;refine⟨_,rfl,t,_,_,_,rfl,rfl,hS,aN (j:=0) rfl,rfl,_,rfl,jN rfl ?_⟩;refine⟨_,rfl,t,_,_,_,rfl,rfl,hS,aN (j:=2) rfl,?_⟩;refine⟨_,rfl,t,_,_,_,rfl,rfl,hS,aN (j:=2) rfl,?_⟩;have Sj:=I2.s0.seq hI;refine⟨_,rfl,ia,_,_,_,rfl,rfl,Sj,aN (j:=0) rfl,?_⟩;refine⟨_,rfl,ia,_,_,_,rfl,rfl,Sj,aN (j:=1) rfl,?_⟩;refine⟨TU,λu' hu'=>?_⟩;have s1':=aH hu' (.lst [.int b,.int b,.int i0,.int i1]);have I3:=I2.same s1';have As:=s1'.tup hS;obtain⟨nn,ci,hy,hsl,NL,rfl⟩:∃nn ci,way < 3/\sel < 4/\iA nn ci aa/\n=nn + 1:=by cases t2 with | loop y1 y2 y3 y4 y5=>exact⟨_,_,y1,y3,y4,rfl⟩
   refine⟨_,rfl,t,_,_,_,rfl,rfl,As,aN (j:=3) rfl,u',_,_,_,rfl,rfl,bK.of uS,Ci hsl,?_⟩;refine⟨λm σ H4=>∃(sj:jS) (fw:V) (cnt:Int),m=sj.left.toNat/\σ=[some (.ref ta),some (.ref ia),some (.ref a),some (.ref t),some (.int cnt)]/\qz K H0 a l fw H4 sj/\sj.fin=none/\0<=sj.left/\Do i0 i1 (.W way cnt aa) sj s1,⟨_,si,fv,_,rfl,rfl,I3,hf,h2,d3⟩,?_⟩;rintro m σ H4 ⟨sj,fw,cnt,rfl,rfl,I4,f4,h4,d5⟩;refine⟨_,rfl,t,_,_,_,rfl,rfl,I4.s0.tup NM,aN (j:=1) rfl,_,rfl,_,rfl,?_⟩
   cases d5 with
   | wStop g=>exact⟨H0,a,l,fw,sj,_,way,cnt,false,rfl,I4,f4,h4,g,λH5 fx I5=>⟨_,rfl,jM ⟨_,_,_,fx,cr',rfl,I5,g.le.2 h4,d4,t3⟩⟩⟩
   | @wFin _ _ _ _ sg s2 g d6 FF =>
    refine⟨H0,a,l,fw,sj,_,way,cnt,true,rfl,I4,f4,h4,g,λH5 fx I5=>⟨_,rfl,iQ ⟨λ_ _=>False,λ_ _ z=>z.elim,?_⟩⟩⟩;refine⟨_,rfl,t,_,_,_,rfl,rfl,I5.s0.tup NM,aN (j:=4) rfl,_,rfl,_,rfl,H0,a,l,fx,x4,.ref ia,aa,i0,i1,nn,ci,sg,_,rfl,rfl,g4,hV,NL,I5,g.le.2 h4,d6,λH6 fy I6=>?_⟩;refine⟨_,rfl,a,_,_,_,rfl,rfl,bK.of I6.ha,aN (j:=2) rfl,rfl,_,rfl,uJ (λz=>FF (I6.hf.fM.mp z)) (iQ ?_)⟩;have e:=d4.done FF;subst e;exact q H6 fy I6
   | @wWeary _ _ _ _ sg s2 g d6 FF U2 =>
    refine⟨H0,a,l,fw,sj,_,way,cnt,true,rfl,I4,f4,h4,g,λH5 fx I5=>⟨_,rfl,iQ ⟨λ_ _=>False,λ_ _ z=>z.elim,?_⟩⟩⟩;refine⟨_,rfl,t,_,_,_,rfl,rfl,I5.s0.tup NM,aN (j:=4) rfl,_,rfl,_,rfl,H0,a,l,fx,x4,.ref ia,aa,i0,i1,nn,ci,sg,_,rfl,rfl,g4,hV,NL,I5,g.le.2 h4,d6,λH6 fy I6=>?_⟩;refine⟨_,rfl,a,_,_,_,rfl,rfl,bK.of I6.ha,aN (j:=2) rfl,rfl,_,rfl,om (I6.hf.fM.mpr FF) ?_⟩;refine⟨_,rfl,H0,a,l,fy,s2,rfl,I6,FF,by omega,λ_ H7 fz I7=>⟨_,rfl,iQ ?_⟩,λz=>absurd z (by omega)⟩;have e:=d4.done (λz=>(nomatch z));subst e;exact q H7 fz I7
   | @wMore _ _ _ _ sg _ s2 g d6 FF U2 d7 =>
    refine⟨H0,a,l,fw,sj,_,way,cnt,true,rfl,I4,f4,h4,g,λH5 fx I5=>⟨_,rfl,iQ ⟨_,λ_ _ z=>z,?_⟩⟩⟩;refine⟨_,rfl,t,_,_,_,rfl,rfl,I5.s0.tup NM,aN (j:=4) rfl,_,rfl,_,rfl,H0,a,l,fx,x4,.ref ia,aa,i0,i1,nn,ci,sg,_,rfl,rfl,g4,hV,NL,I5,g.le.2 h4,d6,λH6 fy I6=>?_⟩;refine⟨_,rfl,a,_,_,_,rfl,rfl,bK.of I6.ha,aN (j:=2) rfl,rfl,_,rfl,om (I6.hf.fM.mpr FF) ?_⟩;refine⟨_,rfl,H0,a,l,fy,s2,rfl,I6,FF,by omega,λz=>absurd z (by omega),λ_ H7 I7=>⟨_,rfl,jM ?_⟩⟩;dsimp only[dq];have l1:=g.le;have l2:=d6.le;exact⟨_,rfl,_,_,rfl,rfl,_,_,rfl,rfl,_,_,rfl,rfl,(by show(0:Int) < 4294967296;decide),_,_,rfl,rfl,_,(by show(s2.left - 1).toNat < _;omega),{s2 with left:=s2.left - 1},fy,dw (cnt - 1),rfl,rfl,I7,FF,(by show 0<=s2.left - 1;omega),d7⟩
 ·rintro σ H2 ⟨u,v,si,fv,cr,rfl,I2,h2,d2,t2⟩;rw[lu,YX]at d2
  cases d2 with
  | nil=>exact q H2 fv I2
theorem jy:aI ["_law_source_here","_law_many","_law_cell"] ["_law_source_here","_law_many"] (dS lD):=by walk_at "sc"
theorem tZ{f:Addr}{fd:FuncData}(F:iK K "_law_next" "_law_next" lD f fd)(kl:mg "len"=none){aj:Addr}(aA:ax K aj):bw P w K mg base cN 1 f fd ["_law_source_here","_law_many"] (fO K):=by
 refine F.ok jy (λvs H Q E h=>?_) (λcdv A outer s H vs Q E hr h=>?_)
 ·obtain⟨GG,NI,NJ,NK,hI,hv,src,m,rfl,rfl,h0,hm,q⟩:=h;exact hv.1
 obtain⟨GG,NI,NJ,NK,hI,hv,src,m,rfl,rfl,h0,hm,q⟩:=h;refine m7 hI hv ?_;show rN _ _ _ _ [some _,some _,none] _;clear hI hv;obtain⟨x,r,rfl⟩:∃x r,src=x::r:=by cases src with | nil=>exact absurd rfl h0.ne | cons x r=>exact⟨x,r,rfl⟩
 rw[show aM (x::r)=.int x::aM r from rfl];refine aK (bo (i:=2) jy.nd rfl (Xe rfl) (dG (bp (sM (aR (n:=0) (ah 0)) ar) ar) ar)) (λR kk=>?_);walk_at "vc";refine⟨.inl (.inr ⟨by decide,by decide⟩),by decide,⟨by decide,by decide⟩,kk _ _ ?_⟩;clear kk R;refine aK (gp (M6 (pG rfl kl (ae (ah 0) aq)) ar) (aT (bo (i:=2) jy.nd rfl (Xe rfl) (B6 (ah 0) (ae ar aq)))) gr) (λR kk=>?_)
 have nx:∀(c:Int) (r':List Int),r'.length<=r.length->R [some (.ref 0),some (.dat (.int m)),some (.dat (.int c))] [.live (.int x::aM r')]:=λc r' hl=>by
  refine kk _ _ ?_;clear kk R;refine aK (m6 (bp (c9 (c9 (sM (aR (n:=0) (ah 0)) ar) (bp (ah 2) ar)) ar) ar) (w4 (ah 0) ar)) (λR kk=>?_);walk_at "vc";refine⟨.inl (.inr ⟨by decide,by decide⟩),by decide,by decide,0,?_,kk _ _ ?_⟩
  ·unfold Be;rw[if_pos (by decide),if_pos (by omega)];rfl
  clear kk R;rw[List.set_cons_zero];refine gw (fi (bp (ah 2) (ah 1))) ?_;walk_at "vc";refine⟨hm,q _ (_::r') (Int.emod_nonneg _ (by omega)) (Int.emod_lt_of_pos _ hm) ⟨by simp,?_⟩⟩;have:=h0.few;rw[List.length_cons]at this ⊢;omega
 clear kk;walk_at "vc"
 cases r with
 | nil=>exact bu (by decide) (nx _ [] (WU _))
 | cons y r =>
  refine jN (by show(1:Int) < (((aM r).length + 1 + 1:Nat):Int);omega) ⟨rfl,1,.int y,?_,rfl,by decide,by decide,nx y r (Nat.le_succ _)⟩;show seqIndex? 1 ((aM r).length + 1 + 1)=some 1;unfold seqIndex?;show(if (decide ((0:Int)<=1)&&decide ((1:Int) < (((aM r).length + 1 + 1:Nat):Int)))=true then some 1 else none)=some 1;rw[if_pos (by simp;omega)]
theorem eQ:aI ["_law_script","_law_start","_law_cell"] ["_law_script"] (dS jj):=by walk_at "sc"
theorem qb{f:Addr}{fd:FuncData}(F:iK K "_law_source" "_law_source" jj f fd)(gL:mg "list"=none){aj:Addr}(aA:ax K aj):bw P w K mg base cN 1 f fd ["_law_script"] (fG K):=by
 refine F.ok eQ (λvs H Q E h=>?_) (λcdv A outer s H vs Q E hr h=>?_)
 ·obtain⟨PP,ds,hP,hv,ns,rfl,OM,q⟩:=h;exact hv.1
 obtain⟨PP,ds,hP,hv,ns,rfl,OM,q⟩:=h;refine xh hP hv ?_;show rN _ _ _ _ [some _,none,none] [];clear hP hv;refine aK (bo (i:=1) eQ.nd rfl (Xe rfl) ar) (λR kk=>?_);walk_at "vc";refine kk _ _ ?_;clear kk R;refine aK (pM Ye rfl (pJ (ah 0)) (eK (i:=2) eQ.nd rfl (Xe rfl)) (aT (bo (i:=1) eQ.nd rfl (Xe rfl) (bp (c9 (sM (ah 1) ar) (ah 2)) ar)))) (λR kk=>?_);walk_at "vc";refine md (λi env st=>∃(k:Int) (o:Option DV),env=[some (.dat (.list (aM ns))),some (.dat (.int k)),o]/\st=[]) ⟨_,_,rfl,rfl⟩ (λ_ _ _ _=>trivial) ?_ ?_
 ·rintro i env st d hd ⟨k,o,rfl,rfl⟩;unfold aM at hd;rw[List.getElem?_map]at hd
  cases e:ns[i]? with
  | none=>rw[e]at hd;cases hd
  | some c =>
   rw[e]at hd;cases hd;walk_at "vc";exact⟨.inl (.inr ⟨by decide,by decide⟩),by decide,_,_,rfl,rfl⟩
 ·rintro env st ⟨k,o,rfl,rfl⟩;refine kk _ _ ?_;clear kk R;refine gw (fi (ER (cE (ae (ah 1) aq)) (yA rfl gL (ae (ah 0) aq)))) ?_;walk_at "vc";exact⟨by rw[show(aM ns).length=ns.length from List.length_map _];omega,q (k::ns) ⟨by simp,by rw[List.length_cons];omega⟩⟩
theorem jz:aI ["_law_cell","_law_way"] ["_law_cell"] (dS lE):=by walk_at "sc"
theorem t6{f:Addr}{fd:FuncData}(F:iK K "_law_word" "_law_word" lE f fd)(eT:mg "divmod"=none){aj:Addr}(aA:ax K aj):bw P w K mg base cN 1 f fd ["_law_cell"] (fP K):=by
 refine F.ok jz (λvs H Q E h=>?_) (λcdv A outer s H vs Q E hr h=>?_)
 ·obtain⟨PP,ds,hP,hv,c,rfl,q⟩:=h;exact hv.1
 obtain⟨PP,ds,hP,hv,c,rfl,q⟩:=h;refine j8 hP hv ?_;show rN _ _ _ _ [some _,none] [];clear hP hv;refine aK (m6 (m8 rfl eT (ae (ah 0) (ae ar aq))) (wZ (m:=2) rfl (iS (eK (i:=0) jz.nd rfl (Or.inl rfl)) (iS (eK (i:=1) jz.nd rfl (Or.inl rfl)) sW)))) (λR kk=>?_);walk_at "vc";refine⟨⟨by decide,by decide⟩,rfl,kk _ _ ?_⟩;clear kk R;refine aK (gp (HD (ah 1) ar) (aT (fi (jg (bp (ah 0) ar) ar))) gr) (λR kk=>?_);walk_at "vc";refine jh (λ_=>⟨by decide,q _ (by unfold iT;omega)⟩) λ_=>kk _ _ ?_
 clear kk R;refine aK (gp (j7 (hr.units) (ah 1) ar) (aT (fi (jg (bp (sM (ah 0) ar) ar) ar))) gr) (λR kk=>?_);walk_at "vc";refine jh (λ_=>⟨.inl (.inr ⟨by decide,by decide⟩),by decide,q _ (by unfold iT;omega)⟩) λ_=>kk _ _ ?_
 clear kk R;refine gw (fi (lX (cE (ae ar (ae (BJ ar) (ae ar (ae (BJ ar) aq))))) (bp (ah 0) ar) (λ_ _=>rfl))) ?_;walk_at "vc";obtain⟨d,hd,ed⟩:=yG (xs:=[PyData.int 2147483647,PyData.int (-2147483648),PyData.int 65536,PyData.int (-46341)]) (n:=4) rfl (by decide) (c / 4);refine⟨by decide,d,ed,?_⟩;simp only[List.mem_cons,List.not_mem_nil,or_false]at hd;rcases hd with rfl | rfl | rfl | rfl<;>exact q _ (by unfold iT;omega)
theorem bJ:aI ["_law_source_here","_law_deep","_law_room","_law_things_here","_law_k","_law_cell","_law_way","_law_first","_law_inner"] ["_law_source_here","_law_deep","_law_room"] (dS jk):=by walk_at "sc"
theorem qc{n:Nat}{f:Addr}{fd:FuncData}(F:iK K "_law_things" "_law_things" jk f fd)(eT:mg "divmod"=none)(jA:mg "range"=none){aj:Addr}(aA:ax K aj)(fR:gI P w K mg base cN "_law_next" 1 ["_law_source_here","_law_many"] (fO K))(dC:gI P w K mg base cN "_law_things" (n + 1) ["_law_source_here","_law_deep","_law_room"] (dz K n))(fS:gI P w K mg base cN "_law_word" 1 ["_law_cell"] (fP K)):bw P w K mg base cN (n + 1 + 1) f fd ["_law_source_here","_law_deep","_law_room"] (dz K (n + 1)):=by
 refine F.ok bJ (λvs H Q E h=>?_) (λcdv A outer s H vs Q E hr h=>?_)
 ·obtain⟨GG,NI,NJ,NK,hI,hv,src,deep,room,hn,rfl,rfl,h0,Qf,q⟩:=h;exact hv.1
 obtain⟨GG,NI,NJ,NK,hI,hv,src,deep,room,hn,rfl,rfl,h0,Qf,q⟩:=h;refine m7 hI hv ?_;show rN _ _ _ _ [some _,some _,some _,none,none,none,none,none,none] _;clear hI hv;obtain rfl:n=deep:=X5 hn;refine aK (bo (i:=3) bJ.nd rfl (Xe rfl) (lW aq)) (λR kk=>?_);walk_at "vc";refine kk _ _ ?_;clear kk R;refine aK (pM Ye rfl (rL rfl jA (ae (c9 ar (cD (js:=[true,false]) fR hZ g9 (hr.mono (by omega)) rfl (ae (ah 0) (ae ar aq)))) aq)) (eK (i:=4) bJ.nd rfl (Xe rfl)) (bH (gp (j7 (hr.units) (aR (n:=0) (ah 2)) ar) (aT (fi (ah 3))) gr)
   (bH (m6 (jg (aR (n:=0) (ah 2)) ar) (w4 (ah 2) ar))
   (bH (m6 (m8 rfl eT (ae (cD (js:=[true,false]) fR hZ g9 (hr.mono (by omega)) rfl (ae (ah 0) (ae (wX ar ar) aq))) (ae ar aq))) (wZ (m:=2) rfl (iS (eK (i:=5) bJ.nd rfl (Xe rfl)) (iS (eK (i:=6) bJ.nd rfl (Xe rfl)) sW))))
   (aT (gp (zC.dt (vf (HD (ah 6) ar) (sQ (j7 (hr.units) (ah 1) ar)))) (aT (eN (bY (ah 3) (ae (aL (ae aD (ae (kH fS ie ic (hr.mono (by omega)) rfl (ae (ah 5) aq)) aq))) aq)))) (aT (gp (j7 (hr.units) (ah 6) ar) (aT (eN (bY (ah 3) (ae (aL (ae aD (ae (kH fS ie ic (hr.mono (by omega)) rfl (ae (ah 5) aq)) aq))) aq)))) (aT (gp (j7 (hr.units) (ah 6) ar) (bH (bo (i:=7) bJ.nd rfl (Xe rfl) (cD (js:=[true,false,true]) dC fJ fH (hr.mono (by omega)) rfl (ae (ah 0) (ae (jg (ah 1) ar) (ae (ah 2) aq)))))
   (aT (eN (bY (ah 3) (ae (aL (ae aD (ae (bp (ah 5) ar) (ae (ah 7) (ae (cD (js:=[true,false,true]) dC fJ fH (hr.mono (by omega)) rfl (ae (ah 0) (ae (jg (ah 1) ar) (ae (ah 2) aq)))) aq))))) aq))))) (aT (gp (zC.dt (JE (j7 (hr.units) (ah 6) ar) (EU (j7 (hr.units) (bp (ah 5) ar) ar)))) (aT (eN (bY (ah 3) (ae (aL (ae aD (ae (kH fS ie ic (hr.mono (by omega)) rfl (ae (ah 5) aq)) aq))) aq)))) (bH (bo (i:=8) bJ.nd rfl (Xe rfl) (cD (js:=[true,false,true]) dC fJ fH (hr.mono (by omega)) rfl (ae (ah 0) (ae (jg (ah 1) ar) (ae (ah 2) aq)))))
   (aT (eN (bY (ah 3) (ae (aL (ae aD (ae (bp (ah 5) ar) (ae (jg (bp (dG (ah 5) ar) ar) ar) (ae (bp (dG (ah 5) ar) ar) (ae (ah 8) aq)))))) aq))))))))))))))))) (λR kk=>?_)
 walk_at "vc";refine⟨by simp,by simp,rfl,src,3,rfl,rfl,h0,by decide,λr0 Ko a0 b0 h1=>⟨rfl,rfl,⟨by omega,by omega⟩,?_⟩⟩;refine md (Qa n room) ⟨[],0,Ko,room,_,_,_,_,_,rfl,rfl,.nil,Nat.le_refl _,h1,Nat.zero_add _⟩ (λ_ _ _ _=>trivial) ?_ ?_
 ·rintro i env st d hd ⟨ts,c,src,n9,o4,o5,o6,o7,o8,rfl,rfl,ht,hl,hs,hr'⟩
  have i3:i < 3:=by
   have z:=(sU hd).1;omega
  refine cH (λR1 k1=>?_);walk_at "vs";refine jh (λz=>q ts c src n9 ht (by omega) hs hr') (λz=>k1 _ _ ?_);clear k1 R1;obtain⟨r1,rfl⟩:∃r1,n9=r1 + 1:=⟨n9 - 1,by omega⟩;refine cH (λR1 k1=>?_);walk_at "vs";refine⟨0,rfl,k1 _ _ ?_⟩;clear k1 R1;rw[List.set_cons_zero,show(((r1 + 1:Nat):Int) - 1)=(r1:Int)by omega];refine cH (λR1 k1=>?_);walk_at "vs";refine⟨⟨by decide,by decide,by decide⟩,by simp,by simp,rfl,src,_,rfl,rfl,hs,by decide,λr0 qJ a2 b2 h2=>⟨rfl,rfl,?_⟩⟩;walk_at "vs";refine⟨⟨by decide,by decide⟩,rfl,k1 _ _ ?_⟩;clear k1 R1
  have fin:∀(t:PyData) (c1 r2:Nat) (qL:List Int) (o4 o5 o6 o7 o8:Option DV),iA n c1 [t]->n8 qL->c1 + r2=r1 + 1->ts.length < 1000000/\Qa n room (i + 1) [some (.ref 0),some (.dat (.int (n:Int))),some (.ref 1),some (.ref 2),o4,o5,o6,o7,o8] [.live (aM qL),.live [.int (r2:Int)],.live (ts++[t])]:=λt c1 r2 qL o4 o5 o6 o7 o8 h1 h2 h3 =>
   ⟨by omega,ts++[t],c + c1,qL,r2,o4,o5,o6,o7,o8,rfl,rfl,ht.app h1,by rw[Xr,List.length_singleton];omega,h2,by omega⟩
  have say:true=true/\jr [.int (r0 / 9)] λU3=>ts.length < 1000000/\Qa n room (i + 1) [some (.ref 0),some (.dat (.int (n:Int))),some (.ref 1),some (.ref 2),some (.dat d),some (.dat (.int (r0 / 9))),some (.dat (.int (r0 % 9))),o7,o8] [.live (aM qJ),.live [.int (r1:Int)],.live (ts++[.tuple [.str "say",U3]])]:=⟨rfl,_,rfl,λw hw=>fin _ 1 r1 qJ _ _ _ _ _ (.say hw .nil) h2 (Nat.add_comm _ _)⟩
  walk_at "vs";refine jh (λ_=>iQ say) (λz2=>?_);refine jh (λ_=>say) (λzn=>?_);obtain⟨m,rfl⟩:∃m,n=m + 1:=⟨n - 1,by omega⟩;clear say;have ca:((m + 1:Nat):Int) - 1=(m:Int):=by omega
  refine jh (λ_=>⟨rfl,_,rfl,λw hw=>fin _ 1 r1 qJ _ _ _ _ _ (.echo hw .nil) h2 (Nat.add_comm _ _)⟩) (λ_=>?_);refine jh (λ_=>?_) (λ_=>?_)
  ·refine cH (λR1 k1=>?_);walk_at "vs";rw[ca];refine⟨by simp,by simp,rfl,qJ,m,r1,rfl,rfl,rfl,h2,by omega,λU4 c1 qL r2 t1 l1 h3 e3=>⟨rfl,rfl,k1 _ _ ?_⟩⟩;clear k1 R1;walk_at "vs";rw[ca];refine⟨rfl,by decide,by simp,by simp,rfl,qL,m,r2,rfl,rfl,rfl,h3,by omega,λWr c2 Qi r3 t2 l2 h4 e4=>⟨rfl,rfl,?_⟩⟩;obtain⟨k,ek,hk⟩:=iy (r0 / 9) (n:=2) (by decide);rw[ek];exact fin _ (0 + c1 + c2 + 1) r3 Qi _ _ _ _ _ (.ifs (by omega) t1 t2 .nil) h4 (by omega)
  refine ND (by decide) ⟨rfl,_,rfl,λw hw=>fin _ 1 r1 qJ _ _ _ _ _ (.give hw .nil) h2 (Nat.add_comm _ _)⟩ ?_;refine cH (λR1 k1=>?_);walk_at "vs";rw[ca];refine⟨by simp,by simp,rfl,qJ,m,r1,rfl,rfl,rfl,h2,by omega,λU4 c1 qL r2 t1 l1 h3 e3=>⟨rfl,rfl,k1 _ _ ?_⟩⟩;clear k1 R1;walk_at "vs";obtain⟨k,ek,hk⟩:=iy (r0 / 9) (n:=3) (by decide);obtain⟨k',ek',hk'⟩:=iy (r0 / 9 / 18) (n:=4) (by decide);rw[ek,ek'];exact⟨rfl,by decide,⟨by decide,by decide⟩,by decide,⟨by decide,by decide⟩,by decide,fin _ (0 + c1 + 1) r2 qL _ _ _ _ _ (.loop (by omega) (by unfold iT;omega) (by omega) t1 .nil) h3 (by omega)⟩
 ·rintro env st ⟨ts,c,src,n9,o4,o5,o6,o7,o8,rfl,rfl,ht,hl,hs,hr'⟩;refine kk _ _ ?_;clear kk R;refine gw (fi (ah 3)) ?_;walk_at "vc";refine q ts c src n9 ht ?_ hs hr';rw[lZ]at hl;omega
theorem xw:aI ["takes","gives"] ["takes","gives"] (dS m9):=by walk_at "sc"
theorem xy{f:Addr}{fd:FuncData}(F:iK K "is_door" "is_door" m9 f fd)(vN:mg "all"=none){aj:Addr}(aA:ax K aj):bw P w K mg base cN 1 f fd ["takes","gives"] (ju K):=by
 refine F.ok xw (λvs H Q E h=>?_) (λcdv A outer s H vs Q E hr h=>?_)
 ·obtain⟨tl,g,ys,ks,gk,rfl,hS,hK,hg,jT,q⟩:=h;rfl
 obtain⟨tl,g,ys,ks,gk,rfl,hS,hK,hg,jT,q⟩:=h;refine⟨_,(qO (aX (oX (Bo rfl) rfl vN IZ (pK (Ho 1 ["kind"] [] ⟨rfl,rfl,rfl,rfl,rfl,rfl,rfl,rfl⟩ (oz (eD yo (pv 0) (eE (pK (pv 1) pN)))) (λ_ _ _ _=>⟨(gU (i:=0) (show List.Nodup (["kind"]:List Str)by decide +kernel) rfl (Xe rfl)),oE,(i9 (r:=Jc K) (sA (hr.units)) (pv 0) (ff (pK aW pN)) (aC _))⟩)) pN)))),?_⟩;have ly:=hK.1;rw[WY]at ly;refine⟨_,rfl,_,rfl,LP,λl1 h1=>?_⟩;have u1:=aH h1 (.lst [g]);refine⟨tl,l1,ys,_,rfl,rfl,u1.seq hS,bK.of uS,Yi (sK (by show ys.length + 1<=1000;omega)),λl2 h2=>?_⟩;have u2:=aH h2 (.lst (ys++[g]));have U:=u1.trans u2;have g2:=uS (H:=upd H l1 (.lst [g])) (a:=l2) (o:=.lst (ys++[g]));generalize upd (upd H l1 (.lst [g])) l2 (.lst (ys++[g]))=H1 at U g2 ⊢;refine⟨l2,rfl,⟨_,bK.of g2⟩,λD hD=>?_⟩
 have hA:dP K H (ys++[g]) (pZ (ks++[gk])):=by
  unfold pZ;rw[List.map_append];exact dP.append hK (.cons hg .nil)
 refine sC (xs:=ys++[g]) (λi zs H2=>aQ H1 H2/\H2 D=some (.lst zs)/\zs=(((ks++[gk]).take i).map kh).map V.bl) (Yi (sK (by rw[Xr];show ys.length + 1<=1000;omega))) ⟨aH hD _,uS,rfl⟩ ?_ ?_ ?_
 ·rintro i zs H2 hi ⟨s2,d2,rfl⟩;refine⟨d2,?_,s2.seq (bK.of g2)⟩;rw[WY,WY,XJ];omega
 ·rintro i x zs H2 hx ⟨s2,d2,rfl⟩
  have hi:i < (ks++[gk]).length:=by
   have:=(er hx).1;rw[List.length_append]at this ⊢;simp only[List.length_singleton]at this ⊢;omega
  have hr':=hA.2 i x (.tuple (tJ (ks++[gk])[i])) hx (by rw[Xv,jL hi];rfl);refine⟨rfl,_,rfl,LP,λt ht=>?_⟩;have s3:=aH ht (.tup [.str "number"]);refine⟨_,_,aP.same (U.trans (s2.trans s3)) hr',.Bj (cg.of uS) (.cons (.str _) .nil),JV _,(by decide +kernel),s3 _ _ d2,vC (s2.trans s3) hD _,uS,?_⟩;rw[Cq,List.take_succ_eq_append_getElem hi,Yd,Yd];rfl
 ·rintro zs H2 ⟨s2,d2,rfl⟩;have e:(ks++[gk]).take (ys++[g]).length=ks++[gk]:=List.take_of_length_le (by rw[List.length_append,List.length_append];simp only[List.length_singleton];omega);rw[e]at d2;refine⟨D,_,rfl,bK.of d2,?_⟩;have z:=q H2 (U.trans s2);rw[List.all_map];exact z
theorem kX:aI ["parts","part","inputs","takes"] ["parts","part","inputs"] (dS jl):=by walk_at "sc"
theorem qM{f:Addr}{fd:FuncData}(F:iK K "check_door" "check_door" jl f fd)(kl:mg "len"=none){bI:Addr}(iW:mg "NoDoor"=some (.ref bI))(iX:PySem.W.excIn K bI (px true) (uu true)=true)(mz:PySem.W.ktsIn K bI "BaseException"=true){aj:Addr}(aA:ax K aj)(zU:gI P w K mg base cN "is_door" 1 ["takes","gives"] (ju K)):bw P w K mg base (cX P w) 2 f fd ["parts","part","inputs"] (iD K bI):=by
 refine F.zt kX (λvs H Q E h=>?_) (λcdv A outer s H vs Q E hr h=>?_)
 ·obtain⟨PP,ds,hP,hv,hs,j,ws,rfl,jT,q,x⟩:=h;exact hv.1
 obtain⟨PP,ds,hP,hv,hs,j,ws,rfl,jT,q,x⟩:=h;refine zK (Ex:=λC fs=>∀dd H',aQ H H'->Nn K PP H' dd fs->E (.ref C) dd H') hP hv (λ_ _ z=>z) ?_;show rN _ _ _ _ [some _,some _,some _,none] [];clear hP hv;refine aK (gp (pF (B3 Hi AY (vc λ_ _ _=>.bl _) (vc λ_ _ _=>.bl _) ar (ah 1) (pG rfl kl (ae (ah 0) aq)))) (aT (rP sH rfl iW iX rfl)) gr) (λR kk=>?_);walk_at "vc";have no:¬ vK hs j ws.length->∀(dd:Option Addr) (H':Hp),aQ H H'->Nn K PP H' dd []->E (.ref bI) dd H':=x;refine jh (λh0=>?_) λh0=>iQ (no λ⟨h,z,_⟩=>h0 z)
 obtain⟨jn,rfl⟩:∃n:Nat,j=(n:Int):=⟨j.toNat,by omega⟩;rw[WY];by_cases h1:jn < hs.length;rotate_left
 ·refine uJ (by omega) (no λ⟨h,_,z,_⟩=>h1 ?_);rw[Int.toNat_natCast]at z;exact(er z).1
 refine om (by omega) (kk _ _ ?_);clear kk R;have hh:hs[jn]?=some hs[jn]:=jL h1;have Kp:=jT hs[jn] (YT h1);generalize hs[jn]=h at hh Kp
 have dj:∀n:Nat,vK hs (jn:Int) n↔(h.1++[h.2]).all kh=true/\n=h.1.length:=λn=>by
  unfold vK;rw[Int.toNat_natCast];exact⟨λ⟨p',_,z,a,b⟩=>by rw[hh]at z;cases z;exact⟨a,b⟩,λ⟨a,b⟩=>⟨h,by omega,hh,a,b⟩⟩
 refine aK (bo (i:=3) kX.nd rfl (Xe rfl) (aR (n:=0) (lX (ah 0) (ah 1) (λ_ _=>rfl)))) (λR kk=>?_);walk_at "vc";refine⟨_,yH hh,?_⟩;rw[show yc h=.tuple [.list (pZ h.1),.tuple (tJ h.2)]from rfl];walk_at "vc";refine kk _ _ ?_;clear kk R;refine gw (gp (zC.dt (vf (pF (pE (kH zU xq xp (hr.mono (by decide)) rfl (ae (ah 3) (ae (aR (n:=1) (lX (ah 0) (ah 1) (λ_ _=>rfl))) aq))))) (sQ (HE (hr.units) (pG rfl kl (ae (ah 2) aq)) (pG rfl kl (ae (ah 3) aq)))))) (aT (rP sH rfl iW iX rfl)) gr) ?_;walk_at "vc";refine⟨_,yH hh,?_⟩;rw[show yc h=.tuple [.list (pZ h.1),.tuple (tJ h.2)]from rfl];walk_at "vc";refine⟨h.1,h.2,rfl,Kp,?_⟩
 cases hd:(h.1++[h.2]).all kh with
 | false =>
  refine iQ (iQ (no λz=>?_));rw[((dj _).mp z).1]at hd;cases hd
 | true =>
  refine jM ?_;rw[WY,show(pZ h.1).length=h.1.length from WY _];by_cases hl:ws.length=h.1.length
  ·exact om (by omega) (q ((dj _).mpr ⟨hd,hl⟩))
  ·exact uJ (by omega) (no λz=>hl ((dj _).mp z).2)
theorem qe:aI ["part"] ["part"] (dS iz):=by walk_at "sc"
theorem qf{f:Addr}{fd:FuncData}(F:iK K "kinds_taken" "kinds_taken" iz f fd){aj:Addr}(aA:ax K aj):bw P w K mg base cN 1 f fd ["part"] (eP K):=by
 refine F.ok qe (λvs H Q E h=>?_) (λcdv A outer s H vs Q E hr h=>?_)
 ·obtain⟨PP,ds,hP,hv,p,rfl,jT,q⟩:=h;exact hv.1
 obtain⟨PP,ds,hP,hv,p,rfl,jT,q⟩:=h;refine j8 hP hv ?_;show rN _ _ _ _ [some _] [];clear hP hv;refine gw (fi (HL 1 ["take"] [] ⟨rfl,rfl,rfl,rfl,rfl,rfl,rfl,rfl⟩ (pJ (aR (n:=0) (ah 0))) (λ_ _ _ _=>(gU (i:=0) (show List.Nodup (["take"]:List Str)by decide +kernel) rfl (Xe rfl))) (E8 (i:=0)) (Nf (by decide)) (λ_ _ _ _=>⟨BS,(aR (n:=1) (ah 0))⟩))) ?_;rw[show xm p=.tuple [.list (p.tk.map J0),.tuple (tJ p.gv),.list p.bd,p.an]from rfl];walk_at "vc";refine HS p.tk J0 (λt=>.tuple (tJ t.2)) rfl (by omega) ?_ ?_
 ·intro i t ht W N hW;rw[show J0 t=.tuple [.str t.1,.tuple (tJ t.2)]from rfl];walk_at "vc";rw[W4 rfl];exact⟨rfl,rfl,rfl,hW⟩
 walk_at "vc";rw[show pZ (p.tk.map (·.2))=p.tk.map λt=>PyData.tuple (tJ t.2)by unfold pZ;rw[List.map_map];rfl]at q;exact q
theorem vO:aI ["program"] ["program"] (dS lF):=by walk_at "sc"
theorem vP{f:Addr}{fd:FuncData}(F:iK K "heads_of" "heads_of" lF f fd){aj:Addr}(aA:ax K aj)(qN:gI P w K mg base cN "kinds_taken" 1 ["part"] (eP K)):bw P w K mg base cN 2 f fd ["program"] (ki K):=by
 refine F.ok vO (λvs H Q E h=>?_) (λcdv A outer s H vs Q E hr h=>?_)
 ·obtain⟨PP,ds,hP,hv,ms,ps,rfl,h1,h2,q⟩:=h;exact hv.1
 obtain⟨PP,ds,hP,hv,ms,ps,rfl,h1,h2,q⟩:=h;refine j8 hP hv ?_;show rN _ _ _ _ [some _] [];clear hP hv;refine gw (fi (HL 1 ["part"] [] ⟨rfl,rfl,rfl,rfl,rfl,rfl,rfl,rfl⟩ (pJ (aR (n:=1) (ah 0))) (λ_ _ _ _=>(gU (i:=0) (show List.Nodup (["part"]:List Str)by decide +kernel) rfl (Xe rfl))) (E8 (i:=0)) (Nf (by decide)) (λ_ _ _ _=>⟨BS,(aL (ae (kH qN p8 p7 (hr.mono (by decide)) rfl (ae (ah 0) aq)) (ae (aR (n:=1) (ah 0)) aq)))⟩))) ?_;rw[show J8 ms ps=.tuple [ms,.list (ps.map xm)]from rfl];walk_at "vc";refine HS ps xm (λp=>yc (p.tk.map (·.2),p.gv)) rfl (by omega) ?_ ?_
 ·intro i p hp W N hW;walk_at "vc";rw[W4 rfl];refine⟨rfl,rfl,p,rfl,h2 p (Xg hp),?_⟩;rw[show xm p=.tuple [.list (p.tk.map J0),.tuple (tJ p.gv),.list p.bd,p.an]from rfl];walk_at "vc";exact⟨rfl,hW⟩
 walk_at "vc";rw[show(xn ps).map yc=ps.map λp=>yc (p.tk.map (·.2),p.gv)by unfold xn;rw[List.map_map];rfl]at q;exact q
theorem ij:aI ["self","call","tree","fault"] ["self","call","tree"] (dS fj):=by walk_at "sc"
theorem mB{n:Nat}{f:Addr}{fd:FuncData}(F:iK K "do_try" "Reading.do_try" fj f fd){aV:Addr}(cy:mg "Weary"=some (.ref aV))(eU:PySem.W.excIn K aV (px false) (uu false)=true)(eV:PySem.W.ktsIn K aV "BaseException"=true){aG:Addr}(gf:mg "Gave"=some (.ref aG))(jB:PySem.W.ktsIn K aG "BaseException"=true){av:Addr}(bM:mg "Fault"=some (.ref av))(cI:PySem.W.ktsIn K av "BaseException"=true){aj:Addr}(aA:ax K aj){C:Addr}{wt:Bool}(ac:au K C)(fB:c8 P w K mg base (cX P w) C "do_all" (n + 3) ["self","call","trees"] (iV K n C aj mg))(dU:PySem.W.findIn K (.ref av) "__getattribute__"=some (some (.builtin "BaseException.__getattribute__")))(dW:PySem.W.findIn K (.ref av) "__getattr__"=some none)(dX:PySem.W.findIn K (.ref av) "__class__"=some (some (.builtin "object.__class__")))(dY:PySem.W.mroIn K av (.type "BaseException")=some true)(dZ:PySem.W.mroIn K av (.type "object")=some true)(ee:PySem.W.hasDictIn K av=true)(vQ:PySem.W.mroIn K av (.ref av)=some true)(Cr:PySem.W.mroIn K aG (.ref av)=some false)(vS:PySem.W.mroIn K aV (.ref av)=some false)(vT:PySem.W.findIn K (.ref av) "number"=some none):bw P w K mg base (cX P w) (n + 3 + 1) f fd ["self","call","tree"] (nq K (n + 1) C aj mg):=by
 refine F.zt ij (λvs H Q E h=>?_) (λcdv A outer s H vs Q E hr h=>?_)
 ·obtain⟨R,L,tv,a,b,x,s,s',r,rfl,I,J,hT,ev,q⟩:=h;rfl
 obtain⟨R,L,tv,a,b,x,s,s',r,rfl,I,J,hT,ev,q⟩:=h;refine⟨_,(qK (oG (vz (pW (λ_=>(pv 0)) fB (hr.mono (by omega)) (λ_=>(pK (pv 1) (pK (aF (r:=wD K) aJ (pv 2) pI (λ_ _=>rfl)) pN)))) Cd) (Ca (i:=3) rfl bM cI ij.nd rfl rfl (λ_ _=>(qO (sJ (JT hr) (show PE _ _ (Mz K _ _)from (fU (pv 1) rfl)) (aF (r:=wD K) aJ (pv 2) pI (λ_ _=>rfl)) (show PE _ _ (Oy K _ _)from (Bs (pv 3) rfl)) rfl))) (xg gY)))
   (qO (bL (c6 (pv 0) fB bj (hr.mono (by omega)) (pK (pv 1) (pK (aF aJ (pv 2) pI (λ_ _=>rfl)) pN)))))),?_⟩
 have kx:KX K av:=⟨dU,dW,dX,dY,dZ⟩;obtain⟨t,x1,x2,x3,rfl,hS,g1,g2,g3⟩:=nZ hT I.s0;have z:=aP.cq g2;subst z;refine⟨_,rfl,R.x,R.dx,_,rfl,I.hx,bq (by decide +kernel),_,rfl,_,rfl,t,_,_,_,rfl,rfl,hS,aN (j:=1) rfl,?_⟩
 cases ev with
 | tG h1 hn =>
  refine⟨R,L,x1,a,s,_,_,rfl,I,J,g1,h1,λH' kp I' J'=>⟨ke.drop (h1.Ka rfl) (q H' kp I' J').1,?_⟩⟩;have z:=(q H' kp I' J').2
  cases r with
  | fault k=>exact absurd rfl (hn k)
  | gave k =>
   intro C' dd hC hx;rw[gf]at hC;cases hC;exact⟨_,rfl,.inr ⟨Cr,z _ dd gf hx⟩⟩
  | weary =>
   intro C' dd hC;rw[cy]at hC;cases hC;exact⟨_,rfl,.inr ⟨vS,z _ dd cy⟩⟩
  | _=>trivial
 | @tF _ _ _ _ _ _ k _ _ s1 _ h1 hx h2 =>
  refine⟨R,L,x1,a,s,_,_,rfl,I,J,g1,h1,λH' kp I' J'=>⟨trivial,?_⟩⟩;rintro C' dd hC ⟨dx,rfl,hdx⟩;rw[bM]at hC;cases hC;refine⟨_,rfl,.inl ⟨vQ,λe he=>?_⟩⟩;have s2:=aH he (.ext (Hv av e (some dx)));have g2':=uS (H:=H') (a:=e) (o:=.ext (Hv av e (some dx)));generalize upd H' e _=H2 at s2 g2' ⊢;have J2:=J'.same s2;have I2:=I'.same s2;obtain⟨o,dp,J3⟩:=J2.put hx k;have HV:oq R L H H2:=kp.trans (.of s2);refine⟨_,rfl,e,av,dx,_,_,_,rfl,g2',wR,s2 _ _ hdx,kx,ee,vT,rfl,_,rfl,L.c,aj,L.dc,_,_,rfl,J2.hc,aA.cl,aA.mh,mi,_,rfl,t,_,_,_,rfl,rfl,HV.tup I J hS,aN (j:=2) rfl,L.d,_,rfl,dp,?_⟩;have Qj:=HV.trans (oq.P8 (o:=o));have I3:=I2.dict J2 o;refine⟨_,rfl,R.x,R.dx,_,rfl,I3.hx,bq (by decide +kernel),_,rfl,_,rfl,t,_,_,_,rfl,rfl,Qj.tup I J hS,aN (j:=3) rfl,R,L,x3,b,{s1 with env:=jR x k s1.env},s',r,rfl,I3,J3,g3,h2,λH' k' I' J'=>⟨ke.drop (h2.Ka rfl) (q H' (Qj.trans k') I' J').1,(q H' (Qj.trans k') I' J').2⟩⟩
theorem nt:aI ["self"] ["self"] (dS fV):=by walk_at "sc"
theorem nu{f:Addr}{fd:FuncData}(F:iK K "spend" "Reading.spend" fV f fd){aV:Addr}(cy:mg "Weary"=some (.ref aV))(eU:PySem.W.excIn K aV (px false) (uu false)=true)(eV:PySem.W.ktsIn K aV "BaseException"=true){aj:Addr}(aA:ax K aj){C:Addr}{wt:Bool}(ac:au K C):bw P w K mg base (cX P w) 1 f fd ["self"] (mr K C mg):=by
 refine F.zt nt (λvs H Q E h=>?_) (λcdv A outer s H vs Q E hr h=>?_)
 ·obtain⟨R,said,left,rfl,I,hE,q⟩:=h;rfl
 obtain⟨R,said,left,rfl,I,hE,q⟩:=h;refine⟨_,(qK (bf (tR Hi (fU (pv 0) rfl) pI (aC _)) (qO (mX sH rfl cy eU rfl)) ba)
   (qO (mV (pv 0) (eD i8 (fU (pv 0) rfl) pI) rfl))),?_⟩
 refine⟨_,rfl,R.x,C,R.dx,_,_,rfl,I.hx,ac.cl,ac.pY,tK,_,_,rfl,rfl,_,rfl,?_⟩;by_cases z:left<=0
 ·exact jN z (hE z _ none cy)
 ·refine bu z ?_;dsimp only[dq];refine⟨_,rfl,R.x,C,R.dx,_,_,rfl,I.hx,ac.cl,ac.pY,tK,_,_,rfl,rfl,?_⟩;refine⟨_,rfl,R.x,C,R.dx,_,rfl,I.hx,ac.cl,ac.pY,(by show 3 < 1000;decide),?_⟩;rw[J9];exact q (by omega)
theorem kn:aI ["self","call","trees"] ["self","call","trees"] (dS df):=by walk_at "sc"
theorem ko{n:Nat}{f:Addr}{fd:FuncData}(F:iK K "values_of" "Reading.values_of" df f fd){aj:Addr}(aA:ax K aj){C:Addr}{wt:Bool}(ac:au K C)(bc:c8 P w K mg base (cX P w) C "value_of" (n + 3) ["self","call","tree"] (cT K n C aj mg)):bw P w K mg base (cX P w) (n + 3 + 1) f fd ["self","call","trees"] (gE K (n + 1) C aj mg):=by
 refine F.zt kn (λvs H Q E h=>?_) (λcdv A outer s H vs Q E hr h=>?_)
 ·obtain⟨R,L,a,us,ts,s,s',r,rfl,I,J,hA,hU,jT,ev,q,qE⟩:=h;rfl
 obtain⟨R,L,a,us,ts,s,s',r,rfl,I,J,hA,hU,jT,ev,q,qE⟩:=h;refine⟨_,(qO (aX (Jo 1 ["tree","call","self"] [1,0] ⟨rfl,rfl,rfl,rfl,rfl,rfl,rfl,rfl⟩ (HI (pv 2)) (λ_ _ _ _ _ hp=>⟨(gU (i:=0) (show List.Nodup (["tree","call","self"]:List Str)by decide +kernel) rfl (Or.inl rfl)),oE,(show PE _ _ (rb C _ _ [] _ _ _)from (c6 (pv 2) bc hp (hr.mono (by omega)) (pK (pv 1) (pK (pv 0) pN))))⟩) gY))),?_⟩;have lu:us.length=ts.length:=hU.1;unfold Iw MK;refine Fv (i:=2) (a:=a) (xs:=us) ?e hA I.s0.seq id ?_
 case e=>rfl
 intro Jt hJ D hD;have nDx:D≠R.x:=(nN I.hx hD).symm;have nDs:D≠R.sd:=(nN I.hs hD).symm;refine NC (xs:=us) hJ (λi zs H2=>∃si ks r',Sf K C R L n ts s s' r H D i zs H2 si ks r') (Yi (sK (by omega))) ?_ ?_ ?_ ?_
 ·have s1:=aH hD (.lst []);refine⟨s,[],r,rfl,rfl,.of s1,uS,I.same s1,rfl,ev,?_⟩;rcases ev.UN with⟨ks,e⟩ | b
  ·exact .inl ⟨ks,e,e⟩
  ·exact .inr ⟨rfl,b⟩
 ·rintro i zs H2 hi ⟨si,ks,r',v⟩;refine⟨v.hD,?_,v.I.s0.seq,v.kp.tup I⟩;rw[v.ez,WY,v.len];exact WU _
 ·rintro i x zs H2 hx ⟨si,ks,r',v⟩;have hi:i < ts.length:=by rw[← lu];exact(er hx).1
  have hrx:=hU.2 i x _ hx (jL hi);have hev:=v.ev;rw[XY hi]at hev;have J2:gy aj R L H2 si.env:=by rw[v.env];exact J.keep I v.kp
  have n0:=I.h0 hD;refine⟨rfl,_,rfl,R.x,R.dx,_,rfl,v.I.hx,bq (by decide +kernel),_,rfl,_,rfl,?_⟩;have nxt:∀(k:Int) (s1:jK) (r2:Res),Ev R.ps n L.dep L.nm (.E ts[i]) si (.val k) s1->Ev R.ps (n + 1) L.dep L.nm (.Es (ts.drop (i + 1))) s1 r2 s'->((∃ks',r2=.vals ks'/\r=.vals ((ks++[k])++ks'))∨(r2=r/\r.bad=true))->∀H',kc R H2 H'->fu K C R H' s1.said s1.left ->
    H' D=some (.lst zs)/\∃si ks r',Sf K C R L n ts s s' r H D (i + 1) (zs++[.int k]) (upd H' D (.lst (zs++[.int k]))) si ks r':=λk s1 r2 h1 h2 h3 H' kp I' =>
   ⟨kp _ _ nDx nDs v.hD,s1,ks++[k],r2,by rw[v.ez,Yd];rfl,by rw[Xr,v.len];rfl,(v.kp.trans kp).new hD _,uS,I'.other nDx nDs n0 _,by rw[h1.tL rfl,v.env],h2,h3⟩
  cases hev with
  | cons h1 h2 =>
   refine⟨R,L,x,_,si,_,_,rfl,v.I,J2,hrx,h1,λH' kp I'=>⟨nxt _ _ _ h1 h2 ?_ H' kp I',trivial⟩⟩;rcases v.rr with⟨ks',e1,e2⟩ | ⟨e,b⟩
   ·cases e1;exact .inl ⟨_,rfl,by rw[e2,List.append_assoc];rfl⟩
   ·rw[← e]at b;cases b
  | consB h1 hb =>
   refine⟨R,L,x,_,si,_,_,rfl,v.I,J2,hrx,h1,λH' kp I'=>⟨ke.bad hb,?_⟩⟩;rcases v.rr with⟨ks',e1,e2⟩ | ⟨e,b⟩
   ·rw[e1]at hb;cases hb
   ·rw[e];exact qE H' (v.kp.trans kp) I'
  | consC h1 h2 hb =>
   refine⟨R,L,x,_,si,_,_,rfl,v.I,J2,hrx,h1,λH' kp I'=>⟨nxt _ _ _ h1 h2 ?_ H' kp I',trivial⟩⟩;rcases v.rr with⟨ks',e1,e2⟩ | h
   ·rw[e1]at hb;cases hb
   ·exact .inr h
 ·rintro zs H2 ⟨si,ks,r',v⟩;have hev:=v.ev;rw[lu,YX]at hev
  cases hev with
  | nil =>
   rcases v.rr with⟨ks',e1,e2⟩ | ⟨e,b⟩
   ·cases e1;rw[XC]at e2;exact q H2 D ks e2 v.kp v.I hD (by rw[v.hD,v.ez])
   ·rw[← e]at b;cases b
theorem dD:aI ["self","call","tree","values"] ["self","call","tree"] (dS bZ):=by walk_at "sc"
theorem iG{n:Nat}{f:Addr}{fd:FuncData}(F:iK K "value_of_call" "Reading.value_of_call" bZ f fd){av:Addr}(bM:mg "Fault"=some (.ref av))(cI:PySem.W.ktsIn K av "BaseException"=true){fK:Tok}(dE:mg "MOST_FRAMES"=some (.int 12 fK))(qP:RelV (.int 12) (.int 12 fK)){jC:Tok}(gM:mg "TOO_DEEP"=some (.int 2 jC))(xA:RelV (.int 2) (.int 2 jC))(t7:zp P w K mg base av ["number"]){aj:Addr}(aA:ax K aj){C:Addr}{wt:Bool}(ac:au K C)(qg:c8 P w K mg base (cX P w) C "given" (n + 3) ["self","part","values","depth"] (mv K n C mg))(qh:c8 P w K mg base (cX P w) C "spend" 1 ["self"] (mr K C mg))(jD:c8 P w K mg base (cX P w) C "values_of" (n + 3) ["self","call","trees"] (gE K n C aj mg)):bw P w K mg base (cX P w) (n + 3 + 1) f fd ["self","call","tree"] (fA K (n + 1) C aj mg):=by
 refine F.zt dD (λvs H Q E h=>?_) (λcdv A outer s H vs Q E hr h=>?_)
 ·obtain⟨R,L,tv,p,ts,s,s',r,rfl,I,J,hT,jT,ev,q⟩:=h;rfl
 obtain⟨R,L,tv,p,ts,s,s',r,rfl,I,J,hT,jT,ev,q⟩:=h;refine⟨_,(qK (c7 (i:=3) dD.nd rfl (Xe rfl) (c6 (pv 0) jD bj (hr.mono (by omega)) (pK (pv 1) (pK (aF aJ (pv 2) pI (λ_ _=>rfl)) pN))))
   (qK (bL (BE (pv 0) qh bj (hr.mono (by omega))))
   (qK (bf (tR Mx (fU (pv 1) rfl) (lR rfl dE qP) (aC _)) (qO (m4 wQ t7 (hr.mono (by omega)) rfl bM rfl (pK (lR rfl gM xA) pN))) ba)
   (qO (aX (c6 (pv 0) qg bj (hr.mono (by omega)) (pK (aF aJ (pv 2) pI (λ_ _=>rfl)) (pK (pv 3) (pK (eD oV (fU (pv 1) rfl) pI) pN))))))))),?_⟩
 obtain⟨t,x1,x2,rfl,hS,h1,h2⟩:=p0 hT I.s0;have z1:=aP.aU h1;subst z1;obtain⟨a,us,rfl,hL,hU⟩:=aP.eJ h2;refine⟨_,rfl,R.x,R.dx,_,rfl,I.hx,bq (by decide +kernel),_,rfl,_,rfl,t,_,_,_,rfl,rfl,hS,aN (j:=2) rfl,?_⟩;have sp:∀(H1:Hp),kc R H H1->cg K H1 t [.str "call",.int (p:Int),.ref a]/\gy aj R L H1 s.env:=λH1 kp=>⟨kp.tup I hS,J.keep I kp⟩
 cases ev with
 | clB h hb=>exact⟨R,L,a,us,ts,s,_,_,rfl,I,J,.inl hL,hU,jT,h,λ_ _ ks e=>(by rw[e]at hb;cases hb),λH' kp I'=>(q H' kp I').2⟩
 | clW h hl =>
  refine⟨R,L,a,us,ts,s,_,_,rfl,I,J,.inl hL,hU,jT,h,λH1 l ks e kp I1 nl gl=>?_,λ_ _ _=>trivial⟩;exact⟨_,rfl,R.x,R.dx,_,rfl,I1.hx,bq (by decide +kernel),R,_,_,rfl,I1,λ_=>(q H1 kp I1).2,λz=>absurd z (by omega)⟩
 | @clD _ _ _ _ _ Qk _ s1 h hl hd =>
  refine⟨R,L,a,us,ts,s,_,_,rfl,I,J,.inl hL,hU,jT,h,λH1 l ks e kp I1 nl gl=>?_,λ_ _ _=>trivial⟩;refine⟨_,rfl,R.x,R.dx,_,rfl,I1.hx,bq (by decide +kernel),R,_,_,rfl,I1,λz=>absurd z (by omega),λ_=>?_⟩;have HV:=kp.trans (kc.OK (H:=H1) (o:=.ins C R.dx (jQ R.b R.sd (s1.left - 1))));have I2:=I1.spent (yQ:=s1.left - 1);obtain⟨_,J2⟩:=sp _ HV;refine⟨_,rfl,L.c,aj,L.dc,_,_,rfl,J2.hc,aA.cl,aA.oJ,p4,_,_,rfl,rfl,_,rfl,jN hd ?_⟩;exact⟨rfl,λdx H3 n3 s3 g3=>(q H3 (HV.trans (.of s3)) (I2.same s3)).2 av (some dx) bM ⟨dx,rfl,g3⟩⟩
 | @clG _ _ _ _ _ Qk _ _ s1 s2 h hl hd hg =>
  refine⟨R,L,a,us,ts,s,_,_,rfl,I,J,.inl hL,hU,jT,h,λH1 l ks e kp I1 nl gl=>?_,λ_ _ _=>trivial⟩;cases e;refine⟨_,rfl,R.x,R.dx,_,rfl,I1.hx,bq (by decide +kernel),R,_,_,rfl,I1,λz=>absurd z (by omega),λ_=>?_⟩;have HV:=kp.trans (kc.OK (H:=H1) (o:=.ins C R.dx (jQ R.b R.sd (s1.left - 1))));have I2:=I1.spent (yQ:=s1.left - 1);obtain⟨HW,J2⟩:=sp _ HV;refine⟨_,rfl,L.c,aj,L.dc,_,_,rfl,J2.hc,aA.cl,aA.oJ,p4,_,_,rfl,rfl,_,rfl,bu (by omega) ?_⟩;dsimp only[dq];have NN:upd H1 R.x (.ins C R.dx (jQ R.b R.sd (s1.left - 1))) l=some (.lst (Qk.map V.int)):=(uN (cz gl I1.hx (by intro z;cases z))).trans gl;refine⟨_,rfl,R.x,R.dx,_,rfl,I2.hx,bq (by decide +kernel),_,rfl,t,_,_,_,rfl,rfl,HW,aN (j:=1) rfl,_,rfl,_,rfl,L.c,aj,L.dc,_,_,rfl,J2.hc,aA.cl,aA.oJ,p4,_,_,rfl,rfl,R,l,p,L.dep + 1,Qk,[],_,_,_,rfl,I2,bK.of NN,hg,λH' kp' I'=>q H' (HV.trans kp') I'⟩
theorem xB:aI ["number"] ["number"] (dS nc):=by walk_at "sc"
theorem xC{f:Addr}{fd:FuncData}(F:iK K "wrapped" "wrapped" nc f fd){t8:Tok}(nv:mg "HALF"=some (.int 2147483648 t8))(Cs:RelV (.int 2147483648) (.int 2147483648 t8)){t9:Tok}(qi:mg "TURN"=some (.int 4294967296 t9))(Kq:RelV (.int 4294967296) (.int 4294967296 t9)){aj:Addr}(aA:ax K aj):bw P w K mg base cN 1 f fd ["number"] (jv K):=by
 refine F.ok xB (λvs H Q E h=>?_) (λcdv A outer s H vs Q E hr h=>?_)
 ·obtain⟨n,rfl,q⟩:=h;rfl
 obtain⟨n,rfl,q⟩:=h;refine⟨_,(qO (aX (eD i8 (eD wg (eD oV (pv 0) (lR rfl nv Cs)) (lR rfl qi Kq)) (lR rfl nv Cs)))),?_⟩;walk_at "rd";exact q
theorem xD:aI ["sign","one","other"] ["sign","one","other"] (dS ng):=by walk_at "sc"
theorem xE{f:Addr}{fd:FuncData}(F:iK K "divided" "divided" ng f fd){cU:Addr}(fT:mg "Nought"=some (.ref cU))(gO:PySem.W.excIn K cU (px true) (uu true)=true)(gP:PySem.W.ktsIn K cU "BaseException"=true){aj:Addr}(aA:ax K aj)(iY:gI P w K mg base cN "wrapped" 1 ["number"] (jv K)):bw P w K mg base (cX P w) 2 f fd ["sign","one","other"] (lJ K mg):=by
 refine F.zt xD (λvs H Q E h=>?_) (λcdv A outer s H vs Q E hr h=>?_)
 ·obtain⟨sign,a,b,rfl,hp,ha,hb,hE,q⟩:=h;rfl
 obtain⟨sign,a,b,rfl,hp,ha,hb,hE,q⟩:=h;refine⟨_,(qK (bf (tR bz (pv 2) pI (aC _)) (qO (mX sH rfl fT gO rfl)) ba)
   (qK (bf (tR bz (pv 0) aW (aC _)) (qO (aX (eF iY (hr.mono (by decide)) rfl (pK (eD Br (pv 1) (pv 2)) pN)))) ba)
   (qO (aX (eD Ee (pv 1) (pv 2)))))),?_⟩
 refine⟨_,rfl,rfl,_,rfl,?_⟩;by_cases z:b=0
 ·refine jN (by rw[z]) ?_;exact hE z _ fT
 ·refine bu (λy=>z (V.int.inj y)) ?_;have hb':uQ a b:=⟨z,by unfold iT at hb;omega⟩;refine⟨_,rfl,rfl,_,rfl,?_⟩;rcases hp with rfl | rfl
  ·refine jN rfl ?_;have y:=q z;rw[JY]at y;exact⟨_,rfl,_,rfl,_,_,rfl,rfl,hb',_,rfl,y⟩
  ·refine bu (by decide +kernel) ?_;have y:=q z;rw[JZ]at y;exact⟨_,rfl,_,rfl,_,_,rfl,rfl,z,y⟩
theorem vU:aI ["sign","one","other"] ["sign","one","other"] (dS lG):=by walk_at "sc"
theorem vV{f:Addr}{fd:FuncData}(F:iK K "reckoned" "reckoned" lG f fd){aj:Addr}(aA:ax K aj)(zV:gI P w K mg base (cX P w) "divided" 2 ["sign","one","other"] (lJ K mg))(iY:gI P w K mg base cN "wrapped" 1 ["number"] (jv K)):bw P w K mg base (cX P w) 3 f fd ["sign","one","other"] (kj K mg):=by
 refine F.zt vU (λvs H Q E h=>?_) (λcdv A outer s H vs Q E hr h=>?_)
 ·obtain⟨sign,a,b,rfl,hp,ha,hb,hE,q⟩:=h;rfl
 obtain⟨sign,a,b,rfl,hp,ha,hb,hE,q⟩:=h;refine⟨_,(qK (bf (tR bz (pv 0) aW (aC _)) (qO (aX (eF iY (hr.mono (by decide)) rfl (pK (eD oV (pv 1) (pv 2)) pN)))) ba)
   (qK (bf (tR bz (pv 0) aW (aC _)) (qO (aX (eF iY (hr.mono (by decide)) rfl (pK (eD i8 (pv 1) (pv 2)) pN)))) ba)
   (qK (bf (tR bz (pv 0) aW (aC _)) (qO (aX (eF iY (hr.mono (by decide)) rfl (pK (eD II (pv 1) (pv 2)) pN)))) ba)
   (qK (bf (tR bz (pv 0) aW (aC _)) (qO (aX (oR (tR AY (pv 1) (pv 2) (aC _)) pI pI))) ba)
   (qK (bf (tR bz (pv 0) aW (aC _)) (qO (aX (oR (tR bz (pv 1) (pv 2) (aC _)) pI pI))) ba)
   (qO (aX (Bw zV bj (hr.mono (by decide)) rfl (pK (pv 0) (pK (pv 1) (pK (pv 2) pN))))))))))),?_⟩
 have no:∀s1 s2:Str,s1≠s2->¬ (V.str s1=V.str s2):=λs1 s2 h z=>h (V.str.inj z)
 rcases hp with rfl | rfl | rfl | rfl | rfl | hp
 ·refine⟨_,rfl,rfl,_,rfl,jN rfl ?_⟩;have y:=q λz=>absurd z dv.1
  rw[JW]at y;exact⟨_,rfl,_,rfl,_,_,rfl,rfl,_,rfl,y⟩
 ·refine⟨_,rfl,rfl,_,rfl,bu (by decide +kernel) ?_⟩;refine⟨_,rfl,rfl,_,rfl,jN rfl ?_⟩;have y:=q λz=>absurd z dv.2.1
  rw[xk]at y;exact⟨_,rfl,_,rfl,_,_,rfl,rfl,_,rfl,y⟩
 ·refine⟨_,rfl,rfl,_,rfl,bu (by decide +kernel) ?_⟩;refine⟨_,rfl,rfl,_,rfl,bu (by decide +kernel) ?_⟩;refine⟨_,rfl,rfl,_,rfl,jN rfl ?_⟩;have hm:AW a b:=.inl ⟨by unfold iT at ha;omega,by unfold iT at ha;omega⟩;have y:=q λz=>absurd z dv.2.2.1
  rw[JX]at y;exact⟨_,rfl,_,rfl,_,_,rfl,rfl,hm,_,rfl,y⟩
 ·refine⟨_,rfl,rfl,_,rfl,bu (by decide +kernel) ?_⟩;refine⟨_,rfl,rfl,_,rfl,bu (by decide +kernel) ?_⟩;refine⟨_,rfl,rfl,_,rfl,bu (by decide +kernel) ?_⟩;refine⟨_,rfl,rfl,_,rfl,jN rfl ?_⟩;refine⟨_,rfl,_,rfl,_,_,rfl,rfl,_,rfl,?_⟩;have z:=q λz=>absurd z dv.2.2.2.1
  have e:=yO a b;rw[e]at z;by_cases y:a < b
  ·rw[W4 y]at z;exact jN y z
  ·rw[W2 y]at z;exact bu y z
 ·refine⟨_,rfl,rfl,_,rfl,bu (by decide +kernel) ?_⟩;refine⟨_,rfl,rfl,_,rfl,bu (by decide +kernel) ?_⟩;refine⟨_,rfl,rfl,_,rfl,bu (by decide +kernel) ?_⟩;refine⟨_,rfl,rfl,_,rfl,bu (by decide +kernel) ?_⟩;refine⟨_,rfl,rfl,_,rfl,jN rfl ?_⟩;refine⟨_,rfl,_,rfl,rfl,_,rfl,?_⟩;have z:=q λz=>absurd z dv.2.2.2.2
  have e:=Fs a b;rw[e]at z;by_cases y:a=b
  ·rw[W4 y]at z;exact jN (X1 V.int y) z
  ·rw[W2 y]at z;exact bu (λw=>y (V.int.inj w)) z
 ·have h1:sign≠"add"/\sign≠"sub"/\sign≠"mul"/\sign≠"less"/\sign≠"same":=by rcases hp with rfl | rfl<;>decide +kernel
  refine⟨_,rfl,rfl,_,rfl,bu (no _ _ h1.1) ?_⟩;refine⟨_,rfl,rfl,_,rfl,bu (no _ _ h1.2.1) ?_⟩;refine⟨_,rfl,rfl,_,rfl,bu (no _ _ h1.2.2.1) ?_⟩;refine⟨_,rfl,rfl,_,rfl,bu (no _ _ h1.2.2.2.1) ?_⟩;refine⟨_,rfl,rfl,_,rfl,bu (no _ _ h1.2.2.2.2) ?_⟩;exact⟨_,rfl,_,rfl,_,rfl,sign,a,b,rfl,hp,ha,hb,λz=>hE hp z,λz=>q λ_=>z⟩
theorem ef:aI ["self","call","tree","pair"] ["self","call","tree"] (dS cv):=by walk_at "sc"
theorem iZ{n:Nat}{f:Addr}{fd:FuncData}(F:iK K "value_of_two" "Reading.value_of_two" cv f fd){cU:Addr}(fT:mg "Nought"=some (.ref cU))(gO:PySem.W.excIn K cU (px true) (uu true)=true)(gP:PySem.W.ktsIn K cU "BaseException"=true){aj:Addr}(aA:ax K aj){C:Addr}{wt:Bool}(ac:au K C)(xF:gI P w K mg base (cX P w) "reckoned" 3 ["sign","one","other"] (kj K mg))(jD:c8 P w K mg base (cX P w) C "values_of" (n + 3) ["self","call","trees"] (gE K n C aj mg)):bw P w K mg base (cX P w) (n + 3 + 1) f fd ["self","call","tree"] (fY K (n + 1) C aj mg):=by
 refine F.zt ef (λvs H Q E h=>?_) (λcdv A outer s H vs Q E hr h=>?_)
 ·obtain⟨R,L,tv,op,a,b,s,s',r,rfl,I,J,hT,ho,ev,q⟩:=h;rfl
 obtain⟨R,L,tv,op,a,b,s,s',r,rfl,I,J,hT,ho,ev,q⟩:=h;refine⟨_,(qK (c7 (i:=3) ef.nd rfl (Xe rfl) (c6 (pv 0) jD bj (hr.mono (by omega)) (pK (pv 1) (pK (uG Bd (pv 2) (yi pI) yh) pN))))
   (qO (oG (yL (Cb xF (hr.mono (by omega)) rfl (λ_=>(pK (aF (r:=wD K) aJ (pv 2) pI (λ_ _=>rfl)) (pK (aF (r:=Eo K) bA (pv 3) pI (λ_ _=>rfl)) (pK (aF (r:=Eo K) bA (pv 3) pI (λ_ _=>rfl)) pN)))))) (HR rfl fT gP (λ_ _=>(qO eB)) (xg gY))))),?_⟩
 obtain⟨t,x1,x2,rfl,hS,h1,h2⟩:=p0 hT I.s0;refine⟨_,rfl,R.x,R.dx,_,rfl,I.hx,bq (by decide +kernel),_,rfl,_,rfl,_,rfl,t,_,rfl,hS,(by show ¬ (HT.dI 3 0 (some 1)=0/\HT.dI 3 3 none=3);decide),λu hu=>?_⟩;have s1:=aH hu (.tup [x1,x2]);have I1:=I.same s1;have J1:=J.same s1;have ON:=s1.tup hS
 cases ev with
 | twB h hb=>exact⟨R,L,u,[x1,x2],[a,b],s,_,_,rfl,I1,J1,.inr (cg.of uS),.cons h1 (.cons h2 .nil),(by show 2<=100;decide),h,λ_ _ ks e=>(by rw[e]at hb;cases hb),λH' kp I'=>(q H' ((kc.of s1).trans kp) I').2⟩
 | twG h hz hk hl =>
  refine⟨R,L,u,[x1,x2],[a,b],s,_,_,rfl,I1,J1,.inr (cg.of uS),.cons h1 (.cons h2 .nil),(by show 2<=100;decide),h,λH2 l ks e kp I2 nl gl=>?_,λ_ _ _=>trivial⟩;cases e;have HW:=kp.tup I1 ON;exact⟨_,rfl,t,_,_,_,rfl,rfl,HW,aN (j:=0) rfl,_,rfl,l,_,_,_,rfl,rfl,bK.of gl,aN (j:=0) rfl,_,rfl,l,_,_,_,rfl,rfl,bK.of gl,aN (j:=1) rfl,op,_,_,rfl,ho,hk,hl,λhp z=>absurd z (hz hp),λ_=>(q H2 ((kc.of s1).trans kp) I2).1⟩
theorem gq:aI ["self","call","tree","word","chosen"] ["self","call","tree"] (dS dJ):=by walk_at "sc"
theorem kP{n:Nat}{f:Addr}{fd:FuncData}(F:iK K "value_of" "Reading.value_of" dJ f fd){aj:Addr}(aA:ax K aj){C:Addr}{wt:Bool}(ac:au K C)(ny:c8 P w K mg base (cX P w) C "value_of_call" (n + 3) ["self","call","tree"] (fA K n C aj mg))(ot:c8 P w K mg base (cX P w) C "value_of_two" (n + 3) ["self","call","tree"] (fY K n C aj mg)):bw P w K mg base (cX P w) (n + 3 + 1) f fd ["self","call","tree"] (cT K (n + 1) C aj mg):=by
 refine F.zt gq (λvs H Q E h=>?_) (λcdv A outer s H vs Q E hr h=>?_)
 ·obtain⟨R,L,tv,tree,s,s',r,rfl,I,J,hT,ev,q⟩:=h;rfl
 obtain⟨R,L,tv,tree,s,s',r,rfl,I,J,hT,ev,q⟩:=h;refine⟨_,(qK (c7 (i:=3) gq.nd rfl (Xe rfl) (aF aJ (pv 2) pI (λ_ _=>rfl)))
   (qK (bf (tR bz (pv 3) aW (aC _)) (qO (aX (aF aJ (pv 2) pI (λ_ _=>rfl)))) ba)
   (qK (bf (tR bz (pv 3) aW (aC _)) (qO (aX (EG (yk hr) (fU (pv 1) rfl) (aF aJ (pv 2) pI (λ_ _=>rfl)) (λ_ _=>rfl)))) ba)
   (qK (bf (tR bz (pv 3) aW (aC _)) (qO eB) ba)
   (qK (bf (tR bz (pv 3) aW (aC _)) (qO eB) ba)
   (qK (bf (tR bz (pv 3) aW (aC _)) (qO (aX (c6 (pv 0) ny bj (hr.mono (by omega)) (pK (pv 1) (pK (pv 2) pN))))) ba)
   (qK (bf (tR bz (pv 3) aW (aC _)) (qK eB
   (qO eB)) ba)
   (qO (aX (c6 (pv 0) ot bj (hr.mono (by omega)) (pK (pv 1) (pK (pv 2) pN)))))))))))),?_⟩
 cases ev with
 | num =>
  obtain⟨t,x1,rfl,hS,h1⟩:=iU hT I.s0;have z1:=aP.aU h1;subst z1;refine⟨_,rfl,t,_,_,_,rfl,rfl,hS,aN (j:=0) rfl,?_⟩;refine⟨_,rfl,rfl,_,rfl,jN rfl ?_⟩;exact⟨_,rfl,t,_,_,_,rfl,rfl,hS,aN (j:=1) rfl,(q H .refl I).1⟩
 | @var _ _ _ x k _ he =>
  obtain⟨t,x1,rfl,hS,h1⟩:=iU hT I.s0;have z1:=aP.cq h1;subst z1;refine⟨_,rfl,t,_,_,_,rfl,rfl,hS,aN (j:=0) rfl,?_⟩;refine⟨_,rfl,rfl,_,rfl,bu (by decide +kernel) ?_⟩;refine⟨_,rfl,rfl,_,rfl,jN rfl ?_⟩;obtain⟨kvs,hk,_,_,hv⟩:=J.hd;have dg:=zy.k (k:=Sum.inr x) hk;rw[hv x,he]at dg;exact⟨_,rfl,L.c,aj,L.dc,_,_,rfl,J.hc,aA.cl,aA.mh,mi,_,rfl,t,_,_,_,rfl,rfl,hS,aN (j:=1) rfl,L.d,_,rfl,dg,(q H .refl I).1⟩
 | callE jT he =>
  obtain⟨t,x1,x2,rfl,hS,h1⟩:=p0 hT I.s0;refine⟨_,rfl,t,_,_,_,rfl,rfl,hS,aN (j:=0) rfl,?_⟩;refine⟨_,rfl,rfl,_,rfl,bu (by decide +kernel) ?_⟩;refine⟨_,rfl,rfl,_,rfl,bu (by decide +kernel) ?_⟩;refine⟨_,rfl,rfl,_,rfl,bu (by decide +kernel) ?_⟩;refine⟨_,rfl,rfl,_,rfl,bu (by decide +kernel) ?_⟩;refine⟨_,rfl,rfl,_,rfl,jN rfl ?_⟩;refine⟨_,rfl,R.x,R.dx,_,rfl,I.hx,bq (by decide +kernel),_,rfl,_,rfl,R,L,.ref t,_,_,s,s',r,rfl,I,J,hT,jT,he,q⟩
 | two ho he =>
  obtain⟨t,x1,x2,rfl,hS,h1⟩:=p0 hT I.s0;have nn:=Fu ho;refine⟨_,rfl,t,_,_,_,rfl,rfl,hS,aN (j:=0) rfl,?_⟩;refine⟨_,rfl,rfl,_,rfl,bu (λz=>nn.1 (V.str.inj z)) ?_⟩;refine⟨_,rfl,rfl,_,rfl,bu (λz=>nn.2.1 (V.str.inj z)) ?_⟩;refine⟨_,rfl,rfl,_,rfl,bu (λz=>nn.2.2.2.1 (V.str.inj z)) ?_⟩;refine⟨_,rfl,rfl,_,rfl,bu (λz=>nn.2.2.2.2.1 (V.str.inj z)) ?_⟩;refine⟨_,rfl,rfl,_,rfl,bu (λz=>nn.2.2.1 (V.str.inj z)) ?_⟩;refine⟨_,rfl,rfl,_,rfl,bu (λz=>nn.2.2.2.2.2 (V.str.inj z)) ?_⟩;refine⟨_,rfl,R.x,R.dx,_,rfl,I.hx,bq (by decide +kernel),_,rfl,_,rfl,R,L,.ref t,_,_,_,s,s',r,rfl,I,J,hT,ho,he,q⟩
theorem eY:aI ["self","call","tree","word"] ["self","call","tree"] (dS cR):=by walk_at "sc"
theorem jU{n:Nat}{f:Addr}{fd:FuncData}(F:iK K "do_nesting" "Reading.do_nesting" cR f fd){aj:Addr}(aA:ax K aj){C:Addr}{wt:Bool}(ac:au K C)(fB:c8 P w K mg base (cX P w) C "do_all" (n + 3) ["self","call","trees"] (iV K n C aj mg))(zW:c8 P w K mg base (cX P w) C "do_try" (n + 3) ["self","call","tree"] (nq K n C aj mg))(qh:c8 P w K mg base (cX P w) C "spend" 1 ["self"] (mr K C mg))(bc:c8 P w K mg base (cX P w) C "value_of" (n + 3) ["self","call","tree"] (cT K n C aj mg)):bw P w K mg base (cX P w) (n + 3 + 1) f fd ["self","call","tree"] (iF K (n + 1) C aj mg):=by
 refine F.zt eY (λvs H Q E h=>?_) (λcdv A outer s H vs Q E hr h=>?_)
 ·obtain⟨R,L,tv,t,s,s',r,rfl,I,J,hT,ev,q⟩:=h;rfl
 obtain⟨R,L,tv,t,s,s',r,rfl,I,J,hT,ev,q⟩:=h;refine⟨_,(qK (c7 (i:=3) eY.nd rfl (Xe rfl) (aF aJ (pv 2) pI (λ_ _=>rfl)))
   (qO (bf (tR bz (pv 3) aW (aC _)) (qO (bL (c6 (pv 0) fB bj (hr.mono (by omega)) (pK (pv 1) (pK (oR (tR uC (c6 (pv 0) bc bj (hr.mono (by omega)) (pK (pv 1) (pK (aF aJ (pv 2) pI (λ_ _=>rfl)) pN))) pI (aC _)) (aF aJ (pv 2) pI (λ_ _=>rfl)) (aF aJ (pv 2) pI (λ_ _=>rfl))) pN))))) (qO (bf (tR bz (pv 3) aW (aC _)) (qO (uA PassesOwn.leaving (tR uC (c6 (pv 0) bc bj (hr.mono (by omega)) (pK (pv 1) (pK (aF aJ (pv 2) pI (λ_ _=>rfl)) pN))) pI (aC _)) (qK (bL (c6 (pv 0) fB bj (hr.mono (by omega)) (pK (pv 1) (pK (aF aJ (pv 2) pI (λ_ _=>rfl)) pN))))
   (qO (bL (BE (pv 0) qh bj (hr.mono (by omega)))))))) (qO (bf (tR bz (pv 3) aW (aC _)) (qO eB) (qO (bL (c6 (pv 0) zW bj (hr.mono (by omega)) (pK (pv 1) (pK (pv 2) pN)))))))))))),?_⟩
 cases ev with
 | @ifG _ _ _ c a b k _ _ s1 s2 h1 h2 =>
  obtain⟨t,x1,x2,x3,rfl,hS,g1,g2,g3⟩:=nZ hT I.s0;refine⟨_,rfl,t,_,_,_,rfl,rfl,hS,aN (j:=0) rfl,?_⟩;refine⟨_,rfl,rfl,_,rfl,jN rfl ?_⟩;refine⟨_,rfl,R.x,R.dx,_,rfl,I.hx,bq (by decide +kernel),_,rfl,_,rfl,R.x,R.dx,_,rfl,I.hx,bq (by decide +kernel),_,rfl,_,rfl,t,_,_,_,rfl,rfl,hS,aN (j:=1) rfl,?_⟩;refine⟨R,L,x1,c,s,s1,_,rfl,I,J,g1,h1,λH1 kp I1=>⟨⟨rfl,_,rfl,?_⟩,trivial⟩⟩;have J1:gy aj R L H1 s1.env:=(h1.tL rfl).symm ▸ J.keep I kp;have ON:=kp.tup I hS;have fin:∀H',oq R L H1 H'->fu K C R H' s'.said s'.left->gy aj R L H' s'.env->ke (λ_ H=>Q .non H) r H'/\nj mg E r H':=λH' k' I' J'=>⟨ke.drop (h2.Ka rfl) (q H' (kp.s.trans k') I' J').1,(q H' (kp.s.trans k') I' J').2⟩
  by_cases z:k=0
  ·rw[W4 z]at h2;exact om (by rw[z]) ⟨_,rfl,t,_,_,_,rfl,rfl,ON,aN (j:=3) rfl,R,L,x3,b,s1,s',r,rfl,I1,J1,g3,h2,fin⟩
  ·rw[W2 z]at h2;exact uJ (λy=>z (V.int.inj y)) ⟨_,rfl,t,_,_,_,rfl,rfl,ON,aN (j:=2) rfl,R,L,x2,a,s1,s',r,rfl,I1,J1,g2,h2,fin⟩
 | LS h1 hb =>
  obtain⟨t,x1,x2,x3,rfl,hS,g1,g2,g3⟩:=nZ hT I.s0;refine⟨_,rfl,t,_,_,_,rfl,rfl,hS,aN (j:=0) rfl,?_⟩;refine⟨_,rfl,rfl,_,rfl,jN rfl ?_⟩;refine⟨_,rfl,R.x,R.dx,_,rfl,I.hx,bq (by decide +kernel),_,rfl,_,rfl,R.x,R.dx,_,rfl,I.hx,bq (by decide +kernel),_,rfl,_,rfl,t,_,_,_,rfl,rfl,hS,aN (j:=1) rfl,?_⟩;exact⟨R,L,x1,_,s,_,_,rfl,I,J,g1,h1,λH1 kp I1=>⟨ke.bad hb,(q H1 kp.s I1 ((h1.tL rfl).symm ▸ J.keep I kp)).2⟩⟩
 | @wh _ _ _ c b _ _ _ hw =>
  obtain⟨t,x1,x2,rfl,hS,g1,g2⟩:=p0 hT I.s0;refine⟨_,rfl,t,_,_,_,rfl,rfl,hS,aN (j:=0) rfl,?_⟩;refine⟨_,rfl,rfl,_,rfl,bu (by decide +kernel) ?_⟩;refine⟨_,rfl,rfl,_,rfl,jN rfl ?_⟩;refine⟨λm σ H2=>∃si:jK,m=si.left.toNat/\σ=[some (.ref R.x),some (.ref L.c),some (.ref t),some (.str "while")]/\oq R L H H2/\fu K C R H2 si.said si.left/\gy aj R L H2 si.env/\Ev R.ps (n + 1) L.dep L.nm (.W c b) si r s',⟨_,s,rfl,rfl,.refl,I,J,hw⟩,?_⟩;rintro m σ H2 ⟨si,rfl,rfl,kp,I2,J2,e2⟩;have HW:=kp.tup I J hS;refine⟨_,rfl,R.x,R.dx,_,rfl,I2.hx,bq (by decide +kernel),_,rfl,_,rfl,t,_,_,_,rfl,rfl,HW,aN (j:=1) rfl,?_⟩
  cases e2 with
  | w0 h=>exact⟨R,L,x1,c,si,_,_,rfl,I2,J2,g1,h,λH3 k3 I3=>⟨⟨rfl,_,rfl,om rfl (q H3 (kp.trans k3.s) I3 ((h.tL rfl).symm ▸ J2.keep I2 k3)).1⟩,trivial⟩⟩
  | wB h hb=>exact⟨R,L,x1,c,si,_,_,rfl,I2,J2,g1,h,λH3 k3 I3=>⟨ke.bad hb,(q H3 (kp.trans k3.s) I3 ((h.tL rfl).symm ▸ J2.keep I2 k3)).2⟩⟩
  | @wL _ _ _ _ _ k _ _ s1 _ h hk h2 hb =>
   refine⟨R,L,x1,c,si,s1,_,rfl,I2,J2,g1,h,λH3 k3 I3=>⟨⟨rfl,_,rfl,uJ (λz=>hk (V.int.inj z)) ⟨λ_ _=>False,λ_ _ z=>z.elim,?_⟩⟩,trivial⟩⟩;have J3:gy aj R L H3 s1.env:=(h.tL rfl).symm ▸ J2.keep I2 k3;exact⟨_,rfl,R.x,R.dx,_,rfl,I3.hx,bq (by decide +kernel),_,rfl,_,rfl,t,_,_,_,rfl,rfl,k3.tup I2 HW,aN (j:=2) rfl,R,L,x2,b,s1,_,_,rfl,I3,J3,g2,h2,λH4 k4 I4 J4=>⟨ke.bad hb,(q H4 (kp.trans (k3.s.trans k4)) I4 J4).2⟩⟩
  | @wS _ _ _ _ _ k _ s1 _ h hk h2 hl =>
   refine⟨R,L,x1,c,si,s1,_,rfl,I2,J2,g1,h,λH3 k3 I3=>⟨⟨rfl,_,rfl,uJ (λz=>hk (V.int.inj z)) ⟨λ_ _=>False,λ_ _ z=>z.elim,?_⟩⟩,trivial⟩⟩;have J3:gy aj R L H3 s1.env:=(h.tL rfl).symm ▸ J2.keep I2 k3;refine⟨_,rfl,R.x,R.dx,_,rfl,I3.hx,bq (by decide +kernel),_,rfl,_,rfl,t,_,_,_,rfl,rfl,k3.tup I2 HW,aN (j:=2) rfl,R,L,x2,b,s1,_,_,rfl,I3,J3,g2,h2,λH4 k4 I4 J4=>⟨?_,trivial⟩⟩;exact⟨_,rfl,R.x,R.dx,_,rfl,I4.hx,bq (by decide +kernel),R,_,_,rfl,I4,λ_=>(q H4 (kp.trans (k3.s.trans k4)) I4 J4).2,λz=>absurd z (by omega)⟩
  | @wM _ _ _ _ _ k _ _ s1 s2 _ h hk h2 hl h3 =>
   refine⟨R,L,x1,c,si,s1,_,rfl,I2,J2,g1,h,λH3 k3 I3=>⟨⟨rfl,_,rfl,uJ (λz=>hk (V.int.inj z)) ⟨_,λ_ _ z=>z,?_⟩⟩,trivial⟩⟩;have J3:gy aj R L H3 s1.env:=(h.tL rfl).symm ▸ J2.keep I2 k3;refine⟨_,rfl,R.x,R.dx,_,rfl,I3.hx,bq (by decide +kernel),_,rfl,_,rfl,t,_,_,_,rfl,rfl,k3.tup I2 HW,aN (j:=2) rfl,R,L,x2,b,s1,_,_,rfl,I3,J3,g2,h2,λH4 k4 I4 J4=>⟨?_,trivial⟩⟩;refine⟨_,rfl,R.x,R.dx,_,rfl,I4.hx,bq (by decide +kernel),R,_,_,rfl,I4,λz=>absurd z (by omega),λ_=>?_⟩;have l1:=h.le;have l2:=h2.le;exact⟨_,(by show(s2.left - 1).toNat < _;omega),{s2 with left:=s2.left - 1},rfl,rfl,kp.trans (k3.s.trans (k4.trans kc.OK.s)),I4.spent,J4.keep I4 .OK,h3⟩
 | tr h1 =>
  obtain⟨t,x1,x2,x3,rfl,hS,g1⟩:=nZ hT I.s0;refine⟨_,rfl,t,_,_,_,rfl,rfl,hS,aN (j:=0) rfl,?_⟩;refine⟨_,rfl,rfl,_,rfl,bu (by decide +kernel) ?_⟩;refine⟨_,rfl,rfl,_,rfl,bu (by decide +kernel) ?_⟩;refine⟨_,rfl,rfl,_,rfl,bu (by decide +kernel) ?_⟩;exact⟨_,rfl,R.x,R.dx,_,rfl,I.hx,bq (by decide +kernel),_,rfl,_,rfl,R,L,_,_,_,_,s,s',r,rfl,I,J,hT,h1,λH' kp I' J'=>⟨ke.drop (h1.Ka rfl) (q H' kp I' J').1,(q H' kp I' J').2⟩⟩
theorem eg:aI ["self","call","tree","word","record","value"] ["self","call","tree"] (dS cw):=by walk_at "sc"
theorem i4{n:Nat}{f:Addr}{fd:FuncData}(F:iK K "do_statement" "Reading.do_statement" cw f fd){av:Addr}(bM:mg "Fault"=some (.ref av))(cI:PySem.W.ktsIn K av "BaseException"=true){aG:Addr}(gf:mg "Gave"=some (.ref aG))(jB:PySem.W.ktsIn K aG "BaseException"=true)(t7:zp P w K mg base av ["number"])(Kr:zp P w K mg base aG ["value"]){aj:Addr}(aA:ax K aj){C:Addr}{wt:Bool}(ac:au K C)(qQ:c8 P w K mg base (cX P w) C "do_nesting" (n + 3) ["self","call","tree"] (iF K n C aj mg))(bc:c8 P w K mg base (cX P w) C "value_of" (n + 3) ["self","call","tree"] (cT K n C aj mg)):bw P w K mg base (cX P w) (n + 3 + 1) f fd ["self","call","tree"] (fZ K (n + 1) C aj mg):=by
 refine F.zt eg (λvs H Q E h=>?_) (λcdv A outer s H vs Q E hr h=>?_)
 ·obtain⟨R,L,tv,t,s,s',r,rfl,I,J,hT,ev,q⟩:=h;rfl
 obtain⟨R,L,tv,t,s,s',r,rfl,I,J,hT,ev,q⟩:=h;refine⟨_,(qK (c7 (i:=3) eg.nd rfl (Xe rfl) (aF aJ (pv 2) pI (λ_ _=>rfl)))
   (qO (bf (tR bz (pv 3) aW (aC _)) (qO (sJ (yk hr) (fU (pv 1) rfl) (aF aJ (pv 2) pI (λ_ _=>rfl)) (c6 (pv 0) bc bj (hr.mono (by omega)) (pK (pv 1) (pK (aF aJ (pv 2) pI (λ_ _=>rfl)) pN))) rfl)) (qO (bf (tR bz (pv 3) aW (aC _)) (qO (sJ (yk hr) (fU (pv 1) rfl) (aF aJ (pv 2) pI (λ_ _=>rfl)) (c6 (pv 0) bc bj (hr.mono (by omega)) (pK (pv 1) (pK (aF aJ (pv 2) pI (λ_ _=>rfl)) pN))) rfl)) (qO (bf (tR bz (pv 3) aW (aC _)) (qK eB
   (qK eB
   (qO eB))) (qO (bf (tR bz (pv 3) aW (aC _)) (qO (bL (rl Xy XF XH fh (fU (pv 0) rfl) (pK (c6 (pv 0) bc bj (hr.mono (by omega)) (pK (pv 1) (pK (aF aJ (pv 2) pI (λ_ _=>rfl)) pN))) pN)))) (qO (bf (tR bz (pv 3) aW (aC _)) (qO (m4 wQ t7 (hr.mono (by omega)) rfl bM rfl (pK (c6 (pv 0) bc bj (hr.mono (by omega)) (pK (pv 1) (pK (aF aJ (pv 2) pI (λ_ _=>rfl)) pN))) pN))) (qO (bf (tR bz (pv 3) aW (aC _)) (qO (bL (c6 (pv 0) bc bj (hr.mono (by omega)) (pK (pv 1) (pK (aF aJ (pv 2) pI (λ_ _=>rfl)) pN))))) (qO (bf (tR bz (pv 3) aW (aC _)) (qO (m4 wQ Kr (hr.mono (by omega)) rfl gf rfl (pK (c6 (pv 0) bc bj (hr.mono (by omega)) (pK (pv 1) (pK (aF aJ (pv 2) pI (λ_ _=>rfl)) pN))) pN))) (qO (bL (c6 (pv 0) qQ bj (hr.mono (by omega)) (pK (pv 1) (pK (pv 2) pN)))))))))))))))))))),?_⟩
 have vE:∀(e:PyData) (x:V) (s1:jK) (r1:Res) (Q1:VK),aP K R.H0 x e->Ev R.ps n L.dep L.nm (.E e) s r1 s1->(∀H',kc R H H'->fu K C R H' s1.said s1.left->ke Q1 r1 H'/\nj mg E r1 H')->cT K n C aj mg [.ref R.x,.ref L.c,x] H Q1 E :=
  λe x s1 r1 Q1 hx h z=>⟨R,L,x,e,s,s1,r1,rfl,I,J,hx,h,z⟩
 rcases ev.Aq with⟨e,r1,s1,ha,h1,hr⟩ | ⟨hn,h1⟩
 ·have j1:s.env=s1.env:=(h1.tL rfl).symm
  cases ha with
  | let' =>
   obtain⟨t,_,x2,x3,rfl,hS,g1,g2,g3⟩:=nZ hT I.s0;have z:=aP.cq g1;subst z;refine⟨_,rfl,t,_,_,_,rfl,rfl,hS,aN (j:=0) rfl,?_⟩;refine⟨_,rfl,rfl,_,rfl,jN rfl ?_⟩;refine⟨_,rfl,R.x,R.dx,_,rfl,I.hx,bq (by decide +kernel),_,rfl,_,rfl,t,_,_,_,rfl,rfl,hS,aN (j:=3) rfl,vE _ _ _ _ _ g3 h1 λH' kp I'=>?_⟩;rcases hr with⟨k,rfl,act⟩ | ⟨b,e1,e2⟩
   ·refine⟨?_,trivial⟩
    cases act with
    | let' hx =>
     have J':gy aj R L H' s1.env:=j1 ▸ J.keep I kp;obtain⟨o,dp,J2⟩:=J'.put hx k;exact⟨_,rfl,L.c,aj,L.dc,_,_,rfl,J'.hc,aA.cl,aA.mh,mi,_,rfl,t,_,_,_,rfl,rfl,kp.tup I hS,aN (j:=1) rfl,L.d,_,rfl,dp,(q _ (kp.s.trans .P8) (I'.dict J' o) J2).1⟩
   ·subst e1 e2;exact⟨ke.bad b,(q H' kp.s I' (j1 ▸ J.keep I kp)).2⟩
  | set =>
   obtain⟨t,_,x2,rfl,hS,g1,g2⟩:=p0 hT I.s0;have z:=aP.cq g1;subst z;refine⟨_,rfl,t,_,_,_,rfl,rfl,hS,aN (j:=0) rfl,?_⟩;refine⟨_,rfl,rfl,_,rfl,bu (by decide +kernel) ?_⟩;refine⟨_,rfl,rfl,_,rfl,jN rfl ?_⟩;refine⟨_,rfl,R.x,R.dx,_,rfl,I.hx,bq (by decide +kernel),_,rfl,_,rfl,t,_,_,_,rfl,rfl,hS,aN (j:=2) rfl,vE _ _ _ _ _ g2 h1 λH' kp I'=>?_⟩;rcases hr with⟨k,rfl,act⟩ | ⟨b,e1,e2⟩
   ·refine⟨?_,trivial⟩
    cases act with
    | set hx =>
     have J':gy aj R L H' s1.env:=j1 ▸ J.keep I kp;obtain⟨o,dp,J2⟩:=J'.put hx k;exact⟨_,rfl,L.c,aj,L.dc,_,_,rfl,J'.hc,aA.cl,aA.mh,mi,_,rfl,t,_,_,_,rfl,rfl,kp.tup I hS,aN (j:=1) rfl,L.d,_,rfl,dp,(q _ (kp.s.trans .P8) (I'.dict J' o) J2).1⟩
   ·subst e1 e2;exact⟨ke.bad b,(q H' kp.s I' (j1 ▸ J.keep I kp)).2⟩
  | say =>
   obtain⟨t,x1,rfl,hS,g1⟩:=iU hT I.s0;refine⟨_,rfl,t,_,_,_,rfl,rfl,hS,aN (j:=0) rfl,?_⟩;refine⟨_,rfl,rfl,_,rfl,bu (by decide +kernel) ?_⟩;refine⟨_,rfl,rfl,_,rfl,bu (by decide +kernel) ?_⟩;refine⟨_,rfl,rfl,_,rfl,bu (by decide +kernel) ?_⟩;refine⟨_,rfl,rfl,_,rfl,jN rfl ?_⟩;refine⟨_,rfl,R.x,C,R.dx,_,_,rfl,I.hx,ac.cl,ac.xi,yP,.inl ⟨rfl,_,bK.of I.hs⟩,_,rfl,R.x,R.dx,_,rfl,I.hx,bq (by decide +kernel),_,rfl,_,rfl,t,_,_,_,rfl,rfl,hS,aN (j:=1) rfl,vE _ _ _ _ _ g1 h1 λH' kp I'=>?_⟩;rcases hr with⟨k,rfl,act⟩ | ⟨b,e1,e2⟩
   ·refine⟨?_,trivial⟩
    cases act with
    | say hl =>
     have J':gy aj R L H' s1.env:=j1 ▸ J.keep I kp;have J2:gy aj R L (upd H' R.sd (.lst (s1.said.map V.int++[.int k]))) s1.env:=⟨(uN (J'.cs I')).trans J'.hc,let ⟨kvs,h,a,b,c⟩:=J'.hd;⟨kvs,(uN (J'.ds I')).trans h,a,b,c⟩,J'.nd,J'.few⟩;exact⟨R.sd,_,_,rfl,rfl,I'.hs,(by rw[WY];exact WV hl (by decide)),(q _ (kp.s.trans .UO) (I'.say k) J2).1⟩
   ·subst e1 e2;exact⟨ke.bad b,(q H' kp.s I' (j1 ▸ J.keep I kp)).2⟩
  | toss =>
   obtain⟨t,x1,rfl,hS,g1⟩:=iU hT I.s0;refine⟨_,rfl,t,_,_,_,rfl,rfl,hS,aN (j:=0) rfl,?_⟩;refine⟨_,rfl,rfl,_,rfl,bu (by decide +kernel) ?_⟩;refine⟨_,rfl,rfl,_,rfl,bu (by decide +kernel) ?_⟩;refine⟨_,rfl,rfl,_,rfl,bu (by decide +kernel) ?_⟩;refine⟨_,rfl,rfl,_,rfl,bu (by decide +kernel) ?_⟩;refine⟨_,rfl,rfl,_,rfl,jN rfl ?_⟩;refine⟨_,rfl,R.x,R.dx,_,rfl,I.hx,bq (by decide +kernel),_,rfl,_,rfl,t,_,_,_,rfl,rfl,hS,aN (j:=1) rfl,vE _ _ _ _ _ g1 h1 λH' kp I'=>?_⟩;rcases hr with⟨k,rfl,act⟩ | ⟨b,e1,e2⟩
   ·refine⟨?_,trivial⟩
    cases act with
    | toss=>exact⟨rfl,λdx H2 n2 s2 g2=>(q H2 (kp.s.trans (.of s2)) (I'.same s2) ((j1 ▸ J.keep I kp:gy aj R L H' s'.env).same s2)).2 av (some dx) bM ⟨dx,rfl,g2⟩⟩
   ·subst e1 e2;exact⟨ke.bad b,(q H' kp.s I' (j1 ▸ J.keep I kp)).2⟩
  | drop =>
   obtain⟨t,x1,rfl,hS,g1⟩:=iU hT I.s0;refine⟨_,rfl,t,_,_,_,rfl,rfl,hS,aN (j:=0) rfl,?_⟩;refine⟨_,rfl,rfl,_,rfl,bu (by decide +kernel) ?_⟩;refine⟨_,rfl,rfl,_,rfl,bu (by decide +kernel) ?_⟩;refine⟨_,rfl,rfl,_,rfl,bu (by decide +kernel) ?_⟩;refine⟨_,rfl,rfl,_,rfl,bu (by decide +kernel) ?_⟩;refine⟨_,rfl,rfl,_,rfl,bu (by decide +kernel) ?_⟩;refine⟨_,rfl,rfl,_,rfl,jN rfl ?_⟩;refine⟨_,rfl,R.x,R.dx,_,rfl,I.hx,bq (by decide +kernel),_,rfl,_,rfl,t,_,_,_,rfl,rfl,hS,aN (j:=1) rfl,vE _ _ _ _ _ g1 h1 λH' kp I'=>?_⟩;rcases hr with⟨k,rfl,act⟩ | ⟨b,e1,e2⟩
   ·refine⟨?_,trivial⟩
    cases act with
    | drop=>exact(q _ kp.s I' (j1 ▸ J.keep I kp)).1
   ·subst e1 e2;exact⟨ke.bad b,(q H' kp.s I' (j1 ▸ J.keep I kp)).2⟩
  | give =>
   obtain⟨t,x1,rfl,hS,g1⟩:=iU hT I.s0;refine⟨_,rfl,t,_,_,_,rfl,rfl,hS,aN (j:=0) rfl,?_⟩;refine⟨_,rfl,rfl,_,rfl,bu (by decide +kernel) ?_⟩;refine⟨_,rfl,rfl,_,rfl,bu (by decide +kernel) ?_⟩;refine⟨_,rfl,rfl,_,rfl,bu (by decide +kernel) ?_⟩;refine⟨_,rfl,rfl,_,rfl,bu (by decide +kernel) ?_⟩;refine⟨_,rfl,rfl,_,rfl,bu (by decide +kernel) ?_⟩;refine⟨_,rfl,rfl,_,rfl,bu (by decide +kernel) ?_⟩;refine⟨_,rfl,rfl,_,rfl,jN rfl ?_⟩;refine⟨_,rfl,R.x,R.dx,_,rfl,I.hx,bq (by decide +kernel),_,rfl,_,rfl,t,_,_,_,rfl,rfl,hS,aN (j:=1) rfl,vE _ _ _ _ _ g1 h1 λH' kp I'=>?_⟩;rcases hr with⟨k,rfl,act⟩ | ⟨b,e1,e2⟩
   ·refine⟨?_,trivial⟩
    cases act with
    | give=>exact⟨rfl,λdx H2 n2 s2 g2=>(q H2 (kp.s.trans (.of s2)) (I'.same s2) ((j1 ▸ J.keep I kp:gy aj R L H' s'.env).same s2)).2 aG (some dx) gf ⟨dx,rfl,g2⟩⟩
   ·subst e1 e2;exact⟨ke.bad b,(q H' kp.s I' (j1 ▸ J.keep I kp)).2⟩
 ·cases hn with
  | if' =>
   obtain⟨t,x1,x2,x3,rfl,hS,g1⟩:=nZ hT I.s0;refine⟨_,rfl,t,_,_,_,rfl,rfl,hS,aN (j:=0) rfl,?_⟩;refine⟨_,rfl,rfl,_,rfl,bu (by decide +kernel) ?_⟩;refine⟨_,rfl,rfl,_,rfl,bu (by decide +kernel) ?_⟩;refine⟨_,rfl,rfl,_,rfl,bu (by decide +kernel) ?_⟩;refine⟨_,rfl,rfl,_,rfl,bu (by decide +kernel) ?_⟩;refine⟨_,rfl,rfl,_,rfl,bu (by decide +kernel) ?_⟩;refine⟨_,rfl,rfl,_,rfl,bu (by decide +kernel) ?_⟩;refine⟨_,rfl,rfl,_,rfl,bu (by decide +kernel) ?_⟩;exact⟨_,rfl,R.x,R.dx,_,rfl,I.hx,bq (by decide +kernel),_,rfl,_,rfl,R,L,_,_,s,s',r,rfl,I,J,hT,h1,λH' kp I' J'=>⟨ke.drop (h1.Ka rfl) (q H' kp I' J').1,(q H' kp I' J').2⟩⟩
  | wh =>
   obtain⟨t,x1,x2,rfl,hS,g1⟩:=p0 hT I.s0;refine⟨_,rfl,t,_,_,_,rfl,rfl,hS,aN (j:=0) rfl,?_⟩;refine⟨_,rfl,rfl,_,rfl,bu (by decide +kernel) ?_⟩;refine⟨_,rfl,rfl,_,rfl,bu (by decide +kernel) ?_⟩;refine⟨_,rfl,rfl,_,rfl,bu (by decide +kernel) ?_⟩;refine⟨_,rfl,rfl,_,rfl,bu (by decide +kernel) ?_⟩;refine⟨_,rfl,rfl,_,rfl,bu (by decide +kernel) ?_⟩;refine⟨_,rfl,rfl,_,rfl,bu (by decide +kernel) ?_⟩;refine⟨_,rfl,rfl,_,rfl,bu (by decide +kernel) ?_⟩;exact⟨_,rfl,R.x,R.dx,_,rfl,I.hx,bq (by decide +kernel),_,rfl,_,rfl,R,L,_,_,s,s',r,rfl,I,J,hT,h1,λH' kp I' J'=>⟨ke.drop (h1.Ka rfl) (q H' kp I' J').1,(q H' kp I' J').2⟩⟩
  | tr =>
   obtain⟨t,x1,x2,x3,rfl,hS,g1⟩:=nZ hT I.s0;refine⟨_,rfl,t,_,_,_,rfl,rfl,hS,aN (j:=0) rfl,?_⟩;refine⟨_,rfl,rfl,_,rfl,bu (by decide +kernel) ?_⟩;refine⟨_,rfl,rfl,_,rfl,bu (by decide +kernel) ?_⟩;refine⟨_,rfl,rfl,_,rfl,bu (by decide +kernel) ?_⟩;refine⟨_,rfl,rfl,_,rfl,bu (by decide +kernel) ?_⟩;refine⟨_,rfl,rfl,_,rfl,bu (by decide +kernel) ?_⟩;refine⟨_,rfl,rfl,_,rfl,bu (by decide +kernel) ?_⟩;refine⟨_,rfl,rfl,_,rfl,bu (by decide +kernel) ?_⟩;exact⟨_,rfl,R.x,R.dx,_,rfl,I.hx,bq (by decide +kernel),_,rfl,_,rfl,R,L,_,_,s,s',r,rfl,I,J,hT,h1,λH' kp I' J'=>⟨ke.drop (h1.Ka rfl) (q H' kp I' J').1,(q H' kp I' J').2⟩⟩
theorem ik:aI ["self","call","trees","tree"] ["self","call","trees"] (dS fq):=by walk_at "sc"
theorem mC{n:Nat}{f:Addr}{fd:FuncData}(F:iK K "do_all" "Reading.do_all" fq f fd){aj:Addr}(aA:ax K aj){C:Addr}{wt:Bool}(ac:au K C)(ou:c8 P w K mg base (cX P w) C "do_statement" (n + 3) ["self","call","tree"] (fZ K n C aj mg)):bw P w K mg base (cX P w) (n + 3 + 1) f fd ["self","call","trees"] (iV K (n + 1) C aj mg):=by
 refine F.zt ik (λvs H Q E h=>?_) (λcdv A outer s H vs Q E hr h=>?_)
 ·obtain⟨R,L,tv,ts,s,s',r,rfl,I,J,hT,ev,q⟩:=h;rfl
 obtain⟨R,L,tv,ts,s,s',r,rfl,I,J,hT,ev,q⟩:=h;refine⟨_,(qO (we PassesOwn.leaving rfl (oz (pv 2)) (gU (i:=3) ik.nd rfl (Xe rfl)) (qO (bL (c6 (pv 0) ou bj (hr.mono (by omega)) (pK (pv 1) (pK (pv 3) pN))))))),?_⟩;obtain⟨a,us,rfl,hL,hU⟩:=aP.eJ hT;have lu:us.length=ts.length:=hU.1;refine⟨_,rfl,a,rfl,⟨_,I.s0.seq hL⟩,?_⟩;refine uB (xs:=us) (λi σ H2=>∃(u:Option V) (si:jK),σ=[some (.ref R.x),some (.ref L.c),some (.ref a),u]/\oq R L H H2/\fu K C R H2 si.said si.left/\gy aj R L H2 si.env/\Ev R.ps (n + 1) L.dep L.nm (.Ss (ts.drop i)) si r s') ⟨none,s,rfl,.refl,I,J,ev⟩ ?_ ?_ ?_
 ·rintro i σ H2 _ ⟨u,si,rfl,_,I2,_⟩;exact I2.s0.seq hL
 ·rintro i x σ H2 hx ⟨u,si,rfl,kp,I2,J2,e2⟩;have hi:i < ts.length:=by rw[← lu];exact(er hx).1
  have hrx:=hU.2 i x _ hx (jL hi);rw[XY hi]at e2;refine⟨_,rfl,R.x,R.dx,_,rfl,I2.hx,bq (by decide +kernel),_,rfl,_,rfl,?_⟩
  cases e2 with
  | ssC h1 h2=>exact⟨R,L,x,_,si,_,_,rfl,I2,J2,hrx,h1,λH' kp' I' J'=>⟨⟨some x,_,rfl,kp.trans kp',I',J',h2⟩,trivial⟩⟩
  | ssB h1 hb=>exact⟨R,L,x,_,si,_,_,rfl,I2,J2,hrx,h1,λH' kp' I' J'=>⟨ke.bad hb,(q H' (kp.trans kp') I' J').2⟩⟩
 ·rintro σ H2 ⟨u,si,rfl,kp,I2,J2,e2⟩;rw[lu,YX]at e2
  cases e2 with
  | ssN=>exact(q H2 kp I2 J2).1
theorem nz:aI ["self","depth","known"] ["self","depth","known"] (dS fW):=by walk_at "sc"
theorem nA{f:Addr}{fd:FuncData}(F:iK K "__init__" "Call.__init__" fW f fd){aj:Addr}(aA:ax K aj):bw P w K mg base cN 1 f fd ["self","depth","known"] (jw K aj):=by
 refine F.ok nz (λvs H Q E h=>?_) (λcdv A outer s H vs Q E hr h=>?_)
 ·obtain⟨x,dx,d,p,rfl,hx,q⟩:=h;rfl
 obtain⟨x,dx,d,p,rfl,hx,q⟩:=h;refine⟨_,(qK (mV (pv 0) (pv 1) rfl)
   (qO (mV (pv 0) (pv 2) rfl))),?_⟩
 refine⟨_,rfl,_,rfl,x,aj,dx,_,rfl,hx,aA.cl,aA.oJ,(by show 0 < 1000;decide),?_⟩;refine⟨_,rfl,_,rfl,x,aj,dx,_,rfl,uS,aA.cl,aA.mh,(by show(cW _ _ _).length < 1000;exact Xx (dO _ _ _) (by show 1 < 1000;decide)),?_⟩;refine q _ ?_ (λc o hc e=>?_)
 ·rw[uS,J6]
 ·rw[uN hc,uN hc];exact e
theorem cf:aI ["self","part","values","depth","told","names","call","gave"] ["self","part","values","depth"] (dS fX):=by walk_at "sc"
theorem nC{n:Nat}{f:Addr}{fd:FuncData}(F:iK K "given" "Reading.given" fX f fd){aV:Addr}(cy:mg "Weary"=some (.ref aV))(eU:PySem.W.excIn K aV (px false) (uu false)=true)(eV:PySem.W.ktsIn K aV "BaseException"=true){av:Addr}(bM:mg "Fault"=some (.ref av))(cI:PySem.W.ktsIn K av "BaseException"=true)(qj:mg "dict"=none)(vW:mg "zip"=none){aG:Addr}(gf:mg "Gave"=some (.ref aG))(jB:PySem.W.ktsIn K aG "BaseException"=true){aj:Addr}(aA:ax K aj){C:Addr}{wt:Bool}(ac:au K C)(fB:c8 P w K mg base (cX P w) C "do_all" (n + 3) ["self","call","trees"] (iV K n C aj mg))(bc:c8 P w K mg base (cX P w) C "value_of" (n + 3) ["self","call","tree"] (cT K n C aj mg))(FG:BD P w K mg base cN aj "Call" 1 ["self","depth","known"] (jw K aj))(kq:PySem.W.findIn K (.ref aG) "__getattribute__"=some (some (.builtin "BaseException.__getattribute__")))(kr:PySem.W.findIn K (.ref aG) "__getattr__"=some none)(ku:PySem.W.findIn K (.ref aG) "__class__"=some (some (.builtin "object.__class__")))(ky:PySem.W.mroIn K aG (.type "BaseException")=some true)(kz:PySem.W.mroIn K aG (.type "object")=some true)(kA:PySem.W.hasDictIn K aG=true)(Ct:PySem.W.mroIn K aG (.ref aG)=some true)(Cu:PySem.W.mroIn K av (.ref aG)=some false)(Cv:PySem.W.mroIn K aV (.ref aG)=some false)(Cw:PySem.W.findIn K (.ref aG) "value"=some none):bw P w K mg base (cX P w) (n + 3 + 1) f fd ["self","part","values","depth"] (mv K (n + 1) C mg):=by
 refine F.zt cf (λvs H Q E h=>?_) (λcdv A outer s H vs Q E hr h=>?_)
 ·obtain⟨R,il,p,dep,ks,m,s,s',r,rfl,I,hS,ev,q⟩:=h;rfl
 obtain⟨R,il,p,dep,ks,m,s,s',r,rfl,I,hS,ev,q⟩:=h;refine⟨_,(qK (c7 (i:=4) cf.nd rfl (Xe rfl) (aF bA (aF aJ (fU (pv 0) rfl) pI (λ_ _=>rfl)) (pv 1) (λ_ _=>rfl)))
   (qK (Bm (i:=5) cf.nd rfl (Xe rfl) 1 ["take"] [] ⟨rfl,rfl,rfl,rfl,rfl,rfl,rfl,rfl⟩ (oz (aF aJ (pv 4) pI (λ_ _=>rfl))) (λ_ _ _ _=>⟨(gU (i:=0) (show List.Nodup (["take"]:List Str)by decide +kernel) rfl (Xe rfl)),oE,(aF (r:=wD K) aJ (pv 0) pI (λ_ _=>rfl))⟩))
   (qK (c7 (i:=6) cf.nd rfl (Xe rfl) (Hy FG uI (hr.mono (by omega)) rfl (pK (pv 3) (pK (B8 rfl qj rfl vW rfl (pK (pv 5) (pK (pv 2) pN))) pN))))
   (qK (oG (vz (pW (λ_=>(pv 0)) fB (hr.mono (by omega)) (λ_=>(pK (pv 6) (pK (aF (r:=wD K) aJ (pv 4) pI (λ_ _=>rfl)) pN)))) Fm) (Ca (i:=7) rfl gf jB cf.nd rfl rfl (λ_ _=>(qO (aX (show PE _ _ (Oy K _ _)from (Bs (pv 7) rfl))))) (xg gY)))
   (qO (aX (c6 (pv 0) bc bj (hr.mono (by omega)) (pK (pv 6) (pK (aF aJ (pv 4) pI (λ_ _=>rfl)) pN))))))))),?_⟩
 have kx:KX K aG:=⟨kq,kr,ku,ky,kz⟩;obtain⟨pq,hp,hl⟩:∃pq,R.ps[p]?=some pq/\ks.length=pq.tk.length:=by cases ev<;>exact⟨_,by assumption,by assumption⟩
 obtain⟨b',bx,e,hT,hR⟩:=aP.gK (show aP K R.H0 (.ref R.b) (.tuple [R.ms,.list (R.ps.map xm)])from I.pr);cases e;obtain⟨m0,m1,rfl⟩:=OJ hR.1;obtain⟨pl,xs,rfl,hL,hP⟩:=aP.eJ (hR.2 1 m1 _ rfl rfl);have lx:xs.length=R.ps.length:=by rw[hP.1,WY]
 have hjl:=(er hp).1;have hxj:xs[p]?=some (xs[p]'(by omega)):=jL (by omega);have Sk:=hP.2 p _ (xm pq) hxj (by rw[Xv,hp];rfl);generalize xs[p]'(by omega)=tv at hxj Sk;obtain⟨t,ts,rfl,hTt,hRt⟩:=aP.gK (show aP K R.H0 tv (.tuple [.list (pq.tk.map J0),.tuple (tJ pq.gv),.list pq.bd,pq.an])from Sk);obtain⟨t0,t1,t2,t3,rfl⟩:=Sa hRt.1;obtain⟨nl,ns,rfl,hN,hNR⟩:=aP.eJ (hRt.2 0 t0 _ rfl rfl);have hBd:=hRt.2 2 t2 _ rfl rfl;have hAn:=hRt.2 3 t3 _ rfl rfl;have ln:ns.length=pq.tk.length:=by rw[hNR.1,WY]
 have mem:=Xg hp;have Kp:=I.wf.tks pq mem;have s0:=I.s0;refine⟨_,rfl,R.x,C,R.dx,_,_,rfl,I.hx,ac.cl,ac.rQ,xl,R.b,_,_,_,rfl,rfl,s0.tup hT,aN (j:=1) rfl,_,rfl,pl,_,_,_,rfl,rfl,s0.seq hL,aN hxj,?_⟩;refine⟨_,rfl,t,_,_,_,rfl,rfl,s0.tup hTt,aN (j:=0) rfl,nl,rfl,⟨_,s0.seq hN⟩,λD hD=>?_⟩;refine sC (xs:=ns) (λi zs H2=>aQ H H2/\H2 D=some (.lst zs)/\zs=(pq.tk.take i).map λt=>V.str t.1) (Yi (sK (by omega))) ⟨aH hD _,uS,rfl⟩ ?_ ?_ ?_
 ·rintro i zs H2 hi ⟨s2,d2,rfl⟩;refine⟨d2,?_,s2.seq (s0.seq hN)⟩;rw[WY,XJ];omega
 ·rintro i v zs H2 hv ⟨s2,d2,rfl⟩;have hi:i < pq.tk.length:=by rw[← ln];exact(er hv).1
  have ht:pq.tk[i]?=some pq.tk[i]:=jL hi;have hrv:=hNR.2 i v (J0 pq.tk[i]) hv (by rw[Xv,ht];rfl);obtain⟨tt,x1,rfl,hTT,_⟩:=iU (show aP K R.H0 v (.tuple [.str pq.tk[i].1,.tuple (tJ pq.tk[i].2)])from hrv) (s0.trans s2);refine⟨rfl,_,rfl,tt,_,_,_,rfl,rfl,hTT,aN (j:=0) rfl,d2,vC s2 hD _,uS,?_⟩;rw[YH,ht,Yd];rfl
 rintro zs H2 ⟨s2,d2,rfl⟩;rw[ln,YW]at d2;refine⟨_,rfl,_,rfl,_,rfl,D,il,pq.tk.map (·.1),ks.map V.int,rfl,?_,s2.seq hS,I.wf.nd pq mem,?_,?_,λd hd=>?_⟩
 ·rw[Yp];exact bK.of d2
 ·rw[WY,WY,hl]
 ·rw[WY];omega
 intro xx dxx nx ndx ne;have s3:=s2.trans (aH hd (.dK (((pq.tk.map (·.1)).zip (ks.map V.int)).map λp=>(Sum.inr p.1,p.2))));have d3:=uS (H:=H2) (a:=d) (o:=.dK (((pq.tk.map (·.1)).zip (ks.map V.int)).map λp=>(Sum.inr p.1,p.2)))
 have HK:H d=none:=by
  cases e:H d with
  | none=>rfl
  | some o=>rw[s2 _ _ e]at hd;cases hd
 generalize upd H2 d (.dK (((pq.tk.map (·.1)).zip (ks.map V.int)).map λp=>(Sum.inr p.1,p.2)))=H3 at s3 d3 nx ndx ⊢;refine⟨xx,dxx,d,dep,rfl,uS,λH4 e4 k4=>⟨rfl,?_⟩⟩;have HY:aQ H3 H4:=λc o e=>k4 c o (nN e nx) (by rw[uN (nN e nx),uN (nN e ndx)];exact e)
 have s4:=s3.trans HY;have I4:=I.same s4;have Sl:=(s0.trans s4).tup hTt
 have J4:gy aj R ⟨xx,dxx,d,dep,pq.nm⟩ H4 (envOf (pq.tk.map (·.1)) ks):=by
  refine⟨e4,⟨_,HY _ _ d3,?_,?_,yR _ _⟩,I.h0 HK,I.wf.nms pq mem⟩
  ·rw[rS (by rw[WY];exact hl)];exact List.pairwise_map.mpr ((I.wf.nd pq mem).imp λh z=>h (Y3 z))
  ·rw[rS (by rw[WY];exact hl)];intro k hk;obtain⟨y,hy,e⟩:=YA.mp hk;exact⟨y,I.wf.sub pq mem y hy,e.symm⟩
 have back:∀{H':Hp},oq R ⟨xx,dxx,d,dep,pq.nm⟩ H4 H'->kc R H H':=λk c o n1 n2 e=>k c o n1 n2 (nN e HK) (s4 _ _ e)
 refine⟨_,rfl,R.x,R.dx,_,rfl,I4.hx,bq (by decide +kernel),_,rfl,_,rfl,t,_,_,_,rfl,rfl,Sl,aN (j:=2) rfl,?_⟩
 have pass:∀(r1:Res) (H':Hp) (D:Ends) (σ:St) (tb:TS),(∀k,r1≠.gave k)->nj mg E r1 H'->nj mg (Nq K aG 7 tb (B9 E) D σ) r1 H':=λr1 H' D σ tb hn z=>by
  cases r1 with
  | gave k=>exact absurd rfl (hn k)
  | fault k =>
   intro C' dd hC hx;rw[bM]at hC;cases hC;exact⟨_,rfl,.inr ⟨Cu,z _ dd bM hx⟩⟩
  | weary =>
   intro C' dd hC;rw[cy]at hC;cases hC;exact⟨_,rfl,.inr ⟨Cv,z _ dd cy⟩⟩
  | _=>trivial
 have same:∀{q':kU},R.ps[p]?=some q'->q'=pq:=λh=>by rw[hp]at h;exact(W0 h).symm
 cases ev with
 | gB hq _ h1 h2 =>
  rw[same hq]at h1 h2;refine⟨R,⟨xx,dxx,d,dep,pq.nm⟩,t2,pq.bd,{s with env:=envOf (pq.tk.map (·.1)) ks},_,.ok,rfl,I4,J4,hBd,h1,λH' kp I' J'=>⟨?_,trivial⟩⟩;exact⟨_,rfl,R.x,R.dx,_,rfl,I'.hx,bq (by decide +kernel),_,rfl,_,rfl,t,_,_,_,rfl,rfl,kp.tup I4 J4 Sl,aN (j:=3) rfl,R,⟨xx,dxx,d,dep,pq.nm⟩,t3,pq.an,_,_,_,rfl,I',J',hAn,h2,λH'' k'' I''=>q H'' ((back kp).trans k'') I''⟩
 | @gG _ _ _ _ _ k _ _ _ hq _ h1 =>
  rw[same hq]at h1;refine⟨R,⟨xx,dxx,d,dep,pq.nm⟩,t2,pq.bd,{s with env:=envOf (pq.tk.map (·.1)) ks},_,.gave k,rfl,I4,J4,hBd,h1,λH' kp I' J'=>⟨trivial,?_⟩⟩;rintro C' dd hC ⟨dx,rfl,hdx⟩;rw[gf]at hC;cases hC;refine⟨_,rfl,.inl ⟨Ct,λe he=>?_⟩⟩;have s5:=aH he (.ext (Hv aG e (some dx)));exact⟨_,rfl,e,aG,dx,_,_,_,rfl,uS,wR,s5 _ _ hdx,kx,kA,Cw,rfl,(q _ ((back kp).trans (.of s5)) (I'.same s5)).1⟩
 | gX hq _ h1 hb hn =>
  rw[same hq]at h1;exact⟨R,⟨xx,dxx,d,dep,pq.nm⟩,t2,pq.bd,{s with env:=envOf (pq.tk.map (·.1)) ks},s',r,rfl,I4,J4,hBd,h1,λH' kp I' J'=>⟨ke.bad hb,pass _ _ _ _ _ hn (q H' (back kp) I').2⟩⟩
theorem ip:aI ["self","part","inputs","fault"] ["self","part","inputs"] (dS ft):=by walk_at "sc"
theorem mD{f:Addr}{fd:FuncData}(F:iK K "end_at" "Reading.end_at" ft f fd){av:Addr}(bM:mg "Fault"=some (.ref av))(cI:PySem.W.ktsIn K av "BaseException"=true){aV:Addr}(cy:mg "Weary"=some (.ref aV))(eU:PySem.W.excIn K aV (px false) (uu false)=true)(eV:PySem.W.ktsIn K aV "BaseException"=true){aj:Addr}(aA:ax K aj){C:Addr}{wt:Bool}(ac:au K C)(qg:c8 P w K mg base (cX P w) C "given" 63 ["self","part","values","depth"] (mv K 60 C mg))(dU:PySem.W.findIn K (.ref av) "__getattribute__"=some (some (.builtin "BaseException.__getattribute__")))(dW:PySem.W.findIn K (.ref av) "__getattr__"=some none)(dX:PySem.W.findIn K (.ref av) "__class__"=some (some (.builtin "object.__class__")))(dY:PySem.W.mroIn K av (.type "BaseException")=some true)(dZ:PySem.W.mroIn K av (.type "object")=some true)(ee:PySem.W.hasDictIn K av=true)(vQ:PySem.W.mroIn K av (.ref av)=some true)(vS:PySem.W.mroIn K aV (.ref av)=some false)(Cy:PySem.W.mroIn K aV (.ref aV)=some true)(vT:PySem.W.findIn K (.ref av) "number"=some none):bw P w K mg base cN 64 f fd ["self","part","inputs"] (nr K C mg):=by
 refine F.ok ip (λvs H Q E h=>?_) (λcdv A outer s H vs Q E hr h=>?_)
 ·obtain⟨R,il,p,ks,m,s,s',r,rfl,I,hS,ev,q⟩:=h;rfl
 obtain⟨R,il,p,ks,m,s,s',r,rfl,I,hS,ev,q⟩:=h;refine⟨_,(qO (oG (yL (Fl (vy (JS λ_=>aW) (vy (pW (λ_=>(pv 0)) qg (hr.mono (by decide)) (λ_=>(pK (pv 1) (pK (pv 2) (pK pI pN))))) Fj)))) (Ca (i:=3) rfl bM cI ip.nd rfl rfl (λ_ _=>(qO (aX (ff (pK aW (pK (show PE _ _ (Oy K _ _)from (Bs (pv 3) rfl)) pN)))))) (HR rfl cy eV (λ_ _=>(qO (aX (ff (pK aW pN))))) Fh)))),?_⟩;have kx:KX K av:=⟨dU,dW,dX,dY,dZ⟩;refine⟨_,rfl,R.x,R.dx,_,rfl,I.hx,bq (by decide +kernel),_,rfl,_,rfl,R,il,p,1,ks,m,s,s',r,rfl,I,hS,ev,λH' kp I'=>?_⟩;have P9:=ev.P9 (.inr ⟨_,_,rfl⟩)
 cases r with
 | gave k=>exact absurd rfl (P9 k)
 | val k =>
  refine⟨⟨AL,λt ht=>?_⟩,trivial⟩;have s2:=aH ht (.tup [.str "gave",.int k]);exact q _ t _ (kp.trans (.of s2)) (I'.same s2) (cg.of uS) rfl
 | fault k =>
  refine⟨trivial,?_⟩;rintro C' dd hC ⟨dx,rfl,hdx⟩;rw[bM]at hC;cases hC;refine⟨_,rfl,.inl ⟨vQ,λe he=>?_⟩⟩;have s5:=aH he (.ext (Hv av e (some dx)));have g5:=uS (H:=H') (a:=e) (o:=.ext (Hv av e (some dx)));generalize upd H' e _=H5 at s5 g5 ⊢;refine⟨_,rfl,e,av,dx,_,_,_,rfl,g5,wR,s5 _ _ hdx,kx,ee,vT,rfl,AL,λt ht=>?_⟩;have s6:=s5.trans (aH ht (.tup [.str "fault",.int k]));exact q _ t _ (kp.trans (.of s6)) (I'.same s6) (cg.of uS) rfl
 | weary =>
  refine⟨trivial,?_⟩;intro C' dd hC;rw[cy]at hC;cases hC;refine⟨_,rfl,.inr ⟨vS,_,rfl,.inl ⟨Cy,LP,λt ht=>?_⟩⟩⟩;have s2:=aH ht (.tup [.str "weary"]);exact q _ t _ (kp.trans (.of s2)) (I'.same s2) (cg.of uS) rfl
 | ok=>rcases ev.vR rfl with⟨_,z⟩ | z<;>cases z
 | vals _=>rcases ev.vR rfl with⟨_,z⟩ | z<;>cases z
theorem kQ:aI ["self","program","budget"] ["self","program","budget"] (dS dM):=by walk_at "sc"
theorem kR{f:Addr}{fd:FuncData}(F:iK K "__init__" "Reading.__init__" dM f fd){aj:Addr}(aA:ax K aj){C:Addr}{wt:Bool}(ac:au K C):bw P w K mg base cN 1 f fd ["self","program","budget"] (gc K C):=by
 refine F.ok kQ (λvs H Q E h=>?_) (λcdv A outer s H vs Q E hr h=>?_)
 ·obtain⟨x,dx,b,bud,rfl,hx,q⟩:=h;rfl
 obtain⟨x,dx,b,bud,rfl,hx,q⟩:=h;refine⟨_,(qK (mV (pv 0) (pv 1) rfl)
   (qK (mV (pv 0) (eE pN) rfl)
   (qO (mV (pv 0) (pv 2) rfl)))),?_⟩
 refine⟨_,rfl,_,rfl,x,C,dx,_,rfl,hx,ac.cl,ac.rQ,(by show 0 < 1000;decide),?_⟩;refine⟨Oo,λsd hsd=>?_⟩;have ne:x≠sd:=λe=>by subst e;rw[uS]at hsd;cases hsd
 have NO:H sd=none:=by rw[uN ne.symm]at hsd;exact hsd
 refine⟨_,rfl,x,C,dx,_,rfl,(uN ne).trans uS,ac.cl,ac.xi,(by show(cW _ _ _).length < 1000;exact Xx (dO _ _ _) (by show 1 < 1000;decide)),?_⟩;refine⟨_,rfl,_,rfl,x,C,dx,_,rfl,uS,ac.cl,ac.pY,(by show(cW _ _ _).length < 1000;exact Xx (dO _ _ _) (Nat.succ_lt_succ (Xx (dO _ _ _) (by show 1 < 999;decide)))),?_⟩;refine q sd _ NO ?_ ?_ (λc o hc e=>?_)
 ·rw[uS,J7]
 ·rw[uN ne.symm,uN ne.symm];exact uS
 ·rw[uN hc,uN hc,uN (nN e NO),uN hc];exact e
theorem jE:aI ["program","part","inputs","budget","reading","end"] ["program","part","inputs","budget"] (dS kb):=by walk_at "sc"
theorem ua{f:Addr}{fd:FuncData}(F:iK K "plain_run" "plain_run" kb f fd){aj:Addr}(aA:ax K aj){ak:Addr}(jF:au K ak)(ub:gI P w K mg base (cX P w) "check_door" 2 ["parts","part","inputs"] (iD K bI))(xG:gI P w K mg base cN "heads_of" 2 ["program"] (ki K))(mE:c8 P w K mg base cN ak "end_at" 64 ["self","part","inputs"] (nr K ak mg))(xH:BD P w K mg base cN ak "Reading" 1 ["self","program","budget"] (gc K ak)):bw P w K mg base cN 65 f fd ["program","part","inputs","budget"] (gF K):=by
 refine F.ok jE (λvs H Q E h=>?_) (λcdv A outer s H vs Q E hr h=>?_)
 ·obtain⟨b,il,j,bud,ms,ps,p,ks,m,s',r,ts,rfl,hB,wf,hI,hp,ha,hl,ev,he,q⟩:=h;rfl
 obtain⟨b,il,j,bud,ms,ps,p,ks,m,s',r,ts,rfl,hB,wf,hI,hp,ha,hl,ev,he,q⟩:=h;refine⟨_,(qK (bL (Bw ub Jm (hr.mono (by decide)) rfl (pK (eF xG (hr.mono (by decide)) rfl (pK (pv 0) pN)) (pK (pv 1) (pK (pv 2) pN)))))
   (qK (c7 (i:=4) jE.nd rfl (Xe rfl) (Hy xH uI (hr.mono (by decide)) rfl (pK (pv 0) (pK (pv 3) pN))))
   (qK (c7 (i:=5) jE.nd rfl (Xe rfl) (c6 (pv 4) mE uI (hr.mono (by decide)) (pK (pv 1) (pK (pv 2) pN))))
   (qO (aX (ff (pK (pv 5) (pK (fU (pv 4) rfl) (pK (fU (pv 4) rfl) pN))))))))),?_⟩
 have rdI:aO K (λ_=>False) H (.ref il) (.list (ks.map PyData.int)):=pH (.lst hI (by simp) λi x d hx hd=>(vn (K:=K) (P:=λ_=>False) (H:=H) (ns:=ks)).2 i x d hx hd |>.now)
 have ht:∀h∈xn ps,h.1.length<=100:=λh hh=>by
  obtain⟨p,hp,rfl⟩:=YA.mp hh;show(p.tk.map (·.2)).length<=100;rw[WY];exact wf.tks p hp
 refine⟨_,rfl,λ_=>False,[J8 ms ps],(λ_ z=>z.elim),.cons (pH hB) .nil,ms,ps,rfl,wf.few,wf.tks,λv H1 s1 r1=>?_⟩;refine⟨_,rfl,_,rfl,λ_=>False,[.list ((xn ps).map yc),.int (j:Int),.list (ks.map PyData.int)],(λ_ z=>z.elim),.cons r1 (.cons (.int _) (.cons (rdI.same s1) .nil)),xn ps,j,ks,rfl,ht,λdr v2 H2 s2 r2=>?_,λnd dd H2 s2 x=>absurd ?_ nd⟩;rotate_left
 ·refine⟨(p.tk.map (·.2),p.gv),by omega,?_,ha,by rw[hl];exact(List.length_map _).symm⟩;rw[Int.toNat_natCast];unfold xn;rw[List.getElem?_map,hp];rfl
 have S2:=s1.trans s2;refine⟨_,rfl,_,rfl,λx dx nx ndx ne=>?_⟩
 have y:aQ H2 (upd (upd H2 dx (.own x)) x (.ins ak dx [])):=λc o e=>by
  rw[uN (nN e nx),uN (nN e ndx)];exact e
 refine⟨x,dx,b,bud,rfl,uS,λsd H3 nsd e3 l3 k3=>⟨rfl,?_⟩⟩;have Sm:aQ H2 H3:=λc o e=>k3 c o (nN e nx) (y c o e)
 have S3:=S2.trans Sm
 have Ks:H2 sd=none:=by
  cases e:H2 sd with
  | none=>rfl
  | some o=>rw[y _ _ e]at nsd;cases nsd
 have hsd:H sd=none:=by
  cases e:H sd with
  | none=>rfl
  | some o=>rw[S2 _ _ e]at Ks;cases Ks
 have I:fu K ak ⟨x,dx,b,sd,ms,ps,H2⟩ H3 [] bud:=⟨e3,l3,Sm,aP.same S2 hB,nx,Ks,wf⟩;refine⟨_,rfl,x,dx,_,rfl,e3,bq (by decide +kernel),_,rfl,_,rfl,⟨x,dx,b,sd,ms,ps,H2⟩,il,j,ks,m,⟨[],bud,λ_=>none⟩,s',r,rfl,I,S3.seq hI,ev,λH4 u us kp I4 gu eu=>?_⟩;rw[he]at eu;cases eu;refine⟨_,rfl,_,rfl,x,ak,dx,_,_,rfl,I4.hx,jF.cl,jF.xi,yP,_,rfl,x,ak,dx,_,_,rfl,I4.hx,jF.cl,jF.pY,tK,OX,λt ht=>?_⟩;have s5:=aH ht (.tup [.ref u,.ref sd,.int s'.left]);exact q t u sd _ (S2.trans (I4.s0.trans s5)) hsd (cg.of uS) (s5.tup gu) (s5 _ _ I4.hs)
theorem bP:aI ["_law_script","_law_source_here","_law_cell","_law_echo","_law_number","_law_names","_law_inputs","_law_k","_law_word_here","_law_way","_law_things_here","_law_budget","_law_body_here","_law_door","_law_other","_law_parts","_law_state","_law_due","_law_kept","_law_found"] ["_law_script"] (dS mf):=by walk_at "sc"
theorem Kt{f:Addr}{fd:FuncData}(F:iK K "law" "law" mf f fd)(eT:mg "divmod"=none)(gL:mg "list"=none)(jA:mg "range"=none){aj:Addr}(aA:ax K aj)(mF:gI P w K mg base cN "_law_alike" 1 ["_law_found","_law_due"] (gA K))(fQ:gI P w K mg base cN "_law_body" 6 ["_law_things_here","_law_names","_law_echo","_law_counted"] (fN K 5))(kL:gI P w K mg base cN "_law_do" 7 ["_law_things_here","_law_inputs","_law_state"] (kK K 5))(fR:gI P w K mg base cN "_law_next" 1 ["_law_source_here","_law_many"] (fO K))(qR:gI P w K mg base cN "_law_source" 1 ["_law_script"] (fG K))(dC:gI P w K mg base cN "_law_things" 6 ["_law_source_here","_law_deep","_law_room"] (dz K 5))(fS:gI P w K mg base cN "_law_word" 1 ["_law_cell"] (fP K))(oa:gI P w K mg base cN "plain_run" 65 ["program","part","inputs","budget"] (gF K)):bw P w K mg base cN 66 f fd ["_law_script"] (tT K):=by
 refine F.ok bP (λvs H Q E h=>?_) (λcdv A outer s H vs Q E hr h=>?_)
 ·obtain⟨a,ns,rfl,hS,OM,q⟩:=h;rfl
 obtain⟨a,ns,rfl,hS,OM,q0⟩:=h;have hv:cj (aO K (λ_=>False) H) [.ref a] [.list (ns.map PyData.int)]:=.cons (pH (.lst hS (by simp) λi x d hx hd=>(vn (K:=K) (P:=λ_=>False) (H:=H) (ns:=ns)).2 i x d hx hd |>.now)) .nil;have q:∀v H',aQ H H'->aO K (λ_=>False) H' v (.bool true)->Q v H':=λv H' _ r=>by rw[aO.uZ r];exact q0 H'
 refine j8 (P:=λ_=>False) (λ_ h=>h.elim) hv ?_;show rN _ _ _ _ [some _,none,none,none,none,none,none,none,none,none,none,none,none,none,none,none,none,none,none,none] [];clear hv q0 hS;refine aK (bo (i:=1) bP.nd rfl (Or.inl rfl) (zP qR qH qG (hr.mono (by decide)) rfl (ae (ah 0) aq))) (λR kk=>?_);walk_at "vc";refine⟨ns,rfl,OM,λQl NO=>kk _ _ ?_⟩;clear kk R;refine aK (bo (i:=2) bP.nd rfl (Or.inl rfl) (cD (js:=[true,false]) fR hZ g9 (hr.mono (by decide)) rfl (ae (ah 1) (ae (wX ar ar) aq)))) (λR kk=>?_);walk_at "vc";refine⟨⟨by decide,by decide,by decide⟩,by simp,by simp,rfl,Ql,_,rfl,rfl,NO,by decide,λcl Ko c0 c1 Sn=>⟨rfl,rfl,kk _ _ ?_⟩⟩;clear kk R;refine aK (bo (i:=3) bP.nd rfl (Or.inl rfl) (bp (ah 2) ar)) (λR kk=>?_);walk_at "vc";obtain⟨ec,eec,hec⟩:=iy cl (n:=2) (by decide);rw[eec];refine⟨by decide,kk _ _ ?_⟩;clear kk R;refine aK (bo (i:=4) bP.nd rfl (Or.inl rfl) (aL (ae aD aq))) (λR kk=>?_);walk_at "vc";refine kk _ _ ?_;clear kk R;refine aK (bo (i:=5) bP.nd rfl (Or.inl rfl) (cE (ae (c9 aD (rK aD kF (kG (bp (dG (ah 2) ar) ar)))) (ae (c9 aD (rK aD kF (kG (bp (dG (ah 2) ar) ar)))) (ae (rK aD kF (kG (bp (dG (ah 2) ar) ar))) (ae (rK aD kF (kG (bp (dG (ah 2) ar) ar))) aq)))))) (λR kk=>?_);walk_at "vc";obtain⟨a4,ea,ha⟩:=iy (cl / 2) (n:=4) (by decide);obtain⟨b4,eb,hb⟩:=iy (cl / 8) (n:=4) (by decide);obtain⟨p3,ep,hp⟩:=iy (cl / 32) (n:=3) (by decide);obtain⟨s4,es,hs⟩:=iy (cl / 96) (n:=4) (by decide);rw[ea,eb,ep,es];obtain⟨k0,k1,k2⟩:=Ke a4 (by omega);obtain⟨j0,j1,j2⟩:=Kf b4 (by omega);obtain⟨i0',i1'⟩:=Kg p3 (by omega);have hm:tQ ⟨Fy a4,Fz b4,Cn p3,FA s4,ec⟩:=⟨by show ec < 2;omega,k1,j1,i1',i0',Kh s4 (by omega),k2,j2,Ki p3 (by omega) s4 (by omega)⟩;refine⟨⟨by decide,by decide⟩,by decide,by decide,by show 1 + _<=_;omega,⟨by decide,by decide⟩,by decide,by decide,by show 1 + _<=_;omega,⟨by decide,by decide⟩,by decide,by decide,⟨by decide,by decide⟩,by decide,by decide,kk _ _ ?_⟩;clear kk R;rw[show Str.ofString "n"++Txt.slice (Str.ofString "opq") none (some (a4:Int))=(Nm.mk (Fy a4) (Fz b4) (Cn p3) (FA s4) ec).n0 from rfl,show Str.ofString "m"++Txt.slice (Str.ofString "rst") none (some (b4:Int))=(Nm.mk (Fy a4) (Fz b4) (Cn p3) (FA s4) ec).n1 from rfl,show Txt.slice (Str.ofString "uv") none (some (p3:Int))=(Nm.mk (Fy a4) (Fz b4) (Cn p3) (FA s4) ec).pre from rfl,show Txt.slice (Str.ofString "wxy") none (some (s4:Int))=(Nm.mk (Fy a4) (Fz b4) (Cn p3) (FA s4) ec).suf from rfl];have hme:(Nm.mk (Fy a4) (Fz b4) (Cn p3) (FA s4) ec).echo=ec:=rfl;generalize Nm.mk (Fy a4) (Fz b4) (Cn p3) (FA s4) ec=m at hm hme ⊢;rw[← hme];clear hme k0 k1 k2 j0 j1 j2 i0' i1' ea eb ep es ha hb hp hs eec hec;refine aK (bo (i:=6) bP.nd rfl (Or.inl rfl) (lW aq)) (λR kk=>?_);walk_at "vc";refine kk _ _ ?_;clear kk R;refine aK (pM PassesOwn.never rfl (rL rfl jA (ae ar aq)) (eK (i:=7) bP.nd rfl (Or.inl rfl)) (bH (m6 (m8 rfl eT (ae (cD (js:=[true,false]) fR hZ g9 (hr.mono (by decide)) rfl (ae (ah 1) (ae (wX ar ar) aq))) (ae ar aq))) (wZ (m:=2) rfl (iS (eK (i:=8) bP.nd rfl (Or.inl rfl)) (iS (eK (i:=9) bP.nd rfl (Or.inl rfl)) sW))))
   (aT (eN (bY (ah 6) (ae (lX (cE (ae (jg (bp (ah 8) ar) ar) (ae (jg (bp (ah 8) ar) ar) (ae (bp (ah 8) ar) (ae (kH fS ie ic (hr.mono (by decide)) rfl (ae (ah 8) aq)) aq))))) (ah 9) (λ_ _=>rfl)) aq)))))) (λR kk=>?_)
 walk_at "vc";refine⟨by decide,md (Qc ns cl m) ⟨[],Ko,none,none,none,rfl,rfl,rfl,(λ_ h=>nomatch h),Sn⟩ (λ_ _ _ _=>trivial) ?_ ?_⟩
 ·rintro i env st d hd ⟨ws,src,o7,o8,o9,rfl,rfl,hl,hw,hs⟩;have i2:=(sU hd).1;have i2:i < 2:=i2;refine cH (λR1 k1=>?_);walk_at "vs";refine⟨⟨by decide,by decide,by decide⟩,by simp,by simp,rfl,src,_,rfl,rfl,hs,by decide,λr0 qJ a2 b2 h2=>⟨rfl,rfl,?_⟩⟩;walk_at "vs";refine⟨⟨by decide,by decide⟩,rfl,k1 _ _ ?_⟩;clear k1 R1;walk_at "vs";refine⟨rfl,by decide,by decide,by decide,_,rfl,λw hw'=>?_⟩;obtain⟨d,hd',ed⟩:=yG (xs:=[PyData.int (r0 / 4 % 7 - 1),PyData.int (r0 / 4 % 7 - 1),PyData.int (r0 / 4 % 3),PyData.int w]) (n:=4) rfl (by decide) r0
  obtain⟨w1,rfl,U5⟩:∃w1,d=.int w1/\iT w1:=by
   simp only[List.mem_cons,List.not_mem_nil,or_false]at hd';rcases hd' with rfl | rfl | rfl | rfl
   ·exact⟨_,rfl,by unfold iT;omega⟩
   ·exact⟨_,rfl,by unfold iT;omega⟩
   ·exact⟨_,rfl,by unfold iT;omega⟩
   ·exact⟨_,rfl,hw'⟩
  refine⟨_,ed,by rw[kJ];omega,ws++[w1],qJ,_,_,_,rfl,by rw[nk];rfl,by rw[Xr,hl];rfl,λw U6=>?_,h2⟩;rcases X9.mp U6 with z | z
  ·exact hw w z
  ·rw[v8 z];exact U5
 rintro env st ⟨ws,qJ,o7,o8,o9,rfl,rfl,hl,hw,Eg⟩;rw[lZ]at hl;obtain⟨i0,i1,rfl⟩:=OJ hl;have w0:=hw i0 (by simp);have w1:=hw i1 (by simp);clear hw hl Sn NO;refine kk _ _ ?_;clear kk R;refine aK (bo (i:=10) bP.nd rfl (Or.inl rfl) (cD (js:=[true,false,true]) dC fJ fH (hr.mono (by decide)) rfl (ae (ah 1) (ae ar (ae (lW (ae ar aq)) aq))))) (λR kk=>?_);walk_at "vc";refine⟨by simp,by simp,rfl,qJ,4,50,rfl,rfl,rfl,Eg,by decide,λSo c0' qL rm Sq U7 Ws Wt=>⟨rfl,rfl,kk _ _ ?_⟩⟩;clear kk R;walk_at "vc";refine aK (bo (i:=11) bP.nd rfl (Or.inl rfl) (bp (dG (ah 2) ar) ar)) (λR kk=>?_);walk_at "vc";obtain⟨FH,ebd,hbd⟩:=iy (cl / 384) (n:=61) (by decide);rw[ebd];refine⟨⟨by decide,by decide⟩,by decide,kk _ _ ?_⟩;clear kk R ebd;refine aK (gp (j7 (hr.units) (bp (dG (ah 2) ar) ar) ar) (bH (bo (i:=10) bP.nd rfl (Or.inl rfl) (c9 (cE (ae (aL (ae aD (ae (bp (dG (ah 2) ar) ar) (ae (c9 ar (bp (dG (ah 2) ar) ar)) (ae ar (ae (cE (ae (aL (ae aD (ae (bp (ah 2) ar) aq))) aq)) aq)))))) aq)) (rK (ah 10) kF (kG ar))))
   (aT (bo (i:=11) bP.nd rfl (Xe rfl) (c9 (ah 11) ar)))) gr) (λR kk=>?_)
 have nxt:∀(ts:List PyData) (cn bud:Nat),iA 4 cn ts->cn<=55->bud<=300->R [some (.dat (.list (List.map PyData.int ns))),some (.ref 0),some (.dat (.int cl)),some (.dat (.int (m.echo:Int))),some (.dat (.tuple [.str "number"])),some (.dat (.list [.str m.n0,.str m.n1,.str m.pre,.str m.suf])),some (.ref 1),o7,o8,o9,some (.dat (.list ts)),some (.dat (.int (bud:Int))),none,none,none,none,none,none,none,none] [.live (aM qL),.live (aM [i0,i1]),.live [.int (rm:Int)]]:=by
  intro ts cn bud ht hcn hbud;refine kk _ _ ?_;clear kk R;refine aK (bo (i:=12) bP.nd rfl (Or.inl rfl) (cD (js:=[false,false,false,true]) fQ g7 gZ (hr.mono (by decide)) rfl (ae (ah 10) (ae (ah 5) (ae (ah 3) (ae (lW (ae ar aq)) aq)))))) (λR kk=>?_);walk_at "vc";refine⟨by simp,by simp,rfl,m,ts,4,cn,0,rfl,rfl,rfl,ht,hm.lp,hm.ls,by omega,λbs c1 hb Qh hlb=>⟨rfl,rfl,kk _ _ ?_⟩⟩;clear kk R;walk_at "vc";refine aK (bo (i:=13) bP.nd rfl (Or.inl rfl) (aL (ae (cE (ae (aL (ae (aR (n:=0) (ah 5)) (ae (ah 4) aq))) (ae (aL (ae (aR (n:=1) (ah 5)) (ae (ah 4) aq))) aq))) (ae (ah 4) (ae (ah 12) (ae (aL (ae aD (ae (aL (ae aD (ae (aR (n:=0) (ah 5)) aq))) (ae (aL (ae aD (ae ar aq))) aq)))) aq)))))) (λR kk=>?_);walk_at "vc";refine kk _ _ ?_;clear kk R;refine aK (bo (i:=14) bP.nd rfl (Or.inl rfl) (aL (ae (cE (ae (aL (ae aD (ae (ah 4) aq))) aq)) (ae (ah 4) (ae (cE (ae (aL (ae aD (ae (aL (ae aD (ae aD aq))) aq))) aq)) (ae (aL (ae aD (ae aD aq))) aq)))))) (λR kk=>?_);walk_at "vc";refine kk _ _ ?_;clear kk R;refine aK (bo (i:=15) bP.nd rfl (Or.inl rfl) (lX (cE (ae (cE (ae (ah 14) (ae (ah 13) aq))) (ae (cE (ae (ah 13) (ae (ah 14) aq))) aq))) (ah 3) (λ_ _=>rfl))) (λR kk=>?_);walk_at "vc";refine⟨_,Cp hm.ec bs,kk _ _ ?_⟩;clear kk R;refine Fo (qK (c7 (i:=16) bP.nd rfl (Or.inl rfl) (eE (pK (eE pN) (pK (pv 11) (pK kY pN)))))
   (qK (bL (eF kL (hr.mono (by decide)) rfl (pK (pv 10) (pK (pv 6) (pK (pv 16) pN)))))
   (qK (bf (tR AZ (aF bA (pv 16) pI (λ_ _=>rfl)) kY (aC _)) (qO (oU (ff (pK aW (pK (aF bA (pv 6) pI (λ_ _=>rfl)) pN))) (oS (pv 16) pI set_list))) ba)
   (qK (c7 (i:=17) bP.nd rfl (Xe rfl) (ff (pK (aF bA (pv 16) pI (λ_ _=>rfl)) (pK (aF bA (pv 16) pI (λ_ _=>rfl)) (pK (aF bA (pv 16) pI (λ_ _=>rfl)) pN)))))
   (qK (c7 (i:=18) bP.nd rfl (Xe rfl) (eE (pK (mW ja rfl gL oB (pK (pv 6) pN)) (pK (mW ja rfl gL oB (pK (pv 12) pN)) pN))))
   (qK (c7 (i:=19) bP.nd rfl (Xe rfl) (eF oa (hr.mono (by decide)) rfl (pK (ff (pK (eE (pK (ff (pK kY (pK (eE pN) pN))) pN)) (pK (pv 15) pN))) (pK (eD i8 pI (pv 3)) (pK (pv 6) (pK (pv 11) pN))))))
   (qK (bf (oQ (kZ (eF mF (hr.mono (by decide)) rfl (pK (pv 19) (pK (pv 17) pN))))) (qO (aX xY)) ba)
   (qK (bL (rl Xy XF XH fh (aF aJ (pv 19) pI (λ_ _=>rfl)) (pK pI pN)))
   (qK (bf (oQ (kZ (eF mF (hr.mono (by decide)) rfl (pK (eF oa (hr.mono (by decide)) rfl (pK (ff (pK (eE (pK (ff (pK kY (pK (eE pN) pN))) pN)) (pK (pv 15) pN))) (pK (eD i8 pI (pv 3)) (pK (pv 6) (pK (pv 11) pN))))) (pK (pv 17) pN))))) (qO (aX xY)) ba)
   (qO (aX (i9 (sA (hr.units)) (pv 18) (eE (pK (pv 6) (pK (pv 12) pN))) (aC _))))))))))))) (λH0 A0 G al H1 σ D I En k=>?_)
  have len:=En.1;obtain⟨v3,g3,r3⟩:=En.2 3 _ rfl;obtain⟨v6,g6,a6,r6,hal,rfl⟩:=En.2 6 _ rfl;obtain⟨v10,Sr,LX⟩:=En.2 10 _ rfl;obtain⟨v11,Su,Sv⟩:=En.2 11 _ rfl;obtain⟨Kk,Sw,Sx⟩:=En.2 12 _ rfl;obtain⟨Kl,Sy,Sz⟩:=En.2 15 _ rfl;have e3:=aO.aU r3;have U8:=aO.aU Sv;subst e3 U8;have sg:Sg σ (.int (m.echo:Int)) (.ref a6) v10 (.int (bud:Int)) Kk Kl:=⟨len,g3,g6,Sr,Su,Sw,Sy⟩;have Qm:aP K H1 v10 (.list ts):=aO.now LX;have NP:aP K H1 Kk (.list bs):=aO.now Sx;have NQ:aP K H1 Kl (.list ((vH m bs).map xm)):=aO.now Sz;obtain⟨a6',ys,e6,h6,p6⟩:=I.cel 1 _ _ hal rfl;cases e6;have ey:ys=[.int i0,.int i1]:=yB (ns:=[i0,i1]) p6;subst ey;have SA:aP K H1 (.ref a6) (.list [.int i0,.int i1]):=aP.uK (bK.of h6) (.cons (.int _) (.cons (.int _) .nil));obtain⟨s',hd,hmu⟩:=Do.ex (i0:=i0) (i1:=i1) ht (by omega) ⟨[],bud,none⟩ (by show(0:Int)<=(bud:Int);omega) (by show(0:Int) + 100 * (bud:Int) + cn<=100000;omega);have hb_sh:∀d∈bs,Sh 13 d:=hb.sh hm ht (by omega);obtain⟨r,sR,ev,eS,eL,eR⟩:=NH hm w0 w1 (WU 4) ht hb (by omega) hd;clear hal p6 r3 LX Sv Sx Sz len g3 g6 Sr Su Sw Sy;refine⟨Oo,λl hl=>⟨_,sg.LY,OX,λa ha=>?_⟩⟩;have sl:=aH hl (.lst []);have nal:a≠l:=λe=>by rw[e,uS]at ha;cases ha
  have Po:H1 a=none:=by rw[uN nal]at ha;exact ha
  have Ls:qz K H1 a l .non (upd (upd H1 l (.lst [])) a (.lst [.ref l,.int (bud:Int),.non])) ⟨[],bud,none⟩:=⟨uS,rfl,(uN nal.symm).trans uS,nal,sl.trans (aH ha _),Po,hl⟩;have Ma:=sg.set (j:=16) (by decide) (some (.ref a));have DF:(σ.set 16 (some (.ref a)))[16]?=some (some (.ref a)):=yV (by rw[sg.len];decide);refine⟨_,Ma.LV,_,Ma.s6,_,DF,H1,a,l,.non,v10,.ref a6,ts,i0,i1,4,cn,⟨[],bud,none⟩,s',rfl,rfl,Qm,SA,ht,Ls,(by show(0:Int)<=(bud:Int);omega),hd,λH2 fw I2=>?_⟩;refine Qe (R:=?R) (BV K H1 a l s' i0 (σ.set 16 (some (.ref a)))) (λkk=>?mm) ?kk
  case mm =>
   refine⟨_,DF,a,_,_,_,rfl,rfl,bK.of I2.ha,aN (j:=2) rfl,rfl,_,rfl,?_⟩
   cases f:s'.fin with
   | none =>
    refine jN (I2.hf.fM.mpr f) ?_;refine⟨_,Ma.s6,a6,_,_,_,rfl,rfl,bK.of (I2.s0 _ _ h6),aN (j:=0) rfl,AL,λt' ht'=>?_⟩;have I3:=I2.same (aH ht' (.tup [.str "gave",.int i0]));have I4:=I3.put (fw:=.ref t') (f:=some (.gave i0)) ⟨t',rfl,cg.of uS⟩;refine⟨_,DF,a,_,_,2,rfl,rfl,I3.ha,rfl,?_⟩;dsimp only;refine kk _ _ ⟨rfl,t',I4.s0,I4.ha,I4.hl,?_⟩;rw[f];exact oK I3.ha _ _ (cg.of uS)
   | some x =>
    have nf:fw≠.non:=λe=>by have:=I2.hf.fM.mp e;rw[f]at this;cases this
    refine bu nf ?_;dsimp only[dq];have hf:=I2.hf;have OO:=I2.ha;rw[f]at hf
    cases x with
    | gave k =>
     obtain⟨t',e',h⟩:=hf;rw[e']at OO;exact kk _ _ ⟨rfl,t',I2.s0,OO,I2.hl,by rw[f];exact h⟩
    | weary =>
     obtain⟨t',e',h⟩:=hf;rw[e']at OO;exact kk _ _ ⟨rfl,t',I2.s0,OO,I2.hl,by rw[f];exact h⟩
  rintro _ H3 ⟨rfl,t',SD,ga,gl,gt⟩;clear Ls;generalize σ.set 16 (some (.ref a))=σ1 at Ma DF ⊢;obtain⟨fk,fc⟩:=FE s'.fin i0;refine⟨_,DF,a,_,_,_,rfl,rfl,bK.of ga,aN (j:=2) rfl,_,DF,a,_,_,_,rfl,rfl,bK.of ga,aN (j:=0) rfl,_,DF,a,_,_,_,rfl,rfl,bK.of ga,aN (j:=1) rfl,OX,λu hu=>?_⟩;have HY:=aH hu (.tup [.ref t',.ref l,.int s'.left]);have gu:=uS (H:=H3) (a:=u) (o:=.tup [.ref t',.ref l,.int s'.left]);generalize upd H3 u _=H4 at HY gu ⊢;have NR:aP K H4 (.ref u) (.tuple [.tuple (.str (mn s'.fin i0).1::aM (mn s'.fin i0).2),.list (aM s'.said),.int s'.left]):=yW (cg.of gu) (HY.tup gt) (HY _ _ gl);have OP:=SD.trans HY;have OQ:=Ma.set (j:=17) (by decide) (some (.ref u));have NS:(σ1.set 17 (some (.ref u)))[17]?=some (some (.ref u)):=yV (by rw[Ma.len];decide);obtain⟨OR,NT,rfl,Qn,NU⟩:=aP.eJ NP;refine⟨_,OQ.s6,a6,_,rfl,.inl (bK.of (OP _ _ h6)),λk1 SE=>?_⟩;have s5:=aH SE (.lst [.int i0,.int i1]);refine⟨_,OQ.Qd,OR,_,rfl,.inl ((OP.trans s5).seq Qn),λk2 SG=>⟨AL,λk3 SI=>?_⟩⟩;have s6:=aH SG (.lst NT);have s7:=aH SI (.lst [.ref k1,.ref k2]);have NV:=OP.trans (s5.trans (s6.trans s7));have HZ:aP K _ (.ref k3) (.list [.list [.int i0,.int i1],.list bs]):=aP.uK (bK.of (uS (H:=upd (upd H4 k1 (.lst [.int i0,.int i1])) k2 (.lst NT)) (a:=k3) (o:=.lst [.ref k1,.ref k2]))) (.cons (aP.uK (bK.of ((s6.trans s7) _ _ uS)) (.cons (.int _) (.cons (.int _) .nil))) (.cons (aP.uK (bK.of (s7 _ _ uS)) ⟨NU.1,λi x d hx hd=>aP.same NV (NU.2 i x d hx hd)⟩) .nil));have Ku:=aP.same (s5.trans (s6.trans s7)) NR;have Mb:=OQ.set (j:=18) (by decide) (some (.ref k3));have Qo:((σ1.set 17 (some (.ref u))).set 18 (some (.ref k3)))[18]?=some (some (.ref k3)):=yV (by rw[OQ.len];decide);have f17':((σ1.set 17 (some (.ref u))).set 18 (some (.ref k3)))[17]?=some (some (.ref u)):=mq NS (by decide);generalize upd (upd (upd H4 k1 _) k2 _) k3 _=H7 at NV HZ Ku ⊢;clear s5 s6 s7 SE SG SI NR HY OP gu hu gt ga gl SD;have e1:(1:Int) - (m.echo:Int)=((1 - m.echo:Nat):Int):=by have:=hm.ec;omega
  have pl:∀(Hx:Hp) (bx:Addr) (Qx:VK),aQ H1 Hx->aP K Hx (.ref bx) (J8 Km (vH m bs))->(∀(t u l:Addr) (H':Hp),aQ Hx H'->Hx l=none->H' l=some (.lst (s'.said.map V.int))->aP K H' (.ref t) (.tuple [.tuple (.str (mn s'.fin i0).1::aM (mn s'.fin i0).2),.list (aM s'.said),.int s'.left])->cg K H' t [.ref u,.ref l,.int s'.left]->Qx (.ref t) H')->gF K [.ref bx,.int ((1:Int) - (m.echo:Int)),.ref a6,.int (bud:Int)] Hx Qx E0:=by
   intro Hx bx Qx sx rx qx;refine⟨bx,a6,1 - m.echo,bud,Km,vH m bs,p5 m bs,[i0,i1],[],sR,r,_,by rw[e1],rx,hm.wf bs,bK.of (sx _ _ h6),?_,rfl,rfl,ev,eR,λt u l H' s nl g1 g2 g3=>?_⟩
   ·have z:=hm.ec;unfold vH;by_cases e:m.echo=0
    ·rw[W4 e,e];rfl
    ·rw[W2 e,show m.echo=1 by omega];rfl
   ·rw[eL]at g1;rw[eS]at g3;exact qx t u l H' s nl g3 (yW g1 g2 g3) g1
  have sd:s'.said.length<=100000:=by
   have z:=hd.le.2 (by show(0:Int)<=(bud:Int);omega);unfold mu at hmu;have hmu:(s'.said.length:Int) + 100 * s'.left<=0 + 100 * (bud:Int) + cn:=hmu;omega
  have alk:∀(Hx:Hp) (tx ux:V) (Qx:VK),aP K Hx tx (.tuple [.tuple (.str (mn s'.fin i0).1::aM (mn s'.fin i0).2),.list (aM s'.said),.int s'.left])->aP K Hx ux (.tuple [.tuple (.str (mn s'.fin i0).1::aM (mn s'.fin i0).2),.list (aM s'.said),.int s'.left])->(∀H',aQ Hx H'->Qx (.bl true) H')->gA K [tx,ux] Hx Qx E0:=λHx tx ux Qx r1 r2 qx =>
   ⟨λ_=>False,_,(λ_ z=>z.elim),.cons (pH r1) (.cons (pH r2) .nil),_,_,_,_,rfl,fk,sd,fc,λv H' s r=>by rw[aO.uZ r];exact qx H' s⟩
  refine⟨Oo,λp1 OS=>⟨AL,λp2 LZ=>⟨LP,λp3 OT=>⟨_,Mb.FC,AL,λb hb=>?_⟩⟩⟩⟩;obtain⟨OU,rp⟩:=yX OS LZ OT hb (aP.same NV NQ);refine⟨_,Mb.s3,_,_,rfl,rfl,_,Mb.s6,_,Mb.LY,?_⟩;dsimp only[sk,List.cons_append,List.nil_append];refine pl _ _ _ (NV.trans OU) rp λt u2 l2 H9 Qp SJ NN rt SK=>?_
  have Mc:=Mb.set (j:=19) (by decide) (some (.ref t));have Qq:(((σ1.set 17 (some (.ref u))).set 18 (some (.ref k3))).set 19 (some (.ref t)))[19]?=some (some (.ref t)):=yV (by rw[Mb.len];decide);have f18':(((σ1.set 17 (some (.ref u))).set 18 (some (.ref k3))).set 19 (some (.ref t)))[18]?=some (some (.ref k3)):=mq Qo (by decide);have NS:(((σ1.set 17 (some (.ref u))).set 18 (some (.ref k3))).set 19 (some (.ref t)))[17]?=some (some (.ref u)):=mq f17' (by decide);clear Qo f17';refine⟨_,Qq,_,NS,?_⟩;dsimp only[sk,List.cons_append,List.nil_append];refine alk _ _ _ _ rt (aP.same (OU.trans Qp) Ku) λLW Cz=>⟨_,rfl,jM ?_⟩
  dsimp only[dq];refine⟨_,Qq,t,_,_,_,rfl,rfl,Cz.tup SK,aN (j:=1) rfl,.inl ⟨rfl,_,bK.of (Cz _ _ NN)⟩,l2,_,_,rfl,rfl,Cz _ _ NN,(by rw[List.length_map];exact Nat.lt_of_le_of_lt sd (by decide)),?_⟩;have NW:aQ _ (upd LW l2 (.lst (s'.said.map V.int++[.int 7]))):=λc o e=>(uN (nN e SJ)).trans (Cz _ _ (Qp _ _ e))
  have FI:=OU.trans NW;have OV:=NV.trans FI;generalize upd LW l2 _=RN at FI OV ⊢;clear NW Cz SK rt NN SJ Qp rp OU OS LZ OT hb;refine⟨Oo,λp1 OS=>⟨AL,λp2 LZ=>⟨LP,λp3 OT=>⟨_,Mc.FC,AL,λb hb=>?_⟩⟩⟩⟩;obtain⟨yY,rp⟩:=yX OS LZ OT hb (aP.same OV NQ);refine⟨_,Mc.s3,_,_,rfl,rfl,_,Mc.s6,_,Mc.LY,?_⟩;dsimp only[sk,List.cons_append,List.nil_append];refine pl _ _ _ (OV.trans yY) rp λt3 u3 l3 Wu CA Wv Ww U9 Wx=>?_
  refine⟨_,NS,?_⟩;dsimp only[sk,List.cons_append,List.nil_append];refine alk _ _ _ _ U9 (aP.same (FI.trans (yY.trans CA)) Ku) λWy Ia=>⟨_,rfl,jM ?_⟩
  dsimp only[dq];have OW:=OV.trans (yY.trans (CA.trans Ia));have Qr:=FI.trans (yY.trans (CA.trans Ia));refine⟨_,f18',_,Mc.s6,_,Mc.Qd,AL,λn1 ML=>?_⟩;have FC:=aH ML (.lst [.ref a6,.ref OR]);have sh:Sh 15 (.list [.list [.int i0,.int i1],.list bs]):=gx (ay ((gx (ay j9 (ay j9 cu))).up (show 1<=14 by decide)) (ay (gx (n:=13) (hb_sh)) cu));refine⟨_,_,aP.same (Qr.trans FC) HZ,aP.uK (bK.of uS) (.cons (aP.same (OW.trans FC) SA) (.cons (aP.same (OW.trans FC) NP) .nil)),sh.ok,sh.ok,?_⟩;rw[sh.self];exact k.rt (.dat (.bool true)) _ _ (.bl true) _ (.same (OW.trans FC)) (I.same (OW.trans FC)) (.d (.bl true)) q
 clear kk;walk_at "vc";obtain⟨wy,ewy,hwy⟩:=iy (cl / 187392) (n:=2) (by decide);obtain⟨c1',Qh,SM⟩:=Sq.one U7;refine⟨⟨by decide,by decide⟩,by decide,jh (λ_=>?_) (λ_=>nxt So c0' FH Sq (by omega) (by omega))⟩;rw[ewy];have hlo:(cutD So none (some 1)).length<=c1':=SM.len;refine⟨⟨by decide,by decide⟩,by decide,⟨by decide,by decide⟩,by decide,by decide,by omega,?_⟩;rw[show((FH:Int) + 200)=((FH + 200:Nat):Int)by omega];exact nxt _ (c1' + 1 + 1) (FH + 200) (.loop (sel:=0) (by omega) (by unfold iT;omega) (by decide) (.say (by unfold iT;omega) .nil) SM) (by omega) (by omega)
end
def kB(K:aE)(n:Str)(s:Stmt):Prop:=∃f fd,PySem.W.nsIn K mainGlobals n=some (some (.ref f))/\iK K n n s f fd
def nE(K:aE)(f:Addr)(n q:Str)(s:Stmt):Prop:=(∃fd,iK K n q s f fd)/\PySem.W.isFn K (.ref f)=true
theorem all_mk{l:PySem.W.OpenLaw}{w:World}{K:aE}{h:Heap}{mg:Str->Option Value}{fa SN SO SQ DF SR SS SU SV SW SX SY S0 S1 Qs:Addr}(X:K.In h)(G:h.Ns mainGlobals mg)(hfa:mg "law"=some (.ref fa))
  {Qt NX:Option Addr} {Qu:Array (Option Value)} {Qw NY NZ N0 Kv N1:Value}
  {av aG bI cU aV:Addr}
  {t8 fK jC t9:Tok}
  {aj:Addr} (uc:PySem.W.nsIn K mainGlobals "Call"=some (some (.ref aj)))
  (ud:PySem.W.plainGet K aj Str.empty=true)
  (ue:PySem.W.hasDictIn K aj=true)
  (uf:PySem.W.plainOver K aj=true)
  (ug:PySem.W.findIn K (.ref aj) "__setattr__"=some (some (.builtin "object.__setattr__")))
  (uh:PySem.W.makesIn K aj=true)
  (ui:PySem.W.keepIn K (.ref aj)=true)
  (iH:PySem.W.findIn K (.ref aj) "depth"=some none)
  (iI:PySem.W.findIn K (.ref aj) "known"=some none)
  (fC:PySem.W.findIn K (.ref aj) "__init__"=some (some (.ref SX)))
  {ak:Addr} (lK:PySem.W.nsIn K mainGlobals "Reading"=some (some (.ref ak)))
  (lL:PySem.W.plainGet K ak Str.empty=true)
  (lM:PySem.W.hasDictIn K ak=true)
  (lN:PySem.W.plainOver K ak=true)
  (lO:PySem.W.findIn K (.ref ak) "__setattr__"=some (some (.builtin "object.__setattr__")))
  (lP:PySem.W.makesIn K ak=true)
  (lQ:PySem.W.keepIn K (.ref ak)=true)
  (dN:PySem.W.findIn K (.ref ak) "program"=some none)
  (gm:PySem.W.findIn K (.ref ak) "said"=some none)
  (gn:PySem.W.findIn K (.ref ak) "left"=some none)
  (cJ:PySem.W.findIn K (.ref ak) "do_try"=some (some (.ref SN)))
  (fD:PySem.W.findIn K (.ref ak) "spend"=some (some (.ref SO)))
  (bT:PySem.W.findIn K (.ref ak) "values_of"=some (some (.ref SQ)))
  (bt:PySem.W.findIn K (.ref ak) "value_of_call"=some (some (.ref DF)))
  (bB:PySem.W.findIn K (.ref ak) "value_of_two"=some (some (.ref SR)))
  (bX:PySem.W.findIn K (.ref ak) "value_of"=some (some (.ref SS)))
  (bN:PySem.W.findIn K (.ref ak) "do_nesting"=some (some (.ref SU)))
  (bC:PySem.W.findIn K (.ref ak) "do_statement"=some (some (.ref SV)))
  (cK:PySem.W.findIn K (.ref ak) "do_all"=some (some (.ref SW)))
  (cZ:PySem.W.findIn K (.ref ak) "given"=some (some (.ref SY)))
  (eW:PySem.W.findIn K (.ref ak) "end_at"=some (some (.ref S0)))
  (dh:PySem.W.findIn K (.ref ak) "__init__"=some (some (.ref S1)))
  (d0:kB K "_law_alike" ka)
  (d1:kB K "_law_body" lA)
  (d2:kB K "_law_take" lB)
  (d3:kB K "_law_goes" lC)
  (d4:kB K "_law_do" pX)
  (d5:kB K "_law_next" lD)
  (d6:kB K "_law_source" jj)
  (d7:kB K "_law_word" lE)
  (d8:kB K "_law_things" jk)
  (d9:kB K "is_door" m9)
  (Qy:kB K "check_door" jl)
  (Qz:kB K "kinds_taken" iz)
  (QA:kB K "heads_of" lF)
  (QB:nE K SN "do_try" "Reading.do_try" fj)
  (QC:nE K SO "spend" "Reading.spend" fV)
  (QD:nE K SQ "values_of" "Reading.values_of" df)
  (QE:nE K DF "value_of_call" "Reading.value_of_call" bZ)
  (QF:kB K "wrapped" nc)
  (QG:kB K "divided" ng)
  (QH:kB K "reckoned" lG)
  (QI:nE K SR "value_of_two" "Reading.value_of_two" cv)
  (QJ:nE K SS "value_of" "Reading.value_of" dJ)
  (QK:nE K SU "do_nesting" "Reading.do_nesting" cR)
  (QL:nE K SV "do_statement" "Reading.do_statement" cw)
  (QM:nE K SW "do_all" "Reading.do_all" fq)
  (QN:nE K SX "__init__" "Call.__init__" fW)
  (QO:nE K SY "given" "Reading.given" fX)
  (QP:nE K S0 "end_at" "Reading.end_at" ft)
  (QQ:nE K S1 "__init__" "Reading.__init__" dM)
  (QR:kB K "plain_run" kb)
  (QS:PySem.W.nsIn K mainGlobals "law"=some (some (.ref Qs))) (QT:K.lookup Qs=some ⟨Qw,Qt,.func (PySem.W.fnOf "law" "law" (dA mf) (dB mf) (dS mf) .none NY NZ N0 NX Kv N1),Qu⟩) (QU:PySem.W.codeIn K Kv "law"=true) (QV:PySem.W.keepIn K (.ref Qs)=true)
  (nv:PySem.W.nsIn K mainGlobals "HALF"=some (some (.int 2147483648 t8)))
  (dE:PySem.W.nsIn K mainGlobals "MOST_FRAMES"=some (some (.int 12 fK)))
  (gM:PySem.W.nsIn K mainGlobals "TOO_DEEP"=some (some (.int 2 jC)))
  (qi:PySem.W.nsIn K mainGlobals "TURN"=some (some (.int 4294967296 t9)))
  (bM:PySem.W.nsIn K mainGlobals "Fault"=some (some (.ref av)))
  (cI:PySem.W.ktsIn K av "BaseException"=true)
  (gf:PySem.W.nsIn K mainGlobals "Gave"=some (some (.ref aG)))
  (jB:PySem.W.ktsIn K aG "BaseException"=true)
  (iW:PySem.W.nsIn K mainGlobals "NoDoor"=some (some (.ref bI)))
  (iX:PySem.W.excIn K bI (px true) (uu true)=true)
  (mz:PySem.W.ktsIn K bI "BaseException"=true)
  (fT:PySem.W.nsIn K mainGlobals "Nought"=some (some (.ref cU)))
  (gO:PySem.W.excIn K cU (px true) (uu true)=true)
  (gP:PySem.W.ktsIn K cU "BaseException"=true)
  (cy:PySem.W.nsIn K mainGlobals "Weary"=some (some (.ref aV)))
  (eU:PySem.W.excIn K aV (px false) (uu false)=true)
  (eV:PySem.W.ktsIn K aV "BaseException"=true)
  {mG:Addr} {zX zY:Option Addr} {zZ:Array (Option Value)} {z7 z8 z9 Aa rY Ab:Value}
  (nF:PySem.W.findIn K (.ref av) "__init__"=some (some (.ref mG)))
  (nG:K.lookup mG=some ⟨z7,zX,.func (PySem.W.fnOf "__init__" "Fault.__init__" (dA kI) (dB kI) (dS kI) .none z8 z9 Aa zY rY Ab),zZ⟩)
  (nI:PySem.W.codeIn K rY "Fault.__init__"=true)
  (nJ:PySem.W.keepIn K (.ref mG)=true)
  (nK:PySem.W.isFn K (.ref mG)=true)
  (nM:PySem.W.keepIn K (.ref av)=true)
  (nO:PySem.W.findIn K (.ref av) "__setattr__"=some (some (.builtin "object.__setattr__")))
  (nP:PySem.W.mroIn K av (.type "object")=some true)
  (mH:mY K av (px false) (uu false)=true)
  (nQ:PySem.W.findIn K (.ref av) "number"=some none)
  {oM:Addr} {CB CD:Option Addr} {CF:Array (Option Value)} {CG CH CI CJ vX CK:Value}
  (qk:PySem.W.findIn K (.ref aG) "__init__"=some (some (.ref oM)))
  (ql:K.lookup oM=some ⟨CG,CB,.func (PySem.W.fnOf "__init__" "Gave.__init__" (dA nh) (dB nh) (dS nh) .none CH CI CJ CD vX CK),CF⟩)
  (qo:PySem.W.codeIn K vX "Gave.__init__"=true)
  (qp:PySem.W.keepIn K (.ref oM)=true)
  (qq:PySem.W.isFn K (.ref oM)=true)
  (qr:PySem.W.keepIn K (.ref aG)=true)
  (qt:PySem.W.findIn K (.ref aG) "__setattr__"=some (some (.builtin "object.__setattr__")))
  (qu:PySem.W.mroIn K aG (.type "object")=some true)
  (oN:mY K aG (px false) (uu false)=true)
  (qv:PySem.W.findIn K (.ref aG) "value"=some none)
  (mx:IsT K "bool" (nY "bool"))
  (qa:IsT K "int" Fd)
  (my:IsT K "list" (nY "list"))
  (km:IsT K "tuple" (nY "tuple"))
  (dU:PySem.W.findIn K (.ref av) "__getattribute__"=some (some (.builtin "BaseException.__getattribute__")))
  (dW:PySem.W.findIn K (.ref av) "__getattr__"=some none)
  (dX:PySem.W.findIn K (.ref av) "__class__"=some (some (.builtin "object.__class__")))
  (dY:PySem.W.mroIn K av (.type "BaseException")=some true)
  (dZ:PySem.W.mroIn K av (.type "object")=some true)
  (ee:PySem.W.hasDictIn K av=true)
  (vQ:PySem.W.mroIn K av (.ref av)=some true)
  (Cr:PySem.W.mroIn K aG (.ref av)=some false)
  (vS:PySem.W.mroIn K aV (.ref av)=some false)
  (vT:PySem.W.findIn K (.ref av) "number"=some none)
  (kq:PySem.W.findIn K (.ref aG) "__getattribute__"=some (some (.builtin "BaseException.__getattribute__")))
  (kr:PySem.W.findIn K (.ref aG) "__getattr__"=some none)
  (ku:PySem.W.findIn K (.ref aG) "__class__"=some (some (.builtin "object.__class__")))
  (ky:PySem.W.mroIn K aG (.type "BaseException")=some true)
  (kz:PySem.W.mroIn K aG (.type "object")=some true)
  (kA:PySem.W.hasDictIn K aG=true)
  (Ct:PySem.W.mroIn K aG (.ref aG)=some true)
  (Cu:PySem.W.mroIn K av (.ref aG)=some false)
  (Cv:PySem.W.mroIn K aV (.ref aG)=some false)
  (Cw:PySem.W.findIn K (.ref aG) "value"=some none)
  (Cy:PySem.W.mroIn K aV (.ref aV)=some true)
  (vN:PySem.W.nsIn K mainGlobals "all"=some none)
  (p9:PySem.W.nsIn K mainGlobals "bool"=some none)
  (qj:PySem.W.nsIn K mainGlobals "dict"=some none)
  (eT:PySem.W.nsIn K mainGlobals "divmod"=some none)
  (vL:PySem.W.nsIn K mainGlobals "int"=some none)
  (bS:PySem.W.nsIn K mainGlobals "isinstance"=some none)
  (kl:PySem.W.nsIn K mainGlobals "len"=some none)
  (gL:PySem.W.nsIn K mainGlobals "list"=some none)
  (jA:PySem.W.nsIn K mainGlobals "range"=some none)
  (mw:PySem.W.nsIn K mainGlobals "tuple"=some none)
  (vW:PySem.W.nsIn K mainGlobals "zip"=some none)
  : ∃fd:FuncData,(∀(s:Shared) (v:Value),BindsTo s fd ⟨[v],[]⟩ [("_law_script",v)])/\∀base:Heap,K.In base->base.Ns mainGlobals mg->bw l.prog w K mg base cN 66 fa fd ["_law_script"] (tT K):=by
 have e:=hfa.symm.trans (WZ X G QS);cases e;obtain⟨f0,Wz,a0,F0⟩:=d0;have k0:=F0.kp;have b0:=F0.binds (ps:=["_law_found","_law_due"]) λ_ _ _ _ _ _=>ln2 (λ_ _=>by rfl)
 obtain⟨f1,WA,a1,F1⟩:=d1;have k1:=F1.kp;have b1:=F1.binds (ps:=["_law_things_here","_law_names","_law_echo","_law_counted"]) λ_ _ _ _ _ _=>Nw (λ_ _ _ _=>by rfl)
 obtain⟨f2,WB,a2,F2⟩:=d2;have k2:=F2.kp;have b2:=F2.binds (ps:=["_law_state"]) λ_ _ _ _ _ _=>Fp (λ_=>by rfl)
 obtain⟨f3,WC,a3,F3⟩:=d3;have k3:=F3.kp;have b3:=F3.binds (ps:=["_law_way","_law_count","_law_state"]) λ_ _ _ _ _ _=>tI (λ_ _ _=>by rfl)
 obtain⟨f4,WD,a4,F4⟩:=d4;have k4:=F4.kp;have b4:=F4.binds (ps:=["_law_things_here","_law_inputs","_law_state"]) λ_ _ _ _ _ _=>tI (λ_ _ _=>by rfl)
 obtain⟨f5,WE,a5,F5⟩:=d5;have k5:=F5.kp;have b5:=F5.binds (ps:=["_law_source_here","_law_many"]) λ_ _ _ _ _ _=>ln2 (λ_ _=>by rfl)
 obtain⟨f6,WG,a6,F6⟩:=d6;have k6:=F6.kp;have b6:=F6.binds (ps:=["_law_script"]) λ_ _ _ _ _ _=>Fp (λ_=>by rfl)
 obtain⟨f7,WH,a7,F7⟩:=d7;have k7:=F7.kp;have b7:=F7.binds (ps:=["_law_cell"]) λ_ _ _ _ _ _=>Fp (λ_=>by rfl)
 obtain⟨f8,WI,a8,F8⟩:=d8;have k8:=F8.kp;have b8:=F8.binds (ps:=["_law_source_here","_law_deep","_law_room"]) λ_ _ _ _ _ _=>tI (λ_ _ _=>by rfl)
 obtain⟨f9,WJ,a9,F9⟩:=d9;have k9:=F9.kp;have b9:=F9.binds (ps:=["takes","gives"]) λ_ _ _ _ _ _=>ln2 (λ_ _=>by rfl)
 obtain⟨WK,Va,Vb,QW⟩:=Qy;have Vc:=QW.kp;have Vd:=QW.binds (ps:=["parts","part","inputs"]) λ_ _ _ _ _ _=>tI (λ_ _ _=>by rfl)
 obtain⟨WL,Ve,Vf,QX⟩:=Qz;have Vg:=QX.kp;have Vh:=QX.binds (ps:=["part"]) λ_ _ _ _ _ _=>Fp (λ_=>by rfl)
 obtain⟨WM,Vi,Vj,QY⟩:=QA;have Vk:=QY.kp;have OR:=QY.binds (ps:=["program"]) λ_ _ _ _ _ _=>Fp (λ_=>by rfl)
 obtain⟨⟨Vl,QZ⟩,S4⟩:=QB;have S5:=QZ.kp;have S6:=QZ.binds (ps:=["self","call","tree"]) λ_ _ _ _ _ _=>tI (λ_ _ _=>by rfl)
 obtain⟨⟨Vm,Q0⟩,Vn⟩:=QC;have Vo:=Q0.kp;have Vp:=Q0.binds (ps:=["self"]) λ_ _ _ _ _ _=>Fp (λ_=>by rfl)
 obtain⟨⟨Vq,Q2⟩,S7⟩:=QD;have S8:=Q2.kp;have S9:=Q2.binds (ps:=["self","call","trees"]) λ_ _ _ _ _ _=>tI (λ_ _ _=>by rfl)
 obtain⟨⟨Vr,Q3⟩,Ta⟩:=QE;have Tb:=Q3.kp;have Tc:=Q3.binds (ps:=["self","call","tree"]) λ_ _ _ _ _ _=>tI (λ_ _ _=>by rfl)
 obtain⟨NS,Vs,Vt,Q4⟩:=QF;have Vu:=Q4.kp;have Vv:=Q4.binds (ps:=["number"]) λ_ _ _ _ _ _=>Fp (λ_=>by rfl)
 obtain⟨Qo,Vw,Vx,Q5⟩:=QG;have Vy:=Q5.kp;have Vz:=Q5.binds (ps:=["sign","one","other"]) λ_ _ _ _ _ _=>tI (λ_ _ _=>by rfl)
 obtain⟨Qq,VA,VB,Q6⟩:=QH;have VC:=Q6.kp;have VD:=Q6.binds (ps:=["sign","one","other"]) λ_ _ _ _ _ _=>tI (λ_ _ _=>by rfl)
 obtain⟨⟨VE,Q7⟩,Td⟩:=QI;have Te:=Q7.kp;have Tf:=Q7.binds (ps:=["self","call","tree"]) λ_ _ _ _ _ _=>tI (λ_ _ _=>by rfl)
 obtain⟨⟨VF,Q8⟩,Tg⟩:=QJ;have Th:=Q8.kp;have Ti:=Q8.binds (ps:=["self","call","tree"]) λ_ _ _ _ _ _=>tI (λ_ _ _=>by rfl)
 obtain⟨⟨VG,Q9⟩,Tj⟩:=QK;have Tn:=Q9.kp;have To:=Q9.binds (ps:=["self","call","tree"]) λ_ _ _ _ _ _=>tI (λ_ _ _=>by rfl)
 obtain⟨⟨VH,Ra⟩,Tp⟩:=QL;have Tr:=Ra.kp;have Ts:=Ra.binds (ps:=["self","call","tree"]) λ_ _ _ _ _ _=>tI (λ_ _ _=>by rfl)
 obtain⟨⟨VI,Rb⟩,Tt⟩:=QM;have Tu:=Rb.kp;have Tv:=Rb.binds (ps:=["self","call","trees"]) λ_ _ _ _ _ _=>tI (λ_ _ _=>by rfl)
 obtain⟨⟨VJ,Rc⟩,VL⟩:=QN;have WN:=Rc.kp;have VM:=Rc.binds (ps:=["self","depth","known"]) λ_ _ _ _ _ _=>tI (λ_ _ _=>by rfl)
 obtain⟨⟨VN,Rf⟩,Tx⟩:=QO;have Tz:=Rf.kp;have TB:=Rf.binds (ps:=["self","part","values","depth"]) λ_ _ _ _ _ _=>Nw (λ_ _ _ _=>by rfl)
 obtain⟨⟨VO,Rg⟩,VP⟩:=QP;have VQ:=Rg.kp;have VR:=Rg.binds (ps:=["self","part","inputs"]) λ_ _ _ _ _ _=>tI (λ_ _ _=>by rfl)
 obtain⟨⟨VS,Rh⟩,VT⟩:=QQ;have WO:=Rh.kp;have VU:=Rh.binds (ps:=["self","program","budget"]) λ_ _ _ _ _ _=>tI (λ_ _ _=>by rfl)
 obtain⟨WQ,VV,VW,Ri⟩:=QR;have VX:=Ri.kp;have VY:=Ri.binds (ps:=["program","part","inputs","budget"]) λ_ _ _ _ _ _=>Nw (λ_ _ _ _=>by rfl)
 have VZ:=pd (st:=mf) QT QU QV;have N2:=Xl X G vN;have y_bool:=Xl X G p9;have Kw:=Xl X G qj;have qw:=Xl X G eT;have N3:=Xl X G vL;have uj:=Xl X G bS;have CM:=Xl X G kl;have xI:=Xl X G gL;have yZ:=Xl X G jA;have FJ:=Xl X G mw;have N4:=Xl X G vW;have Kx:=WZ X G nv;have qS:=WZ X G dE;have xJ:=WZ X G gM;have Ky:=WZ X G qi;have mI:=WZ X G bM;have xK:=WZ X G gf;have CN:=WZ X G iW;have vY:=WZ X G fT;have oO:=WZ X G cy;have Kz:=WZ X G uc;have ax:Mine.ax K aj:=⟨⟨ud,ue,uf,ug⟩,iH,iI⟩;have Ac:=WZ X G lK;have au:Mine.au K ak:=⟨⟨lL,lM,lN,lO⟩,dN,gm,gn⟩;refine⟨PySem.W.fnOf "law" "law" (dA mf) (dB mf) (dS mf) .none NY NZ N0 NX Kv N1,λs v=>.of_eq rfl,λbase _ _=>?_⟩;have vZ:=pd (st:=kI) nG nI nJ;have CO:=vZ.binds (ps:=["self","number"]) λ_ _ _ _ _ _=>ln2 (λ_ _=>by rfl)
 have y6:zp l.prog w K mg base av ["number"]:=⟨⟨nO,⟨_,mH⟩,nP⟩,List.forall_mem_cons.mpr ⟨nQ,List.forall_mem_nil _⟩,by decide,⟨_,_,⟨⟨_,mH⟩,nF,nK,nM⟩,xu vZ,CO⟩⟩;have y8:=pd (st:=nh) ql qo qp;have FK:=y8.binds (ps:=["self","value"]) λ_ _ _ _ _ _=>ln2 (λ_ _=>by rfl)
 have KA:zp l.prog w K mg base aG ["value"]:=⟨⟨qt,⟨_,oN⟩,qu⟩,List.forall_mem_cons.mpr ⟨qv,List.forall_mem_nil _⟩,by decide,⟨_,_,⟨⟨_,oN⟩,qk,qq,qr⟩,zT y8,FK⟩⟩;have uk:gI l.prog w K mg base cN "_law_alike" 1 ["_law_found","_law_due"] (gA K):=⟨_,_,qI F0 y_bool N3 uj CM xI FJ ax mx qa my km,b0,k0,WZ X G a0⟩
 have V0:∀n:Nat,gI l.prog w K mg base cN "_law_body" (n + 1) ["_law_things_here","_law_names","_law_echo","_law_counted"] (fN K n):=by
  intro n
  induction n with
  | zero=>exact⟨_,_,jJ (λvs H Q E h=>by obtain⟨_,_,_,_,_,_,_,_,_,_,_,hn,_⟩:=h;exact nomatch hn),b1,k1,WZ X G a1⟩
  | succ n ih =>
   have kC:=ih;exact⟨_,_,tU (n:=n) F1 ax kC,b1,k1,WZ X G a1⟩
 have kC:=λn=>(V0 n)
 have og:gI l.prog w K mg base cN "_law_take" 1 ["_law_state"] (g8 K):=⟨_,_,tW F2 ax,b2,k2,WZ X G a2⟩;have v5:gI l.prog w K mg base cN "_law_goes" 2 ["_law_way","_law_count","_law_state"] (kg K):=⟨_,_,tY F3 ax og,b3,k3,WZ X G a3⟩
 have V1:∀n:Nat,gI l.prog w K mg base cN "_law_do" (n + 2) ["_law_things_here","_law_inputs","_law_state"] (kK K n):=by
  intro n
  induction n with
  | zero=>exact⟨_,_,jJ (λvs H Q E h=>by obtain⟨H0,a,l,fv,tv,iv,ts,i0,i1,deep,c,s,s',hn,rfl,hT,hV,ht,I,h0,hd,q⟩:=h;exact nomatch hn),b4,k4,WZ X G a4⟩
  | succ n ih =>
   have nR:=ih;exact⟨_,_,xv (n:=n) F4 ax nR v5 og,b4,k4,WZ X G a4⟩
 have nR:=λn=>(V1 n)
 have oh:gI l.prog w K mg base cN "_law_next" 1 ["_law_source_here","_law_many"] (fO K):=⟨_,_,tZ F5 CM ax,b5,k5,WZ X G a5⟩;have qT:gI l.prog w K mg base cN "_law_source" 1 ["_law_script"] (fG K):=⟨_,_,qb F6 xI ax,b6,k6,WZ X G a6⟩;have oi:gI l.prog w K mg base cN "_law_word" 1 ["_law_cell"] (fP K):=⟨_,_,t6 F7 qw ax,b7,k7,WZ X G a7⟩
 have V2:∀n:Nat,gI l.prog w K mg base cN "_law_things" (n + 1) ["_law_source_here","_law_deep","_law_room"] (dz K n):=by
  intro n
  induction n with
  | zero=>exact⟨_,_,jJ (λvs H Q E h=>by obtain⟨_,_,_,_,_,_,_,_,_,hn,_⟩:=h;exact nomatch hn),b8,k8,WZ X G a8⟩
  | succ n ih =>
   have iJ:=ih;exact⟨_,_,qc (n:=n) F8 qw yZ ax oh iJ oi,b8,k8,WZ X G a8⟩
 have iJ:=λn=>(V2 n)
 have Ad:gI l.prog w K mg base cN "is_door" 1 ["takes","gives"] (ju K):=⟨_,_,xy F9 N2 ax,b9,k9,WZ X G a9⟩;have um:gI l.prog w K mg base (cX l.prog w) "check_door" 2 ["parts","part","inputs"] (iD K bI):=⟨_,_,qM QW CM CN iX mz ax Ad,Vd,Vc,WZ X G Vb⟩;have qU:gI l.prog w K mg base cN "kinds_taken" 1 ["part"] (eP K):=⟨_,_,qf QX ax,Vh,Vg,WZ X G Vf⟩;have xM:gI l.prog w K mg base cN "heads_of" 2 ["program"] (ki K):=⟨_,_,vP QY ax qU,OR,Vk,WZ X G Vj⟩;have i5:c8 l.prog w K mg base (cX l.prog w) ak "spend" 1 ["self"] (mr K ak mg):=⟨⟨_,_,nu Q0 (C:=ak) (wt:=false) oO eU eV ax au,Vp,⟨fD,Vn,Vo⟩⟩,au.cl⟩;have rZ:gI l.prog w K mg base cN "wrapped" 1 ["number"] (jv K):=⟨_,_,xC Q4 Kx ⟨_,rfl⟩ Ky ⟨_,rfl⟩ ax,Vv,Vu,WZ X G Vt⟩;have Ae:gI l.prog w K mg base (cX l.prog w) "divided" 2 ["sign","one","other"] (lJ K mg):=⟨_,_,xE Q5 vY gO gP ax rZ,Vz,Vy,WZ X G Vx⟩;have xN:gI l.prog w K mg base (cX l.prog w) "reckoned" 3 ["sign","one","other"] (kj K mg):=⟨_,_,vV Q6 ax Ae rZ,VD,VC,WZ X G VB⟩;have FL:BD l.prog w K mg base cN aj "Call" 1 ["self","depth","known"] (jw K aj):=⟨⟨_,_,nA Rc ax,VM,⟨uh,fC,VL,ui⟩,Kz⟩⟩
 have uo:∀n:Nat,c8 l.prog w K mg base (cX l.prog w) ak "do_try" (n + 3) ["self","call","tree"] (nq K n ak aj mg)/\c8 l.prog w K mg base (cX l.prog w) ak "values_of" (n + 3) ["self","call","trees"] (gE K n ak aj mg)/\c8 l.prog w K mg base (cX l.prog w) ak "value_of_call" (n + 3) ["self","call","tree"] (fA K n ak aj mg)/\c8 l.prog w K mg base (cX l.prog w) ak "value_of_two" (n + 3) ["self","call","tree"] (fY K n ak aj mg)/\c8 l.prog w K mg base (cX l.prog w) ak "value_of" (n + 3) ["self","call","tree"] (cT K n ak aj mg)/\c8 l.prog w K mg base (cX l.prog w) ak "do_nesting" (n + 3) ["self","call","tree"] (iF K n ak aj mg)/\c8 l.prog w K mg base (cX l.prog w) ak "do_statement" (n + 3) ["self","call","tree"] (fZ K n ak aj mg)/\c8 l.prog w K mg base (cX l.prog w) ak "do_all" (n + 3) ["self","call","trees"] (iV K n ak aj mg)/\c8 l.prog w K mg base (cX l.prog w) ak "given" (n + 3) ["self","part","values","depth"] (mv K n ak mg):=by
  intro n
  induction n with
  | zero=>exact⟨⟨⟨_,_,jJ (λvs H Q E h=>by obtain⟨R,L,tv,a,b,x,s,s',r,rfl,I,J,hT,ev,q⟩:=h;exact nomatch ev),S6,⟨cJ,S4,S5⟩⟩,au.cl⟩,⟨⟨_,_,jJ (λvs H Q E h=>by obtain⟨R,L,a,us,ts,s,s',r,rfl,I,J,hA,hU,jT,ev,q,qE⟩:=h;exact nomatch ev),S9,⟨bT,S7,S8⟩⟩,au.cl⟩,⟨⟨_,_,jJ (λvs H Q E h=>by obtain⟨R,L,tv,p,ts,s,s',r,rfl,I,J,hT,jT,ev,q⟩:=h;exact nomatch ev),Tc,⟨bt,Ta,Tb⟩⟩,au.cl⟩,⟨⟨_,_,jJ (λvs H Q E h=>by obtain⟨R,L,tv,op,a,b,s,s',r,rfl,I,J,hT,ho,ev,q⟩:=h;exact nomatch ev),Tf,⟨bB,Td,Te⟩⟩,au.cl⟩,⟨⟨_,_,jJ (λvs H Q E h=>by obtain⟨R,L,tv,tree,s,s',r,rfl,I,J,hT,ev,q⟩:=h;exact nomatch ev),Ti,⟨bX,Tg,Th⟩⟩,au.cl⟩,⟨⟨_,_,jJ (λvs H Q E h=>by obtain⟨R,L,tv,t,s,s',r,rfl,I,J,hT,ev,q⟩:=h;exact nomatch ev),To,⟨bN,Tj,Tn⟩⟩,au.cl⟩,⟨⟨_,_,jJ (λvs H Q E h=>by obtain⟨R,L,tv,t,s,s',r,rfl,I,J,hT,ev,q⟩:=h;exact nomatch ev),Ts,⟨bC,Tp,Tr⟩⟩,au.cl⟩,⟨⟨_,_,jJ (λvs H Q E h=>by obtain⟨R,L,tv,ts,s,s',r,rfl,I,J,hT,ev,q⟩:=h;exact nomatch ev),Tv,⟨cK,Tt,Tu⟩⟩,au.cl⟩,⟨⟨_,_,jJ (λvs H Q E h=>by obtain⟨R,il,p,dep,ks,m,s,s',r,rfl,I,hS,ev,q⟩:=h;exact nomatch ev),TB,⟨cZ,Tx,Tz⟩⟩,au.cl⟩⟩
  | succ n ih =>
   obtain⟨iq,cV,dF,eh,bE,eZ,ej,cM,fE⟩:=ih;exact⟨⟨⟨_,_,mB (n:=n) QZ (C:=ak) (wt:=false) oO eU eV xK jB mI cI ax au cM dU dW dX dY dZ ee vQ Cr vS vT,S6,⟨cJ,S4,S5⟩⟩,au.cl⟩,⟨⟨_,_,ko (n:=n) Q2 (C:=ak) (wt:=false) ax au bE,S9,⟨bT,S7,S8⟩⟩,au.cl⟩,⟨⟨_,_,iG (n:=n) Q3 (C:=ak) (wt:=false) mI cI qS ⟨_,rfl⟩ xJ ⟨_,rfl⟩ y6 ax au fE i5 cV,Tc,⟨bt,Ta,Tb⟩⟩,au.cl⟩,⟨⟨_,_,iZ (n:=n) Q7 (C:=ak) (wt:=false) vY gO gP ax au xN cV,Tf,⟨bB,Td,Te⟩⟩,au.cl⟩,⟨⟨_,_,kP (n:=n) Q8 (C:=ak) (wt:=false) ax au dF eh,Ti,⟨bX,Tg,Th⟩⟩,au.cl⟩,⟨⟨_,_,jU (n:=n) Q9 (C:=ak) (wt:=false) ax au cM iq i5 bE,To,⟨bN,Tj,Tn⟩⟩,au.cl⟩,⟨⟨_,_,i4 (n:=n) Ra (C:=ak) (wt:=false) mI cI xK jB y6 KA ax au eZ bE,Ts,⟨bC,Tp,Tr⟩⟩,au.cl⟩,⟨⟨_,_,mC (n:=n) Rb (C:=ak) (wt:=false) ax au ej,Tv,⟨cK,Tt,Tu⟩⟩,au.cl⟩,⟨⟨_,_,nC (n:=n) Rf (C:=ak) (wt:=false) oO eU eV mI cI Kw N4 xK jB ax au cM bE FL kq kr ku ky kz kA Ct Cu Cv Cw,TB,⟨cZ,Tx,Tz⟩⟩,au.cl⟩⟩
 have iq:=λn=>(uo n).1
 have cV:=λn=>(uo n).2.1
 have dF:=λn=>(uo n).2.2.1
 have eh:=λn=>(uo n).2.2.2.1
 have bE:=λn=>(uo n).2.2.2.2.1
 have eZ:=λn=>(uo n).2.2.2.2.2.1
 have ej:=λn=>(uo n).2.2.2.2.2.2.1
 have cM:=λn=>(uo n).2.2.2.2.2.2.2.1
 have fE:=λn=>(uo n).2.2.2.2.2.2.2.2
 have mJ:c8 l.prog w K mg base cN ak "end_at" 64 ["self","part","inputs"] (nr K ak mg):=⟨⟨_,_,mD Rg (C:=ak) (wt:=false) mI cI oO eU eV ax au ((fE 60)) dU dW dX dY dZ ee vQ vS Cy vT,VR,⟨eW,VP,VQ⟩⟩,au.cl⟩;have xO:BD l.prog w K mg base cN ak "Reading" 1 ["self","program","budget"] (gc K ak):=⟨⟨_,_,kR Rh (C:=ak) (wt:=false) ax au,VU,⟨lP,dh,VT,lQ⟩,Ac⟩⟩;have v7:gI l.prog w K mg base cN "plain_run" 65 ["program","part","inputs","budget"] (gF K):=⟨_,_,ua Ri ax au um xM mJ xO,VY,VX,WZ X G VW⟩;exact Kt (P:=l.prog) (w:=w) (base:=base) VZ qw xI yZ ax uk ((kC 5)) ((nR 5)) oh qT ((iJ 5)) oi v7
theorem walk{l:PySem.W.OpenLaw}{q:Program}{loose:List Str}{XP:(Str->Option Value)->Heap->Prop}{YP:World->Heap->Prop}{d:DefRec}{K:Params->aE}(hn:l.most=some 63)(hdf:d.params.defaults=[])
  (hY:∀(w:World) (h:Heap),YP w h->(K w.params).In h)
  (F:∀(w:World) (mg:Str->Option Value) (fa:Addr) (h:Heap),(K w.params).In h->h.Ns mainGlobals mg->mg d.name=some (.ref fa) ->
   ∃fd:FuncData,(∀(s:Shared) (u:Value),BindsTo s fd ⟨[u],[]⟩ [("_law_script",u)])/\∀base:Heap,(K w.params).In base->base.Ns mainGlobals mg->bw l.prog w (K w.params) mg base cN 66 fa fd ["_law_script"] (tT (K w.params))) :
  PySem.W.WalkO q loose XP YP l.row.toRowW d [] (λf vs=>PySem.call f vs) :=
 L2.Et (n:=63) (k:=66) (x:="_law_script") (CX:=λ_=>cN) (sp:=λw=>tT (K w.params)) hn (by decide) hdf ⟨rfl,by decide,by decide,rfl⟩ hY F (λ_ _ a ns hl _ hS=>⟨a,ns,rfl,hS,hl,λ_=>rfl⟩) λ_ _ _ _ _ z=>z
end Mine
noncomputable section
namespace MH
open PySem PySem.W L2 Mine
abbrev OF:=Program->Params->Obj
abbrev TF:=Program->Params->BT
abbrev r(a:Nat):Value:=.ref a
abbrev s(x:Str)(t:Tok):Value:=.str x t
abbrev i(n:Int):Value:=.int n 0
abbrev cF:Str:="/claim/cut.py"
def de(P:Params)(x:Str)(t:Tok)(v:Value):DictEntry:=⟨PyData.keyHash P x,.str x t,v⟩
abbrev fn(a b:Str)(e:Stmt)(dV kV doc pm:Value)(an:Option Addr)(cd ct:Value):FuncData:=PySem.W.fnOf a b (dA e) (dB e) (dS e) dV kV doc pm an cd ct
abbrev fx(g u:Nat)(a b:Str)(e:Stmt)(dV kV doc pm:Value)(an:Option Addr)(cd ct:Value):FuncData:=⟨a,b,dA e,.stmts (dB e),dS e,g,[],dV,kV,doc,pm,an,cd,ct,u⟩
abbrev tu(l:List Value):Obj:=⟨.type "tuple",none,.seq l.toArray 0,#[]⟩
abbrev nf(l:List Value):Obj:=⟨.none,none,.fields l.toArray,#[]⟩
abbrev co(l:List Value):Obj:=⟨.type "code",none,.fields l.toArray,#[]⟩
abbrev fm(l:List (Option Value)):Obj:=⟨.type "frame",none,.plain,l.toArray⟩
abbrev di(l:List DictEntry)(n:Nat):Obj:=⟨.type "dict",none,.dict l.toArray n,#[]⟩
abbrev fo(f:FuncData):Obj:=⟨.type "function",none,.func f,#[]⟩
abbrev no(f:FuncData):Obj:=⟨.none,none,.func f,#[]⟩
abbrev bn(o:Obj)(l r:BT):BT:=.node o l r
abbrev bl(o:Obj):BT:=.node o .nil .nil
abbrev af(o:OF)(l r:TF):TF:=λp P=>.node (o p P) (l p P) (r p P)
abbrev ai(o:OF):TF:=λp P=>.node (o p P) .nil .nil
abbrev aw:TF:=λ_ _=>.nil
abbrev WR(a b:Str)(e:Stmt):FuncData:=fn a b e .none .none .none .none none .none .none
abbrev jV(g u:Nat)(a b:Str)(e:Stmt):FuncData:=fx g u a b e .none .none .none .none none .none .none
abbrev Au:OF:=λ_ P=>boot_o_0 P
abbrev Av:OF:=λ_ P=>boot_o_1 P
abbrev ow:OF:=λ_ P=>boot_o_10 P
abbrev N5:OF:=λ_ P=>boot_o_2 P
abbrev V3:OF:=λ_ P=>boot_o_3 P
abbrev Aw:OF:=λ_ P=>boot_o_4 P
abbrev Ax:OF:=λ_ P=>boot_o_5 P
abbrev Ay:OF:=λ_ P=>boot_o_6 P
abbrev Az:OF:=λ_ P=>boot_o_7 P
abbrev AD:OF:=λ_ P=>boot_o_8 P
abbrev AF:OF:=λ_ P=>boot_o_9 P
abbrev pw:Program:=PySem.Challenge.pw_stackwarden_k67_loops_and_budget
def mK(p:Program):Env:={scope:=p.main.scope,locals:=mainNs,globals:=mainNs,cells:=[],code:=(.ref 13),frame:=some 14}
def bW(p:Program):Code:=.body (behindTheImports p) (mK p)
abbrev BF:List Frame:=[topFrame ⟨0,0,0,0⟩]
def dm(p:Program)(i n:Nat):List Stmt:=((behindTheImports p).drop i).take n
def bU(p:Program):Program:={p with main:={p.main with body:=[tf p 1,tf p 2,tf p 3,tf p 5,tf p 6,tf p 8,tf p 9,tf p 10,tf p 12,tf p 13,tf p 14,tf p 15,tf p 16,tf p 17,tf p 18,tf p 20,tf p 21,tf p 23,tf p 24,tf p 25,tf p 26,tf p 27,tf p 28,tf p 29,tf p 31,tf p 32,tf p 33,tf p 34,tf p 35,tf p 36,tf p 37,tf p 38,tf p 39,tf p 40]}}
abbrev ST(t:BT)(n k:Nat)(os:OsState):SharedT:=⟨t,n,{},Array.mk [],{},k,os⟩
abbrev SH(h:Heap)(k:Nat)(os:OsState):Shared:=⟨h,Array.mk [],{},k,os⟩
local macro_rules | `(tactic| walk_at "qk")=>`(tactic| ((try rewrite [Fast.te14364793385576792824]); (try rewrite [Fast.te10110043849684766642]); (try rewrite [Fast.te14374325043358763698]); (try rewrite [Fast.te15667345088766844465]); (try rewrite [Fast.te14082659384304107361]); (try rewrite [Fast.te11892475500146522536]); (try rewrite [Fast.te5160383126252970620]); (try rewrite [Fast.te3399658132070893891]); (try rewrite [Fast.te5991557255702980513]); (try rewrite [Fast.te10880121769531294198]); (try rewrite [Fast.te821141287760084731]); (try rewrite [Fast.te7409074990110511671]); (try rewrite [Fast.te13664370479719496447]); (try rewrite [Fast.te5923862056798008813]); (try rewrite [Fast.te14722251495701143533]); (try rewrite [Fast.te10994771534591457954]); (try rewrite [Fast.te479339242167458305]); (try rewrite [Fast.te16090120013241838585]); (try rewrite [Fast.te3247288618530077131]); (try rewrite [Fast.te2386780881361962483]); (try rewrite [Fast.te11698064438423848299]); (try rewrite [Fast.te7317090234206586261]); (try rewrite [Fast.te7369524293546568484]); (try rewrite [Fast.te8920871248978507458]); (try rewrite [PySem.W.R.mapR_eq]); (try rewrite [Fast.te16888684262415108845]); kernel_rfl))
def o0:OF:=λp P=>tu []
def o1:OF:=λp P=>nf []
noncomputable def o2:OF:=λp P=>co [(s "<module>" 182),(s "<module>" 183),(s cF 184),(i 1),(i 0),(i 0),(i 0),(i 0),(r 11),(.bool false),(i 181),(r 12),.none,.none,.none,.none,(i 185),(i 1),(s cF 186)]
def o3:OF:=λp P=>fm [(some (r 13)),(some (r 3)),(some (r 3)),none,(some (s "__main__" 164)),none,(some (r 0))]
def H0(p:Program)(P:Params):Heap:=⟨Array.mk [boot_o_0 P,boot_o_1 P,boot_o_2 P,boot_o_3 P,boot_o_4 P,boot_o_5 P,boot_o_6 P,boot_o_7 P,boot_o_8 P,boot_o_9 P,boot_o_10 P,o0 p P,o1 p P,o2 p P,o3 p P],{}⟩
def dq0_(P:Params):List DictEntry:=[de P "__doc__" 166 .none,de P "__package__" 167 .none,de P "__loader__" 168 (.builtin "__main__.__loader__#opaque"),de P "__spec__" 169 .none,de P "__annotations__" 170 (r 6),de P "__builtins__" 171 (r 4),de P "__file__" 173 (s cF 172),de P "__cached__" 174 .none,de P "WardenError" 206 (r 24)]
def dq1_(P:Params):List DictEntry:=dq0_ P++[de P "Nought" 222 (r 37)]
def dq2_(P:Params):List DictEntry:=dq1_ P++[de P "NoDoor" 238 (r 49),de P "is_door" 246 (r 56),de P "check_door" 256 (r 63),de P "elders_of" 267 (r 70),de P "is_under" 276 (r 77),de P "MOST_FRAMES" 278 (.int 12 277),de P "HALF" 282 (.int 2147483648 281),de P "TURN" 284 (.int 4294967296 283)]
def dq3_(P:Params):List DictEntry:=dq2_ P++[de P "wrapped" 291 (r 84),de P "reckoned" 300 (r 91),de P "divided" 309 (r 98),de P "BY_NOUGHT" 311 (.int 1 310),de P "TOO_DEEP" 313 (.int 2 312),de P "kinds_taken" 321 (r 103),de P "heads_of" 327 (r 108)]
def dq4_(P:Params):List DictEntry:=dq3_ P++[de P "Fault" 358 (r 125)]
def dq5_(P:Params):List DictEntry:=dq4_ P++[de P "Gave" 387 (r 145)]
def dq6_(P:Params):List DictEntry:=dq5_ P++[de P "Weary" 407 (r 158)]
def dq7_(P:Params):List DictEntry:=dq6_ P++[de P "Record" 438 (r 178)]
def dq8_(P:Params):List DictEntry:=dq7_ P++[de P "Call" 469 (r 199)]
def dq9_(P:Params):List DictEntry:=dq8_ P++[de P "Reading" 613 (r 300)]
def dq10_(P:Params):List DictEntry:=dq9_ P++[de P "plain_run" 625 (r 311),de P "_law_next" 636 (r 318),de P "_law_source" 645 (r 325),de P "_law_word" 653 (r 332),de P "_law_things" 668 (r 339),de P "_law_body" 685 (r 346),de P "_law_take" 692 (r 353),de P "_law_goes" 701 (r 360),de P "_law_do" 712 (r 367),de P "_law_alike" 721 (r 374),de P "law" 747 (r 381)]
def o4:OF:=λp P=>di (de P "__name__" 165 (s "stackwarden.errors" 187)::dq0_ P) 10
def o5:OF:=λp P=>nf [(i 2),(i 0),(r 20)]
def o6:OF:=λp P=>tu [(.type "ValueError")]
def o7:OF:=λp P=>⟨(.type "builtin_function_or_method"),none,(.fields #[(.builtin "type.__prepare__"),(.type "type")]),#[]⟩
noncomputable def o8:OF:=λp P=>di [de P "__module__" 196 (s "stackwarden.errors" 187),de P "__qualname__" 198 (s "WardenError" 197),de P "__firstlineno__" 200 (.int 2 199),de P "__static_attributes__" 201 (r 22)] 4
noncomputable def o9:OF:=λp P=>co [(s "WardenError" 191),(s "WardenError" 192),(s cF 193),(i 2),(i 0),(i 0),(i 0),(i 0),(r 18),(.bool false),(i 181),(r 19),.none,.none,.none,.none,(i 194),(i 2),(s cF 195)]
def rT:OF:=λp P=>fm [(some (r 20)),(some (r 3)),(some (r 17)),none,(some (s "stackwarden.errors" 187)),none,(some (r 0))]
noncomputable def Af:OF:=λp P=>di [de P "__module__" 196 (s "stackwarden.errors" 187),de P "__firstlineno__" 200 (.int 2 199),de P "__static_attributes__" 201 (r 22),de P "__weakref__" 203 (r 25),de P "__doc__" 204 .none] 3
noncomputable def V4:OF:=λp P=>⟨(.type "type"),none,(.cls {name:="WardenError",bases:=[(.type "ValueError")],mro:=[(r 24),(.type "ValueError"),(.type "Exception"),(.type "BaseException"),(.type "object")],ns:=23,qualname:="WardenError"}),#[(some (r 15)),none,(some (s "WardenError" 189)),(some (s "WardenError" 197)),(some (.builtin "ValueError.__new__")),(some (.bool true))]⟩
def Ag:OF:=λp P=>⟨(.type "getset_descriptor"),none,(.fields #[(s "__weakref__" 202),(r 24),(.builtin "ExceptionGroup.__weakref__"),.none]),#[]⟩
def AH:OF:=λp P=>⟨(.type "super"),none,(.fields #[(r 24),(r 24),(r 24)]),#[]⟩
def AJ:OF:=λp P=>⟨(.type "builtin_function_or_method"),none,(.fields #[(.builtin "object.__init_subclass__"),(r 24)]),#[]⟩
def V5:OF:=λp P=>di (de P "__name__" 165 (s "stackwarden.errors" 187)::dq1_ P) 11
def V6:OF:=λp P=>nf [(i 2),(i 0),(r 20),(i 4),(i 0),(r 33)]
noncomputable def V7:OF:=λp P=>⟨(.type "type"),none,(.cls {name:="WardenError",bases:=[(.type "ValueError")],mro:=[(r 24),(.type "ValueError"),(.type "Exception"),(.type "BaseException"),(.type "object")],ns:=23,qualname:="WardenError",subclasses:=[(r 37)]}),#[(some (r 15)),none,(some (s "WardenError" 189)),(some (s "WardenError" 197)),(some (.builtin "ValueError.__new__")),(some (.bool true))]⟩
def qy:OF:=λp P=>tu [(r 24)]
noncomputable def CP:OF:=λp P=>di [de P "__module__" 214 (s "stackwarden.errors" 187),de P "__qualname__" 216 (s "Nought" 215),de P "__firstlineno__" 218 (.int 4 217),de P "__static_attributes__" 219 (r 35)] 4
noncomputable def DG:OF:=λp P=>co [(s "Nought" 209),(s "Nought" 210),(s cF 211),(i 4),(i 0),(i 0),(i 0),(i 0),(r 31),(.bool false),(i 181),(r 32),.none,.none,.none,.none,(i 212),(i 4),(s cF 213)]
def DH:OF:=λp P=>fm [(some (r 33)),(some (r 3)),(some (r 30)),none,(some (s "stackwarden.errors" 187)),none,(some (r 0))]
noncomputable def CQ:OF:=λp P=>di [de P "__module__" 214 (s "stackwarden.errors" 187),de P "__firstlineno__" 218 (.int 4 217),de P "__static_attributes__" 219 (r 35),de P "__doc__" 220 .none] 2
noncomputable def AK:OF:=λp P=>⟨(.type "type"),none,(.cls {name:="Nought",bases:=[(r 24)],mro:=[(r 37),(r 24),(.type "ValueError"),(.type "Exception"),(.type "BaseException"),(.type "object")],ns:=36,qualname:="Nought"}),#[(some (r 28)),none,(some (s "Nought" 207)),(some (s "Nought" 215)),(some (.builtin "ValueError.__new__")),(some (.bool true))]⟩
def CS:OF:=λp P=>⟨(.type "super"),none,(.fields #[(r 37),(r 37),(r 37)]),#[]⟩
def CT:OF:=λp P=>⟨(.type "builtin_function_or_method"),none,(.fields #[(.builtin "object.__init_subclass__"),(r 37)]),#[]⟩
def V8:OF:=λp P=>di (de P "__name__" 165 (s "stackwarden.words" 279)::dq2_ P) 19
noncomputable def V9:OF:=λp P=>nf [(i 2),(i 0),(r 20),(i 4),(i 0),(r 33),(i 6),(i 0),(r 45),(i 9),(i 0),(r 55),(i 11),(i 0),(r 62),(i 18),(i 0),(r 69),(i 24),(i 0),(r 76)]
noncomputable def CU:OF:=λp P=>⟨(.type "type"),none,(.cls {name:="WardenError",bases:=[(.type "ValueError")],mro:=[(r 24),(.type "ValueError"),(.type "Exception"),(.type "BaseException"),(.type "object")],ns:=23,qualname:="WardenError",subclasses:=[(r 37),(r 49)]}),#[(some (r 15)),none,(some (s "WardenError" 189)),(some (s "WardenError" 197)),(some (.builtin "ValueError.__new__")),(some (.bool true))]⟩
noncomputable def DJ:OF:=λp P=>di [de P "__module__" 230 (s "stackwarden.errors" 187),de P "__qualname__" 232 (s "NoDoor" 231),de P "__firstlineno__" 234 (.int 6 233),de P "__static_attributes__" 235 (r 47)] 4
noncomputable def FN:OF:=λp P=>co [(s "NoDoor" 225),(s "NoDoor" 226),(s cF 227),(i 6),(i 0),(i 0),(i 0),(i 0),(r 43),(.bool false),(i 181),(r 44),.none,.none,.none,.none,(i 228),(i 6),(s cF 229)]
def FO:OF:=λp P=>fm [(some (r 45)),(some (r 3)),(some (r 42)),none,(some (s "stackwarden.errors" 187)),none,(some (r 0))]
noncomputable def DK:OF:=λp P=>di [de P "__module__" 230 (s "stackwarden.errors" 187),de P "__firstlineno__" 234 (.int 6 233),de P "__static_attributes__" 235 (r 47),de P "__doc__" 236 .none] 2
noncomputable def DL:OF:=λp P=>⟨(.type "type"),none,(.cls {name:="NoDoor",bases:=[(r 24)],mro:=[(r 49),(r 24),(.type "ValueError"),(.type "Exception"),(.type "BaseException"),(.type "object")],ns:=48,qualname:="NoDoor"}),#[(some (r 40)),none,(some (s "NoDoor" 223)),(some (s "NoDoor" 231)),(some (.builtin "ValueError.__new__")),(some (.bool true))]⟩
def Ic:OF:=λp P=>⟨(.type "super"),none,(.fields #[(r 49),(r 49),(r 49)]),#[]⟩
def Ie:OF:=λp P=>⟨(.type "builtin_function_or_method"),none,(.fields #[(.builtin "object.__init_subclass__"),(r 49)]),#[]⟩
def FP:OF:=λp P=>no (jV 0 0 "is_door" "is_door" (tf p 5))
noncomputable def CV:OF:=λp P=>co [(s "is_door" 241),(s "is_door" 242),(s cF 243),(i 9),(i 2),(i 0),(i 0),(i 3),(r 52),(.bool true),(i 181),(r 53),.none,.none,.none,(r 54),(i 244),(i 9),(s cF 245)]
def CY:OF:=λp P=>fo (fn "is_door" "is_door" (tf p 5) .none .none .none (s "stackwarden.doors" 239) none (r 55) .none)
def CZ:OF:=λp P=>tu [(s "parts" 250),(s "part" 251),(s "inputs" 252),(s "takes" 253)]
def DM:OF:=λp P=>no (jV 0 0 "check_door" "check_door" (tf p 6))
noncomputable def C0:OF:=λp P=>co [(s "check_door" 247),(s "check_door" 248),(s cF 249),(i 11),(i 3),(i 0),(i 0),(i 3),(r 57),(.bool true),(i 181),(r 58),.none,(r 59),(r 60),(r 61),(i 254),(i 11),(s cF 255)]
def DN:OF:=λp P=>fo (fn "check_door" "check_door" (tf p 6) .none .none .none (s "stackwarden.doors" 239) none (r 62) .none)
def DP:OF:=λp P=>tu [(s "makes" 262),(s "c" 263),(s "elders" 264)]
def FQ:OF:=λp P=>no (jV 0 0 "elders_of" "elders_of" (tf p 8))
noncomputable def C1:OF:=λp P=>co [(s "elders_of" 259),(s "elders_of" 260),(s cF 261),(i 18),(i 2),(i 0),(i 0),(i 3),(r 64),(.bool true),(i 181),(r 65),.none,(r 66),(r 67),(r 68),(i 265),(i 18),(s cF 266)]
def C2:OF:=λp P=>fo (fn "elders_of" "elders_of" (tf p 8) .none .none .none (s "stackwarden.kinds" 257) none (r 69) .none)
def C3:OF:=λp P=>tu [(s "makes" 271),(s "c" 272),(s "other" 273)]
def DQ:OF:=λp P=>no (jV 0 0 "is_under" "is_under" (tf p 9))
noncomputable def DR:OF:=λp P=>co [(s "is_under" 268),(s "is_under" 269),(s cF 270),(i 24),(i 3),(i 0),(i 0),(i 3),(r 71),(.bool true),(i 181),(r 72),.none,(r 73),(r 74),(r 75),(i 274),(i 24),(s cF 275)]
def DU:OF:=λp P=>fo (fn "is_under" "is_under" (tf p 9) .none .none .none (s "stackwarden.kinds" 257) none (r 76) .none)
def Wa:OF:=λp P=>di (de P "__name__" 165 (s "stackwarden.reading" 328)::dq3_ P) 26
noncomputable def Wb:OF:=λp P=>nf [(i 2),(i 0),(r 20),(i 4),(i 0),(r 33),(i 6),(i 0),(r 45),(i 9),(i 0),(r 55),(i 11),(i 0),(r 62),(i 18),(i 0),(r 69),(i 24),(i 0),(r 76),(i 30),(i 0),(r 83),(i 32),(i 0),(r 90),(i 44),(i 0),(r 97),(i 53),(i 0),(r 102),(i 55),(i 0),(r 107)]
def FR:OF:=λp P=>tu [(s "number" 288)]
def KC:OF:=λp P=>no (jV 0 0 "wrapped" "wrapped" (tf p 14))
noncomputable def Ig:OF:=λp P=>co [(s "wrapped" 285),(s "wrapped" 286),(s cF 287),(i 30),(i 1),(i 0),(i 0),(i 3),(r 78),(.bool true),(i 181),(r 79),.none,(r 80),(r 81),(r 82),(i 289),(i 30),(s cF 290)]
def Ih:OF:=λp P=>fo (fn "wrapped" "wrapped" (tf p 14) .none .none .none (s "stackwarden.words" 279) none (r 83) .none)
def DW:OF:=λp P=>tu [(s "sign" 295),(s "one" 296),(s "other" 297)]
def FT:OF:=λp P=>no (jV 0 0 "reckoned" "reckoned" (tf p 15))
noncomputable def DY:OF:=λp P=>co [(s "reckoned" 292),(s "reckoned" 293),(s cF 294),(i 32),(i 3),(i 0),(i 0),(i 3),(r 85),(.bool true),(i 181),(r 86),.none,(r 87),(r 88),(r 89),(i 298),(i 32),(s cF 299)]
def DZ:OF:=λp P=>fo (fn "reckoned" "reckoned" (tf p 15) .none .none .none (s "stackwarden.words" 279) none (r 90) .none)
def D1:OF:=λp P=>tu [(s "sign" 304),(s "one" 305),(s "other" 306)]
def Ii:OF:=λp P=>no (jV 0 0 "divided" "divided" (tf p 16))
noncomputable def FU:OF:=λp P=>co [(s "divided" 301),(s "divided" 302),(s cF 303),(i 44),(i 3),(i 0),(i 0),(i 3),(r 92),(.bool true),(i 181),(r 93),.none,(r 94),(r 95),(r 96),(i 307),(i 44),(s cF 308)]
def FV:OF:=λp P=>fo (fn "divided" "divided" (tf p 16) .none .none .none (s "stackwarden.words" 279) none (r 97) .none)
def FW:OF:=λp P=>no (jV 0 0 "kinds_taken" "kinds_taken" (tf p 20))
noncomputable def D2:OF:=λp P=>co [(s "kinds_taken" 316),(s "kinds_taken" 317),(s cF 318),(i 53),(i 1),(i 0),(i 0),(i 3),(r 99),(.bool true),(i 181),(r 100),.none,.none,.none,(r 101),(i 319),(i 53),(s cF 320)]
def D3:OF:=λp P=>fo (fn "kinds_taken" "kinds_taken" (tf p 20) .none .none .none (s "stackwarden.trees" 314) none (r 102) .none)
def FX:OF:=λp P=>no (jV 0 0 "heads_of" "heads_of" (tf p 21))
noncomputable def D4:OF:=λp P=>co [(s "heads_of" 322),(s "heads_of" 323),(s cF 324),(i 55),(i 1),(i 0),(i 0),(i 3),(r 104),(.bool true),(i 181),(r 105),.none,.none,.none,(r 106),(i 325),(i 55),(s cF 326)]
def FY:OF:=λp P=>fo (fn "heads_of" "heads_of" (tf p 21) .none .none .none (s "stackwarden.trees" 314) none (r 107) .none)
noncomputable def Wc:OF:=λp P=>⟨.none,none,(.dict #[de P "type.__subclasses__.Exception.0" 355 (i 125),de P "type.__subclasses__.Exception.n" 356 (i 1)] 2),#[]⟩
def We:OF:=λp P=>di (de P "__name__" 165 (s "stackwarden.reading" 328)::dq4_ P) 27
noncomputable def Wg:OF:=λp P=>nf [(i 2),(i 0),(r 20),(i 4),(i 0),(r 33),(i 6),(i 0),(r 45),(i 9),(i 0),(r 55),(i 11),(i 0),(r 62),(i 18),(i 0),(r 69),(i 24),(i 0),(r 76),(i 30),(i 0),(r 83),(i 32),(i 0),(r 90),(i 44),(i 0),(r 97),(i 53),(i 0),(r 102),(i 55),(i 0),(r 107),(i 58),(i 0),(r 114)]
def qV:OF:=λp P=>tu [(.type "Exception")]
noncomputable def KG:OF:=λp P=>di [de P "__module__" 337 (s "stackwarden.reading" 328),de P "__qualname__" 339 (s "Fault" 338),de P "__firstlineno__" 341 (.int 58 340),de P "__init__" 349 (r 122),de P "__static_attributes__" 351 (r 123)] 5
def KH:OF:=λp P=>nf [(i 60),(i 4),(r 121)]
noncomputable def Md:OF:=λp P=>co [(s "Fault" 332),(s "Fault" 333),(s cF 334),(i 58),(i 0),(i 0),(i 0),(i 0),(r 112),(.bool false),(i 181),(r 113),.none,.none,.none,.none,(i 335),(i 58),(s cF 336)]
def Me:OF:=λp P=>fm [(some (r 114)),(some (r 3)),(some (r 111)),none,(some (s "stackwarden.reading" 328)),none,(some (r 0))]
def Ij:OF:=λp P=>tu [(s "self" 345),(s "number" 346)]
def Ik:OF:=λp P=>no (jV 0 0 "__init__" "Fault.__init__" (inner (tf p 23)))
noncomputable def FZ:OF:=λp P=>co [(s "__init__" 342),(s "Fault.__init__" 343),(s cF 344),(i 60),(i 2),(i 0),(i 0),(i 3),(r 116),(.bool true),(i 181),(r 117),.none,(r 118),(r 119),(r 120),(i 347),(i 60),(s cF 348)]
def Ga:OF:=λp P=>fo (fn "__init__" "Fault.__init__" (inner (tf p 23)) .none .none .none (s "stackwarden.reading" 328) none (r 121) .none)
def Gb:OF:=λp P=>tu [(s "number" 350)]
noncomputable def Gd:OF:=λp P=>di [de P "__module__" 337 (s "stackwarden.reading" 328),de P "__firstlineno__" 341 (.int 58 340),de P "__init__" 349 (r 122),de P "__static_attributes__" 351 (r 123),de P "__weakref__" 353 (r 126),de P "__doc__" 354 .none] 3
noncomputable def Ge:OF:=λp P=>⟨(.type "type"),none,(.cls {name:="Fault",bases:=[(.type "Exception")],mro:=[(r 125),(.type "Exception"),(.type "BaseException"),(.type "object")],ns:=124,qualname:="Fault"}),#[(some (r 109)),none,(some (s "Fault" 330)),(some (s "Fault" 338)),(some (.builtin "Exception.__new__")),(some (.bool true))]⟩
def Gf:OF:=λp P=>⟨(.type "getset_descriptor"),none,(.fields #[(s "__weakref__" 352),(r 125),(.builtin "ExceptionGroup.__weakref__"),.none]),#[]⟩
def KI:OF:=λp P=>⟨(.type "super"),none,(.fields #[(r 125),(r 125),(r 125)]),#[]⟩
def KJ:OF:=λp P=>⟨(.type "builtin_function_or_method"),none,(.fields #[(.builtin "object.__init_subclass__"),(r 125)]),#[]⟩
noncomputable def Wh:OF:=λp P=>⟨.none,none,(.dict #[de P "type.__subclasses__.Exception.0" 355 (i 125),de P "type.__subclasses__.Exception.n" 356 (i 2),de P "type.__subclasses__.Exception.1" 384 (i 145)] 3),#[]⟩
def Wi:OF:=λp P=>di (de P "__name__" 165 (s "stackwarden.reading" 328)::dq5_ P) 28
noncomputable def Wj:OF:=λp P=>nf [(i 2),(i 0),(r 20),(i 4),(i 0),(r 33),(i 6),(i 0),(r 45),(i 9),(i 0),(r 55),(i 11),(i 0),(r 62),(i 18),(i 0),(r 69),(i 24),(i 0),(r 76),(i 30),(i 0),(r 83),(i 32),(i 0),(r 90),(i 44),(i 0),(r 97),(i 53),(i 0),(r 102),(i 55),(i 0),(r 107),(i 58),(i 0),(r 114),(i 62),(i 0),(r 134)]
noncomputable def Mf:OF:=λp P=>di [de P "__module__" 366 (s "stackwarden.reading" 328),de P "__qualname__" 368 (s "Gave" 367),de P "__firstlineno__" 370 (.int 62 369),de P "__init__" 378 (r 142),de P "__static_attributes__" 380 (r 143)] 5
def KL:OF:=λp P=>nf [(i 64),(i 4),(r 141)]
noncomputable def KN:OF:=λp P=>co [(s "Gave" 361),(s "Gave" 362),(s cF 363),(i 62),(i 0),(i 0),(i 0),(i 0),(r 132),(.bool false),(i 181),(r 133),.none,.none,.none,.none,(i 364),(i 62),(s cF 365)]
def KO:OF:=λp P=>fm [(some (r 134)),(some (r 3)),(some (r 131)),none,(some (s "stackwarden.reading" 328)),none,(some (r 0))]
def Il:OF:=λp P=>tu [(s "self" 374),(s "value" 375)]
def Mg:OF:=λp P=>no (jV 0 0 "__init__" "Gave.__init__" (inner (tf p 24)))
noncomputable def KP:OF:=λp P=>co [(s "__init__" 371),(s "Gave.__init__" 372),(s cF 373),(i 64),(i 2),(i 0),(i 0),(i 3),(r 136),(.bool true),(i 181),(r 137),.none,(r 138),(r 139),(r 140),(i 376),(i 64),(s cF 377)]
def xP:OF:=λp P=>fo (fn "__init__" "Gave.__init__" (inner (tf p 24)) .none .none .none (s "stackwarden.reading" 328) none (r 141) .none)
def xQ:OF:=λp P=>tu [(s "value" 379)]
noncomputable def xR:OF:=λp P=>di [de P "__module__" 366 (s "stackwarden.reading" 328),de P "__firstlineno__" 370 (.int 62 369),de P "__init__" 378 (r 142),de P "__static_attributes__" 380 (r 143),de P "__weakref__" 382 (r 146),de P "__doc__" 383 .none] 3
noncomputable def xS:OF:=λp P=>⟨(.type "type"),none,(.cls {name:="Gave",bases:=[(.type "Exception")],mro:=[(r 145),(.type "Exception"),(.type "BaseException"),(.type "object")],ns:=144,qualname:="Gave"}),#[(some (r 129)),none,(some (s "Gave" 359)),(some (s "Gave" 367)),(some (.builtin "Exception.__new__")),(some (.bool true))]⟩
def Ah:OF:=λp P=>⟨(.type "getset_descriptor"),none,(.fields #[(s "__weakref__" 381),(r 145),(.builtin "ExceptionGroup.__weakref__"),.none]),#[]⟩
def C4:OF:=λp P=>⟨(.type "super"),none,(.fields #[(r 145),(r 145),(r 145)]),#[]⟩
def C5:OF:=λp P=>⟨(.type "builtin_function_or_method"),none,(.fields #[(.builtin "object.__init_subclass__"),(r 145)]),#[]⟩
noncomputable def xT:OF:=λp P=>⟨.none,none,(.dict #[de P "type.__subclasses__.Exception.0" 355 (i 125),de P "type.__subclasses__.Exception.n" 356 (i 3),de P "type.__subclasses__.Exception.1" 384 (i 145),de P "type.__subclasses__.Exception.2" 404 (i 158)] 4),#[]⟩
def Rj:OF:=λp P=>di (de P "__name__" 165 (s "stackwarden.reading" 328)::dq6_ P) 29
noncomputable def Rk:OF:=λp P=>nf [(i 2),(i 0),(r 20),(i 4),(i 0),(r 33),(i 6),(i 0),(r 45),(i 9),(i 0),(r 55),(i 11),(i 0),(r 62),(i 18),(i 0),(r 69),(i 24),(i 0),(r 76),(i 30),(i 0),(r 83),(i 32),(i 0),(r 90),(i 44),(i 0),(r 97),(i 53),(i 0),(r 102),(i 55),(i 0),(r 107),(i 58),(i 0),(r 114),(i 62),(i 0),(r 134),(i 66),(i 0),(r 154)]
noncomputable def Ai:OF:=λp P=>di [de P "__module__" 395 (s "stackwarden.reading" 328),de P "__qualname__" 397 (s "Weary" 396),de P "__firstlineno__" 399 (.int 66 398),de P "__static_attributes__" 400 (r 156)] 4
noncomputable def Aj:OF:=λp P=>co [(s "Weary" 390),(s "Weary" 391),(s cF 392),(i 66),(i 0),(i 0),(i 0),(i 0),(r 152),(.bool false),(i 181),(r 153),.none,.none,.none,.none,(i 393),(i 66),(s cF 394)]
def Ak:OF:=λp P=>fm [(some (r 154)),(some (r 3)),(some (r 151)),none,(some (s "stackwarden.reading" 328)),none,(some (r 0))]
noncomputable def xU:OF:=λp P=>di [de P "__module__" 395 (s "stackwarden.reading" 328),de P "__firstlineno__" 399 (.int 66 398),de P "__static_attributes__" 400 (r 156),de P "__weakref__" 402 (r 159),de P "__doc__" 403 .none] 3
noncomputable def xV:OF:=λp P=>⟨(.type "type"),none,(.cls {name:="Weary",bases:=[(.type "Exception")],mro:=[(r 158),(.type "Exception"),(.type "BaseException"),(.type "object")],ns:=157,qualname:="Weary"}),#[(some (r 149)),none,(some (s "Weary" 388)),(some (s "Weary" 396)),(some (.builtin "Exception.__new__")),(some (.bool true))]⟩
def Al:OF:=λp P=>⟨(.type "getset_descriptor"),none,(.fields #[(s "__weakref__" 401),(r 158),(.builtin "ExceptionGroup.__weakref__"),.none]),#[]⟩
def C6:OF:=λp P=>⟨(.type "super"),none,(.fields #[(r 158),(r 158),(r 158)]),#[]⟩
def C7:OF:=λp P=>⟨(.type "builtin_function_or_method"),none,(.fields #[(.builtin "object.__init_subclass__"),(r 158)]),#[]⟩
def Rl:OF:=λp P=>di (de P "__name__" 165 (s "stackwarden.reading" 328)::dq7_ P) 30
noncomputable def Rm:OF:=λp P=>nf [(i 2),(i 0),(r 20),(i 4),(i 0),(r 33),(i 6),(i 0),(r 45),(i 9),(i 0),(r 55),(i 11),(i 0),(r 62),(i 18),(i 0),(r 69),(i 24),(i 0),(r 76),(i 30),(i 0),(r 83),(i 32),(i 0),(r 90),(i 44),(i 0),(r 97),(i 53),(i 0),(r 102),(i 55),(i 0),(r 107),(i 58),(i 0),(r 114),(i 62),(i 0),(r 134),(i 66),(i 0),(r 154),(i 68),(i 0),(r 167)]
noncomputable def C8:OF:=λp P=>di [de P "__module__" 415 (s "stackwarden.reading" 328),de P "__qualname__" 417 (s "Record" 416),de P "__firstlineno__" 419 (.int 68 418),de P "__init__" 428 (r 175),de P "__static_attributes__" 431 (r 176)] 5
def C9:OF:=λp P=>nf [(i 70),(i 4),(r 174)]
noncomputable def Dc:OF:=λp P=>co [(s "Record" 410),(s "Record" 411),(s cF 412),(i 68),(i 0),(i 0),(i 0),(i 0),(r 165),(.bool false),(i 181),(r 166),.none,.none,.none,.none,(i 413),(i 68),(s cF 414)]
def Dd:OF:=λp P=>fm [(some (r 167)),(some (r 3)),(some (r 164)),none,(some (s "stackwarden.reading" 328)),none,(some (r 0))]
def Am:OF:=λp P=>tu [(s "self" 423),(s "make" 424),(s "fields" 425)]
def Gg:OF:=λp P=>no (jV 0 0 "__init__" "Record.__init__" (iC (tf p 26) 0))
noncomputable def De:OF:=λp P=>co [(s "__init__" 420),(s "Record.__init__" 421),(s cF 422),(i 70),(i 3),(i 0),(i 0),(i 3),(r 169),(.bool true),(i 181),(r 170),.none,(r 171),(r 172),(r 173),(i 426),(i 70),(s cF 427)]
def Df:OF:=λp P=>fo (fn "__init__" "Record.__init__" (iC (tf p 26) 0) .none .none .none (s "stackwarden.reading" 328) none (r 174) .none)
def Dg:OF:=λp P=>tu [(s "fields" 429),(s "make" 430)]
noncomputable def Dh:OF:=λp P=>di [de P "__module__" 415 (s "stackwarden.reading" 328),de P "__firstlineno__" 419 (.int 68 418),de P "__init__" 428 (r 175),de P "__static_attributes__" 431 (r 176),de P "__dict__" 433 (r 179),de P "__weakref__" 435 (r 180),de P "__doc__" 436 .none] 4
noncomputable def Di:OF:=λp P=>⟨(.type "type"),none,(.cls {name:="Record",bases:=[(.type "object")],mro:=[(r 178),(.type "object")],ns:=177,qualname:="Record"}),#[none,none,(some (s "Record" 408)),(some (s "Record" 416)),(some (.builtin "object.__new__")),(some (.bool true))]⟩
noncomputable def Dj:OF:=λp P=>⟨(.type "getset_descriptor"),none,(.fields #[(s "__dict__" 432),(r 178),(.builtin "function.__dict__"),(.builtin "function.__dict__#set")]),#[]⟩
def Dl:OF:=λp P=>⟨(.type "getset_descriptor"),none,(.fields #[(s "__weakref__" 434),(r 178),(.builtin "ExceptionGroup.__weakref__"),.none]),#[]⟩
def Gh:OF:=λp P=>⟨(.type "super"),none,(.fields #[(r 178),(r 178),(r 178)]),#[]⟩
def Gi:OF:=λp P=>⟨(.type "builtin_function_or_method"),none,(.fields #[(.builtin "object.__init_subclass__"),(r 178)]),#[]⟩
def Rn:OF:=λp P=>di (de P "__name__" 165 (s "stackwarden.reading" 328)::dq8_ P) 31
noncomputable def Ro:OF:=λp P=>nf [(i 2),(i 0),(r 20),(i 4),(i 0),(r 33),(i 6),(i 0),(r 45),(i 9),(i 0),(r 55),(i 11),(i 0),(r 62),(i 18),(i 0),(r 69),(i 24),(i 0),(r 76),(i 30),(i 0),(r 83),(i 32),(i 0),(r 90),(i 44),(i 0),(r 97),(i 53),(i 0),(r 102),(i 55),(i 0),(r 107),(i 58),(i 0),(r 114),(i 62),(i 0),(r 134),(i 66),(i 0),(r 154),(i 68),(i 0),(r 167),(i 73),(i 0),(r 188)]
noncomputable def Gj:OF:=λp P=>di [de P "__module__" 446 (s "stackwarden.reading" 328),de P "__qualname__" 448 (s "Call" 447),de P "__firstlineno__" 450 (.int 73 449),de P "__init__" 459 (r 196),de P "__static_attributes__" 462 (r 197)] 5
def Gk:OF:=λp P=>nf [(i 75),(i 4),(r 195)]
noncomputable def Gm:OF:=λp P=>co [(s "Call" 441),(s "Call" 442),(s cF 443),(i 73),(i 0),(i 0),(i 0),(i 0),(r 186),(.bool false),(i 181),(r 187),.none,.none,.none,.none,(i 444),(i 73),(s cF 445)]
def Gn:OF:=λp P=>fm [(some (r 188)),(some (r 3)),(some (r 185)),none,(some (s "stackwarden.reading" 328)),none,(some (r 0))]
def Dm:OF:=λp P=>tu [(s "self" 454),(s "depth" 455),(s "known" 456)]
def Gp:OF:=λp P=>no (jV 0 0 "__init__" "Call.__init__" (iC (tf p 27) 0))
noncomputable def Dn:OF:=λp P=>co [(s "__init__" 451),(s "Call.__init__" 452),(s cF 453),(i 75),(i 3),(i 0),(i 0),(i 3),(r 190),(.bool true),(i 181),(r 191),.none,(r 192),(r 193),(r 194),(i 457),(i 75),(s cF 458)]
def Dp:OF:=λp P=>fo (fn "__init__" "Call.__init__" (iC (tf p 27) 0) .none .none .none (s "stackwarden.reading" 328) none (r 195) .none)
def Dq:OF:=λp P=>tu [(s "depth" 460),(s "known" 461)]
noncomputable def Dr:OF:=λp P=>di [de P "__module__" 446 (s "stackwarden.reading" 328),de P "__firstlineno__" 450 (.int 73 449),de P "__init__" 459 (r 196),de P "__static_attributes__" 462 (r 197),de P "__dict__" 464 (r 200),de P "__weakref__" 466 (r 201),de P "__doc__" 467 .none] 4
noncomputable def Ds:OF:=λp P=>⟨(.type "type"),none,(.cls {name:="Call",bases:=[(.type "object")],mro:=[(r 199),(.type "object")],ns:=198,qualname:="Call"}),#[none,none,(some (s "Call" 439)),(some (s "Call" 447)),(some (.builtin "object.__new__")),(some (.bool true))]⟩
noncomputable def Dt:OF:=λp P=>⟨(.type "getset_descriptor"),none,(.fields #[(s "__dict__" 463),(r 199),(.builtin "function.__dict__"),(.builtin "function.__dict__#set")]),#[]⟩
def Du:OF:=λp P=>⟨(.type "getset_descriptor"),none,(.fields #[(s "__weakref__" 465),(r 199),(.builtin "ExceptionGroup.__weakref__"),.none]),#[]⟩
def Gq:OF:=λp P=>⟨(.type "super"),none,(.fields #[(r 199),(r 199),(r 199)]),#[]⟩
def Gr:OF:=λp P=>⟨(.type "builtin_function_or_method"),none,(.fields #[(.builtin "object.__init_subclass__"),(r 199)]),#[]⟩
def Rp:OF:=λp P=>di (de P "__name__" 165 (s "stackwarden.reading" 328)::dq9_ P) 32
noncomputable def Rq:OF:=λp P=>nf [(i 2),(i 0),(r 20),(i 4),(i 0),(r 33),(i 6),(i 0),(r 45),(i 9),(i 0),(r 55),(i 11),(i 0),(r 62),(i 18),(i 0),(r 69),(i 24),(i 0),(r 76),(i 30),(i 0),(r 83),(i 32),(i 0),(r 90),(i 44),(i 0),(r 97),(i 53),(i 0),(r 102),(i 55),(i 0),(r 107),(i 58),(i 0),(r 114),(i 62),(i 0),(r 134),(i 66),(i 0),(r 154),(i 68),(i 0),(r 167),(i 73),(i 0),(r 188),(i 78),(i 0),(r 209)]
noncomputable def KQ:OF:=λp P=>di [de P "__module__" 477 (s "stackwarden.reading" 328),de P "__qualname__" 479 (s "Reading" 478),de P "__firstlineno__" 481 (.int 78 480),de P "__init__" 490 (r 217),de P "end_at" 500 (r 224),de P "given" 506 (r 229),de P "spend" 513 (r 236),de P "value_of" 524 (r 243),de P "values_of" 530 (r 248),de P "value_of_call" 540 (r 255),de P "value_of_two" 550 (r 262),de P "do_all" 560 (r 269),de P "do_statement" 572 (r 276),de P "do_nesting" 582 (r 283),de P "do_kin" 592 (r 290),de P "do_try" 602 (r 297),de P "__static_attributes__" 606 (r 298)] 17
noncomputable def KR:OF:=λp P=>nf [(i 80),(i 4),(r 216),(i 85),(i 4),(r 223),(i 93),(i 4),(r 228),(i 103),(i 4),(r 235),(i 108),(i 4),(r 242),(i 125),(i 4),(r 247),(i 128),(i 4),(r 254),(i 135),(i 4),(r 261),(i 142),(i 4),(r 268),(i 146),(i 4),(r 275),(i 167),(i 4),(r 282),(i 180),(i 4),(r 289),(i 188),(i 4),(r 296)]
noncomputable def KS:OF:=λp P=>co [(s "Reading" 472),(s "Reading" 473),(s cF 474),(i 78),(i 0),(i 0),(i 0),(i 0),(r 207),(.bool false),(i 181),(r 208),.none,.none,.none,.none,(i 475),(i 78),(s cF 476)]
def KU:OF:=λp P=>fm [(some (r 209)),(some (r 3)),(some (r 206)),none,(some (s "stackwarden.reading" 328)),none,(some (r 0))]
def Gs:OF:=λp P=>tu [(s "self" 485),(s "program" 486),(s "budget" 487)]
def KW:OF:=λp P=>no (jV 0 0 "__init__" "Reading.__init__" (iC (tf p 28) 0))
noncomputable def Gu:OF:=λp P=>co [(s "__init__" 482),(s "Reading.__init__" 483),(s cF 484),(i 80),(i 3),(i 0),(i 0),(i 3),(r 211),(.bool true),(i 181),(r 212),.none,(r 213),(r 214),(r 215),(i 488),(i 80),(s cF 489)]
def Gv:OF:=λp P=>fo (fn "__init__" "Reading.__init__" (iC (tf p 28) 0) .none .none .none (s "stackwarden.reading" 328) none (r 216) .none)
def Gw:OF:=λp P=>tu [(s "self" 494),(s "part" 495),(s "inputs" 496),(s "fault" 497)]
def KY:OF:=λp P=>no (jV 0 0 "end_at" "Reading.end_at" (iC (tf p 28) 1))
noncomputable def Gx:OF:=λp P=>co [(s "end_at" 491),(s "Reading.end_at" 492),(s cF 493),(i 85),(i 3),(i 0),(i 0),(i 3),(r 218),(.bool true),(i 181),(r 219),.none,(r 220),(r 221),(r 222),(i 498),(i 85),(s cF 499)]
def Gy:OF:=λp P=>fo (fn "end_at" "Reading.end_at" (iC (tf p 28) 1) .none .none .none (s "stackwarden.reading" 328) none (r 223) .none)
def KZ:OF:=λp P=>no (jV 0 0 "given" "Reading.given" (iC (tf p 28) 2))
noncomputable def Gz:OF:=λp P=>co [(s "given" 501),(s "Reading.given" 502),(s cF 503),(i 93),(i 4),(i 0),(i 0),(i 3),(r 225),(.bool true),(i 181),(r 226),.none,.none,.none,(r 227),(i 504),(i 93),(s cF 505)]
def GA:OF:=λp P=>fo (fn "given" "Reading.given" (iC (tf p 28) 2) .none .none .none (s "stackwarden.reading" 328) none (r 228) .none)
def GC:OF:=λp P=>tu [(s "self" 510)]
def K0:OF:=λp P=>no (jV 0 0 "spend" "Reading.spend" (iC (tf p 28) 3))
noncomputable def GD:OF:=λp P=>co [(s "spend" 507),(s "Reading.spend" 508),(s cF 509),(i 103),(i 1),(i 0),(i 0),(i 3),(r 230),(.bool true),(i 181),(r 231),.none,(r 232),(r 233),(r 234),(i 511),(i 103),(s cF 512)]
def GF:OF:=λp P=>fo (fn "spend" "Reading.spend" (iC (tf p 28) 3) .none .none .none (s "stackwarden.reading" 328) none (r 235) .none)
def GH:OF:=λp P=>tu [(s "self" 517),(s "call" 518),(s "tree" 519),(s "word" 520),(s "chosen" 521)]
def K1:OF:=λp P=>no (jV 0 0 "value_of" "Reading.value_of" (iC (tf p 28) 4))
noncomputable def GI:OF:=λp P=>co [(s "value_of" 514),(s "Reading.value_of" 515),(s cF 516),(i 108),(i 3),(i 0),(i 0),(i 3),(r 237),(.bool true),(i 181),(r 238),.none,(r 239),(r 240),(r 241),(i 522),(i 108),(s cF 523)]
def GJ:OF:=λp P=>fo (fn "value_of" "Reading.value_of" (iC (tf p 28) 4) .none .none .none (s "stackwarden.reading" 328) none (r 242) .none)
def K2:OF:=λp P=>no (jV 0 0 "values_of" "Reading.values_of" (iC (tf p 28) 5))
noncomputable def GK:OF:=λp P=>co [(s "values_of" 525),(s "Reading.values_of" 526),(s cF 527),(i 125),(i 3),(i 0),(i 0),(i 3),(r 244),(.bool true),(i 181),(r 245),.none,.none,.none,(r 246),(i 528),(i 125),(s cF 529)]
def GL:OF:=λp P=>fo (fn "values_of" "Reading.values_of" (iC (tf p 28) 5) .none .none .none (s "stackwarden.reading" 328) none (r 247) .none)
def GN:OF:=λp P=>tu [(s "self" 534),(s "call" 535),(s "tree" 536),(s "values" 537)]
def K3:OF:=λp P=>no (jV 0 0 "value_of_call" "Reading.value_of_call" (iC (tf p 28) 6))
noncomputable def GO:OF:=λp P=>co [(s "value_of_call" 531),(s "Reading.value_of_call" 532),(s cF 533),(i 128),(i 3),(i 0),(i 0),(i 3),(r 249),(.bool true),(i 181),(r 250),.none,(r 251),(r 252),(r 253),(i 538),(i 128),(s cF 539)]
noncomputable def GP:OF:=λp P=>fo (fn "value_of_call" "Reading.value_of_call" (iC (tf p 28) 6) .none .none .none (s "stackwarden.reading" 328) none (r 254) .none)
def GQ:OF:=λp P=>tu [(s "self" 544),(s "call" 545),(s "tree" 546),(s "pair" 547)]
def K4:OF:=λp P=>no (jV 0 0 "value_of_two" "Reading.value_of_two" (iC (tf p 28) 7))
noncomputable def GR:OF:=λp P=>co [(s "value_of_two" 541),(s "Reading.value_of_two" 542),(s cF 543),(i 135),(i 3),(i 0),(i 0),(i 3),(r 256),(.bool true),(i 181),(r 257),.none,(r 258),(r 259),(r 260),(i 548),(i 135),(s cF 549)]
noncomputable def GS:OF:=λp P=>fo (fn "value_of_two" "Reading.value_of_two" (iC (tf p 28) 7) .none .none .none (s "stackwarden.reading" 328) none (r 261) .none)
def GU:OF:=λp P=>tu [(s "self" 554),(s "call" 555),(s "trees" 556),(s "tree" 557)]
def K5:OF:=λp P=>no (jV 0 0 "do_all" "Reading.do_all" (iC (tf p 28) 8))
noncomputable def GV:OF:=λp P=>co [(s "do_all" 551),(s "Reading.do_all" 552),(s cF 553),(i 142),(i 3),(i 0),(i 0),(i 3),(r 263),(.bool true),(i 181),(r 264),.none,(r 265),(r 266),(r 267),(i 558),(i 142),(s cF 559)]
def GW:OF:=λp P=>fo (fn "do_all" "Reading.do_all" (iC (tf p 28) 8) .none .none .none (s "stackwarden.reading" 328) none (r 268) .none)
def GX:OF:=λp P=>tu [(s "self" 564),(s "call" 565),(s "tree" 566),(s "word" 567),(s "record" 568),(s "value" 569)]
def K6:OF:=λp P=>no (jV 0 0 "do_statement" "Reading.do_statement" (iC (tf p 28) 9))
noncomputable def GY:OF:=λp P=>co [(s "do_statement" 561),(s "Reading.do_statement" 562),(s cF 563),(i 146),(i 3),(i 0),(i 0),(i 3),(r 270),(.bool true),(i 181),(r 271),.none,(r 272),(r 273),(r 274),(i 570),(i 146),(s cF 571)]
noncomputable def GZ:OF:=λp P=>fo (fn "do_statement" "Reading.do_statement" (iC (tf p 28) 9) .none .none .none (s "stackwarden.reading" 328) none (r 275) .none)
def G0:OF:=λp P=>tu [(s "self" 576),(s "call" 577),(s "tree" 578),(s "word" 579)]
def K7:OF:=λp P=>no (jV 0 0 "do_nesting" "Reading.do_nesting" (iC (tf p 28) 10))
noncomputable def G2:OF:=λp P=>co [(s "do_nesting" 573),(s "Reading.do_nesting" 574),(s cF 575),(i 167),(i 3),(i 0),(i 0),(i 3),(r 277),(.bool true),(i 181),(r 278),.none,(r 279),(r 280),(r 281),(i 580),(i 167),(s cF 581)]
def G3:OF:=λp P=>fo (fn "do_nesting" "Reading.do_nesting" (iC (tf p 28) 10) .none .none .none (s "stackwarden.reading" 328) none (r 282) .none)
def G4:OF:=λp P=>tu [(s "self" 586),(s "call" 587),(s "tree" 588),(s "record" 589)]
def K8:OF:=λp P=>no (jV 0 0 "do_kin" "Reading.do_kin" (iC (tf p 28) 11))
noncomputable def G5:OF:=λp P=>co [(s "do_kin" 583),(s "Reading.do_kin" 584),(s cF 585),(i 180),(i 3),(i 0),(i 0),(i 3),(r 284),(.bool true),(i 181),(r 285),.none,(r 286),(r 287),(r 288),(i 590),(i 180),(s cF 591)]
def G6:OF:=λp P=>fo (fn "do_kin" "Reading.do_kin" (iC (tf p 28) 11) .none .none .none (s "stackwarden.reading" 328) none (r 289) .none)
def G7:OF:=λp P=>tu [(s "self" 596),(s "call" 597),(s "tree" 598),(s "fault" 599)]
def K9:OF:=λp P=>no (jV 0 0 "do_try" "Reading.do_try" (iC (tf p 28) 12))
noncomputable def G8:OF:=λp P=>co [(s "do_try" 593),(s "Reading.do_try" 594),(s cF 595),(i 188),(i 3),(i 0),(i 0),(i 3),(r 291),(.bool true),(i 181),(r 292),.none,(r 293),(r 294),(r 295),(i 600),(i 188),(s cF 601)]
def G9:OF:=λp P=>fo (fn "do_try" "Reading.do_try" (iC (tf p 28) 12) .none .none .none (s "stackwarden.reading" 328) none (r 296) .none)
def Ha:OF:=λp P=>tu [(s "left" 603),(s "program" 604),(s "said" 605)]
noncomputable def Hc:OF:=λp P=>di [de P "__module__" 477 (s "stackwarden.reading" 328),de P "__firstlineno__" 481 (.int 78 480),de P "__init__" 490 (r 217),de P "end_at" 500 (r 224),de P "given" 506 (r 229),de P "spend" 513 (r 236),de P "value_of" 524 (r 243),de P "values_of" 530 (r 248),de P "value_of_call" 540 (r 255),de P "value_of_two" 550 (r 262),de P "do_all" 560 (r 269),de P "do_statement" 572 (r 276),de P "do_nesting" 582 (r 283),de P "do_kin" 592 (r 290),de P "do_try" 602 (r 297),de P "__static_attributes__" 606 (r 298),de P "__dict__" 608 (r 301),de P "__weakref__" 610 (r 302),de P "__doc__" 611 .none] 4
noncomputable def Hd:OF:=λp P=>⟨(.type "type"),none,(.cls {name:="Reading",bases:=[(.type "object")],mro:=[(r 300),(.type "object")],ns:=299,qualname:="Reading"}),#[none,none,(some (s "Reading" 470)),(some (s "Reading" 478)),(some (.builtin "object.__new__")),(some (.bool true))]⟩
noncomputable def He:OF:=λp P=>⟨(.type "getset_descriptor"),none,(.fields #[(s "__dict__" 607),(r 300),(.builtin "function.__dict__"),(.builtin "function.__dict__#set")]),#[]⟩
def Hf:OF:=λp P=>⟨(.type "getset_descriptor"),none,(.fields #[(s "__weakref__" 609),(r 300),(.builtin "ExceptionGroup.__weakref__"),.none]),#[]⟩
def La:OF:=λp P=>⟨(.type "super"),none,(.fields #[(r 300),(r 300),(r 300)]),#[]⟩
def Lb:OF:=λp P=>⟨(.type "builtin_function_or_method"),none,(.fields #[(.builtin "object.__init_subclass__"),(r 300)]),#[]⟩
def Lc:OF:=λp P=>di (de P "__name__" 165 (s "law_stackwarden_k67_loops_and_budget" 626)::dq10_ P) 43
noncomputable def N6:OF:=λp P=>nf [(i 2),(i 0),(r 20),(i 4),(i 0),(r 33),(i 6),(i 0),(r 45),(i 9),(i 0),(r 55),(i 11),(i 0),(r 62),(i 18),(i 0),(r 69),(i 24),(i 0),(r 76),(i 30),(i 0),(r 83),(i 32),(i 0),(r 90),(i 44),(i 0),(r 97),(i 53),(i 0),(r 102),(i 55),(i 0),(r 107),(i 58),(i 0),(r 114),(i 62),(i 0),(r 134),(i 66),(i 0),(r 154),(i 68),(i 0),(r 167),(i 73),(i 0),(r 188),(i 78),(i 0),(r 209),(i 195),(i 0),(r 310),(i 201),(i 0),(r 317),(i 207),(i 0),(r 324),(i 212),(i 0),(r 331),(i 219),(i 0),(r 338),(i 239),(i 0),(r 345),(i 259),(i 0),(r 352),(i 265),(i 0),(r 359),(i 274),(i 0),(r 366),(i 292),(i 0),(r 373),(i 299),(i 0),(r 380)]
def Ld:OF:=λp P=>tu [(s "program" 617),(s "part" 618),(s "inputs" 619),(s "budget" 620),(s "reading" 621),(s "end" 622)]
def N7:OF:=λp P=>no (jV 0 0 "plain_run" "plain_run" (tf p 29))
noncomputable def Le:OF:=λp P=>co [(s "plain_run" 614),(s "plain_run" 615),(s cF 616),(i 195),(i 4),(i 0),(i 0),(i 3),(r 305),(.bool true),(i 181),(r 306),.none,(r 307),(r 308),(r 309),(i 623),(i 195),(s cF 624)]
def Lf:OF:=λp P=>fo (fn "plain_run" "plain_run" (tf p 29) .none .none .none (s "stackwarden.reading" 328) none (r 310) .none)
def Lg:OF:=λp P=>tu [(s "_law_source_here" 631),(s "_law_many" 632),(s "_law_cell" 633)]
def N8:OF:=λp P=>no (jV 0 0 "_law_next" "_law_next" (tf p 31))
noncomputable def Lh:OF:=λp P=>co [(s "_law_next" 628),(s "_law_next" 629),(s cF 630),(i 201),(i 2),(i 0),(i 0),(i 3),(r 312),(.bool true),(i 181),(r 313),.none,(r 314),(r 315),(r 316),(i 634),(i 201),(s cF 635)]
def Li:OF:=λp P=>fo (fn "_law_next" "_law_next" (tf p 31) .none .none .none (s "law_stackwarden_k67_loops_and_budget" 626) none (r 317) .none)
def Lj:OF:=λp P=>tu [(s "_law_script" 640),(s "_law_start" 641),(s "_law_cell" 642)]
def N9:OF:=λp P=>no (jV 0 0 "_law_source" "_law_source" (tf p 32))
noncomputable def Lk:OF:=λp P=>co [(s "_law_source" 637),(s "_law_source" 638),(s cF 639),(i 207),(i 1),(i 0),(i 0),(i 3),(r 319),(.bool true),(i 181),(r 320),.none,(r 321),(r 322),(r 323),(i 643),(i 207),(s cF 644)]
noncomputable def Ll:OF:=λp P=>fo (fn "_law_source" "_law_source" (tf p 32) .none .none .none (s "law_stackwarden_k67_loops_and_budget" 626) none (r 324) .none)
def Lm:OF:=λp P=>tu [(s "_law_cell" 649),(s "_law_way" 650)]
def Oa:OF:=λp P=>no (jV 0 0 "_law_word" "_law_word" (tf p 33))
noncomputable def Ln:OF:=λp P=>co [(s "_law_word" 646),(s "_law_word" 647),(s cF 648),(i 212),(i 1),(i 0),(i 0),(i 3),(r 326),(.bool true),(i 181),(r 327),.none,(r 328),(r 329),(r 330),(i 651),(i 212),(s cF 652)]
def Lo:OF:=λp P=>fo (fn "_law_word" "_law_word" (tf p 33) .none .none .none (s "law_stackwarden_k67_loops_and_budget" 626) none (r 331) .none)
noncomputable def Lp:OF:=λp P=>tu [(s "_law_source_here" 657),(s "_law_deep" 658),(s "_law_room" 659),(s "_law_things_here" 660),(s "_law_k" 661),(s "_law_cell" 662),(s "_law_way" 663),(s "_law_first" 664),(s "_law_inner" 665)]
def Oc:OF:=λp P=>no (jV 0 0 "_law_things" "_law_things" (tf p 34))
noncomputable def Lq:OF:=λp P=>co [(s "_law_things" 654),(s "_law_things" 655),(s cF 656),(i 219),(i 3),(i 0),(i 0),(i 3),(r 333),(.bool true),(i 181),(r 334),.none,(r 335),(r 336),(r 337),(i 666),(i 219),(s cF 667)]
noncomputable def Lr:OF:=λp P=>fo (fn "_law_things" "_law_things" (tf p 34) .none .none .none (s "law_stackwarden_k67_loops_and_budget" 626) none (r 338) .none)
noncomputable def Lu:OF:=λp P=>tu [(s "_law_things_here" 672),(s "_law_names" 673),(s "_law_echo" 674),(s "_law_counted" 675),(s "_law_body_here" 676),(s "_law_thing" 677),(s "_law_first" 678),(s "_law_x" 679),(s "_law_begin" 680),(s "_law_asks" 681),(s "_law_inner" 682)]
def Od:OF:=λp P=>no (jV 0 0 "_law_body" "_law_body" (tf p 35))
noncomputable def Lw:OF:=λp P=>co [(s "_law_body" 669),(s "_law_body" 670),(s cF 671),(i 239),(i 4),(i 0),(i 0),(i 3),(r 340),(.bool true),(i 181),(r 341),.none,(r 342),(r 343),(r 344),(i 683),(i 239),(s cF 684)]
def Lx:OF:=λp P=>fo (fn "_law_body" "_law_body" (tf p 35) .none .none .none (s "law_stackwarden_k67_loops_and_budget" 626) none (r 345) .none)
def Ly:OF:=λp P=>tu [(s "_law_state" 689)]
def Oe:OF:=λp P=>no (jV 0 0 "_law_take" "_law_take" (tf p 36))
noncomputable def Lz:OF:=λp P=>co [(s "_law_take" 686),(s "_law_take" 687),(s cF 688),(i 259),(i 1),(i 0),(i 0),(i 3),(r 347),(.bool true),(i 181),(r 348),.none,(r 349),(r 350),(r 351),(i 690),(i 259),(s cF 691)]
def LA:OF:=λp P=>fo (fn "_law_take" "_law_take" (tf p 36) .none .none .none (s "law_stackwarden_k67_loops_and_budget" 626) none (r 352) .none)
def LB:OF:=λp P=>tu [(s "_law_way" 696),(s "_law_count" 697),(s "_law_state" 698)]
def Of:OF:=λp P=>no (jV 0 0 "_law_goes" "_law_goes" (tf p 37))
noncomputable def LC:OF:=λp P=>co [(s "_law_goes" 693),(s "_law_goes" 694),(s cF 695),(i 265),(i 3),(i 0),(i 0),(i 3),(r 354),(.bool true),(i 181),(r 355),.none,(r 356),(r 357),(r 358),(i 699),(i 265),(s cF 700)]
def LD:OF:=λp P=>fo (fn "_law_goes" "_law_goes" (tf p 37) .none .none .none (s "law_stackwarden_k67_loops_and_budget" 626) none (r 359) .none)
def LF:OF:=λp P=>tu [(s "_law_things_here" 705),(s "_law_inputs" 706),(s "_law_state" 707),(s "_law_thing" 708),(s "_law_count" 709)]
def Og:OF:=λp P=>no (jV 0 0 "_law_do" "_law_do" (tf p 38))
noncomputable def LG:OF:=λp P=>co [(s "_law_do" 702),(s "_law_do" 703),(s cF 704),(i 274),(i 3),(i 0),(i 0),(i 3),(r 361),(.bool true),(i 181),(r 362),.none,(r 363),(r 364),(r 365),(i 710),(i 274),(s cF 711)]
def LH:OF:=λp P=>fo (fn "_law_do" "_law_do" (tf p 38) .none .none .none (s "law_stackwarden_k67_loops_and_budget" 626) none (r 366) .none)
def LI:OF:=λp P=>tu [(s "_law_found" 716),(s "_law_due" 717),(s "_law_word_here" 718)]
def Oh:OF:=λp P=>no (jV 0 0 "_law_alike" "_law_alike" (tf p 39))
noncomputable def LJ:OF:=λp P=>co [(s "_law_alike" 713),(s "_law_alike" 714),(s cF 715),(i 292),(i 2),(i 0),(i 0),(i 3),(r 368),(.bool true),(i 181),(r 369),.none,(r 370),(r 371),(r 372),(i 719),(i 292),(s cF 720)]
def LK:OF:=λp P=>fo (fn "_law_alike" "_law_alike" (tf p 39) .none .none .none (s "law_stackwarden_k67_loops_and_budget" 626) none (r 373) .none)
noncomputable def LL:OF:=λp P=>tu [(s "_law_script" 725),(s "_law_source_here" 726),(s "_law_cell" 727),(s "_law_echo" 728),(s "_law_number" 729),(s "_law_names" 730),(s "_law_inputs" 731),(s "_law_k" 732),(s "_law_word_here" 733),(s "_law_way" 734),(s "_law_things_here" 735),(s "_law_budget" 736),(s "_law_body_here" 737),(s "_law_door" 738),(s "_law_other" 739),(s "_law_parts" 740),(s "_law_state" 741),(s "_law_due" 742),(s "_law_kept" 743),(s "_law_found" 744)]
def Oi:OF:=λp P=>no (jV 0 0 "law" "law" (tf p 40))
noncomputable def LM:OF:=λp P=>co [(s "law" 722),(s "law" 723),(s cF 724),(i 299),(i 1),(i 0),(i 0),(i 3),(r 375),(.bool true),(i 181),(r 376),.none,(r 377),(r 378),(r 379),(i 745),(i 299),(s cF 746)]
def LN:OF:=λp P=>fo (fn "law" "law" (tf p 40) .none .none .none (s "law_stackwarden_k67_loops_and_budget" 626) none (r 380) .none)
noncomputable def T0:TF:=(af Au (af Av (af V3 (ai Az) (ai o0)) (af Ax (ai AF) (ai o2))) (af N5 (af Aw (ai AD) (ai o1)) (af Ay (ai ow) (ai o3))))
noncomputable def T1:TF:=(af Au (af Av (af o4 (af Az (ai o6) (ai Af)) (af o0 (ai o1) (ai AJ))) (af Ax (af AF (ai o8) (ai Ag)) (af o2 (ai rT) aw))) (af N5 (af Aw (af AD (ai o7) (ai V4)) (af o5 (ai o9) aw)) (af Ay (af ow (ai o0) (ai AH)) (af o3 (ai o0) aw))))
noncomputable def T2:TF:=(af Au (af Av (af V5 (af Az (af o6 (ai o0) aw) (af Af (ai CT) aw)) (af o0 (af o1 (ai o0) aw) (ai AJ))) (af Ax (af AF (af o8 (ai DG) aw) (ai Ag)) (af o2 (af rT (ai AK) aw) (ai o7)))) (af N5 (af Aw (af AD (af o7 (ai o1) aw) (ai V7)) (af V6 (af o9 (ai CQ) aw) (ai qy))) (af Ay (af ow (af o0 (ai DH) aw) (ai AH)) (af o3 (af o0 (ai CS) aw) (ai CP)))))
noncomputable def T3:TF:=(af Au (af Av (af V8 (af Az (af o6 (af o0 (ai DN) aw) (ai o0)) (af Af (af CT (ai o0) aw) (ai CV))) (af o0 (af o1 (af o0 (ai o0) aw) (ai Ie)) (af AJ (af o0 (ai DQ) aw) (ai CZ)))) (af Ax (af AF (af o8 (af DG (ai o1) aw) (ai DL)) (af Ag (af o7 (ai C3) aw) (ai o0))) (af o2 (af rT (af AK (ai C1) aw) (ai o1)) (af o7 (af FN (ai DU) aw) (ai DM))))) (af N5 (af Aw (af AD (af o7 (af o1 (ai o0) aw) (ai DK)) (af CU (af qy (ai o1) aw) (ai CY))) (af V9 (af o9 (af CQ (ai FQ) aw) (ai o0)) (af qy (af o1 (ai DR) aw) (ai o0)))) (af Ay (af ow (af o0 (af DH (ai DP) aw) (ai Ic)) (af AH (af DJ (ai o0) aw) (ai o1))) (af o3 (af o0 (af CS (ai C2) aw) (ai FP)) (af CP (ai FO) (ai C0))))))
noncomputable def T4:TF:=(af Au (af Av (af Wa (af Az (af o6 (af o0 (ai DN) (ai o0)) (af o0 (ai o1) aw)) (af Af (af CT (ai o0) (ai D3)) (af CV (ai DW) aw))) (af o0 (af o1 (af o0 (ai o0) (ai o0)) (af Ie (ai Ig) aw)) (af AJ (af o0 (ai DQ) (ai D4)) (af CZ (ai DZ) aw)))) (af Ax (af AF (af o8 (af DG (ai o1) (ai FU)) (af DL (ai o0) aw)) (af Ag (af o7 (ai C3) (ai o1)) (af o0 (ai FT) aw))) (af o2 (af rT (af AK (ai C1) (ai FW)) (af o1 (ai o0) aw)) (af o7 (af FN (ai DU) aw) (af DM (ai o1) aw))))) (af N5 (af Aw (af AD (af o7 (af o1 (ai o0) (ai Ii)) (af DK (ai FR) aw)) (af CU (af qy (ai o1) (ai o0)) (af CY (ai o0) aw))) (af Wb (af o9 (af CQ (ai FQ) (ai o1)) (af o0 (ai Ih) aw)) (af qy (af o1 (ai DR) (ai FY)) (af o0 (ai o0) aw)))) (af Ay (af ow (af o0 (af DH (ai DP) (ai FV)) (af Ic (ai KC) aw)) (af AH (af DJ (ai o0) (ai FX)) (af o1 (ai DY) aw))) (af o3 (af o0 (af CS (ai C2) (ai D2)) (af FP (ai o1) aw)) (af CP (af FO (ai o0) aw) (af C0 (ai D1) aw))))))
noncomputable def T5:TF:=(af Au (af Av (af We (af Az (af o6 (af o0 (af DN (ai KI) aw) (ai o0)) (af o0 (ai o1) (ai KG))) (af Af (af CT (ai o0) (ai D3)) (af CV (ai DW) (ai o0)))) (af o0 (af o1 (af o0 (ai o0) (ai o0)) (af Ie (ai Ig) (ai Me))) (af AJ (af o0 (ai DQ) (ai D4)) (af CZ (ai DZ) (ai Gb))))) (af Ax (af AF (af o8 (af DG (ai o1) (ai FU)) (af DL (ai o0) (ai KH))) (af Ag (af o7 (ai C3) (ai o1)) (af o0 (ai FT) (ai FZ)))) (af o2 (af rT (af AK (ai C1) (ai FW)) (af o1 (ai o0) (ai o1))) (af o7 (af FN (ai DU) (ai qV)) (af DM (ai o1) (ai Ge)))))) (af Wc (af Aw (af AD (af o7 (af o1 (af o0 (ai KJ) aw) (ai Ii)) (af DK (ai FR) (ai o0))) (af CU (af qy (ai o1) (ai o0)) (af CY (ai o0) (ai Ik)))) (af Wg (af o9 (af CQ (ai FQ) (ai o1)) (af o0 (ai Ih) (ai o0))) (af qy (af o1 (ai DR) (ai FY)) (af o0 (ai o0) (ai Gd))))) (af Ay (af ow (af o0 (af DH (ai DP) (ai FV)) (af Ic (ai KC) (ai Md))) (af AH (af DJ (ai o0) (ai FX)) (af o1 (ai DY) (ai Ga)))) (af o3 (af o0 (af CS (ai C2) (ai D2)) (af FP (ai o1) (ai Ij))) (af CP (af FO (ai o0) (ai o7)) (af C0 (ai D1) (ai Gf)))))))
noncomputable def u0:TF:=(af o1 (af o0 (af o0 (ai Mf) aw) (ai o0)) (af Ie (af Ig (ai C4) aw) (ai Me)))
noncomputable def u1:TF:=(af o9 (af CQ (af FQ (ai o0) aw) (ai o1)) (af o0 (af Ih (ai C5) aw) (ai o0)))
noncomputable def u2:TF:=(af o0 (af DH (af DP (ai o7) aw) (ai FV)) (af Ic (af KC (ai Ah) aw) (ai Md)))
noncomputable def T6:TF:=(af Au (af Av (af Wi (af Az (af o6 (af o0 (af DN (ai KI) aw) (ai o0)) (af o0 (af o1 (ai xQ) aw) (ai KG))) (af Af (af CT (af o0 (ai KO) aw) (ai D3)) (af CV (ai DW) (ai o0)))) (af o0 u0 (af AJ (af o0 (af DQ (ai o0) aw) (ai D4)) (af CZ (ai DZ) (ai Gb))))) (af Ax (af AF (af o8 (af DG (af o1 (ai qV) aw) (ai FU)) (af DL (af o0 (ai xS) aw) (ai KH))) (af Ag (af o7 (af C3 (ai o1) aw) (ai o1)) (af o0 (ai FT) (ai FZ)))) (af o2 (af rT (af AK (af C1 (ai KL) aw) (ai FW)) (af o1 (ai o0) (ai o1))) (af o7 (af FN (af DU (ai KP) aw) (ai qV)) (af DM (ai o1) (ai Ge)))))) (af Wh (af Aw (af AD (af o7 (af o1 (af o0 (ai KJ) aw) (ai Ii)) (af DK (af FR (ai xR) aw) (ai o0))) (af CU (af qy (af o1 (ai o0) aw) (ai o0)) (af CY (ai o0) (ai Ik)))) (af Wj u1 (af qy (af o1 (af DR (ai Mg) aw) (ai FY)) (af o0 (ai o0) (ai Gd))))) (af Ay (af ow u2 (af AH (af DJ (af o0 (ai Il) aw) (ai FX)) (af o1 (ai DY) (ai Ga)))) (af o3 (af o0 (af CS (af C2 (ai KN) aw) (ai D2)) (af FP (ai o1) (ai Ij))) (af CP (af FO (af o0 (ai xP) aw) (ai o7)) (af C0 (ai D1) (ai Gf)))))))
noncomputable def u3:TF:=(af o0 (af DN (ai KI) aw) (af o0 (ai Al) aw))
noncomputable def u4:TF:=(af DG (af o1 (ai qV) aw) (af FU (ai C7) aw))
noncomputable def u5:TF:=(af o1 (af o0 (ai KJ) aw) (af Ii (ai C6) aw))
noncomputable def T7:TF:=(af Au (af Av (af Rj (af Az (af o6 u3 (af o0 (af o1 (ai xQ) aw) (ai KG))) (af Af (af CT (af o0 (ai KO) aw) (ai D3)) (af CV (af DW (ai Ai) aw) (ai o0)))) (af o0 u0 (af AJ (af o0 (af DQ (ai o0) aw) (ai D4)) (af CZ (af DZ (ai Ak) aw) (ai Gb))))) (af Ax (af AF (af o8 u4 (af DL (af o0 (ai xS) aw) (ai KH))) (af Ag (af o7 (af C3 (ai o1) aw) (ai o1)) (af o0 (af FT (ai o1) aw) (ai FZ)))) (af o2 (af rT (af AK (af C1 (ai KL) aw) (ai FW)) (af o1 (af o0 (ai qV) aw) (ai o1))) (af o7 (af FN (af DU (ai KP) aw) (ai qV)) (af DM (af o1 (ai xU) aw) (ai Ge)))))) (af xT (af Aw (af AD (af o7 u5 (af DK (af FR (ai xR) aw) (ai o0))) (af CU (af qy (af o1 (ai o0) aw) (ai o0)) (af CY (af o0 (ai o0) aw) (ai Ik)))) (af Rk u1 (af qy (af o1 (af DR (ai Mg) aw) (ai FY)) (af o0 (af o0 (ai o0) aw) (ai Gd))))) (af Ay (af ow u2 (af AH (af DJ (af o0 (ai Il) aw) (ai FX)) (af o1 (af DY (ai Aj) aw) (ai Ga)))) (af o3 (af o0 (af CS (af C2 (ai KN) aw) (ai D2)) (af FP (af o1 (ai o7) aw) (ai Ij))) (af CP (af FO (af o0 (ai xP) aw) (ai o7)) (af C0 (af D1 (ai xV) aw) (ai Gf)))))))
noncomputable def u6:TF:=(af o0 (af o1 (ai xQ) aw) (af KG (ai Df) aw))
noncomputable def u7:TF:=(af Ie (af Ig (ai C4) aw) (af Me (ai Dj) aw))
noncomputable def u8:TF:=(af DL (af o0 (ai xS) aw) (af KH (ai Dh) aw))
noncomputable def u9:TF:=(af o1 (af o0 (ai qV) aw) (af o1 (ai Gh) aw))
noncomputable def TC:TF:=(af FN (af DU (ai KP) aw) (af qV (ai Gg) aw))
noncomputable def TH:TF:=(af DK (af FR (ai xR) aw) (af o0 (ai Dg) aw))
noncomputable def TJ:TF:=(af o0 (af Ih (ai C5) aw) (af o0 (ai Dl) aw))
noncomputable def TK:TF:=(af o1 (af DR (ai Mg) aw) (af FY (ai o0) aw))
noncomputable def TL:TF:=(af Ic (af KC (ai Ah) aw) (af Md (ai Di) aw))
noncomputable def TM:TF:=(af FP (af o1 (ai o7) aw) (af Ij (ai Gi) aw))
noncomputable def TN:TF:=(af FO (af o0 (ai xP) aw) (af o7 (ai De) aw))
noncomputable def T8:TF:=(af Au (af Av (af Rl (af Az (af o6 u3 u6) (af Af (af CT (af o0 (ai KO) aw) (af D3 (ai Dc) aw)) (af CV (af DW (ai Ai) aw) (ai o0)))) (af o0 (af o1 (af o0 (af o0 (ai Mf) aw) (af o0 (ai o7) aw)) u7) (af AJ (af o0 (af DQ (ai o0) aw) (af D4 (ai Am) aw)) (af CZ (af DZ (ai Ak) aw) (ai Gb))))) (af Ax (af AF (af o8 u4 u8) (af Ag (af o7 (af C3 (ai o1) aw) (af o1 (ai o0) aw)) (af o0 (af FT (ai o1) aw) (ai FZ)))) (af o2 (af rT (af AK (af C1 (ai KL) aw) (af FW (ai o0) aw)) u9) (af o7 TC (af DM (af o1 (ai xU) aw) (ai Ge)))))) (af xT (af Aw (af AD (af o7 u5 TH) (af CU (af qy (af o1 (ai o0) aw) (af o0 (ai Dd) aw)) (af CY (af o0 (ai o0) aw) (ai Ik)))) (af Rm (af o9 (af CQ (af FQ (ai o0) aw) (af o1 (ai C8) aw)) TJ) (af qy TK (af o0 (af o0 (ai o0) aw) (ai Gd))))) (af Ay (af ow (af o0 (af DH (af DP (ai o7) aw) (af FV (ai o0) aw)) TL) (af AH (af DJ (af o0 (ai Il) aw) (af FX (ai o1) aw)) (af o1 (af DY (ai Aj) aw) (ai Ga)))) (af o3 (af o0 (af CS (af C2 (ai KN) aw) (af D2 (ai C9) aw)) TM) (af CP TN (af C0 (af D1 (ai xV) aw) (ai Gf)))))))
noncomputable def T9:TF:=(af Au (af Av (af Rn (af Az (af o6 (af o0 (af DN (ai KI) (ai o1)) (af o0 (ai Al) aw)) u6) (af Af (af CT (af o0 (ai KO) (ai Ds)) (af D3 (ai Dc) aw)) (af CV (af DW (ai Ai) aw) (af o0 (ai o0) aw)))) (af o0 (af o1 (af o0 (af o0 (ai Mf) (ai Dn)) (af o0 (ai o7) aw)) u7) (af AJ (af o0 (af DQ (ai o0) (ai Gr)) (af D4 (ai Am) aw)) (af CZ (af DZ (ai Ak) aw) (af Gb (ai Gk) aw))))) (af Ax (af AF (af o8 (af DG (af o1 (ai qV) (ai o0)) (af FU (ai C7) aw)) u8) (af Ag (af o7 (af C3 (ai o1) (ai Du)) (af o1 (ai o0) aw)) (af o0 (af FT (ai o1) aw) (af FZ (ai Gj) aw)))) (af o2 (af rT (af AK (af C1 (ai KL) (ai Dq)) (af FW (ai o0) aw)) u9) (af o7 TC (af DM (af o1 (ai xU) aw) (af Ge (ai Gn) aw)))))) (af xT (af Aw (af AD (af o7 (af o1 (af o0 (ai KJ) (ai Dm)) (af Ii (ai C6) aw)) TH) (af CU (af qy (af o1 (ai o0) (ai Dt)) (af o0 (ai Dd) aw)) (af CY (af o0 (ai o0) aw) (af Ik (ai o7) aw)))) (af Ro (af o9 (af CQ (af FQ (ai o0) (ai Dp)) (af o1 (ai C8) aw)) TJ) (af qy TK (af o0 (af o0 (ai o0) aw) (af Gd (ai Gm) aw))))) (af Ay (af ow (af o0 (af DH (af DP (ai o7) (ai Gp)) (af FV (ai o0) aw)) TL) (af AH (af DJ (af o0 (ai Il) (ai Gq)) (af FX (ai o1) aw)) (af o1 (af DY (ai Aj) aw) (af Ga (ai o0) aw)))) (af o3 (af o0 (af CS (af C2 (ai KN) (ai Dr)) (af D2 (ai C9) aw)) TM) (af CP TN (af C0 (af D1 (ai xV) aw) (af Gf (ai o0) aw)))))))
noncomputable def TQ:TF:=(af Au (af Av (af Rp (af Az (af o6 (af o0 (af DN (af KI (ai GP) aw) (ai o1)) (af o0 (af Al (ai o0) aw) (ai Gx))) (af o0 (af o1 (af xQ (ai o1) aw) (ai o0)) (af KG (af Df (ai La) aw) (ai GH)))) (af Af (af CT (af o0 (af KO (ai o0) aw) (ai Ds)) (af D3 (af Dc (ai K9) aw) (ai o1))) (af CV (af DW (af Ai (ai G0) aw) (ai KW)) (af o0 (ai o0) (ai GK))))) (af o0 (af o1 (af o0 (af o0 (af Mf (ai o0) aw) (ai Dn)) (af o0 (af o7 (ai o0) aw) (ai KZ))) (af Ie (af Ig (af C4 (ai GY) aw) (ai o0)) (af Me (ai Dj) (ai GJ)))) (af AJ (af o0 (af DQ (af o0 (ai K5) aw) (ai Gr)) (af D4 (af Am (ai Hc) aw) (ai GD))) (af CZ (af DZ (af Ak (ai G3) aw) (ai o1)) (af Gb (ai Gk) (ai GN)))))) (af Ax (af AF (af o8 (af DG (af o1 (af qV (ai o1) aw) (ai o0)) (af FU (af C7 (ai G5) aw) (ai o0))) (af DL (af o0 (af xS (ai o0) aw) (ai KS)) (af KH (ai Dh) (ai K1)))) (af Ag (af o7 (af C3 (af o1 (ai GU) aw) (ai Du)) (af o1 (af o0 (ai G9) aw) (ai o0))) (af o0 (af FT (af o1 (ai K7) aw) (ai Gv)) (af FZ (ai Gj) (ai o0))))) (af o2 (af rT (af AK (af C1 (af KL (ai GR) aw) (ai Dq)) (af FW (af o0 (ai G7) aw) (ai GA))) (af o1 (af o0 (af qV (ai o0) aw) (ai Gs)) (af o1 (ai Gh) (ai o1)))) (af o7 (af FN (af DU (af KP (ai GW) aw) (ai o7)) (af qV (af Gg (ai He) aw) (ai o0))) (af DM (af o1 (af xU (ai o1) aw) (ai o0)) (af Ge (ai Gn) (ai K3))))))) (af xT (af Aw (af AD (af o7 (af o1 (af o0 (af KJ (ai o0) aw) (ai Dm)) (af Ii (af C6 (ai K8) aw) (ai Gy))) (af DK (af FR (af xR (ai GX) aw) (ai KR)) (af o0 (af Dg (ai Lb) aw) (ai o0)))) (af CU (af qy (af o1 (af o0 (ai o1) aw) (ai Dt)) (af o0 (af Dd (ai G8) aw) (ai GC))) (af CY (af o0 (af o0 (ai o0) aw) (ai Gu)) (af Ik (ai o7) (ai GL))))) (af Rq (af o9 (af CQ (af FQ (af o0 (ai K4) aw) (ai Dp)) (af o1 (af C8 (ai o1) aw) (ai Gz))) (af o0 (af Ih (af C5 (ai GZ) aw) (ai o1)) (af o0 (ai Dl) (ai o0)))) (af qy (af o1 (af DR (af Mg (ai GV) aw) (ai o0)) (af FY (af o0 (ai Hd) aw) (ai GF))) (af o0 (af o0 (af o0 (ai o0) aw) (ai Gw)) (af Gd (ai Gm) (ai o0)))))) (af Ay (af ow (af o0 (af DH (af DP (af o7 (ai GQ) aw) (ai Gp)) (af FV (af o0 (ai G6) aw) (ai o1))) (af Ic (af KC (af Ah (ai K6) aw) (ai KU)) (af Md (ai Di) (ai GI)))) (af AH (af DJ (af o0 (af Il (ai o0) aw) (ai Gq)) (af FX (af o1 (ai Ha) aw) (ai K0))) (af o1 (af DY (af Aj (ai G2) aw) (ai o0)) (af Ga (ai o0) (ai o1))))) (af o3 (af o0 (af CS (af C2 (af KN (ai GS) aw) (ai Dr)) (af D2 (af C9 (ai o0) aw) (ai o0))) (af FP (af o1 (af o7 (ai o1) aw) (ai o0)) (af Ij (ai Gi) (ai K2)))) (af CP (af FO (af o0 (af xP (ai o0) aw) (ai KQ)) (af o7 (af De (ai Hf) aw) (ai o1))) (af C0 (af D1 (af xV (ai G4) aw) (ai KY)) (af Gf (ai o0) (ai GO))))))))
noncomputable def TR:TF:=(af Au (af Av (af Lc (af Az (af o6 (af o0 (af DN (af KI (ai GP) aw) (af o1 (ai o0) aw)) (af o0 (af Al (ai o0) aw) (af Gx (ai Oe) aw))) (af o0 (af o1 (af xQ (ai o1) aw) (af o0 (ai Lp) aw)) (af KG (af Df (ai La) aw) (af GH (ai LH) aw)))) (af Af (af CT (af o0 (af KO (ai o0) aw) (af Ds (ai o1) aw)) (af D3 (af Dc (ai K9) aw) (af o1 (ai LC) aw))) (af CV (af DW (af Ai (ai G0) aw) (af KW (ai o0) aw)) (af o0 (af o0 (ai Lf) aw) (af GK (ai o0) aw))))) (af o0 (af o1 (af o0 (af o0 (af Mf (ai o0) aw) (af Dn (ai N9) aw)) (af o0 (af o7 (ai o0) aw) (af KZ (ai o1) aw))) (af Ie (af Ig (af C4 (ai GY) aw) (af o0 (ai Lr) aw)) (af Me (af Dj (ai Ld) aw) (af GJ (ai o0) aw)))) (af AJ (af o0 (af DQ (af o0 (ai K5) aw) (af Gr (ai Ln) aw)) (af D4 (af Am (ai Hc) aw) (af GD (ai LF) aw))) (af CZ (af DZ (af Ak (ai G3) aw) (af o1 (ai o0) aw)) (af Gb (af Gk (ai o0) aw) (af GN (ai Oi) aw)))))) (af Ax (af AF (af o8 (af DG (af o1 (af qV (ai o1) aw) (af o0 (ai Lj) aw)) (af FU (af C7 (ai G5) aw) (af o0 (ai LA) aw))) (af DL (af o0 (af xS (ai o0) aw) (af KS (ai Oc) aw)) (af KH (af Dh (ai o0) aw) (af K1 (ai o1) aw)))) (af Ag (af o7 (af C3 (af o1 (ai GU) aw) (af Du (ai o0) aw)) (af o1 (af o0 (ai G9) aw) (af o0 (ai o0) aw))) (af o0 (af FT (af o1 (ai K7) aw) (af Gv (ai Lw) aw)) (af FZ (af Gj (ai o1) aw) (af o0 (ai LL) aw))))) (af o2 (af rT (af AK (af C1 (af KL (ai GR) aw) (af Dq (ai Ll) aw)) (af FW (af o0 (ai G7) aw) (af GA (ai o0) aw))) (af o1 (af o0 (af qV (ai o0) aw) (af Gs (ai o1) aw)) (af o1 (af Gh (ai N7) aw) (af o1 (ai LJ) aw)))) (af o7 (af FN (af DU (af KP (ai GW) aw) (af o7 (ai o0) aw)) (af qV (af Gg (ai He) aw) (af o0 (ai Og) aw))) (af DM (af o1 (af xU (ai o1) aw) (af o0 (ai Ly) aw)) (af Ge (af Gn (ai Lh) aw) (af K3 (ai LN) aw))))))) (af xT (af Aw (af AD (af o7 (af o1 (af o0 (af KJ (ai o0) aw) (af Dm (ai o1) aw)) (af Ii (af C6 (ai K8) aw) (af Gy (ai Lz) aw))) (af DK (af FR (af xR (ai GX) aw) (af KR (ai o0) aw)) (af o0 (af Dg (ai Lb) aw) (af o0 (ai o0) aw)))) (af CU (af qy (af o1 (af o0 (ai o1) aw) (af Dt (ai Lm) aw)) (af o0 (af Dd (ai G8) aw) (af GC (ai LD) aw))) (af CY (af o0 (af o0 (ai o0) aw) (af Gu (ai Od) aw)) (af Ik (af o7 (ai o0) aw) (af GL (ai o1) aw))))) (af N6 (af o9 (af CQ (af FQ (af o0 (ai K4) aw) (af Dp (ai Lk) aw)) (af o1 (af C8 (ai o1) aw) (af Gz (ai LB) aw))) (af o0 (af Ih (af C5 (ai GZ) aw) (af o1 (ai o0) aw)) (af o0 (af Dl (ai o0) aw) (af o0 (ai Oh) aw)))) (af qy (af o1 (af DR (af Mg (ai GV) aw) (af o0 (ai Lo) aw)) (af FY (af o0 (ai Hd) aw) (af GF (ai o0) aw))) (af o0 (af o0 (af o0 (ai o0) aw) (af Gw (ai o1) aw)) (af Gd (af Gm (ai N8) aw) (af o0 (ai LM) aw)))))) (af Ay (af ow (af o0 (af DH (af DP (af o7 (ai GQ) aw) (af Gp (ai o0) aw)) (af FV (af o0 (ai G6) aw) (af o1 (ai o0) aw))) (af Ic (af KC (af Ah (ai K6) aw) (af KU (ai Lq) aw)) (af Md (af Di (ai o1) aw) (af GI (ai LI) aw)))) (af AH (af DJ (af o0 (af Il (ai o0) aw) (af Gq (ai Oa) aw)) (af FX (af o1 (ai Ha) aw) (af K0 (ai o1) aw))) (af o1 (af DY (af Aj (ai G2) aw) (af o0 (ai Lx) aw)) (af Ga (af o0 (ai Lg) aw) (af o1 (ai o0) aw))))) (af o3 (af o0 (af CS (af C2 (af KN (ai GS) aw) (af Dr (ai o0) aw)) (af D2 (af C9 (ai o0) aw) (af o0 (ai Of) aw))) (af FP (af o1 (af o7 (ai o1) aw) (af o0 (ai Lu) aw)) (af Ij (af Gi (ai Le) aw) (af K2 (ai LK) aw)))) (af CP (af FO (af o0 (af xP (ai o0) aw) (af KQ (ai o1) aw)) (af o7 (af De (ai Hf) aw) (af o1 (ai LG) aw))) (af C0 (af D1 (af xV (ai G4) aw) (af KY (ai o0) aw)) (af Gf (af o0 (ai Li) aw) (ai GO))))))))
noncomputable def HF(p:Program)(P:Params):Heap:=⟨Array.mk [boot_o_0 P,boot_o_1 P,xT p P,Lc p P,boot_o_4 P,boot_o_5 P,boot_o_6 P,boot_o_7 P,boot_o_8 P,boot_o_9 P,boot_o_10 P,o0 p P,N6 p P,o2 p P,o3 p P,o6 p P,o7 p P,o8 p P,o0 p P,o1 p P,o9 p P,rT p P,o0 p P,Af p P,CU p P,Ag p P,AH p P,AJ p P,qy p P,o7 p P,CP p P,o0 p P,o1 p P,DG p P,DH p P,o0 p P,CQ p P,AK p P,CS p P,CT p P,qy p P,o7 p P,DJ p P,o0 p P,o1 p P,FN p P,FO p P,o0 p P,DK p P,DL p P,Ic p P,Ie p P,o0 p P,o1 p P,FP p P,CV p P,CY p P,o0 p P,o1 p P,CZ p P,o0 p P,DM p P,C0 p P,DN p P,o0 p P,o1 p P,DP p P,o0 p P,FQ p P,C1 p P,C2 p P,o0 p P,o1 p P,C3 p P,o0 p P,DQ p P,DR p P,DU p P,o0 p P,o1 p P,FR p P,o0 p P,KC p P,Ig p P,Ih p P,o0 p P,o1 p P,DW p P,o0 p P,FT p P,DY p P,DZ p P,o0 p P,o1 p P,D1 p P,o0 p P,Ii p P,FU p P,FV p P,o0 p P,o1 p P,FW p P,D2 p P,D3 p P,o0 p P,o1 p P,FX p P,D4 p P,FY p P,qV p P,o7 p P,KG p P,o0 p P,KH p P,Md p P,Me p P,o0 p P,o1 p P,Ij p P,o0 p P,Ik p P,FZ p P,Ga p P,Gb p P,Gd p P,Ge p P,Gf p P,KI p P,KJ p P,qV p P,o7 p P,Mf p P,o0 p P,KL p P,KN p P,KO p P,o0 p P,o1 p P,Il p P,o0 p P,Mg p P,KP p P,xP p P,xQ p P,xR p P,xS p P,Ah p P,C4 p P,C5 p P,qV p P,o7 p P,Ai p P,o0 p P,o1 p P,Aj p P,Ak p P,o0 p P,xU p P,xV p P,Al p P,C6 p P,C7 p P,o0 p P,o7 p P,C8 p P,o0 p P,C9 p P,Dc p P,Dd p P,o0 p P,o1 p P,Am p P,o0 p P,Gg p P,De p P,Df p P,Dg p P,Dh p P,Di p P,Dj p P,Dl p P,Gh p P,Gi p P,o0 p P,o7 p P,Gj p P,o0 p P,Gk p P,Gm p P,Gn p P,o0 p P,o1 p P,Dm p P,o0 p P,Gp p P,Dn p P,Dp p P,Dq p P,Dr p P,Ds p P,Dt p P,Du p P,Gq p P,Gr p P,o0 p P,o7 p P,KQ p P,o0 p P,KR p P,KS p P,KU p P,o0 p P,o1 p P,Gs p P,o0 p P,KW p P,Gu p P,Gv p P,o0 p P,o1 p P,Gw p P,o0 p P,KY p P,Gx p P,Gy p P,o0 p P,o1 p P,KZ p P,Gz p P,GA p P,o0 p P,o1 p P,GC p P,o0 p P,K0 p P,GD p P,GF p P,o0 p P,o1 p P,GH p P,o0 p P,K1 p P,GI p P,GJ p P,o0 p P,o1 p P,K2 p P,GK p P,GL p P,o0 p P,o1 p P,GN p P,o0 p P,K3 p P,GO p P,GP p P,o0 p P,o1 p P,GQ p P,o0 p P,K4 p P,GR p P,GS p P,o0 p P,o1 p P,GU p P,o0 p P,K5 p P,GV p P,GW p P,o0 p P,o1 p P,GX p P,o0 p P,K6 p P,GY p P,GZ p P,o0 p P,o1 p P,G0 p P,o0 p P,K7 p P,G2 p P,G3 p P,o0 p P,o1 p P,G4 p P,o0 p P,K8 p P,G5 p P,G6 p P,o0 p P,o1 p P,G7 p P,o0 p P,K9 p P,G8 p P,G9 p P,Ha p P,Hc p P,Hd p P,He p P,Hf p P,La p P,Lb p P,o0 p P,o1 p P,Ld p P,o0 p P,N7 p P,Le p P,Lf p P,o0 p P,o1 p P,Lg p P,o0 p P,N8 p P,Lh p P,Li p P,o0 p P,o1 p P,Lj p P,o0 p P,N9 p P,Lk p P,Ll p P,o0 p P,o1 p P,Lm p P,o0 p P,Oa p P,Ln p P,Lo p P,o0 p P,o1 p P,Lp p P,o0 p P,Oc p P,Lq p P,Lr p P,o0 p P,o1 p P,Lu p P,o0 p P,Od p P,Lw p P,Lx p P,o0 p P,o1 p P,Ly p P,o0 p P,Oe p P,Lz p P,LA p P,o0 p P,o1 p P,LB p P,o0 p P,Of p P,LC p P,LD p P,o0 p P,o1 p P,LF p P,o0 p P,Og p P,LG p P,LH p P,o0 p P,o1 p P,LI p P,o0 p P,Oh p P,LJ p P,LK p P,o0 p P,o1 p P,LL p P,o0 p P,Oi p P,LM p P,LN p P],{}⟩
noncomputable def K(P:Params):PySem.W.Frag:=(nat_lit 2,xT pw P)::(nat_lit 3,Lc pw P)::(nat_lit 15,o6 pw P)::(nat_lit 22,o0 pw P)::(nat_lit 23,Af pw P)::(nat_lit 24,CU pw P)::(nat_lit 25,Ag pw P)::(nat_lit 28,qy pw P)::(nat_lit 35,o0 pw P)::(nat_lit 36,CQ pw P)::(nat_lit 37,AK pw P)::(nat_lit 40,qy pw P)::(nat_lit 47,o0 pw P)::(nat_lit 48,DK pw P)::(nat_lit 49,DL pw P)::(nat_lit 52,o0 pw P)::(nat_lit 55,CV pw P)::(nat_lit 56,CY pw P)::(nat_lit 57,o0 pw P)::(nat_lit 59,CZ pw P)::(nat_lit 60,o0 pw P)::(nat_lit 62,C0 pw P)::(nat_lit 63,DN pw P)::(nat_lit 64,o0 pw P)::(nat_lit 66,DP pw P)::(nat_lit 67,o0 pw P)::(nat_lit 69,C1 pw P)::(nat_lit 70,C2 pw P)::(nat_lit 71,o0 pw P)::(nat_lit 73,C3 pw P)::(nat_lit 74,o0 pw P)::(nat_lit 76,DR pw P)::(nat_lit 77,DU pw P)::(nat_lit 78,o0 pw P)::(nat_lit 80,FR pw P)::(nat_lit 81,o0 pw P)::(nat_lit 83,Ig pw P)::(nat_lit 84,Ih pw P)::(nat_lit 85,o0 pw P)::(nat_lit 87,DW pw P)::(nat_lit 88,o0 pw P)::(nat_lit 90,DY pw P)::(nat_lit 91,DZ pw P)::(nat_lit 92,o0 pw P)::(nat_lit 94,D1 pw P)::(nat_lit 95,o0 pw P)::(nat_lit 97,FU pw P)::(nat_lit 98,FV pw P)::(nat_lit 99,o0 pw P)::(nat_lit 102,D2 pw P)::(nat_lit 103,D3 pw P)::(nat_lit 104,o0 pw P)::(nat_lit 107,D4 pw P)::(nat_lit 108,FY pw P)::(nat_lit 109,qV pw P)::(nat_lit 116,o0 pw P)::(nat_lit 118,Ij pw P)::(nat_lit 119,o0 pw P)::(nat_lit 121,FZ pw P)::(nat_lit 122,Ga pw P)::(nat_lit 123,Gb pw P)::(nat_lit 124,Gd pw P)::(nat_lit 125,Ge pw P)::(nat_lit 126,Gf pw P)::(nat_lit 129,qV pw P)::(nat_lit 136,o0 pw P)::(nat_lit 138,Il pw P)::(nat_lit 139,o0 pw P)::(nat_lit 141,KP pw P)::(nat_lit 142,xP pw P)::(nat_lit 143,xQ pw P)::(nat_lit 144,xR pw P)::(nat_lit 145,xS pw P)::(nat_lit 146,Ah pw P)::(nat_lit 149,qV pw P)::(nat_lit 156,o0 pw P)::(nat_lit 157,xU pw P)::(nat_lit 158,xV pw P)::(nat_lit 159,Al pw P)::(nat_lit 169,o0 pw P)::(nat_lit 171,Am pw P)::(nat_lit 172,o0 pw P)::(nat_lit 174,De pw P)::(nat_lit 175,Df pw P)::(nat_lit 176,Dg pw P)::(nat_lit 177,Dh pw P)::(nat_lit 178,Di pw P)::(nat_lit 179,Dj pw P)::(nat_lit 180,Dl pw P)::(nat_lit 190,o0 pw P)::(nat_lit 192,Dm pw P)::(nat_lit 193,o0 pw P)::(nat_lit 195,Dn pw P)::(nat_lit 196,Dp pw P)::(nat_lit 197,Dq pw P)::(nat_lit 198,Dr pw P)::(nat_lit 199,Ds pw P)::(nat_lit 200,Dt pw P)::(nat_lit 201,Du pw P)::(nat_lit 211,o0 pw P)::(nat_lit 213,Gs pw P)::(nat_lit 214,o0 pw P)::(nat_lit 216,Gu pw P)::(nat_lit 217,Gv pw P)::(nat_lit 218,o0 pw P)::(nat_lit 220,Gw pw P)::(nat_lit 221,o0 pw P)::(nat_lit 223,Gx pw P)::(nat_lit 224,Gy pw P)::(nat_lit 225,o0 pw P)::(nat_lit 228,Gz pw P)::(nat_lit 229,GA pw P)::(nat_lit 230,o0 pw P)::(nat_lit 232,GC pw P)::(nat_lit 233,o0 pw P)::(nat_lit 235,GD pw P)::(nat_lit 236,GF pw P)::(nat_lit 237,o0 pw P)::(nat_lit 239,GH pw P)::(nat_lit 240,o0 pw P)::(nat_lit 242,GI pw P)::(nat_lit 243,GJ pw P)::(nat_lit 244,o0 pw P)::(nat_lit 247,GK pw P)::(nat_lit 248,GL pw P)::(nat_lit 249,o0 pw P)::(nat_lit 251,GN pw P)::(nat_lit 252,o0 pw P)::(nat_lit 254,GO pw P)::(nat_lit 255,GP pw P)::(nat_lit 256,o0 pw P)::(nat_lit 258,GQ pw P)::(nat_lit 259,o0 pw P)::(nat_lit 261,GR pw P)::(nat_lit 262,GS pw P)::(nat_lit 263,o0 pw P)::(nat_lit 265,GU pw P)::(nat_lit 266,o0 pw P)::(nat_lit 268,GV pw P)::(nat_lit 269,GW pw P)::(nat_lit 270,o0 pw P)::(nat_lit 272,GX pw P)::(nat_lit 273,o0 pw P)::(nat_lit 275,GY pw P)::(nat_lit 276,GZ pw P)::(nat_lit 277,o0 pw P)::(nat_lit 279,G0 pw P)::(nat_lit 280,o0 pw P)::(nat_lit 282,G2 pw P)::(nat_lit 283,G3 pw P)::(nat_lit 284,o0 pw P)::(nat_lit 286,G4 pw P)::(nat_lit 287,o0 pw P)::(nat_lit 289,G5 pw P)::(nat_lit 290,G6 pw P)::(nat_lit 291,o0 pw P)::(nat_lit 293,G7 pw P)::(nat_lit 294,o0 pw P)::(nat_lit 296,G8 pw P)::(nat_lit 297,G9 pw P)::(nat_lit 298,Ha pw P)::(nat_lit 299,Hc pw P)::(nat_lit 300,Hd pw P)::(nat_lit 301,He pw P)::(nat_lit 302,Hf pw P)::(nat_lit 305,o0 pw P)::(nat_lit 307,Ld pw P)::(nat_lit 308,o0 pw P)::(nat_lit 310,Le pw P)::(nat_lit 311,Lf pw P)::(nat_lit 312,o0 pw P)::(nat_lit 314,Lg pw P)::(nat_lit 315,o0 pw P)::(nat_lit 317,Lh pw P)::(nat_lit 318,Li pw P)::(nat_lit 319,o0 pw P)::(nat_lit 321,Lj pw P)::(nat_lit 322,o0 pw P)::(nat_lit 324,Lk pw P)::(nat_lit 325,Ll pw P)::(nat_lit 326,o0 pw P)::(nat_lit 328,Lm pw P)::(nat_lit 329,o0 pw P)::(nat_lit 331,Ln pw P)::(nat_lit 332,Lo pw P)::(nat_lit 333,o0 pw P)::(nat_lit 335,Lp pw P)::(nat_lit 336,o0 pw P)::(nat_lit 338,Lq pw P)::(nat_lit 339,Lr pw P)::(nat_lit 340,o0 pw P)::(nat_lit 342,Lu pw P)::(nat_lit 343,o0 pw P)::(nat_lit 345,Lw pw P)::(nat_lit 346,Lx pw P)::(nat_lit 347,o0 pw P)::(nat_lit 349,Ly pw P)::(nat_lit 350,o0 pw P)::(nat_lit 352,Lz pw P)::(nat_lit 353,LA pw P)::(nat_lit 354,o0 pw P)::(nat_lit 356,LB pw P)::(nat_lit 357,o0 pw P)::(nat_lit 359,LC pw P)::(nat_lit 360,LD pw P)::(nat_lit 361,o0 pw P)::(nat_lit 363,LF pw P)::(nat_lit 364,o0 pw P)::(nat_lit 366,LG pw P)::(nat_lit 367,LH pw P)::(nat_lit 368,o0 pw P)::(nat_lit 370,LI pw P)::(nat_lit 371,o0 pw P)::(nat_lit 373,LJ pw P)::(nat_lit 374,LK pw P)::(nat_lit 375,o0 pw P)::(nat_lit 377,LL pw P)::(nat_lit 378,o0 pw P)::(nat_lit 380,LM pw P)::(nat_lit 381,LN pw P)::[]
abbrev Im:List Addr:=[2,3,15,22,23,24,25,28,35,36,37,40,47,48,49,52,55,56,57,59,60,62,63,64,66,67,69,70,71,73,74,76,77,78,80,81,83,84,85,87,88,90,91,92,94,95,97,98,99,102,103,104,107,108,109,116,118,119,121,122,123,124,125,126,129,136,138,139,141,142,143,144,145,146,149,156,157,158,159,169,171,172,174,175,176,177,178,179,180,190,192,193,195,196,197,198,199,200,201,211,213,214,216,217,218,220,221,223,224,225,228,229,230,232,233,235,236,237,239,240,242,243,244,247,248,249,251,252,254,255,256,258,259,261,262,263,265,266,268,269,270,272,273,275,276,277,279,280,282,283,284,286,287,289,290,291,293,294,296,297,298,299,300,301,302,305,307,308,310,311,312,314,315,317,318,319,321,322,324,325,326,328,329,331,332,333,335,336,338,339,340,342,343,345,346,347,349,350,352,353,354,356,357,359,360,361,363,364,366,367,368,370,371,373,374,375,377,378,380,381]
theorem nS:∀P,Im=(K P).map (·.1):=λ_=>by kernel_rfl
abbrev hK:Hook:=kHook K Im nS
theorem Rr(w:World):(λos=>topGo treeTable pw w 11 (some (.ref 6)) 12 ⟨boot_heap w.params,Array.mk [],boot_drawn,boot_toks,os⟩ (topStub pw))=λos=>some (SH (H0 pw w.params) 187 os,(⟨denote treeTable (bW pw),bW pw,⟨0,0,0,0⟩,BF⟩:Thread)):=by
 walk_at "qk"
theorem LO(w:World):(λos=>segRun treeTable pw w 11 (some (.ref 6)) 1 1 (SH (H0 pw w.params) 187 os) (blockOf (behindTheImports pw) (mK pw) (bW pw) ⟨0,0,0,0⟩ BF))=λos=>some (.next,(ST (T0 pw w.params) 15 187 os).abs,bW pw,⟨0,0,0,0⟩):=by
 walk_at "qk"
theorem Rt(w:World):(λos=>segRunT treeTable pw w 11 (some (.ref 6)) 1 196 (ST (T0 pw w.params) 15 187 os) (piecesOf (dm pw 0 2) (mK pw) (bW pw) ⟨0,0,0,0⟩ BF))=λos=>some (.next,ST (T1 pw w.params) 28 207 os,bW pw,⟨2,0,3,8⟩):=by
 walk_at "qk"
theorem Ru(w:World):(λos=>segRunT treeTable pw w 11 (some (.ref 6)) 1 214 (ST (T1 pw w.params) 28 207 os) (piecesOf (dm pw 2 1) (mK pw) (bW pw) ⟨2,0,3,8⟩ BF))=λos=>some (.next,ST (T2 pw w.params) 40 223 os,bW pw,⟨4,0,5,8⟩):=by
 walk_at "qk"
theorem Rv(w:World):(λos=>segRunT treeTable pw w 11 (some (.ref 6)) 1 388 (ST (T2 pw w.params) 40 223 os) (piecesOf (dm pw 3 11) (mK pw) (bW pw) ⟨4,0,5,8⟩ BF))=λos=>some (.next,ST (T3 pw w.params) 78 285 os,bW pw,⟨29,0,29,4⟩):=by
 walk_at "qk"
theorem Rw(w:World):(λos=>segRunT treeTable pw w 11 (some (.ref 6)) 1 180 (ST (T3 pw w.params) 78 285 os) (piecesOf (dm pw 14 9) (mK pw) (bW pw) ⟨29,0,29,4⟩ BF))=λos=>some (.next,ST (T4 pw w.params) 109 330 os,bW pw,⟨57,0,57,8⟩):=by
 walk_at "qk"
theorem Rx(w:World):(λos=>segRunT treeTable pw w 11 (some (.ref 6)) 1 229 (ST (T4 pw w.params) 109 330 os) (piecesOf (dm pw 23 1) (mK pw) (bW pw) ⟨57,0,57,8⟩ BF))=λos=>some (.next,ST (T5 pw w.params) 129 359 os,bW pw,⟨58,0,61,28⟩):=by
 walk_at "qk"
theorem Ry(w:World):(λos=>segRunT treeTable pw w 11 (some (.ref 6)) 1 229 (ST (T5 pw w.params) 129 359 os) (piecesOf (dm pw 24 1) (mK pw) (bW pw) ⟨58,0,61,28⟩ BF))=λos=>some (.next,ST (T6 pw w.params) 149 388 os,bW pw,⟨62,0,65,26⟩):=by
 walk_at "qk"
theorem RA(w:World):(λos=>segRunT treeTable pw w 11 (some (.ref 6)) 1 197 (ST (T6 pw w.params) 149 388 os) (piecesOf (dm pw 25 1) (mK pw) (bW pw) ⟨62,0,65,26⟩ BF))=λos=>some (.next,ST (T7 pw w.params) 162 408 os,bW pw,⟨66,0,67,8⟩):=by
 walk_at "qk"
theorem RB(w:World):(λos=>segRunT treeTable pw w 11 (some (.ref 6)) 1 225 (ST (T7 pw w.params) 162 408 os) (piecesOf (dm pw 26 1) (mK pw) (bW pw) ⟨66,0,67,8⟩ BF))=λos=>some (.next,ST (T8 pw w.params) 183 439 os,bW pw,⟨68,0,72,28⟩):=by
 walk_at "qk"
theorem RC(w:World):(λos=>segRunT treeTable pw w 11 (some (.ref 6)) 1 225 (ST (T8 pw w.params) 183 439 os) (piecesOf (dm pw 27 1) (mK pw) (bW pw) ⟨68,0,72,28⟩ BF))=λos=>some (.next,ST (T9 pw w.params) 204 470 os,bW pw,⟨73,0,77,26⟩):=by
 walk_at "qk"
theorem Oj(w:World):(λos=>segRunT treeTable pw w 11 (some (.ref 6)) 1 622 (ST (T9 pw w.params) 204 470 os) (piecesOf (dm pw 28 1) (mK pw) (bW pw) ⟨73,0,77,26⟩ BF))=λos=>some (.next,ST (TQ pw w.params) 305 614 os,bW pw,⟨78,0,194,34⟩):=by
 walk_at "qk"
theorem Ol(w:World):(λos=>segRunT treeTable pw w 11 (some (.ref 6)) 1 384 (ST (TQ pw w.params) 305 614 os) (piecesOf (dm pw 29 12) (mK pw) (bW pw) ⟨78,0,194,34⟩ BF))=λos=>some (.next,ST (TR pw w.params) 382 748 os,bW pw,⟨299,0,330,53⟩):=by
 walk_at "qk"
theorem RD(w:World):(λos=>topRun treeTable pw w 11 (some (.ref 6)) 2 (ST (TR pw w.params) 382 748 os).abs ⟨doneF .next,bW pw,⟨299,0,330,53⟩,BF⟩)=λos=>some (SH (HF pw w.params) 748 os):=by
 walk_at "qk"
theorem Om:behindTheImports pw=dm pw 0 2++(dm pw 2 1++(dm pw 3 11++(dm pw 14 9++(dm pw 23 1++(dm pw 24 1++(dm pw 25 1++(dm pw 26 1++(dm pw 27 1++(dm pw 28 1++(dm pw 29 12++([]))))))))))):=by
 kernel_rfl
theorem RE(w:World)(os:OsState):topRun treeTable pw w 11 (some (.ref 6)) (12 + (1 + (196 + (214 + (388 + (180 + (229 + (229 + (197 + (225 + (225 + (622 + (384 + 2))))))))))))) ⟨boot_heap w.params,Array.mk [],boot_drawn,boot_toks,os⟩ (topStub pw)=some (SH (HF pw w.params) 748 os):=by
 have k:topRun treeTable pw w 11 (some (.ref 6)) (196 + (214 + (388 + (180 + (229 + (229 + (197 + (225 + (225 + (622 + (384 + 2))))))))))) (ST (T0 pw w.params) 15 187 os).abs (restOf (dm pw 0 2++(dm pw 2 1++(dm pw 3 11++(dm pw 14 9++(dm pw 23 1++(dm pw 24 1++(dm pw 25 1++(dm pw 26 1++(dm pw 27 1++(dm pw 28 1++(dm pw 29 12++([])))))))))))) (mK pw) (bW pw) ⟨0,0,0,0⟩ BF)=some (SH (HF pw w.params) 748 os):=piece_app (segRun_of (congrFun (Rt w) os)) (piece_app (segRun_of (congrFun (Ru w) os)) (piece_app (segRun_of (congrFun (Rv w) os)) (piece_app (segRun_of (congrFun (Rw w) os)) (piece_app (segRun_of (congrFun (Rx w) os)) (piece_app (segRun_of (congrFun (Ry w) os)) (piece_app (segRun_of (congrFun (RA w) os)) (piece_app (segRun_of (congrFun (RB w) os)) (piece_app (segRun_of (congrFun (RC w) os)) (piece_app (segRun_of (congrFun (Oj w) os)) (piece_app (segRun_of (congrFun (Ol w) os)) (congrFun (RD w) os)))))))))))
 rw[← Om]at k
 exact go_top (congrFun (Rr w) os) (piece_block (congrFun (LO w) os) k)
theorem l0(w:World):(λos=>staticsOk (importedModules pw.main.body) (boot_heap w.params) (HF pw w.params)&&namesBound pw (HF pw w.params)&&gensDone (SH (HF pw w.params) 748 os)&&laidKept (boot_heap w.params) (HF pw w.params))=λ_=>true:=by
 walk_at "qk"
theorem l1(w:World):(λos=>PyProof.Rows.seen ((PyProof.Rows.recsOf (bU pw)).map (·.name)) (PyProof.Rows.ownsOf (bU pw)) [] {(SH (HF pw w.params) 748 os)with gens:=#[]})=λ_=>PyProof.Rows.expectedOf (bU pw):=by
 walk_at "qk"
theorem l2(w:World):(λos=>(SH (HF pw w.params) 748 os).heap.bltView)=λ_=>bltViewBooted:=by
 walk_at "qk"
theorem l3(w:World):(λos=>(SH (HF pw w.params) 748 os).heap.keysOk (looseW (bU pw) []) ((PyProof.Rows.recsOf (bU pw)).map (·.name)) ((PyProof.Rows.litsOf (bU pw)).map (·.1)) ((PyProof.Rows.clssOf (bU pw) (looseW (bU pw) [])).map (·.name))&&(SH (HF pw w.params) 748 os).heap.accountedOkI (importedModules pw.main.body)&&(SH (HF pw w.params) 748 os).heap.isNs mainGlobals&&(SH (HF pw w.params) 748 os).heap.isNs builtinsNs&&PyProof.Rows.tablesOk (bU pw) (SH (HF pw w.params) 748 os).heap&&(λs=>xlAt (bU pw) [] s&&recOk (RowW.records (OpenRow.toRowW PySem.Challenge.rw_stackwarden_k67_loops_and_budget.row)) s) (SH (HF pw w.params) 748 os)&&(if true then(SH (HF pw w.params) 748 os).gens.size == 0 else !leftWithCleanup (SH (HF pw w.params) 748 os).gens))=λ_=>true:=by
 walk_at "qk"
theorem l4(w:World):(λos=>PyProof.Rows.tabsOk (bU pw) (SH (HF pw w.params) 748 os))=λ_=>true:=by
 walk_at "qk"
theorem l5(w:World):(λos=>pinSeenD (bU pw) (PyProof.Rows.drecsOf (bU pw)) (SH (HF pw w.params) 748 os))=λ_=>pinGoodD (PyProof.Rows.drecsOf (bU pw)):=by
 walk_at "qk"
theorem l6(w:World):(λos=>PyProof.Rows.plainSeenE (bU pw) (looseW (bU pw) []) (SH (HF pw w.params) 748 os))=λ_=>PyProof.Rows.plainGoodE (bU pw) (looseW (bU pw) []):=by
 walk_at "qk"
theorem l7(w:World):(λos=>PyProof.Rows.plainSeenD (bU pw) [] (SH (HF pw w.params) 748 os))=λ_=>PyProof.Rows.plainGoodD (bU pw) []:=by
 walk_at "qk"
theorem l8(w:World):(λos=>wideSeen (bU pw) (SH (HF pw w.params) 748 os))=λ_=>wideGood (bU pw):=by
 walk_at "qk"
theorem l9(w:World):(λos=>clsSeenW (bU pw) [] (SH (HF pw w.params) 748 os))=λ_=>clsGoodW (bU pw) []:=by
 walk_at "qk"
theorem lY(w:World):(λos=>hK.obs (SH (HF pw w.params) 748 os))=λ_=>hK.val w:=by
 show(λos=>Im.map (SH (HF pw w.params) 748 os).heap.get?)=λ_=>(K w.params).map λp=>some p.2
 unfold K
 walk_at "qk"
theorem hl:LeftO pw (bU pw) [] (λs=>xlAt (bU pw) [] s&&recOk (RowW.records (OpenRow.toRowW PySem.Challenge.rw_stackwarden_k67_loops_and_budget.row)) s) hK.obs hK.val 6282:=by
 refine LeftO.of_pieces (m₀:=11) (ann:=(some (.ref 6))) (M:=(12 + (1 + (196 + (214 + (388 + (180 + (229 + (229 + (197 + (225 + (225 + (622 + (384 + 2)))))))))))))) (boot_open (by kernel_rfl) (by decide) (λs=>by kernel_rfl)) (λw=>?_) RE (by decide) (λw=>?_)
 ·walk_at "qk"
 ·funext os
  exact looks_pair (congrFun (l0 w) os) (looks_pair (looks_pair (congrFun (l1 w) os) (looks_pair (congrFun (l2 w) os) (looks_pair (congrFun (l3 w) os) (looks_pair (congrFun (l4 w) os) (looks_pair (congrFun (l5 w) os) (looks_pair (congrFun (l6 w) os) (looks_pair (congrFun (l7 w) os) (looks_pair (congrFun (l8 w) os) (congrFun (l9 w) os))))))))) (congrFun (lY w) os))
end MH
end
open PySem PySem.W PyProof.Rows
local macro_rules | `(tactic| walk_at "dk") => `(tactic| (refine' ⟨_, _, ?w, L2.pd ?x ?y ?z⟩; (case w => k_is); (case x => k_is); (case y => k_is); (case z => k_is)))
local macro_rules | `(tactic| walk_at "mk") => `(tactic| (refine' ⟨⟨_, L2.pd ?x ?y ?z⟩, ?w⟩; (case x => k_is); (case y => k_is); (case z => k_is); (case w => k_is)))
set_option maxRecDepth 100000 in
set_option maxHeartbeats 0 in
theorem PySem.Challenge.cw_stackwarden_k67_loops_and_budget_holds : PySem.Challenge.rw_stackwarden_k67_loops_and_budget.Holds := by
  w_on; o_law
  refine PySem.W.holds_open (q := (MH.bU PySem.Challenge.pw_stackwarden_k67_loops_and_budget)) (loose := []) (Xt := (fun s => xlAt (MH.bU PySem.Challenge.pw_stackwarden_k67_loops_and_budget) [] s && recOk (RowW.records (OpenRow.toRowW PySem.Challenge.rw_stackwarden_k67_loops_and_budget.row)) s)) (XP := XL (MH.bU PySem.Challenge.pw_stackwarden_k67_loops_and_budget) []) (Yf := Hook.obs (kHook MH.K MH.Im MH.nS)) (Ya := Hook.val (kHook MH.K MH.Im MH.nS)) (YP := Hook.says (kHook MH.K MH.Im MH.nS)) (N := 6282) MH.hl (Hook.of (kHook MH.K MH.Im MH.nS)) (Hook.keeps (kHook MH.K MH.Im MH.nS)) (fun s e => xl_of s (Bool.and_eq_true_iff.mp e).1) XL.keeps (by rfl) (by rfl) (by rfl) (fun s e => recFacts_of (Bool.and_eq_true_iff.mp e).2) (by rfl) (by first | assumption | decide +kernel) (by decide +kernel) ⟨rfl, rfl, rfl, rfl, rfl, by decide +kernel⟩ ?hw ?hc
  case hw => w_witness2
  k_fill
  refine Mine.walk (l := PySem.Challenge.rw_stackwarden_k67_loops_and_budget) rfl rfl (fun w h Y => PySem.W.kIn_of Y) ?F
  case F =>
    intro w mg fa h KX G hmg
    refine' Mine.all_mk KX G hmg ?uc ?ud ?ue ?uf ?ug ?uh ?ui ?iH ?iI ?fC ?lK ?lL ?lM ?lN ?lO ?lP ?lQ ?dN ?gm ?gn ?cJ ?fD ?bT ?bt ?bB ?bX ?bN ?bC ?cK ?cZ ?eW ?dh ?d0 ?d1 ?d2 ?d3 ?d4 ?d5 ?d6 ?d7 ?d8 ?d9 ?Qy ?Qz ?QA ?QB ?QC ?QD ?QE ?QF ?QG ?QH ?QI ?QJ ?QK ?QL ?QM ?QN ?QO ?QP ?QQ ?QR ?QS ?QT ?QU ?QV ?nv ?dE ?gM ?qi ?bM ?cI ?gf ?jB ?iW ?iX ?mz ?fT ?gO ?gP ?cy ?eU ?eV ?nF ?nG ?nI ?nJ ?nK ?nM ?nO ?nP ?mH ?nQ ?qk ?ql ?qo ?qp ?qq ?qr ?qt ?qu ?oN ?qv ?mx ?qa ?my ?km ?dU ?dW ?dX ?dY ?dZ ?ee ?vQ ?Cr ?vS ?vT ?kq ?kr ?ku ?ky ?kz ?kA ?Ct ?Cu ?Cv ?Cw ?Cy ?vN ?p9 ?qj ?eT ?vL ?bS ?kl ?gL ?jA ?mw ?vW
    (case uc => k_is)
    (case ud => k_is)
    (case ue => k_is)
    (case uf => k_is)
    (case ug => k_is)
    (case uh => k_is)
    (case ui => k_is)
    (case iH => k_is)
    (case iI => k_is)
    (case fC => k_is)
    (case lK => k_is)
    (case lL => k_is)
    (case lM => k_is)
    (case lN => k_is)
    (case lO => k_is)
    (case lP => k_is)
    (case lQ => k_is)
    (case dN => k_is)
    (case gm => k_is)
    (case gn => k_is)
    (case cJ => k_is)
    (case fD => k_is)
    (case bT => k_is)
    (case bt => k_is)
    (case bB => k_is)
    (case bX => k_is)
    (case bN => k_is)
    (case bC => k_is)
    (case cK => k_is)
    (case cZ => k_is)
    (case eW => k_is)
    (case dh => k_is)
    (case d0 => walk_at "dk")
    (case d1 => walk_at "dk")
    (case d2 => walk_at "dk")
    (case d3 => walk_at "dk")
    (case d4 => walk_at "dk")
    (case d5 => walk_at "dk")
    (case d6 => walk_at "dk")
    (case d7 => walk_at "dk")
    (case d8 => walk_at "dk")
    (case d9 => walk_at "dk")
    (case Qy => walk_at "dk")
    (case Qz => walk_at "dk")
    (case QA => walk_at "dk")
    (case QB => walk_at "mk")
    (case QC => walk_at "mk")
    (case QD => walk_at "mk")
    (case QE => walk_at "mk")
    (case QF => walk_at "dk")
    (case QG => walk_at "dk")
    (case QH => walk_at "dk")
    (case QI => walk_at "mk")
    (case QJ => walk_at "mk")
    (case QK => walk_at "mk")
    (case QL => walk_at "mk")
    (case QM => walk_at "mk")
    (case QN => walk_at "mk")
    (case QO => walk_at "mk")
    (case QP => walk_at "mk")
    (case QQ => walk_at "mk")
    (case QR => walk_at "dk")
    (case QS => k_is)
    (case QT => k_is)
    (case QU => k_is)
    (case QV => k_is)
    (case nv => k_is)
    (case dE => k_is)
    (case gM => k_is)
    (case qi => k_is)
    (case bM => k_is)
    (case cI => kts_isx)
    (case gf => k_is)
    (case jB => kts_isx)
    (case iW => k_is)
    (case iX => k_exc)
    (case mz => kts_isx)
    (case fT => k_is)
    (case gO => k_exc)
    (case gP => kts_isx)
    (case cy => k_is)
    (case eU => k_exc)
    (case eV => kts_isx)
    (case nF => k_is)
    (case nG => k_is)
    (case nI => k_is)
    (case nJ => k_is)
    (case nK => k_is)
    (case nM => k_is)
    (case nO => k_is)
    (case nP => k_is)
    (case mH => kernel_rfl!)
    (case nQ => k_is)
    (case qk => k_is)
    (case ql => k_is)
    (case qo => k_is)
    (case qp => k_is)
    (case qq => k_is)
    (case qr => k_is)
    (case qt => k_is)
    (case qu => k_is)
    (case oN => kernel_rfl!)
    (case qv => k_is)
    (case mx => refine L2.tm ?_ ?_ ?_ ?_ ?_ ?_ <;> first | (show _ = some true; kit_is) | (show _ = some false; kit_is))
    (case qa => refine L2.tm ?_ ?_ ?_ ?_ ?_ ?_ <;> first | (show _ = some true; kit_is) | (show _ = some false; kit_is))
    (case my => refine L2.tm ?_ ?_ ?_ ?_ ?_ ?_ <;> first | (show _ = some true; kit_is) | (show _ = some false; kit_is))
    (case km => refine L2.tm ?_ ?_ ?_ ?_ ?_ ?_ <;> first | (show _ = some true; kit_is) | (show _ = some false; kit_is))
    (case dU => k_is)
    (case dW => k_is)
    (case dX => k_is)
    (case dY => k_is)
    (case dZ => k_is)
    (case ee => k_is)
    (case vQ => k_is)
    (case Cr => k_is)
    (case vS => k_is)
    (case vT => k_is)
    (case kq => k_is)
    (case kr => k_is)
    (case ku => k_is)
    (case ky => k_is)
    (case kz => k_is)
    (case kA => k_is)
    (case Ct => k_is)
    (case Cu => k_is)
    (case Cv => k_is)
    (case Cw => k_is)
    (case Cy => k_is)
    (case vN => k_is)
    (case p9 => k_is)
    (case qj => k_is)
    (case eT => k_is)
    (case vL => k_is)
    (case bS => k_is)
    (case kl => k_is)
    (case gL => k_is)
    (case jA => k_is)
    (case mw => k_is)
    (case vW => k_is)
#print axioms PySem.Challenge.cw_stackwarden_k67_loops_and_budget_holds
