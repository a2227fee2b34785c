import PyProof.Rows.All
import Wide.All
import OpenK.AllK
import Wide.FinOn
import Lean
import PyProof.EqAt
import PyProof.EqKinds
import PyProof.TupleCall
import PyProof.ZipIter
import KE.KTryDeep
import KE.KIsAll
import KE.KIntText
import PyProof.ExcArgsOwn
import PySem.Challenge.RW_stackwarden_k29_wrong_books
def Xk:=@List.length_map
def Xl:=@PySem.Heap.get?_push_of_some
def Xm:=@decide_eq_true
def Xn:=@PySem.wpAny_bind
def Xo:=@Or.inl
def Xp:=@decide_eq_false
def Xq:=@Bool.false_ne_true
def Xr:=@PySem.Heap.lt_size
def Xs:=@Nat.lt_of_lt_of_le
def Xu:=@Nat.le_refl
def Xv:=@Nat.ne_of_lt
def Xw:=@List.length_append
def Xx:=@PySem.wpAny_pure
def Xy:=@List.mem_of_getElem?
def Xz:=@PySem.Heap.get?_push_size
def XA:=@if_neg
def XB:=@if_pos
def XC:=@List.length_take
def XE:=@List.getElem?_append_left
def XF:=@List.getElem?_set_self
def XH:=@Bool.false_and
def XI:=@of_decide_eq_true
def XJ:=@List.getElem?_map
def XM:=@List.getElem?_set_ne
def XN:=@Bool.and_eq_true
def XO:=@List.getElem?_append_right
def XQ:=@PySem.W.mg_none_of
def XR:=@List.length_cons
def XS:=@PySem.wpAny_loadPart_at
def XT:=@Nat.le_trans
def XU:=@List.mem_append_right
def XW:=@PySem.W.mg_of
def XX:=@Option.some.inj
def XY:=@Nat.le_add_left
def XZ:=@List.mem_cons_self
def X0:=@PySem.wpAny_truthy_bool
def X1:=@Int.toNat_natCast
def X2:=@List.mem_cons_of_mem
def X3:=@Nat.zero_le
def X4:=@List.mem_cons
def X5:=@Bool.true_and
def X6:=@PySem.wpAny_mono
def X7:=@congrArg
def X8:=@List.all_eq_true
def X9:=@List.replicate_succ
def Yb:=@List.map_append
def Yc:=@List.mem_singleton
def Yd:=@decide_eq_true_iff
def Ye:=@List.flatten_cons
def Yg:=@List.mem_append
def Yh:=@List.getElem?_zip_eq_some
def Yi:=@Bool.and_eq_false_iff
def Yj:=@List.map_cons
def Yk:=@List.size_toArray
def Yl:=@PyProof.Rows.callWith_type1
def Ym:=@PySem.PassesOwn.never
def Yn:=@PySem.F.plain_min_loop
def Yo:=@List.findIdx?_eq_some_iff_getElem
def Yp:=@Nat.lt_irrefl
def Yq:=@List.length_replicate
def Yr:=@Nat.ne_of_gt
def Ys:=@List.append_nil
def Yt:=@PySem.W.kia_one
def Yu:=@List.getElem?_of_mem
def Yv:=@PySem.wpAny_newObj_type
def Yw:=@List.map_congr_left
def Yx:=@List.length_drop
def Yy:=@PySem.wpAny_Call_Name_kw
def Yz:=@PySem.wpAny_passesOwn
def YA:=@List.length_set
def YB:=@Int.emod_nonneg
def YC:=@List.take_append_drop
def YD:=@Or.inr
def YE:=@List.map_map
def YF:=@List.mem_flatten
def YG:=@Nat.le_add_right
def YH:=@List.mem_map
def YI:=@Nat.succ_ne_zero
def YJ:=@List.cons_ne_nil
def YL:=@PySem.mem_of_lookup
def YM:=@PyProof.Rows.slot_tuple_getitem
def YN:=@List.length_eq_zero_iff
def YO:=@PySem.wpAny_execs_nil
def YQ:=@List.getElem?_drop
def YR:=@Nat.lt_of_le_of_lt
def YS:=@Int.emod_lt_of_pos
def YT:=@PySem.Heap.get?_update_other
def YU:=@PySem.F.slot_str_split
def YV:=@Bool.eq_false_iff
def YW:=@List.ext_getElem?
def YX:=@PySem.W.looks_findIn
def YY:=@PySem.Heap.get?_update_self
def YZ:=@Nat.succ.inj
def Y0:=@List.getElem_mem
def Y1:=@PySem.F.excAttr_ValueError
def Y2:=@List.mem_of_mem_take
def Y3:=@Int.lt_irrefl
def Y4:=@Ne.symm
def Y5:=@List.mem_or_eq_of_mem_set
def Y6:=@List.findIdx?_eq_none_iff
def Y7:=@List.getElem?_take_of_lt
def Y8:=@PySem.F.args_str_split_2
def Y9:=@List.map_replicate
def Za:=@True.intro
def Zb:=@PySem.Heap.size_push
def Zc:=@PySem.wpAny_seqItems
def Zd:=@PySem.call_meets
def Ze:=@beq_iff_eq
def Zf:=@PySem.F.entry_str_split
def Zg:=@decide_eq_false_iff_not
def Zh:=@List.all_eq_false
def Zi:=@PyProof.Rows.subscriptTail_builtinR
def Zj:=@PySem.F.entry_min_loop
def Zl:=@List.map_id
def Zm:=@Nat.le_add_right_of_le
def Zn:=@PySem.wpAny_holding
def Zo:=@Bool.not_eq_true
def Zp:=@decide_eq_decide
def Zq:=@List.take_succ_eq_append_getElem
def Zr:=@List.mem_append_left
def Zs:=@PySem.typeIs_str
def Zt:=@PySem.codeAny_call_builtin
def Zu:=@PySem.wpAny_ite_false
def Zv:=@PySem.F.slot_int_rmul
def Zw:=@PySem.Around.under_plainId
def Zx:=@Nat.lt_or_ge
def Zy:=@List.take_append_of_le_length
def Zz:=@PySem.wpAny_isSubtype_exc
def ZA:=@ne_true_of_eq_false
def ZC:=@List.length_reverse
def ZD:=@PySem.wpAny_tryCatch
def ZE:=@List.mem_filterMap
def ZF:=@PySem.W.callWith_K
def ZG:=@PySem.wpAny_pyIter_tuple
def ZH:=@PySem.Heap.get?_some_iff
def ZI:=@List.zip_cons_cons
def ZJ:=@Nat.eq_zero_or_pos
def ZK:=@PySem.Calls.Name_function_global
def ZL:=@List.all_cons
def ZM:=@PySem.wpAny_standAt
def ZN:=@List.append_assoc
def ZO:=@PySem.wpAny_pyIter_list
def ZP:=@PySem.typeIs_int
def ZQ:=@PySem.wpAny_binaryOp_repeat_ref
def ZR:=@List.mem_of_find?_eq_some
def ZS:=@PySem.wpAny_execs_cons
def ZT:=@PySem.codeAny_mono
def ZU:=@Option.isSome_iff_exists
def ZV:=@PySem.F.args_tuple_add_2
def ZW:=@Nat.add_comm
def ZX:=@List.lookup_cons
def ZY:=@PySem.wpAny_comprehension_free
def ZZ:=@Nat.sub_self
def Z0:=@List.take_length
def Z1:=@PySem.F.entry_tuple_add
def Z2:=@PyProof.Rows.intBits_le
def Z3:=@Nat.lt_add_of_pos_right
def Z4:=@PySem.wpAny_pyNext_tuple_item
def Z5:=@PySem.codeAny_builtin
def Z6:=@PySem.W.cellsFrom_some
def Z7:=@PySem.F.slot_tuple_add
def Z8:=@PySem.wpAny_Call_method_late
def Z9:=@PySem.Calls.callWith_builtin
def aaa:=@Nat.le_succ
def aab:=@PySem.wpAny_letGo
def aac:=@List.flatten_singleton
def aad:=@Option.map_eq_some_iff
def aae:=@List.take_of_length_le
def aaf:=@List.mem_range
def aag:=@PySem.F.slot_dict_get
def aai:=@List.getElem?_eq_none
def aaj:=@PySem.wpAny_call
def aak:=@List.getElem?_zipIdx
def aam:=@beq_eq_false_iff_ne
def aan:=@List.flatten_append
def aao:=@List.getElem?_range
def aap:=@Nat.le_of_lt
def aas:=@Nat.le_of_eq
def aau:=@Nat.succ_pos
def aav:=@Nat.zero_add
abbrev aJ:=PySem.W.Frag
theorem Ol:2<=PySem.sizeLine:=by decide
theorem xF{α:Type}{a b:α}(h:a∈[b]):a=b:=Yc.mp h
theorem bX{α:Type}{l:List α}{i:Nat}{a:α}(h:l[i]?=some a):∃h:i < l.length,l[i]=a:=List.getElem?_eq_some_iff.mp h
theorem dC{α:Type}{l:List α}{i:Nat}(h:i < l.length):l[i]?=some l[i]:=List.getElem?_eq_getElem h
namespace SD
open PySem PySem.W PyProof.Rows
set_option maxRecDepth 100000 in
set_option maxHeartbeats 0 in
theorem Om:PySem.Challenge.rw_stackwarden_k29_wrong_books.row.partSaid=true:=by
 kernel_rfl
set_option maxRecDepth 100000 in
set_option maxHeartbeats 0 in
theorem Oo:PySem.Challenge.rw_stackwarden_k29_wrong_books.wellSaid=true:=by
 unfold OpenLaw.wellSaid
 repeat' (with_reducible refine look_both ?_ ?_)
 unfold OpenRow.wellSaid
 repeat' (with_reducible refine look_both ?_ ?_)
 exact Om
 all_goals kernel_rfl
end SD
set_option Elab.async false
set_option compiler.extract_closed false
set_option linter.all false
set_option maxRecDepth 100000
namespace L2
open PySem PySem.Spec PyProof.Rows
abbrev Key:=Sum Int Str
def Di:Key->Value->Bool
 | .inl k,v=>Value.isInt k v
 | .inr x,v=>Value.isStrOf x v
def SA(w:World):Key->Int
 | .inl k=>hashInt k
 | .inr x=>hashStr w x
theorem bR:∀{k:Key} {v:Value},Di k v=true->(∃i t,k=Sum.inl i/\v=Value.int i t)∨(∃x t,k=Sum.inr x/\v=Value.str x t)
 | .inl i,v,h=>by
  obtain⟨t,e⟩:=Value.isInt_shape (k:=i) (v:=v) h;exact .inl ⟨i,t,rfl,e⟩
 | .inr x,v,h=>by
  obtain⟨t,e⟩:=Value.isStrOf_shape (x:=x) (v:=v) h;exact .inr ⟨x,t,rfl,e⟩
theorem Kw(a b:Int):decide ((Sum.inl a:Key)=Sum.inl b)=(a == b):=by
 by_cases e:a=b
 ·subst e;simp
 ·have h:¬ (Sum.inl a:Key)=Sum.inl b:=λq=>e (Sum.inl.inj q)
  rw[Xp h];exact(aam.mpr e).symm
theorem Kx(a b:Str):decide ((Sum.inr a:Key)=Sum.inr b)=decide (a=b):=by
 by_cases e:a=b
 ·subst e;simp
 ·have h:¬ (Sum.inr a:Key)=Sum.inr b:=λq=>e (Sum.inr.inj q)
  rw[Xp h,Xp e]
theorem Ky(a:Int)(b:Str):decide ((Sum.inl a:Key)=Sum.inr b)=false:=Xp (λq=>nomatch q)
theorem Kz(a:Str)(b:Int):decide ((Sum.inr a:Key)=Sum.inl b)=false:=Xp (λq=>nomatch q)
def vC(prog:Program)(w:World):PySem.KeyKind prog w Key where
 is:=Di
 hash:=SA w
 inj:=λv a b ha hb=>by
  rcases bR ha with⟨i,t,rfl,rfl⟩ | ⟨x,t,rfl,rfl⟩
  ·rcases bR hb with⟨j,u,rfl,e⟩ | ⟨y,u,rfl,e⟩
   ·injection e with e1 _;rw[e1]
   ·exact nomatch e
  ·rcases bR hb with⟨j,u,rfl,e⟩ | ⟨y,u,rfl,e⟩
   ·exact nomatch e
   ·injection e with e1 _;rw[e1]
 byValue:=λk v h=>by
  rcases bR h with⟨i,t,rfl,rfl⟩ | ⟨x,t,rfl,rfl⟩<;>rfl
 pyHash:=λhv h=>by
  rcases bR hv with⟨i,t,rfl,rfl⟩ | ⟨x,t,rfl,rfl⟩
  ·exact wpAny_pyHash_int h
  ·exact wpAny_pyHash_str h
 eqBool:=λhu hv h=>by
  rcases bR hu with⟨i,t,rfl,rfl⟩ | ⟨x,t,rfl,rfl⟩
  ·rcases bR hv with⟨j,u,rfl,rfl⟩ | ⟨y,u,rfl,rfl⟩
   ·rw[Kw]at h;exact wpAny_eqBool_int h
   ·rw[Ky]at h;exact SeqAt.EqAt.int_str i t y u _ _ _ _ h
  ·rcases bR hv with⟨j,u,rfl,rfl⟩ | ⟨y,u,rfl,rfl⟩
   ·rw[Kz]at h;exact SeqAt.EqAt.str_int x t j u _ _ _ _ h
   ·rw[Kx]at h;exact wpAny_eqBool_str h
 «strs»:=λk x t v h=>by
  rcases bR h with⟨i,u,rfl,e⟩ | ⟨y,u,rfl,e⟩
  ·exact nomatch e
  ·injection e with e1 _
   subst e1;cases v<;>rfl
inductive V where
 | non | bl (b:Bool) | int (i:Int) | str (x:Str) | byt (b:Array UInt8) | flt (b:UInt64) | ref (a:Addr) | ty (n:String)
 deriving DecidableEq
def RelV:V->Value->Prop
 | .non,u=>u=Value.none
 | .bl b,u=>u=Value.bool b
 | .int i,u=>∃t,u=Value.int i t
 | .str x,u=>∃t,u=Value.str x t
 | .byt b,u=>∃t,u=Value.bytes b t
 | .flt b,u=>∃t,u=Value.float b t
 | .ref a,u=>u=Value.ref a
 | .ty n,u=>u=Value.type n
abbrev Vals:List V->List Value->Prop:=Paired RelV
theorem Vals.length{xs:List V}{us:List Value}(r:Vals xs us):xs.length=us.length:=Paired.length r
theorem Vals.get:∀{xs:List V} {us:List Value} {i:Nat} {x:V},Vals xs us->xs[i]?=some x->∃u,us[i]?=some u/\RelV x u
 | _,_,_,_,.nil,e=>by simp at e
 | _,_,0,_,.cons r _,e=>by simp at e;subst e;exact⟨_,rfl,r⟩
 | _,_,i + 1,x,.cons _ t,e=>by
  obtain⟨u,h1,h2⟩:=Vals.get (i:=i) (x:=x) t (by simpa using e);exact⟨u,by simpa using h1,h2⟩
theorem Vals.append:∀{xs ys:List V} {us ws:List Value},Vals xs us->Vals ys ws->Vals (xs++ys) (us++ws)
 | _,_,_,_,.nil,s=>s
 | _,_,_,_,.cons r t,s=>.cons r (Vals.append t s)
theorem Vals.take:∀{xs:List V} {us:List Value} (n:Nat),Vals xs us->Vals (xs.take n) (us.take n)
 | _,_,0,_=>.nil
 | _,_,_ + 1,.nil=>.nil
 | _,_,n + 1,.cons r t=>.cons r (Vals.take n t)
theorem Vals.drop:∀{xs:List V} {us:List Value} (n:Nat),Vals xs us->Vals (xs.drop n) (us.drop n)
 | _,_,0,r=>r
 | _,_,_ + 1,.nil=>.nil
 | _,_,n + 1,.cons _ t=>Vals.drop n t
def xG:Option V->Option Value->Prop
 | some v,some u=>RelV v u
 | none,none=>True
 | _,_=>False
def KV{κ:Type}:List (κ×V)->List (κ×Value)->Prop:=Paired λ(p:κ×V) (q:κ×Value)=>p.1=q.1/\RelV p.2 q.2
def kV:Key->V
 | .inl i=>.int i
 | .inr x=>.str x
inductive HO where
 | lst (xs:List V)
 | tup (xs:List V)
 | dK (kvs:List (Key×V)) | dT (kvs:List (List Key×V))
 | set (S:Int->Bool) (n:Nat)
 | ins (C dx:Addr) (fs:List (Str×V))
 | own (x:Addr)
 | xd (fs:List (Str×V))
 | met (f x:Addr)
 | rng (lo hi:Int)
 | mi (o:Obj) (u:HO)
 | tbl (ps:Array Value)
 | ext (φ:Heap->Prop)
abbrev Hp:=Addr->Option HO
def upd(H:Hp)(a:Addr)(o:HO):Hp:=λb=>if b=a then some o else H b
theorem uS{H:Hp}{a:Addr}{o:HO}:upd H a o a=some o:=by unfold upd;rw[if_pos rfl]
theorem uN{H:Hp}{a b:Addr}{o:HO}(h:b≠a):upd H a o b=H b:=by unfold upd;rw[if_neg h]
theorem xH{H:Hp}{a b:Addr}{o u:HO}(h:H a=some o)(h':H b=some u)(d:o≠u):a≠b:=by
 intro e;subst e;rw[h]at h';exact d (XX h')
theorem nN{H:Hp}{a b:Addr}{o:HO}(h:H a=some o)(h':H b=none):a≠b:=by
 intro e;subst e;rw[h]at h';cases h'
section
variable (P:Program) (w:World)
def gm(H:Hp)(h:Heap)(a:Addr):HO->Prop
 | .lst xs=>xs.length<=sizeLine/\∃(its:List Value) (n:Nat),Vals xs its/\h.get? a=some {cls:=.type "list",data:=.seq its.toArray n}
 | .tup xs=>xs.length<=sizeLine/\∃its:List Value,Vals xs its/\IsTup h a its.toArray
 | .dK kvs=>kvs.length<=sizeLine/\(a == sysModules)=false/\∃vs,KV kvs vs/\h.DictOf (vC P w) a vs
 | .dT kvs=>kvs.length<=sizeLine/\(a == sysModules)=false/\∃xs:List (List Key×Addr×Value),
   Paired (λ(p:List Key×V) (q:List Key×Addr×Value)=>p.1=q.1/\H q.2.1=some (.tup (p.1.map kV))/\RelV p.2 q.2.2) kvs xs /\
   ∃o es ep,h.get? a=some o/\o.ExactDict/\o.data=.dict es ep/\es.toList=xs.map (entryOfKey (tupleKind (vC P w)))/\(xs.map (·.1)).Nodup
 | .set S n=>h.SetOf (intKind P w) a S n
 | .ins C dx fs=>H dx=some (.own a)/\fs.length<=1000/\dx≠a/\h.get? a=some (PySem.W.instObj C dx) /\
   ∃mA,h.Ns1 dx mA/\(∀f,xG (fs.lookup f) (mA f))/\PySem.Within mA (fs.map (·.1))
 | .own _=>∃o,h.get? a=some o
 | .xd fs=>∃mA,h.Ns1 a mA/\∀f,xG (fs.lookup f) (mA f)
 | .rng lo hi=>∃t u v,h.get? a=some {cls:=.type "range",data:=.fields #[.int lo t,.int hi u,.int 1 v]}
 | .mi o u=>h.get? a=some o/\gm H h a u
 | .tbl ps=>h.get? a=some {cls:=.none,data:=.fields ps}
 | .met f x=>h.get? a=some (PySem.W.methodObj (.ref f) (.ref x))
 | .ext φ=>φ h/\(∃o,h.get? a=some o)/\∀h1 h2:Heap,φ h1->(∀o,h1.get? a=some o->h2.get? a=some o)->φ h2
def qF(H:Hp)(h:Heap):Prop:=∀a o,H a=some o->gm P w H h a o
end
section
variable {P:Program} {w:World} {H H':Hp} {h h':Heap} {a:Addr} {o:HO}
theorem gm.lt(x:gm P w H h a o):a < h.objs.size:=by
 cases o with
 | lst xs=>obtain⟨_,_,_,_,e⟩:=x;exact Xr e
 | tup xs=>obtain⟨_,_,_,p⟩:=x;exact p.lt
 | dK kvs=>obtain⟨_,_,_,_,o,_,_,e,_⟩:=x;exact Xr e
 | dT kvs=>obtain⟨_,_,_,_,o,_,_,e,_⟩:=x;exact Xr e
 | set S n=>obtain⟨o,_,_,_,e,_⟩:=x;exact Xr e
 | ins C dx fs=>obtain⟨_,_,_,e,_⟩:=x;exact Xr e
 | own y=>obtain⟨_,e⟩:=x;exact Xr e
 | xd fs=>obtain⟨_,⟨_,_,_,e,_⟩,_⟩:=x;exact Xr e
 | rng lo hi=>obtain⟨_,_,_,e⟩:=x;exact Xr e
 | mi ob u=>obtain⟨e,_⟩:=x;exact Xr e
 | tbl ps=>exact Xr (show h.get? a=some _ from x)
 | met f y=>exact Xr (show h.get? a=some _ from x)
 | ext φ=>obtain⟨_,⟨_,e⟩,_⟩:=x;exact Xr e
theorem Paired.Oq{α β:Type}{F G:α->β->Prop}:∀{l₁:List α} {l₂:List β},Paired F l₁ l₂->(∀a b,F a b->G a b)->Paired G l₁ l₂
 | _,_,.nil,_=>.nil
 | _,_,.cons r t,f=>.cons (f _ _ r) (Paired.Oq t f)
theorem gm.uc(x:gm P w H h a o)(k:∀b u,(b=a∨H b=some (.own a))->h.get? b=some u->h'.get? b=some u)
  (ho:∀b,H b=some (.own a)->H' b=some (.own a)) (ht:∀b xs,H b=some (.tup xs)->H' b=some (.tup xs)):gm P w H' h' a o:=by
 induction o with
 | lst xs=>obtain⟨z,its,n,r,e⟩:=x;exact⟨z,its,n,r,k _ _ (.inl rfl) e⟩
 | tup xs=>obtain⟨z,its,r,ob,e,c⟩:=x;exact⟨z,its,r,ob,k _ _ (.inl rfl) e,c⟩
 | dK kvs=>obtain⟨z,y,vs,r,ob,es,ep,e,c⟩:=x;exact⟨z,y,vs,r,ob,es,ep,k _ _ (.inl rfl) e,c⟩
 | dT kvs =>
  obtain⟨z,y,xs,r,ob,es,ep,e,c⟩:=x;exact⟨z,y,xs,Paired.Oq r λp q z=>⟨z.1,ht _ _ z.2.1,z.2.2⟩,ob,es,ep,k _ _ (.inl rfl) e,c⟩
 | set S n=>obtain⟨ob,es,ep,t,e,c⟩:=x;exact⟨ob,es,ep,t,k _ _ (.inl rfl) e,c⟩
 | ins C dx fs =>
  obtain⟨d,z,ne,e,mA,⟨od,es,ep,e2,c⟩,r⟩:=x;exact⟨ho _ d,z,ne,k _ _ (.inl rfl) e,mA,⟨od,es,ep,k _ _ (.inr d) e2,c⟩,r⟩
 | own y=>obtain⟨ob,e⟩:=x;exact⟨ob,k _ _ (.inl rfl) e⟩
 | xd fs=>obtain⟨mA,⟨od,es,ep,e,c⟩,r⟩:=x;exact⟨mA,⟨od,es,ep,k _ _ (.inl rfl) e,c⟩,r⟩
 | rng lo hi=>obtain⟨t,u,v,e⟩:=x;exact⟨t,u,v,k _ _ (.inl rfl) e⟩
 | mi ob u ih=>obtain⟨e,q⟩:=x;exact⟨k _ _ (.inl rfl) e,ih q⟩
 | tbl ps =>
  have e:h.get? a=some {cls:=.none,data:=.fields ps}:=x;show h'.get? a=some {cls:=.none,data:=.fields ps};exact k a _ (.inl rfl) e
 | met f y =>
  have e:h.get? a=some (PySem.W.methodObj (.ref f) (.ref y)):=x;show h'.get? a=some (PySem.W.methodObj (.ref f) (.ref y));exact k a _ (.inl rfl) e
 | ext φ=>obtain⟨p,⟨o,e⟩,st⟩:=x;exact⟨st _ _ p λo q=>k _ _ (.inl rfl) q,⟨o,k _ _ (.inl rfl) e⟩,st⟩
theorem qF.lt(x:qF P w H h)(e:H a=some o):a < h.objs.size:=(x a o e).lt
theorem qF.fresh(x:qF P w H h)(e:h.objs.size<=a):H a=none:=by
 cases q:H a with
 | none=>rfl
 | some u=>exact absurd (Xs (x.lt q) e) (Yp _)
theorem qF.kept(x:qF P w H h)(k:∀b u,h.get? b=some u->h'.get? b=some u):qF P w H h':=λa o e =>
 (x a o e).uc (λb u _ q=>k b u q) (λ_ q=>q) λ_ _ q=>q
theorem qF.laid(x:qF P w H h)(k:∀b u,h.get? b=some u->h'.get? b=some u)(hp:h.objs.size<=a)(new:gm P w (upd H a o) h' a o):qF P w (upd H a o) h':=λb u e=>by
 have hn:=x.fresh hp;by_cases hb:b=a
 ·subst hb;rw[uS]at e;cases e;exact new
 ·rw[uN hb]at e;exact(x b u e).uc (λc v _ q=>k c v q) (λc q=>by rw[uN (nN q hn)];exact q) λc xs q=>by rw[uN (nN q hn)];exact q
end
def Rd(H:Hp)(a:Addr)(u:HO):Prop:=H a=some u∨∃o,H a=some (.mi o u)
theorem Rd.ok{P:Program}{w:World}{H:Hp}{h:Heap}{a:Addr}{u:HO}(r:Rd H a u)(x:qF P w H h):gm P w H h a u:=by
 rcases r with r | ⟨o,r⟩
 ·exact x a u r
 ·obtain⟨_,q⟩:=x a _ r;exact q
def RB:Option HO->Prop
 | some (.lst _)=>True
 | some (.dK _)=>True
 | some (.dT _)=>True
 | some (.set _ _)=>True
 | some (.ins _ _ _)=>True
 | some (.ext _)=>True
 | _=>False
section
variable {P:Program} {w:World} {H:Hp} {h h':Heap} {x e:Addr} {o':HO}
theorem qF.write(ok:qF P w H h)(mu:RB (H x))(he:e=x∨H e=some (.own x))(k:∀b u,b≠e->h.get? b=some u->h'.get? b=some u)(heo:∃u,h'.get? e=some u)
  (new:gm P w (upd H x o') h' x o'):qF P w (upd H x o') h':=λb u q=>by
 have nown:∀c y,H c=some (.own y)->c≠x:=λc y r z=>by subst z;rw[r]at mu;exact mu
 have ntup:∀c xs,H c=some (.tup xs)->c≠x:=λc xs r z=>by subst z;rw[r]at mu;exact mu
 by_cases hb:b=x
 ·subst hb;rw[uS]at q;cases q;exact new
 ·rw[uN hb]at q;by_cases hbe:b=e
  ·have q':H b=some (.own x):=by
    rcases he with z | z
    ·exact absurd (hbe.trans z) hb
    ·rw[hbe];exact z
   rw[q]at q';cases q';obtain⟨v,hv⟩:=heo;exact⟨v,by rw[hbe];exact hv⟩
  ·refine(ok b u q).uc (λc v hc r=>k c v ?_ r) (λc r=>by rw[uN (nown c b r)];exact r) λc xs r=>by rw[uN (ntup c xs r)];exact r
   rcases hc with rfl | hc
   ·exact hbe
   ·rintro rfl;rcases he with z | z
    ·exact nown c b hc z
    ·rw[hc]at z;cases z;exact hb rfl
end
structure Un(fs ex:List Addr)(H H':Hp)(h h':Heap):Prop where
 keep:∀b o,h.get? b=some o->H b=none->b∉fs->b∉ex->h'.get? b=some o
 slot:∀b o,h.get? b=some o->H b=none->b∈fs->b∉ex->∃sl,h'.get? b=some {o with slots:=sl}
 free:∀b o,h.get? b=some o->H b=none->b∉ex->H' b=none
 there:∀b o,h.get? b=some o->b∉ex->∃o',h'.get? b=some o'
 tups:∀b xs,H b=some (.tup xs)->H' b=some (.tup xs)
 dn:∀b o u,H b=some (.mi o u)->H' b=some (.mi o u)
 tbls:∀b ps,H b=some (.tbl ps)->∃more,H' b=some (.tbl (ps++more))
section
variable {fs fs' ex ex':List Addr} {H H1 H2:Hp} {h h1 h2 h':Heap} {a x e:Addr} {o:HO}
theorem Un.any(u:Un fs ex H H1 h h1){b:Addr}{ob:Obj}(q:h.get? b=some ob)(n:H b=none)(hx:b∉ex):∃sl,h1.get? b=some {ob with slots:=sl}:=by
 by_cases hb:b∈fs
 ·exact u.slot b ob q n hb hx
 ·exact⟨ob.slots,u.keep b ob q n hb hx⟩
theorem Un.kept(k:∀b u,h.get? b=some u->h'.get? b=some u):Un fs ex H H h h' :=
 ⟨λb ob q _ _ _=>k b ob q,λb ob q _ _ _=>⟨ob.slots,k b ob q⟩,λ_ _ _ n _=>n,λb ob q _=>⟨ob,k b ob q⟩,λ_ _ q=>q,λ_ _ _ q=>q,λ_ ps q=>⟨#[],by rw[q];simp⟩⟩
theorem Un.refl:Un fs ex H H h h:=Un.kept λ_ _ q=>q
theorem Un.laid(k:∀b u,h.get? b=some u->h'.get? b=some u)(hp:h.objs.size<=a)(hn:H a=none):Un fs ex H (upd H a o) h h' where
 keep:=λb u q _ _ _=>k b u q
 slot:=λb u q _ _ _=>⟨u.slots,k b u q⟩
 free:=λb u q n _=>by rw[uN (Xv (Xs (Xr q) hp))];exact n
 there:=λb u q _=>⟨u,k b u q⟩
 tups:=λb xs q=>by rw[uN (nN q hn)];exact q
 dn:=λb u xs q=>by rw[uN (nN q hn)];exact q
 tbls:=λb ps q=>⟨#[],by rw[uN (nN q hn),q];simp⟩
theorem Un.write(mu:RB (H x))(he:e=x∨H e=some (.own x))(k:∀b u,b≠e->h.get? b=some u->h'.get? b=some u)(heo:∃u,h'.get? e=some u):Un fs ex H (upd H x o) h h':=by
 have hx:∀b,H b=none->b≠x:=λb n z=>by subst z;rw[n]at mu;exact mu
 have hb:∀b,H b=none->b≠e:=λb n z=>by
  subst z;rcases he with r | r
  ·exact hx b n r
  ·rw[n]at r;cases r
 have hm:∀b u,H b=some u->¬ RB (some u)->b≠x:=λb u q nm z=>by subst z;rw[q]at mu;exact nm mu
 refine⟨λb u q n _ _=>k b u (hb b n) q,λb u q n _ _=>⟨u.slots,k b u (hb b n) q⟩,λb u q n _=>by rw[uN (hx b n)];exact n,λb u q _=>?_,
  λb xs q=>by rw[uN (hm b _ q λz=>z)];exact q,λb u xs q=>by rw[uN (hm b _ q λz=>z)];exact q,λb ps q=>⟨#[],by rw[uN (hm b _ q λz=>z),q];simp⟩⟩
 by_cases hbe:b=e
 ·subst hbe;exact heo
 ·exact⟨u,k b u hbe q⟩
end
def RC(h:Heap)(H:Hp):List Addr:=(List.range h.objs.size).filter λa=>(H a).isSome
def vD(h:Heap)(H:Hp):Heap:=PySem.W.hideAll h (RC h H)
theorem BY(h:Heap)(H:Hp):(vD h H).objs.size=h.objs.size:=PySem.W.hideAll_size _ _
theorem Dj{h:Heap}{H:Hp}{b:Addr}{o:Obj}(e:h.get? b=some o)(n:H b=none):(vD h H).get? b=some o :=
 PySem.W.hideAll_get _ e λhm=>by
  have q:(H b).isSome=true:=(List.mem_filter.mp hm).2;rw[n]at q;simp at q
theorem Gz{h:Heap}{H:Hp}{b:Addr}{o:Obj}(e:(vD h H).get? b=some o):h.get? b=some o/\H b=none:=by
 have e':h.get? b=some o:=PySem.W.of_hideAll (RC h H) e;refine⟨e',?_⟩
 cases q:H b with
 | none=>rfl
 | some x =>
  have hm:b∈RC h H:=List.mem_filter.mpr ⟨List.mem_range.mpr (Heap.lt_size e'),by simp[q]⟩;have z:(vD h H).get? b=none:=PySem.W.hideAll_none (RC h H) hm;rw[z]at e;cases e
def GA(g h:Heap)(L:Addr):List (Addr×Obj):=(List.range h.objs.size).filterMap λa=>if a=L∨(g.get? a).isSome=true then none else(h.get? a).map λo=>(a,o)
def rest(g h:Heap)(L d:Addr):List (Addr×Obj):=(GA g h L).filter λp=>decide (p.1≠d)
structure Mod(K:aJ)(mg:Str->Option Value)(base:Heap):Prop where
 kin:K.In base
 glob:base.Ns mainGlobals mg
 blt:∃mb,base.Ns builtinsNs mb/\∀x:Str,x≠"__name__"->mb x=bootBuiltins x
 nolimit:base.NoLimit
structure Cx where
 prog:Program
 w:World
 K:aJ
 mg:Str->Option Value
 base:Heap
 A:Around
 N:List Str
 s₀:Shared
 H₀:Hp
 env:Env
 outer:List Env
 stack:List Env
 ex:List Addr
 fn:Str->Bool
 calm:Bool
 pn:List (Addr×Obj)
 xe:Value->Shared->Prop
def qo(l:List Env):List Addr:=l.filterMap (·.frame)
abbrev Cx.fs(X:Cx):List Addr:=qo X.outer
def RD(sc:Scope)(x:Str):Prop:=sc.names.lookup x=some .local∨sc.names.lookup x=some .cell∨sc.names.lookup x=some .free
def Loc(sc:Scope)(x:Str):Prop:=sc.names.lookup x=some .local∨sc.names.lookup x=some .cell
def Look(env:Env)(h:Heap)(m:Str->Option Value)(x:Str)(u:Value):Prop :=
 (env.kindOf x=some .local/\m x=some u)∨((env.kindOf x=some .cell∨env.kindOf x=some .free)/\∃c,env.cells.lookup x=some c/\h.IsCell c (some u))
structure Cx.Ok(X:Cx):Prop where
 mod:Mod X.K X.mg X.base
 kind:X.env.scope.kind=.function
 glob:X.env.globals=mainGlobals
 blt:X.env.builtins=builtinsNs
 above:X.s₀.heap.objs.size<=X.env.locals
 inj:∀x y c,X.env.cells.lookup x=some c->X.env.cells.lookup y=some c->x=y
 has:∀x,(X.env.kindOf x=some .cell∨X.env.kindOf x=some .free)->∃c,X.env.cells.lookup x=some c
 cab:∀x c,X.fn x=true->X.env.cells.lookup x=some c->X.s₀.heap.objs.size<=c
 hd:X.calm=true->X.A.handled=none
 frames:X.A.frames=some X.stack
 stk:X.stack=X.outer∨(X.stack=X.env::X.outer/\X.env.frame=some X.env.locals)
 exf:∀b∈X.ex,b≠X.env.locals/\∀x c,X.env.cells.lookup x=some c->c≠b
 bs:∀b o,X.base.get? b=some o->X.s₀.heap.get? b=some o/\X.H₀ b=none
 bsz:X.base.objs.size<=X.s₀.heap.objs.size
 noex:∀b o,X.base.get? b=some o->b∉X.ex
 exfs:∀b∈X.ex,b∉X.fs
 oV:X.s₀.heap.FunFrames X.base X.outer
 frf:∀b∈X.fs,X.H₀ b=none
structure Inv(X:Cx)(pins:List (Addr×Obj))(σ:List (Option V))(H:Hp)(s:Shared):Prop where
 ok:X.Ok
 os:s.os=X.s₀.os
 bare:AllBare s.gens
 base:Un X.fs X.ex X.H₀ H X.s₀.heap s.heap
 loc:∃m,s.heap.Ns X.env.locals m/\∀(i:Nat) (x:Str) (v:V),X.N[i]?=some x->σ[i]?=some (some v)->RD X.env.scope x->∃u,RelV v u/\Look X.env s.heap m x u
 cell:∀x c,X.env.cells.lookup x=some c->∃v,s.heap.IsCell c v
 free:H X.env.locals=none
 freeC:∀x c,X.env.cells.lookup x=some c->H c=none
 pin:∀p∈X.pn++pins,s.heap.get? p.1=some p.2/\H p.1=none/\p.1≠X.env.locals/\p.1∉X.fs/\∀v,p.2.data≠.cell v
 hok:qF X.prog X.w H s.heap
 len:σ.length=X.N.length
section
variable {X:Cx} {pins:List (Addr×Obj)} {σ:List (Option V)} {H H':Hp} {s:Shared} {h':Heap}
theorem Cx.Ok.SE(ok:X.Ok){b:Addr}{o:Obj}(e:X.base.get? b=some o):b∉X.fs:=λhb=>by
 have:=(ok.oV.mem hb).1;rw[e]at this;cases this
theorem Inv.bs(I:Inv X pins σ H s):∀b o,X.base.get? b=some o->s.heap.get? b=some o/\H b=none:=λb o e =>
 ⟨I.base.keep b o (I.ok.bs b o e).1 (I.ok.bs b o e).2 (I.ok.SE e) (I.ok.noex b o e),I.base.free b o (I.ok.bs b o e).1 (I.ok.bs b o e).2 (I.ok.noex b o e)⟩
theorem Inv.bk(I:Inv X pins σ H s):∀b o,X.base.get? b=some o->s.heap.get? b=some o:=λb o e=>(I.bs b o e).1
theorem Inv.mod(I:Inv X pins σ H s):Mod X.K X.mg X.base:=I.ok.mod
theorem Inv.nM(I:Inv X pins σ H s):X.K.In s.heap:=I.ok.mod.kin.keeps I.bk
theorem Inv.lt(I:Inv X pins σ H s):X.env.locals < s.heap.objs.size:=let ⟨_,hn,_⟩:=I.loc;hn.lt
theorem Inv.sz(I:Inv X pins σ H s):X.s₀.heap.objs.size<=s.heap.objs.size:=XT I.ok.above (aap I.lt)
theorem Inv.SG(I:Inv X pins σ H s){a:Addr}(h:s.heap.objs.size<=a):a∉X.fs:=λhb=>by
 obtain⟨_,o,ho,_⟩:=I.ok.oV.mem hb;exact absurd (Xs (Xr ho) (XT I.sz h)) (Yp _)
theorem Inv.GC(I:Inv X pins σ H s):∀x c,X.env.cells.lookup x=some c->c≠X.env.locals:=λx c e z=>by
 obtain⟨v,o,ho,hd⟩:=I.cell x c e;obtain⟨m,⟨o',es,ep,ho',hd',_⟩,_⟩:=I.loc;rw[z,ho']at ho;cases ho;rw[hd']at hd;cases hd
theorem Inv.oV(I:Inv X pins σ H s):s.heap.FunFrames X.base X.outer:=by
 have all:∀(l:List Env),(∀b∈qo l,b∈X.fs)->X.s₀.heap.FunFrames X.base l->s.heap.FunFrames X.base l:=by
  intro l
  induction l with
  | nil=>intro _ _;trivial
  | cons env r ih =>
   intro hs hl;obtain⟨hk,⟨L,o,hf,hn,ho,hd⟩,hr⟩:=hl;have hL:L∈X.fs:=hs L (by unfold qo;rw[List.filterMap_cons,hf];exact List.mem_cons_self);obtain⟨sl,e⟩:=I.base.slot L o ho (I.ok.frf L hL) hL λz=>I.ok.exfs L z hL
   exact⟨hk,⟨L,_,hf,hn,e,hd⟩,ih (λb hb=>hs b (by unfold qo;rw[List.filterMap_cons,hf];exact List.mem_cons_of_mem _ hb)) hr⟩
 exact all X.outer (λ_ hb=>hb) I.ok.oV
theorem Inv.stack(I:Inv X pins σ H s):s.heap.FunFrames X.base X.stack:=by
 rcases I.ok.stk with e | ⟨e,hf⟩
 ·rw[e];exact I.oV
 ·rw[e];obtain⟨m,hn,_⟩:=I.loc;refine .cons (by rw[I.ok.kind];decide) hf hn ?_ I.oV;exact Heap.get?_none_of_le (XT I.ok.bsz I.ok.above)
theorem Inv.zq(I:Inv X pins σ H s):∀b∈qo X.stack,b∈X.env.locals::X.fs:=λb hb=>by
 rcases I.ok.stk with e | ⟨e,hf⟩
 ·rw[e]at hb;exact X2 _ hb
 ·rw[e]at hb;unfold qo at hb;rw[List.filterMap_cons,hf]at hb;exact hb
theorem Inv.ri(I:Inv X pins σ H s):∀b∈qo X.stack,H b=none:=λb hb=>by
 rcases X4.mp (I.zq b hb)with e | hb
 ·rw[e];exact I.free
 ·obtain⟨_,o,ho,_⟩:=I.ok.oV.mem hb;exact I.base.free b o ho (I.ok.frf b hb) λz=>I.ok.exfs b z hb
theorem Inv.step{g':Array GenState}{t':Nat}{d':Drawn}{ch:List Addr}(I:Inv X pins σ H s)
  (hch:∀b∈ch,(b∈X.ex∨X.s₀.heap.objs.size<=b)/\b≠X.env.locals/\(∀x c,X.env.cells.lookup x=some c->c≠b)/\∀p∈X.pn++pins,p.1≠b)
  (keep:∀b o,b≠X.env.locals->b∉X.fs->b∉ch->s.heap.get? b=some o->H b=none->h'.get? b=some o)
  (slot:∀b o,b≠X.env.locals->b∈X.fs->b∉ch->s.heap.get? b=some o->H b=none->∃sl,h'.get? b=some {o with slots:=sl}) (free:∀b o,b∉ch->s.heap.get? b=some o->H b=none->H' b=none)
  (there:∀b o,b∉ch->s.heap.get? b=some o->∃o',h'.get? b=some o')
  (tups:∀b xs,H b=some (.tup xs)->H' b=some (.tup xs)) (dn:∀b o u,H b=some (.mi o u)->H' b=some (.mi o u)) (tbls:∀b ps,H b=some (.tbl ps)->∃more,H' b=some (.tbl (ps++more)))
  (ns:∀m,s.heap.Ns X.env.locals m->h'.Ns X.env.locals m) (hok:qF X.prog X.w H' h') (hg:AllBare g') :
  Inv X pins σ H' {s with heap:=h',gens:=g',drawn:=d',toks:=t'}:=by
 have neL:∀b o,X.s₀.heap.get? b=some o->b≠X.env.locals:=λb o e=>Xv (Xs (Xr e) I.ok.above)
 have neC:∀b o,X.s₀.heap.get? b=some o->b∉X.ex->b∉ch:=λb o e hx hb=>by
  rcases (hch b hb).1 with z | z
  ·exact hx z
  ·exact absurd (Xs (Xr e) z) (Yp _)
 have cellK:∀x c,X.env.cells.lookup x=some c->∀v,s.heap.IsCell c v->h'.IsCell c v:=λx c e v ⟨o,ho,hd⟩=>by
  have nch:c∉ch:=λz=>(hch c z).2.2.1 x c e rfl
  by_cases hc:c∈X.fs
  ·obtain⟨sl,q⟩:=slot c o (I.GC x c e) hc nch ho (I.freeC x c e);exact⟨_,q,hd⟩
  ·exact⟨o,keep c o (I.GC x c e) hc nch ho (I.freeC x c e),hd⟩
 refine⟨I.ok,I.os,hg,⟨λb o e n hb hx=>?_,λb o e n hb hx=>?_,λb o e n hx=>?_,λb o e hx=>?_,λb xs e=>tups b xs (I.base.tups b xs e),λb o xs e=>dn b o xs (I.base.dn b o xs e),λb ps e=>?_⟩,?_,λx c e=>?_,?_,λx c e=>?_,λp hp=>?_,hok,I.len⟩
 ·exact keep b o (neL b o e) hb (neC b o e hx) (I.base.keep b o e n hb hx) (I.base.free b o e n hx)
 ·obtain⟨sl,e1⟩:=I.base.slot b o e n hb hx;obtain⟨sl',e2⟩:=slot b _ (neL b o e) hb (neC b o e hx) e1 (I.base.free b o e n hx);exact⟨sl',e2⟩
 ·obtain⟨o',e1⟩:=I.base.there b o e hx;exact free b o' (neC b o e hx) e1 (I.base.free b o e n hx)
 ·obtain⟨o',e1⟩:=I.base.there b o e hx;exact there b o' (neC b o e hx) e1
 ·obtain⟨m1,e1⟩:=I.base.tbls b ps e;obtain⟨m2,e2⟩:=tbls b _ e1;exact⟨m1++m2,by rw[e2,Array.append_assoc]⟩
 ·obtain⟨m,hn,hl⟩:=I.loc;refine⟨m,ns m hn,λi x v e1 e2 e3=>?_⟩;obtain⟨u,r,l⟩:=hl i x v e1 e2 e3;refine⟨u,r,?_⟩;rcases l with l | ⟨k,c,e,z⟩
  ·exact .inl l
  ·exact .inr ⟨k,c,e,cellK x c e _ z⟩
 ·obtain⟨v,z⟩:=I.cell x c e;exact⟨v,cellK x c e v z⟩
 ·obtain⟨m,⟨o,_,_,ho,_⟩,_⟩:=I.loc;exact free _ o (λz=>(hch _ z).2.1 rfl) ho I.free
 ·obtain⟨v,o,ho,hd⟩:=I.cell x c e;exact free c o (λz=>(hch c z).2.2.1 x c e rfl) ho (I.freeC x c e)
 ·obtain⟨e,n,ne,nf,d⟩:=I.pin p hp;have nch:p.1∉ch:=λz=>(hch p.1 z).2.2.2 p hp rfl
  exact⟨keep p.1 p.2 ne nf nch e n,free p.1 p.2 nch e n,ne,nf,d⟩
theorem Inv.un{t':Nat}(I:Inv X pins σ H s)(u:Un X.fs [] H H' s.heap h')(hok:qF X.prog X.w H' h'):Inv X pins σ H' {s with heap:=h',toks:=t'}:=by
 obtain⟨m,⟨o,es,ep,ho,r⟩,_⟩:=id I.loc;obtain⟨sl,hL⟩:=u.any ho I.free (by simp)
 exact I.step (g':=s.gens) (d':=s.drawn) (ch:=[]) (λ_ z=>nomatch z) (λb o _ hb _ e n=>u.keep b o e n hb (by simp)) (λb o _ hb _ e n=>u.slot b o e n hb (by simp)) (λb o _ e n=>u.free b o e n (by simp)) (λb o _ e=>u.there b o e (by simp)) u.tups u.dn u.tbls (λm' hm=>by
  obtain⟨o',es',ep',ho',r'⟩:=hm;rw[ho]at ho';cases ho';exact⟨_,es',ep',hL,r'⟩) hok I.bare
theorem Inv.call{g':Array GenState}{t':Nat}{d':Drawn}{ch:List Addr}(I:Inv X pins σ H s)(u:Un (qo X.stack) ch H H' s.heap h')(hok:qF X.prog X.w H' h')(hg:AllBare g')
  (hch:∀b∈ch,(b∈X.ex∨X.s₀.heap.objs.size<=b)/\b≠X.env.locals/\(∀x c,X.env.cells.lookup x=some c->c≠b)/\∀p∈X.pn++pins,p.1≠b) :
  Inv X pins σ H' {s with heap:=h',gens:=g',drawn:=d',toks:=t'}:=by
 obtain⟨m,⟨o,es,ep,ho,r⟩,_⟩:=id I.loc;obtain⟨sl,hL⟩:=u.any ho I.free λz=>(hch _ z).2.1 rfl
 exact I.step (ch:=ch) hch (λb o hL hb hc e n=>u.keep b o e n (λz=>(X4.mp (I.zq b z)).elim hL hb) hc) (λb o _ _ hc e n=>u.any e n hc) (λb o hc e n=>u.free b o e n hc) (λb o hc e=>u.there b o e hc) u.tups u.dn u.tbls (λm' hm=>by
  obtain⟨o',es',ep',ho',r'⟩:=hm;rw[ho]at ho';cases ho';exact⟨_,es',ep',hL,r'⟩) hok hg
theorem Inv.turned{t':Nat}{it:Addr}(I:Inv X pins σ H s)(k:∀b o,b≠it->s.heap.get? b=some o->h'.get? b=some o)(hn:H it=none)(hL:it≠X.env.locals)
  (h1:it∈X.ex∨X.s₀.heap.objs.size<=it) (h2:∀x c,X.env.cells.lookup x=some c->c≠it) (h3:∀p∈X.pn++pins,p.1≠it):Inv X pins σ H {s with heap:=h',toks:=t'}:=by
 have nit:∀b u,H b=some u->b≠it:=λb u e z=>by rw[z,hn]at e;cases e
 refine I.step (g':=s.gens) (d':=s.drawn) (ch:=[it]) (λb hb=>?_) (λb o _ _ hc e _=>k b o (λz=>hc (by simp[z])) e) (λb o _ _ hc e _=>⟨o.slots,k b o (λz=>hc (by simp[z])) e⟩) (λ_ _ _ _ n=>n)
  (λb o hc e=>⟨o,k b o (λz=>hc (by simp[z])) e⟩) (λ_ _ e=>e) (λ_ _ _ e=>e) (λb ps e=>⟨#[],by rw[e];simp⟩) (λm hm=>?_) (λb u e=>?_) I.bare
 ·have e:b=it:=by simpa using hb
  subst e;exact⟨h1,hL,h2,h3⟩
 ·obtain⟨o,es,ep,ho,r⟩:=hm;exact⟨o,es,ep,k _ o (Y4 hL) ho,r⟩
 ·refine(I.hok b u e).uc (λc v hc q=>k c v ?_ q) (λ_ q=>q) λ_ _ q=>q
  rcases hc with z | z
  ·rw[z];exact nit b u e
  ·exact nit c _ z
theorem Inv.tok(I:Inv X pins σ H s)(t:Nat):Inv X pins σ H {s with toks:=t}:=I.un (h':=s.heap) (t':=t) Un.refl I.hok
theorem Inv.kept{t':Nat}(I:Inv X pins σ H s)(k:∀b u,s.heap.get? b=some u->h'.get? b=some u):Inv X pins σ H {s with heap:=h',toks:=t'}:=I.un (Un.kept k) (I.hok.kept k)
theorem Inv.laid{a:Addr}{o:HO}{t':Nat}(I:Inv X pins σ H s)(k:∀b u,s.heap.get? b=some u->h'.get? b=some u)(hp:s.heap.objs.size<=a)(new:gm X.prog X.w (upd H a o) h' a o):
  Inv X pins σ (upd H a o) {s with heap:=h',toks:=t'}:=I.un (Un.laid k hp (I.hok.fresh hp)) (I.hok.laid k hp new)
theorem Inv.write{x e:Addr}{o:HO}{t':Nat}(I:Inv X pins σ H s)(mu:RB (H x))(he:e=x∨H e=some (.own x))(k:∀b u,b≠e->s.heap.get? b=some u->h'.get? b=some u)(heo:∃u,h'.get? e=some u)
  (new:gm X.prog X.w (upd H x o) h' x o):Inv X pins σ (upd H x o) {s with heap:=h',toks:=t'}:=I.un (Un.write mu he k heo) (I.hok.write mu he k heo new)
theorem Inv.weak{σ':List (Option V)}(I:Inv X pins σ H s)(hl:σ'.length=σ.length)(w:∀(i:Nat) v,σ'[i]?=some (some v)->σ[i]?=some (some v)):Inv X pins σ' H s :=
 ⟨I.ok,I.os,I.bare,I.base,let ⟨m,hn,hl'⟩:=I.loc;⟨m,hn,λi x v e1 e2 e3=>hl' i x v e1 (w i v e2) e3⟩,I.cell,I.free,I.freeC,I.pin,I.hok,hl.trans I.len⟩
theorem Inv.AU{pins':List (Addr×Obj)}(I:Inv X pins σ H s)(h:∀p∈pins',s.heap.get? p.1=some p.2/\H p.1=none/\p.1≠X.env.locals/\p.1∉X.fs/\∀v,p.2.data≠.cell v):Inv X pins' σ H s :=
 ⟨I.ok,I.os,I.bare,I.base,I.loc,I.cell,I.free,I.freeC,λp hp=>(Yg.mp hp).elim (λz=>I.pin p (Zr _ z)) (h p),I.hok,I.len⟩
theorem rD{N:List Str}(hN:N.Nodup){i j:Nat}{x:Str}(a:N[i]?=some x)(b:N[j]?=some x):i=j:=by
 obtain⟨h1,e1⟩:=bX a;obtain⟨h2,e2⟩:=bX b;exact(List.getElem_inj hN).mp (e1.trans e2.symm)
theorem oW{M:Model}{A:Around}{E:Value->Shared->Prop}{i:Nat}{x:Str}{v:V}{u:Value}{Q:Unit->Shared->Prop}(I:Inv X pins σ H s)(hN:X.N.Nodup)(hi:X.N[i]?=some x)(hx:Loc X.env.scope x)(r:RelV v u)
  (h:∀s',Inv X pins (σ.set i (some v)) H s'->(∃a,Heap.SameBut a s.heap s'.heap/\(a=X.env.locals∨X.env.cells.lookup x=some a))->Q () s') (hf:X.fn x=true∨X.env.scope.names.lookup x=some .local:=by first | exact .inl rfl | exact .inr rfl | assumption):wpAny M A (storeName X.env x u) Q E s:=by
 obtain⟨m,hn,hl⟩:=id I.loc;have hcls:(X.env.scope.kind == .class||(X.env.scope.kind == .module&&X.env.locals != X.env.globals))=false:=by rw[I.ok.kind];rfl
 have hiσ:i < σ.length:=by rw[I.len];exact(bX hi).1
 have GC:=I.GC
 have tracked:∀{a:Addr} {h':Heap},(∃o,s.heap.get? a=some o/\H a=none)->Heap.SameBut a s.heap h'->qF X.prog X.w H h':=λ{a h'} ha hs b ob e=>by
  obtain⟨_,_,hfree⟩:=ha;refine(I.hok b ob e).uc (λc w' hc q=>(hs.2 c ?_).trans q) (λ_ q=>q) λ_ _ q=>q
  rintro rfl;rcases hc with rfl | hc
  ·rw[hfree]at e;cases e
  ·rw[hfree]at hc;cases hc
 rcases hx with hk | hk
 ·refine wpAny_storeName_local hk hn (λh' hn' hs=>?_) hcls;obtain⟨oL,_,_,hoL,_⟩:=id hn;refine h _ ⟨I.ok,I.os,I.bare,⟨λb o e n hb hx=>?_,λb o e n hb hx=>?_,I.base.free,λb o e hx=>?_,I.base.tups,I.base.dn,I.base.tbls⟩,⟨_,hn',λj y v' e1 e2 e3=>?_⟩,λy c e=>?_,I.free,I.freeC,λp hp=>?_,tracked ⟨oL,hoL,I.free⟩ hs,by simpa using I.len⟩ ⟨_,hs,.inl rfl⟩
  ·exact(hs.2 b (Xv (Xs (Xr e) I.ok.above))).trans (I.base.keep b o e n hb hx)
  ·obtain⟨sl,e1⟩:=I.base.slot b o e n hb hx;exact⟨sl,(hs.2 b (Xv (Xs (Xr e) I.ok.above))).trans e1⟩
  ·obtain⟨o',e1⟩:=I.base.there b o e hx;exact⟨o',(hs.2 b (Xv (Xs (Xr e) I.ok.above))).trans e1⟩
  ·by_cases hj:j=i
   ·subst hj;rw[hi]at e1;cases e1;rw[List.getElem?_set_self hiσ]at e2;cases e2;exact⟨u,r,.inl ⟨hk,by simp⟩⟩
   ·rw[XM (Y4 hj)]at e2;obtain⟨u',r',q⟩:=hl j y v' e1 e2 e3;refine⟨u',r',?_⟩;rcases q with⟨k,e⟩ | ⟨k,c,e,z⟩
    ·refine .inl ⟨k,?_⟩;have:y≠x:=λe=>hj (rD hN e1 (e ▸ hi))
     simp[this,e]
    ·exact .inr ⟨k,c,e,z.sameBut hs (GC y c e)⟩
  ·obtain⟨w',z⟩:=I.cell y c e;exact⟨w',z.sameBut hs (GC y c e)⟩
  ·obtain⟨e,n,ne,nf,d⟩:=I.pin p hp;exact⟨(hs.2 p.1 ne).trans e,n,ne,nf,d⟩
 ·have hfn:X.fn x=true:=by
   rcases hf with z | z
   ·exact z
   ·rw[z]at hk;cases hk
  obtain⟨c,hc⟩:=I.ok.has x (.inl hk);obtain⟨w',z⟩:=I.cell x c hc;refine wpAny_storeName_cell I.ok.kind hk hc z (λh' hc' hs=>?_);obtain⟨oc,hoc,hocd⟩:=id z;refine h {s with heap:=h'} ⟨I.ok,I.os,I.bare,⟨λb o e n hb hx=>?_,λb o e n hb hx=>?_,I.base.free,λb o e hx=>?_,I.base.tups,I.base.dn,I.base.tbls⟩,⟨m,hn.sameBut hs (Ne.symm (GC x c hc)),λj y v' e1 e2 e3=>?_⟩,λy c' e=>?_,I.free,I.freeC,λp hp=>?_,tracked ⟨oc,hoc,I.freeC x c hc⟩ hs,by simpa using I.len⟩ ⟨c,hs,.inr hc⟩
  ·exact(hs.2 b (Xv (Xs (Xr e) (I.ok.cab x c hfn hc)))).trans (I.base.keep b o e n hb hx)
  ·obtain⟨sl,e1⟩:=I.base.slot b o e n hb hx;exact⟨sl,(hs.2 b (Xv (Xs (Xr e) (I.ok.cab x c hfn hc)))).trans e1⟩
  ·obtain⟨o',e1⟩:=I.base.there b o e hx;exact⟨o',(hs.2 b (Xv (Xs (Xr e) (I.ok.cab x c hfn hc)))).trans e1⟩
  ·by_cases hj:j=i
   ·subst hj;rw[hi]at e1;cases e1;rw[XF hiσ]at e2;cases e2;exact⟨u,r,.inr ⟨.inl hk,c,hc,hc'⟩⟩
   ·rw[XM (Y4 hj)]at e2;obtain⟨u',r',q⟩:=hl j y v' e1 e2 e3;refine⟨u',r',?_⟩;rcases q with q | ⟨k,c',e,z'⟩
    ·exact .inl q
    ·refine .inr ⟨k,c',e,z'.sameBut hs ?_⟩;rintro rfl;exact hj (rD hN e1 (I.ok.inj _ _ _ e hc ▸ hi))
  ·by_cases hcc:c'=c
   ·subst hcc;exact⟨_,hc'⟩
   ·obtain⟨w2,z2⟩:=I.cell y c' e;exact⟨w2,z2.sameBut hs hcc⟩
  ·obtain⟨e,n,ne,nf,d⟩:=I.pin p hp;refine⟨(hs.2 p.1 ?_).trans e,n,ne,nf,d⟩;intro q;rw[q,hoc]at e;have q':oc=p.2:=XX e;exact d w' (by rw[← q'];exact hocd)
theorem xI{M:Model}{A:Around}{E:Value->Shared->Prop}{i:Nat}{x:Str}{v:V}{u:Value}{Q:Unit->Shared->Prop}(I:Inv X pins σ H s)(hN:X.N.Nodup)(hi:X.N[i]?=some x)(hx:Loc X.env.scope x)(r:RelV v u)
  (h:∀s',Inv X pins (σ.set i (some v)) H s'->Q () s') (hf:X.fn x=true∨X.env.scope.names.lookup x=some .local:=by first | exact .inl rfl | exact .inr rfl | assumption):wpAny M A (storeName X.env x u) Q E s :=
 oW I hN hi hx r (λs' I' _=>h s' I') hf
theorem Inv.JO{s':Shared}{ch:List Addr}(I:Inv X pins σ H s)(ho:s'.os=s.os)(u:Un (qo X.stack) ch H H' s.heap s'.heap)(hok:qF X.prog X.w H' s'.heap)(hg:AllBare s'.gens)
  (hch:∀b∈ch,(b∈X.ex∨X.s₀.heap.objs.size<=b)/\b≠X.env.locals/\(∀x c,X.env.cells.lookup x=some c->c≠b)/\∀p∈X.pn++pins,p.1≠b):Inv X pins σ H' s':=by
 obtain⟨h',g',d',t',o'⟩:=s';have e:o'=s.os:=ho;subst e;exact I.call (g':=g') (t':=t') (d':=d') u hok hg hch
end
abbrev XK:=Value->Option Addr->Hp->Prop
abbrev St:=List (Option V)
abbrev VK:=V->Hp->Prop
abbrev TE:=St->Hp->VK->Prop
abbrev TT:=St->Hp->(Bool->Hp->Prop)->Prop
abbrev TA:=St->Hp->(List V->Hp->Prop)->Prop
structure Ends where
 nx:St->Hp->Prop
 rt:VK
 bk:St->Hp->Prop:=λ_ _=>False
 ct:St->Hp->Prop:=λ_ _=>False
abbrev TS:=Ends->St->Hp->Prop
def EP(X:Cx)(pins:List (Addr×Obj))(σ:St)(Q:VK)(u:Value)(s':Shared):Prop:=∃v H',Inv X pins σ H' s'/\RelV v u/\Q v H'
def TP(X:Cx)(pins:List (Addr×Obj))(σ:St)(Q:Bool->Hp->Prop)(b:Bool)(s':Shared):Prop:=∃H',Inv X pins σ H' s'/\Q b H'
def AP(X:Cx)(pins:List (Addr×Obj))(σ:St)(Q:List V->Hp->Prop)(us:List Value)(s':Shared):Prop:=∃vs H',Inv X pins σ H' s'/\Vals vs us/\Q vs H'
def SP(X:Cx)(pins:List (Addr×Obj))(D:Ends)(f:Flow)(s':Shared):Prop :=
 match f with
 | .next=>∃σ' H',Inv X pins σ' H' s'/\D.nx σ' H'
 | .brk=>∃σ' H',Inv X pins σ' H' s'/\D.bk σ' H'
 | .cont=>∃σ' H',Inv X pins σ' H' s'/\D.ct σ' H'
 | .ret u=>∃v σ' H',Inv X pins σ' H' s'/\RelV v u/\D.rt v H'
def PE(X:Cx)(e:Expr)(t:TE):Prop :=
 ∀(pins:List (Addr×Obj)) (s:Shared) (σ:St) (H:Hp) (Q:VK),Inv X pins σ H s->t σ H Q->wpAny (model X.prog X.w) X.A (eval e X.env) (EP X pins σ Q) X.xe s
def PT(X:Cx)(e:Expr)(t:TT):Prop :=
 ∀(pins:List (Addr×Obj)) (s:Shared) (σ:St) (H:Hp) (Q:Bool->Hp->Prop),Inv X pins σ H s->t σ H Q->wpAny (model X.prog X.w) X.A (isTrue e X.env (eval e X.env)) (TP X pins σ Q) X.xe s
def PW(X:Cx)(e:Expr)(t:TT):Prop :=
 ∀(whole:Sem Value) (pins:List (Addr×Obj)) (s:Shared) (σ:St) (H:Hp) (Q:Bool->Hp->Prop),Inv X pins σ H s->t σ H Q->wpAny (model X.prog X.w) X.A (isTrue e X.env whole) (TP X pins σ Q) X.xe s
theorem PW.pt{X:Cx}{e:Expr}{t:TT}(h:PW X e t):PT X e t:=h _
def PA(X:Cx)(es:List Expr)(t:TA):Prop :=
 ∀(pos:Pos) (pins:List (Addr×Obj)) (s:Shared) (σ:St) (H:Hp) (Q:List V->Hp->Prop),Inv X pins σ H s->t σ H Q->wpAny (model X.prog X.w) X.A (spliced (backTo pos (starEach es X.env))) (AP X pins σ Q) X.xe s
def PS(X:Cx)(st:Stmt)(t:TS):Prop :=
 ∀(pins:List (Addr×Obj)) (s:Shared) (σ:St) (H:Hp) (D:Ends),Inv X pins σ H s->t D σ H->wpAny (model X.prog X.w) X.A (exec st X.env) (SP X pins D) X.xe s
def ud(X:Cx)(st:List Stmt)(t:TS):Prop :=
 ∀(pins:List (Addr×Obj)) (s:Shared) (σ:St) (H:Hp) (D:Ends),Inv X pins σ H s->t D σ H->wpAny (model X.prog X.w) X.A (execs st X.env) (SP X pins D) X.xe s
theorem ck{α:Type}{t:Sem α}{Q Q':α->Shared->Prop}{M:Model}{A:Around}{E:Value->Shared->Prop}{s:Shared}(h:wpAny M A t Q E s)(hQ:∀a s,Q a s->Q' a s):wpAny M A t Q' E s:=X6 h hQ λ_ _ x=>x
section
variable {X:Cx}
inductive Ot(i:Nat)(σ:St)(H:Hp)(Q:VK):Prop where
 | mk (v:V) (h:σ[i]?=some (some v)) (q:Q v H):Ot i σ H Q
def BZ(i:Nat):TE:=λσ H Q=>Ot i σ H Q
def tC(v:V):TE:=λ_ H Q=>Q v H
theorem Dl{i:Nat}{x:Str}{pos:Pos}(hN:X.N[i]?=some x)(hv:RD X.env.scope x)(hd:(x == ("__debug__" : Str))=false:=by decide)(hcd:(x == ("__classdict__" : Str))=false:=by decide):PE X (.Name x pos) (BZ i):=by
 intro pins s σ H Q I h;obtain⟨v,e,h⟩:=h;obtain⟨m,hn,hl⟩:=I.loc;obtain⟨u,r,l⟩:=hl i x v hN e hv;have fin:EP X pins σ Q u s:=⟨v,H,I,r,h⟩;rcases l with⟨hk,hm⟩ | ⟨hk,c,hc,hcell⟩
 ·exact wpAny_Name (wpAny_loadName_local I.ok.kind hk hn hm fin) hd
 ·rcases hk with hk | hk
  ·exact wpAny_Name (wpAny_loadName_cell I.ok.kind hk hc hcell fin) hd
  ·exact wpAny_Name (wpAny_loadName_free I.ok.kind hk hc hcell fin hcd) hd
theorem pI{i j pos}:PE X (.Constant (.int i) j pos) (tC (.int i)):=λ_ _ _ H _ I h=>wpAny_Constant_int ⟨.int i,H,I.tok _,⟨_,rfl⟩,h⟩
theorem rE{b j pos}:PE X (.Constant (.bool b) j pos) (tC (.bl b)):=λ_ _ _ H _ I h=>Constant_bool ⟨.bl b,H,I,rfl,h⟩
theorem vE{j pos}:PE X (.Constant .none j pos) (tC .non):=λ_ _ _ H _ I h=>Constant_none ⟨.non,H,I,rfl,h⟩
theorem Dm{x j pos}:PE X (.Constant (.str x) j pos) (tC (.str x)):=λ_ _ _ H _ I h=>Calls.Constant_str ⟨.str x,H,I.tok _,⟨_,rfl⟩,h⟩
def Gl(X:Cx)(x:Str):Prop:=X.env.kindOf x=some .globalImplicit
theorem lC{E:Value->Shared->Prop}{pins:List (Addr×Obj)}{s:Shared}{σ:St}{H:Hp}{x:Str}{u:Value}{pos:Pos}{Q:Value->Shared->Prop}(I:Inv X pins σ H s)(hg:Gl X x)(hm:X.mg x=some u)(h:Q u s)
  (hd:(x == ("__debug__" : Str))=false:=by decide):wpAny (model X.prog X.w) X.A (eval (.Name x pos) X.env) Q E s :=
 ZK I.ok.kind hg (Calls.loadGlobal_global (by rw[I.ok.glob];exact I.mod.glob.keeps I.bk) hm h) hd
theorem ky{E:Value->Shared->Prop}{pins:List (Addr×Obj)}{s:Shared}{σ:St}{H:Hp}{x:Str}{u:Value}{pos:Pos}{Q:Value->Shared->Prop}(I:Inv X pins σ H s)(hg:Gl X x)(hm:X.mg x=none)(hv:bootBuiltins x=some u)(h:Q u s)
  (hn:x≠"__name__":=by decide) (hd:(x == ("__debug__" : Str))=false:=by decide):wpAny (model X.prog X.w) X.A (eval (.Name x pos) X.env) Q E s:=by
 obtain⟨mb,h1,h2⟩:=I.mod.blt;exact ZK I.ok.kind hg (Calls.loadGlobal_builtin (by rw[I.ok.glob];exact I.mod.glob.keeps I.bk) hm (by rw[I.ok.blt];exact h1.keeps I.bk) ((h2 x hn).trans hv) h) hd
theorem gp{x:Str}{v:V}{u:Value}{pos:Pos}(hg:Gl X x)(hm:X.mg x=some u)(r:RelV v u)(hd:(x == ("__debug__" : Str))=false:=by decide):PE X (.Name x pos) (tC v) :=
 λ_ _ _ H _ I h=>lC I hg hm ⟨v,H,I,r,h⟩ hd
theorem lD{x:Str}{v:V}{u:Value}{pos:Pos}(hg:Gl X x)(hm:X.mg x=none)(hv:bootBuiltins x=some u)(r:RelV v u)(hn:x≠"__name__":=by decide)(hd:(x == ("__debug__" : Str))=false:=by decide):PE X (.Name x pos) (tC v) :=
 λ_ _ _ H _ I h=>ky I hg hm hv ⟨v,H,I,r,h⟩ hn hd
variable {a b:Expr} {ta tb:TE} {pos:Pos}
inductive SI(x:V)(H:Hp)(Q:Bool->Hp->Prop):Prop where
 | mk (c:Bool) (e:x=.bl c) (q:Q c H):SI x H Q
def tB(t:TE):TT:=λσ H Q=>t σ H λx H1=>SI x H1 Q
theorem gM{e:Expr}{t:TE}(h:PE X e t)(he:∀whole,isTrue e X.env whole=(do let v ← whole;standAt e.pos;holding [v] (truthy v)):=by intro _;rfl):PT X e (tB t):=by
 intro pins s σ H Q I hw;refine isTrue_plain (ck (h pins s σ H _ I hw) λv s1 ⟨x,H1,I1,r1,q1⟩=>?_) (he _);obtain⟨d,rfl,q⟩:=q1;cases r1;exact X0 ⟨H1,I1,q⟩
variable {tA tB':TT} {rest:List Expr}
def Ou(t u:TT):TT:=λσ H Q=>t σ H λc H1=>if c=true then u σ H1 Q else Q false H1
def U4(t u:TT):TT:=λσ H Q=>t σ H λc H1=>if c=true then Q true H1 else u σ H1 Q
def SJ(t:TT):TT:=λσ H Q=>t σ H λc H1=>Q (!c) H1
theorem pw_and1(ha:PT X a tA):PW X (.BoolOp .And [a] pos) tA:=by
 intro wh pins s σ H Q I h;refine isTrue_and (ck (ha pins s σ H Q I h) λc s1 e=>?_)
 cases c with
 | true=>exact isTrue_and_nil e
 | false=>exact e
theorem pw_or1(ha:PT X a tA):PW X (.BoolOp .Or [a] pos) tA:=by
 intro wh pins s σ H Q I h;refine isTrue_or (ck (ha pins s σ H Q I h) λc s1 e=>?_)
 cases c with
 | false=>exact isTrue_or_nil e
 | true=>exact e
theorem pw_and(ha:PT X a tA)(hb:PW X (.BoolOp .And (b::rest) pos) tB'):PW X (.BoolOp .And (a::b::rest) pos) (Ou tA tB'):=by
 intro wh pins s σ H Q I h;refine isTrue_and (ck (ha pins s σ H _ I h) λc s1 ⟨H1,I1,q1⟩=>?_)
 cases c with
 | true=>exact hb wh pins s1 σ H1 Q I1 q1
 | false=>exact⟨H1,I1,q1⟩
theorem pw_or(ha:PT X a tA)(hb:PW X (.BoolOp .Or (b::rest) pos) tB'):PW X (.BoolOp .Or (a::b::rest) pos) (U4 tA tB'):=by
 intro wh pins s σ H Q I h;refine isTrue_or (ck (ha pins s σ H _ I h) λc s1 ⟨H1,I1,q1⟩=>?_)
 cases c with
 | true=>exact⟨H1,I1,q1⟩
 | false=>exact hb wh pins s1 σ H1 Q I1 q1
theorem oX(ha:PT X a tA):PT X (.UnaryOp .Not a pos) (SJ tA):=by
 intro pins s σ H Q I h;exact isTrue_not (ha pins s σ H (λc H1=>Q (!c) H1) I h)
def Ov(ta tb:TE):TE:=λσ H Q=>ta σ H λx H1=>∃c,x=.bl c/\if c=true then tb σ H1 Q else Q (.bl false) H1
def Ow(ta tb:TE):TE:=λσ H Q=>ta σ H λx H1=>∃c,x=.bl c/\if c=true then Q (.bl true) H1 else tb σ H1 Q
def Ox(ta:TE):TE:=λσ H Q=>ta σ H λx H1=>∃c,x=.bl c/\Q (.bl (!c)) H1
theorem vF{op}{t:TE}(h:PE X a t):PE X (.BoolOp op [a] pos) t:=λpins s σ H Q I hw=>BoolOp_one (h pins s σ H Q I hw)
theorem zr(ha:PE X a ta)(hb:PE X (.BoolOp .And (b::rest) pos) tb):PE X (.BoolOp .And (a::b::rest) pos) (Ov ta tb):=by
 intro pins s σ H Q I h;refine BoolOp_and (ck (ha pins s σ H _ I h) λv s1 ⟨x,H1,I1,r1,q1⟩=>?_);obtain⟨c,rfl,q1⟩:=q1;cases r1;refine X0 ?_
 cases c with
 | true=>exact hb pins s1 σ H1 Q I1 q1
 | false=>exact⟨.bl false,H1,I1,rfl,q1⟩
theorem JP(ha:PE X a ta)(hb:PE X (.BoolOp .Or (b::rest) pos) tb):PE X (.BoolOp .Or (a::b::rest) pos) (Ow ta tb):=by
 intro pins s σ H Q I h;refine BoolOp_or (ck (ha pins s σ H _ I h) λv s1 ⟨x,H1,I1,r1,q1⟩=>?_);obtain⟨c,rfl,q1⟩:=q1;cases r1;refine X0 ?_
 cases c with
 | false=>exact hb pins s1 σ H1 Q I1 q1
 | true=>exact⟨.bl true,H1,I1,rfl,q1⟩
theorem KA(ha:PE X a ta):PE X (.UnaryOp .Not a pos) (Ox ta):=by
 intro pins s σ H Q I h;refine UnaryOp_ (ck (ha pins s σ H _ I h) λv s1 ⟨x,H1,I1,r1,q1⟩=>?_);obtain⟨c,rfl,q1⟩:=q1;cases r1;exact not_of (X0 ⟨.bl (!c),H1,I1,rfl,q1⟩)
end
def fV(K:aJ)(H:Hp)(a:Addr)(xs:List V):Prop :=
 Rd H a (.lst xs) ∨
  ∃(o:Obj) (its:Array Value) (n:Nat),K.lookup a=some o/\o.cls=.type "list"/\o.dict=none/\o.data=.seq its n/\its.size<=sizeLine/\Vals xs its.toList
def e8(K:aJ)(H:Hp)(a:Addr)(xs:List V):Prop :=
 Rd H a (.tup xs) ∨
  ∃(o:Obj) (its:Array Value) (n:Nat),K.lookup a=some o/\o.cls=.type "tuple"/\o.data=.seq its n/\its.size<=sizeLine/\Vals xs its.toList
def SK:Value->Option V
 | .none=>some .non
 | .bool b=>some (.bl b)
 | .int i _=>some (.int i)
 | .str x _=>some (.str x)
 | .bytes b _=>some (.byt b)
 | .float b _=>some (.flt b)
 | .ref a=>some (.ref a)
 | .type n=>some (.ty n)
 | _=>none
theorem RelV.abs{x:V}{u:Value}(r:RelV x u):SK u=some x:=by
 cases x with
 | non=>cases r;rfl
 | bl _=>cases r;rfl
 | int _=>obtain⟨t,rfl⟩:=r;rfl
 | str _=>obtain⟨t,rfl⟩:=r;rfl
 | byt _=>obtain⟨t,rfl⟩:=r;rfl
 | flt _=>obtain⟨t,rfl⟩:=r;rfl
 | ref _=>cases r;rfl
 | ty _=>cases r;rfl
theorem RelV.inj{x y:V}{u:Value}(r:RelV x u)(q:RelV y u):x=y:=XX (r.abs.symm.trans q.abs)
theorem Vals.inj:∀{xs ys:List V} {us:List Value},Vals xs us->Vals ys us->xs=ys
 | _,_,_,.nil,.nil=>rfl
 | _,_,_,.cons r t,.cons r' t'=>by rw[r.inj r',Vals.inj t t']
section
variable {X:Cx} {pins:List (Addr×Obj)} {σ:St} {H:Hp} {s:Shared} {a:Addr} {xs ys:List V}
theorem fV.of{K:aJ}(h:H a=some (.lst xs)):fV K H a xs:=.inl (.inl h)
theorem e8.of{K:aJ}(h:H a=some (.tup xs)):e8 K H a xs:=.inl (.inl h)
theorem Inv.list(I:Inv X pins σ H s)(h:fV X.K H a xs):∃its:List Value,Vals xs its/\PlainL s.heap a its.toArray/\xs.length<=sizeLine:=by
 rcases h with h | ⟨o,its,n,hk,hc,hd,hs,hz,r⟩
 ·obtain⟨z,its,n,r,e⟩:=h.ok I.hok;exact⟨its,r,⟨_,n,e,rfl,rfl,rfl⟩,z⟩
 ·refine⟨its.toList,r,⟨o,n,I.nM a o hk,hc,hd,by simpa using hs⟩,?_⟩;have e:=r.length;simp only[Array.length_toList]at e;omega
theorem Inv.tuple(I:Inv X pins σ H s)(h:e8 X.K H a xs):∃its:List Value,Vals xs its/\IsTup s.heap a its.toArray/\xs.length<=sizeLine:=by
 rcases h with h | ⟨o,its,n,hk,hc,hs,hz,r⟩
 ·obtain⟨z,its,r,p⟩:=h.ok I.hok;exact⟨its,r,p,z⟩
 ·refine⟨its.toList,r,⟨o,I.nM a o hk,hc,n,by simpa using hs⟩,?_⟩;have e:=r.length;simp only[Array.length_toList]at e;omega
theorem Inv.Dn(I:Inv X pins σ H s)(h:fV X.K H a xs)(h':fV X.K H a ys):xs=ys:=by
 obtain⟨its,r,⟨o,n,e,_,_,d⟩,_⟩:=I.list h;obtain⟨its',r',⟨o',n',e',_,_,d'⟩,_⟩:=I.list h';rw[e]at e';cases e';rw[d]at d'
 injection d' with d1 _
 have:its=its':=by simpa using congrArg Array.toList d1
 subst this;exact r.inj r'
theorem Inv.B0(I:Inv X pins σ H s)(h:e8 X.K H a xs)(h':e8 X.K H a ys):xs=ys:=by
 obtain⟨its,r,⟨o,e,_,n,d⟩,_⟩:=I.tuple h;obtain⟨its',r',⟨o',e',_,n',d'⟩,_⟩:=I.tuple h';rw[e]at e';cases e';rw[d]at d'
 injection d' with d1 _
 have:its=its':=by simpa using congrArg Array.toList d1
 subst this;exact r.inj r'
end
abbrev Cx.qG(X:Cx)(E:Value->Shared->Prop):Cx:={X with xe:=E}
abbrev Cx.Oy(X:Cx):Cx:=X.qG λ_ _=>False
theorem Cx.Ok.qG{X:Cx}(ok:X.Ok)(E:Value->Shared->Prop):(X.qG E).Ok :=
 ⟨ok.mod,ok.kind,ok.glob,ok.blt,ok.above,ok.inj,ok.has,ok.cab,ok.hd,ok.frames,ok.stk,ok.exf,ok.bs,ok.bsz,ok.noex,ok.exfs,ok.oV,ok.frf⟩
theorem Cx.Ok.jC{X:Cx}{E:Value->Shared->Prop}(ok:(X.qG E).Ok):X.Ok :=
 ⟨ok.mod,ok.kind,ok.glob,ok.blt,ok.above,ok.inj,ok.has,ok.cab,ok.hd,ok.frames,ok.stk,ok.exf,ok.bs,ok.bsz,ok.noex,ok.exfs,ok.oV,ok.frf⟩
section
variable {X:Cx} {pins:List (Addr×Obj)} {σ:St} {H:Hp} {s:Shared} {E:Value->Shared->Prop}
theorem Inv.qG(I:Inv X pins σ H s)(E:Value->Shared->Prop):Inv (X.qG E) pins σ H s:=⟨I.ok.qG E,I.os,I.bare,I.base,I.loc,I.cell,I.free,I.freeC,I.pin,I.hok,I.len⟩
theorem Inv.jC(I:Inv (X.qG E) pins σ H s):Inv X pins σ H s:=⟨I.ok.jC,I.os,I.bare,I.base,I.loc,I.cell,I.free,I.freeC,I.pin,I.hok,I.len⟩
theorem SP.jC{D:Ends}{f:Flow}{s':Shared}(h:SP (X.qG E) pins D f s'):SP X pins D f s':=by
 cases f with
 | next=>obtain⟨σ',H',I,q⟩:=h;exact⟨σ',H',I.jC,q⟩
 | brk=>obtain⟨σ',H',I,q⟩:=h;exact⟨σ',H',I.jC,q⟩
 | cont=>obtain⟨σ',H',I,q⟩:=h;exact⟨σ',H',I.jC,q⟩
 | ret u=>obtain⟨v,σ',H',I,r,q⟩:=h;exact⟨v,σ',H',I.jC,r,q⟩
theorem ud.Oy{st:List Stmt}{t:TS}(h:ud X.Oy st t):ud X st t:=λpins s σ H D I hw =>
 X6 (h pins s σ H D (I.qG _) hw) (λ_ _ q=>q.jC) λ_ _ z=>False.elim z
end
section
variable {X:Cx} {st:Stmt} {rest:List Stmt} {t u:TS} {e:Expr} {te:TE} {pos:Pos}
def rF:TS:=λD σ H=>D.nx σ H
def KC(t u:TS):TS:=λD σ H=>t {D with nx:=u D} σ H
theorem iv:ud X [] rF:=λ_ _ σ H _ I h=>YO ⟨σ,H,I,h⟩
theorem qK(h1:PS X st t)(h2:ud X rest u):ud X (st::rest) (KC t u):=by
 intro pins s σ H D I h;refine ZS (ck (h1 pins s σ H {D with nx:=u D} I h) λf s1 q=>?_)
 cases f with
 | next =>
  obtain⟨σ',H',I',q⟩:=q;exact h2 pins s1 σ' H' D I' q
 | ret v=>exact q
 | brk=>exact q
 | cont=>exact q
theorem qO(h1:PS X st t):ud X [st] t:=by
 intro pins s σ H D I h;refine ZS (ck (h1 pins s σ H D I h) λf s1 q=>?_)
 cases f with
 | next=>exact YO q
 | ret v=>exact q
 | brk=>exact q
 | cont=>exact q
theorem Inv.quiet{pins:List (Addr×Obj)}{σ:St}{H:Hp}{s:Shared}(I:Inv X pins σ H s):interactive X.env=false:=by simp[interactive,I.ok.kind]
def Oz(te:TE):TS:=λD σ H=>te σ H λ_ H1=>D.nx σ H1
theorem GD(he:PE X e te)(hs:swapsWith e none pos.line X.env=pure false:=by rfl):PS X (.Expr e pos) (Oz te):=by
 intro pins s σ H D I h;exact wpAny_Expr_any (ck (he pins s σ H _ I h) λv s1 ⟨x,H1,I1,r1,q1⟩=>⟨σ,H1,I1,q1⟩) I.quiet hs
def SM(te:TE):TS:=λD σ H=>te σ H D.rt
theorem dX(he:PE X e te):PS X (.Return (some e) pos) (SM te):=by
 intro pins s σ H D I h;exact wpAny_Return_some (ck (he pins s σ H _ I h) λv s1 ⟨x,H1,I1,r1,q1⟩=>⟨x,σ,H1,I1,r1,q1⟩)
def SN(c:TT)(t u:TS):TS:=λD σ H=>c σ H λb H1=>if b=true then t D σ H1 else u D σ H1
theorem qp{c:Expr}{a b:List Stmt}{tc:TT}(hc:PT X c tc)(ha:ud X a t)(hb:ud X b u):PS X (.If c a b pos) (SN tc t u):=by
 intro pins s σ H D I h;refine wpAny_If (ck (hc pins s σ H _ I h) λd s1 ⟨H1,I1,q1⟩=>?_)
 cases d with
 | true=>exact ha pins s1 σ H1 D I1 q1
 | false=>exact hb pins s1 σ H1 D I1 q1
end
abbrev TG:=V->St->Hp->(St->Hp->Prop)->Prop
abbrev zp:=List V->St->Hp->(St->Hp->Prop)->Prop
def PG(X:Cx)(target:Expr)(t:TG):Prop :=
 ∀(pins:List (Addr×Obj)) (s:Shared) (σ:St) (H:Hp) (v:V) (u:Value) (Q:St->Hp->Prop),Inv X pins σ H s->RelV v u->t v σ H Q ->
  wpAny (model X.prog X.w) X.A (assign target X.env u) (λ_ s'=>∃σ' H',Inv X pins σ' H' s'/\Q σ' H') X.xe s
def NP(X:Cx)(ts:List Expr)(t:zp):Prop :=
 ∀(pins:List (Addr×Obj)) (s:Shared) (σ:St) (H:Hp) (vs:List V) (us:List Value) (Q:St->Hp->Prop),Inv X pins σ H s->Vals vs us->t vs σ H Q ->
  wpAny (model X.prog X.w) X.A (assignInOrder ((assignEach ts X.env).map (·.2)) us) (λ_ s'=>∃σ' H',Inv X pins σ' H' s'/\Q σ' H') X.xe s
section
variable {X:Cx} {pos:Pos}
def nO(i:Nat):TG:=λv σ H Q=>Q (σ.set i (some v)) H
theorem bY{i:Nat}{x:Str}(hN:X.N.Nodup)(hi:X.N[i]?=some x)(hx:Loc X.env.scope x)(hf:X.fn x=true∨X.env.scope.names.lookup x=some .local:=by first | exact .inl rfl | exact .inr rfl | assumption):PG X (.Name x pos) (nO i):=by
 intro pins s σ H v u Q I r h;exact wpAny_assign_Name (xI I hN hi hx r (λs' I'=>⟨_,H,I',h⟩) hf)
def KG:zp:=λvs σ H Q=>vs=[]/\Q σ H
def Dp(t:TG)(u:zp):zp:=λvs σ H Q=>∃v r,vs=v::r/\t v σ H λσ' H'=>u r σ' H' Q
theorem rj:NP X [] KG:=by
 intro pins s σ H vs us Q I r h;obtain⟨e,h⟩:=h;subst e;cases r;exact assignInOrder_nil ⟨σ,H,I,h⟩
theorem gO{e:Expr}{es:List Expr}{t:TG}{u:zp}(h1:PG X e t)(h2:NP X es u)
  (hs:(assignEach (e::es) X.env).map (·.2)=assign e X.env::(assignEach es X.env).map (·.2):=by rfl):NP X (e::es) (Dp t u):=by
 intro pins s σ H vs us Q I r h;obtain⟨v,vr,e1,h⟩:=h;subst e1
 cases r with
 | cons r rr =>
  rw[hs];refine assignInOrder_cons (ck (h1 pins s σ H _ _ _ I r h) λ_ s1 ⟨σ1,H1,I1,q1⟩=>?_);exact h2 pins s1 σ1 H1 _ _ Q I1 rr q1
def KH(K:aJ)(n:Nat)(t:zp):TG:=λv σ H Q=>∃a xs,v=.ref a/\e8 K H a xs/\xs.length=n/\t xs σ H Q
theorem vG{es:List Expr}{k:Nat}{t:zp}{n:Nat}(hc:X.calm=true)(h:NP X es t)
  (hn:(assignEach es X.env).length=n:=by rfl) (hst:(assignEach es X.env).findIdx? (·.1)=none:=by rfl):PG X (.Tuple es k pos) (KH X.K n t):=by
 intro pins s σ H v u Q I r hw;obtain⟨a,xs,e1,hq,hl,hw⟩:=hw;subst e1;cases r;obtain⟨its,rv,ht,hz⟩:=I.tuple hq;refine assign_Tuple_tuple (I.ok.hd hc) ht (by simp[hn,← hl,rv.length]) hst λh' hx=>?_
 have I1:Inv X pins σ H {s with heap:=h'}:=I.kept (t':=s.toks) λb o e=>hx b o (Xv (Xr e)) e
 exact h pins _ σ H xs _ Q I1 (by simpa using rv) hw
def GF(te:TE)(g:TG):TS:=λD σ H=>te σ H λx H1=>g x σ H1 D.nx
theorem KJ{tg e:Expr}{te:TE}{g:TG}(he:PE X e te)(hg:PG X tg g)(hs:swapsWithSole [tg] e pos.line X.env=pure false:=by rfl)(hw:swappedStores [tg] e X.env=pure none:=by rfl)
  (h1:(assignEach [tg] X.env).map (·.2)=[assign tg X.env]:=by rfl):PS X (.Assign [tg] e pos) (GF te g):=by
 intro pins s σ H D I h;refine wpAny_Assign_stores (ck (he pins s σ H _ I h) λv s1 ⟨x,H1,I1,r1,q1⟩=>?_) hs hw;rw[h1];exact ck (hg pins s1 σ H1 x v _ I1 r1 q1) λ_ s2 q=>q
theorem vH{i:Nat}{x:Str}{e:Expr}{te:TE}{pos':Pos}(hN:X.N.Nodup)(hi:X.N[i]?=some x)(hx:Loc X.env.scope x)(he:PE X e te)(hs:swapsWith e (some (.Name x pos')) pos.line X.env=pure false:=by rfl)(hf:X.fn x=true∨X.env.scope.names.lookup x=some .local:=by first | exact .inl rfl | exact .inr rfl | assumption):
  PS X (.Assign [.Name x pos'] e pos) (GF te (nO i)):=by
 intro pins s σ H D I h;refine wpAny_Assign_Name (ck (he pins s σ H _ I h) λv s1 ⟨y,H1,I1,r1,q1⟩=>?_) hs;exact xI I1 hN hi hx r1 (λs2 I2=>⟨_,H1,I2,q1⟩) hf
end
section
variable {X:Cx} {pos:Pos}
def KL(c:TT)(tb:TS):TS:=λD σ H=>∃W:Nat->St->Hp->Prop,(∃m,W m σ H)/\∀m σ H,W m σ H ->
 c σ H λb H1=>if b=true then ∃N:St->Hp->Prop,(∀σ' H',N σ' H'->∃m',m' < m/\W m' σ' H')/\tb {D with nx:=N,ct:=N,bk:=D.nx} σ H1 else D.nx σ H1
theorem Dq{c:Expr}{body:List Stmt}{tc:TT}{tb:TS}(hp:PassesOwn (model X.prog X.w) X.A X.env X.xe)(hc:PT X c tc)(hb:ud X body tb):PS X (.While c body [] pos) (KL tc tb):=by
 intro pins s σ H D I h;obtain⟨W,⟨m0,w0⟩,turn⟩:=h;refine wpAny_While (codeAny_whileLoop (λn s'=>∃σ' H',Inv X pins σ' H' s'/\W n σ' H') ?_ m0 ⟨σ,H,I,w0⟩);rintro n s1 ⟨σ1,H1,I1,w1⟩;refine Yz hp (ck (hc pins s1 σ1 H1 _ I1 (turn n σ1 H1 w1)) λb s2 ⟨H2,I2,q2⟩=>?_)
 cases b with
 | true =>
  obtain⟨N,hN,q2⟩:=q2;rw[XB rfl];refine Yz hp (ck (hb pins s2 σ1 H2 _ I2 q2) λf s3 q3=>?_)
  cases f with
  | next =>
   obtain⟨σ3,H3,I3,n3⟩:=q3;obtain⟨m',hm,w3⟩:=hN σ3 H3 n3;exact⟨m',hm,σ3,H3,I3,w3⟩
  | cont =>
   obtain⟨σ3,H3,I3,n3⟩:=q3;obtain⟨m',hm,w3⟩:=hN σ3 H3 n3;exact⟨m',hm,σ3,H3,I3,w3⟩
  | brk=>exact q3
  | ret v=>exact q3
 | false =>
  rw[XA Xq];exact YO ⟨σ1,H2,I2,q2⟩
end
structure It where
 go:Nat->Hp->Prop
 yld:Nat->Hp->V->Hp->Prop
 stop:Nat->Hp->Prop
def nP(X:Cx)(pins:List (Addr×Obj))(H:Hp)(b:Addr):Prop :=
 H b=none/\b≠X.env.locals/\b∉X.fs/\(b∈X.ex∨X.s₀.heap.objs.size<=b)/\(∀x c,X.env.cells.lookup x=some c->c≠b)/\∀p∈X.pn++pins,p.1≠b
theorem Inv.B1{X:Cx}{pins:List (Addr×Obj)}{σ:St}{H H':Hp}{s:Shared}{b:Addr}(I:Inv X pins σ H s)(hb:s.heap.objs.size<=b)(hn:H' b=none):nP X pins H' b:=by
 refine⟨hn,Yr (Xs I.lt hb),I.SG hb,.inr (XT I.sz hb),λx c e z=>?_,λp hp z=>?_⟩
 ·obtain⟨v,q⟩:=I.cell x c e;exact absurd (Xs q.lt (by rw[z];exact hb)) (Yp _)
 ·exact absurd (Xs (Xr (I.pin p hp).1) (by rw[z];exact hb)) (Yp _)
structure Turn(P:Program)(w:World)(K:aJ)(tg:Expr)(J:It)(fp:List Addr)(it:Addr)(tn:Nat->Heap->Prop):Prop where
 mem:it∈fp
 obj:∀i h,tn i h->∀b∈fp,∃o,h.get? b=some o/\∀v,o.data≠.cell v
 keep:∀i h h',tn i h->(∀b∈fp,∀o,h.get? b=some o->h'.get? b=some o)->tn i h'
 item:∀(X:Cx),X.prog=P->X.w=w->X.K=K->X.calm=true->∀(i:Nat) (pins:List (Addr×Obj)) (s:Shared) (σ:St) (H:Hp) (E:Value->Shared->Prop),Inv X pins σ H s->(∀b∈fp,nP X pins H b)->tn i s.heap->J.go i H ->
  wpAny (model P w) X.A (pyNext (.ref it)) (λr s1=>∃u,r=some u /\
   wpAny (model P w) X.A (letOwnedTupleGo tg (.ref it) u) (λ_ s2=>∃x H',Inv X pins σ H' s2/\RelV x u/\J.yld i H x H'/\tn (i + 1) s2.heap/\∀b∈fp,H' b=none) E s1) E s
 done:∀(X:Cx),X.prog=P->X.w=w->X.K=K->X.calm=true->∀(i:Nat) (pins:List (Addr×Obj)) (s:Shared) (σ:St) (H:Hp) (E:Value->Shared->Prop),Inv X pins σ H s->(∀b∈fp,nP X pins H b)->tn i s.heap->J.stop i H ->
  wpAny (model P w) X.A (pyNext (.ref it)) (λr s1=>r=none/\Inv X pins σ H s1) E s
 self:∀(A:Around) (i:Nat) (s:Shared) (Q:Value->Shared->Prop) (E:Value->Shared->Prop),tn i s.heap->Q (.ref it) s->wpAny (model P w) A (pyIter (.ref it)) Q E s
abbrev TI:=St->Hp->(It->Hp->Prop)->Prop
def U5(X:Cx)(pins:List (Addr×Obj))(σ:St)(tg:Expr)(R:It->Hp->Prop)(itv:Value)(s2:Shared):Prop :=
 ∃(it:Addr) (fp:List Addr) (tn:Nat->Heap->Prop) (J:It) (H':Hp),itv=.ref it/\Inv X pins σ H' s2/\Turn X.prog X.w X.K tg J fp it tn/\tn 0 s2.heap/\(∀b∈fp,nP X pins H' b)/\R J H'
def PI(X:Cx)(tg iter:Expr)(wi:TI):Prop :=
 ∀(pins:List (Addr×Obj)) (s:Shared) (σ:St) (H:Hp) (R:It->Hp->Prop),Inv X pins σ H s->wi σ H R ->
  wpAny (model X.prog X.w) X.A (eval iter X.env) (λv s1=>wpAny (model X.prog X.w) X.A (pyIter v) (U5 X pins σ tg R) X.xe s1) X.xe s
theorem AV{M:Model}{A:Around}{E:Value->Shared->Prop}{s:Shared}{tg:Expr}{it:Addr}{u:Value}{o:Obj}{n:String}{vs:Array Value}{Q:Unit->Shared->Prop}(ho:s.heap.get? it=some o)(hc:o.cls=.type n)(hd:o.data=.fields vs)
  (hn:["enumerate","zip","dict_itemiterator","dict_reverseitemiterator","odict_iterator","itertools.zip_longest","itertools.pairwise"].contains n=false) (hQ:Q () s):wpAny M A (letOwnedTupleGo tg (.ref it) u) Q E s:=by
 unfold letOwnedTupleGo;cases tg<;>first
  | exact Xx hQ
  | (cases u<;>first
    | exact Xx hQ
    | (refine Xn (wpAny_load ho ?_)
       rw[hc,hd];show wpAny M A (if (["enumerate","zip","dict_itemiterator","dict_reverseitemiterator","odict_iterator","itertools.zip_longest","itertools.pairwise"].contains n&&vs[0]? == some (rawInt _))=true then _ else _) Q E s;rw[XA (by intro h;rw[hn,XH]at h;cases h)];exact Xx hQ))
def KN(K:aJ)(a:Addr):It :=
 ⟨λi H=>∃xs x,fV K H a xs/\xs[i]?=some x,λi H x H'=>H'=H/\∀xs,fV K H a xs->xs[i]?=some x,λi H=>∃xs,fV K H a xs/\xs.length<=i⟩
def SO(K:aJ)(a:Addr):It :=
 ⟨λi H=>∃xs x,e8 K H a xs/\xs[i]?=some x,λi H x H'=>H'=H/\∀xs,e8 K H a xs->xs[i]?=some x,λi H=>∃xs,e8 K H a xs/\xs.length<=i⟩
def OA(lo:Int)(n:Nat):It:=⟨λi _=>i < n,λi H x H'=>H'=H/\x=.int (lo + i),λi _=>n<=i⟩
theorem uO{P:Program}{w:World}{K:aJ}{tg:Expr}(a it:Addr):Turn P w K tg (KN K a) [it] it (λi h=>h.IsListIter it a i) where
 mem:=by simp
 obj:=λi h st b hb=>by
  have e:b=it:=by simpa using hb
  subst e;obtain⟨o,e,c,d⟩:=st;exact⟨o,e,λv z=>by rw[d]at z;cases z⟩
 keep:=λi h h' st k=>st.at λo e=>k it (by simp) o e
 item:=by
  intro X hP hw hK hc i pins s σ H E I hf st hg;subst hP hw hK;obtain⟨xs,x,hq,hx⟩:=hg;obtain⟨its,rv,p,hz⟩:=I.list hq;obtain⟨u,hu,ru⟩:=rv.get hx;obtain⟨f0,f1,f2,f3,f4,f5⟩:=hf it (by simp);refine wpAny_pyNext_list_item st p.isList (x:=u) (by simpa using hu) λh' st' sb=>?_
  have I1:Inv X pins σ H {s with heap:=h'}:=I.turned (t':=s.toks) (λb o hb e=>(sb.2 b hb).trans e) f0 f1 f3 f4 f5;obtain⟨o,e,c,d⟩:=id st';exact⟨u,rfl,AV (s:={s with heap:=h'}) e c d (by decide) ⟨x,H,I1,ru,⟨rfl,λys hy=>by rw[I.Dn hy hq];exact hx⟩,st',λb hb=>(hf b hb).1⟩⟩
 done:=by
  intro X hP hw hK hc i pins s σ H E I hf st hg;subst hP hw hK;obtain⟨xs,hq,hx⟩:=hg;obtain⟨its,rv,p,hz⟩:=I.list hq;obtain⟨f0,f1,f2,f3,f4,f5⟩:=hf it (by simp);have hl:=rv.length;exact wpAny_pyNext_list_end (I.ok.hd hc) st p.isList (by simp;omega) λh' eb=>⟨rfl,I.turned (t':=s.toks) (λb o hb e=>eb b o hb e) f0 f1 f3 f4 f5⟩
 self:=λ_ _ _ _ _ st h=>wpAny_pyIter_listiter st h
theorem zt{P:Program}{w:World}{K:aJ}{tg:Expr}(a it:Addr):Turn P w K tg (SO K a) [it] it (λi h=>h.IsTupleIter it a i) where
 mem:=by simp
 obj:=λi h st b hb=>by
  have e:b=it:=by simpa using hb
  subst e;obtain⟨o,e,c,d⟩:=st;exact⟨o,e,λv z=>by rw[d]at z;cases z⟩
 keep:=λi h h' st k=>st.at λo e=>k it (by simp) o e
 item:=by
  intro X hP hw hK hc i pins s σ H E I hf st hg;subst hP hw hK;obtain⟨xs,x,hq,hx⟩:=hg;obtain⟨its,rv,p,hz⟩:=I.tuple hq;obtain⟨u,hu,ru⟩:=rv.get hx;obtain⟨f0,f1,f2,f3,f4,f5⟩:=hf it (by simp);refine wpAny_pyNext_tuple_item st (show s.heap.IsTuple a its.toArray from p) (x:=u) (by simpa using hu) λh' st' sb=>?_
  have I1:Inv X pins σ H {s with heap:=h'}:=I.turned (t':=s.toks) (λb o hb e=>(sb.2 b hb).trans e) f0 f1 f3 f4 f5;obtain⟨o,e,c,d⟩:=id st';exact⟨u,rfl,AV (s:={s with heap:=h'}) e c d (by decide) ⟨x,H,I1,ru,⟨rfl,λys hy=>by rw[I.B0 hy hq];exact hx⟩,st',λb hb=>(hf b hb).1⟩⟩
 done:=by
  intro X hP hw hK hc i pins s σ H E I hf st hg;subst hP hw hK;obtain⟨xs,hq,hx⟩:=hg;obtain⟨its,rv,p,hz⟩:=I.tuple hq;obtain⟨f0,f1,f2,f3,f4,f5⟩:=hf it (by simp);have hl:=rv.length;exact wpAny_pyNext_tuple_end (I.ok.hd hc) st (show s.heap.IsTuple a its.toArray from p) (by simp;omega) λh' eb=>⟨rfl,I.turned (t':=s.toks) (λb o hb e=>eb b o hb e) f0 f1 f3 f4 f5⟩
 self:=λ_ _ _ _ _ st h=>wpAny_pyIter_tupleiter st h
theorem zu{P:Program}{w:World}{K:aJ}{tg:Expr}(it:Addr)(lo:Int)(n:Nat):Turn P w K tg (OA lo n) [it] it (λi h=>IsRangeIter h it (lo + (i:Nat) * 1) ((n:Int) - (i:Nat)) 1) where
 mem:=by simp
 obj:=λi h st b hb=>by
  have e:b=it:=by simpa using hb
  subst e
  exact⟨_,st,λv z=>by
   have z':Data.fields _=Data.cell v:=z;cases z'⟩
 keep:=λi h h' st k=>k it (by simp) _ st
 item:=by
  intro X hP hw hK hc i pins s σ H E I hf st hg;subst hP hw hK;obtain⟨f0,f1,f2,f3,f4,f5⟩:=hf it (by simp);have W:=Walks.range (prog:=X.prog) (w:=X.w) (I.ok.hd hc) it lo 1 n;refine W.item i s _ _ hg st λv h' tk hv st' kk=>?_
  obtain⟨t,rfl⟩:=hv;have I1:Inv X pins σ H {s with heap:=h',toks:=tk}:=I.turned (λb o hb e=>kk b o (by simpa using hb) e) f0 f1 f3 f4 f5;refine⟨_,rfl,AV (s:={s with heap:=h',toks:=tk}) (n:="range_iterator") st' rfl rfl (by decide) ⟨.int (lo + i),H,I1,⟨t,?_⟩,⟨rfl,rfl⟩,st',λb hb=>(hf b hb).1⟩⟩;rw[Int.mul_one]
 done:=by
  intro X hP hw hK hc i pins s σ H E I hf st hg;subst hP hw hK;obtain⟨f0,f1,f2,f3,f4,f5⟩:=hf it (by simp);exact wpAny_pyNext_range_end (I.ok.hd hc) st (by have:n<=i:=hg;omega) λh' eb=>⟨rfl,I.turned (t':=s.toks) (λb o hb e=>eb b o hb e) f0 f1 f3 f4 f5⟩
 self:=λ_ _ _ _ _ st h=>wpAny_pyIter_rangeiter st h
section
variable {X:Cx} {tg:Expr}
def OB(K:aJ)(tl:TE):TI:=λσ H R=>tl σ H λx H1=>∃a,x=.ref a/\(∃xs,fV K H1 a xs)/\R (KN K a) H1
theorem GG{l:Expr}{tl:TE}(hl:PE X l tl):PI X tg l (OB X.K tl):=by
 intro pins s σ H R I h;refine ck (hl pins s σ H _ I h) λv s1 ⟨x,H1,I1,r1,q1⟩=>?_
 obtain⟨a,e,⟨xs,hq⟩,q⟩:=q1;subst e;cases r1;obtain⟨its,rv,p,hz⟩:=I1.list hq;refine wpAny_pyIter_list p.isList ?_;refine⟨s1.heap.objs.size,[s1.heap.objs.size],_,_,H1,rfl,I1.kept (t':=s1.toks) λb o e=>Heap.get?_push_of_some _ e,uO a _,⟨_,Heap.get?_push_size _ rfl,rfl,rfl⟩,λb hb=>?_,q⟩;have e:b=s1.heap.objs.size:=by simpa using hb
 subst e;exact I1.B1 (Xu _) (I1.hok.fresh (Xu _))
theorem xJ{pins:List (Addr×Obj)}{σ:St}{H:Hp}{s:Shared}{R:It->Hp->Prop}{E:Value->Shared->Prop}{lo hi:Int}{t u v:Tok}{tk:Nat}(I:Inv X pins σ H s)(h1:-(2 ^ 62)<=lo)(h2:lo < 2 ^ 62)(h3:-(2 ^ 62)<=hi)(h4:hi < 2 ^ 62)
  (q:R (OA lo (hi - lo).toNat) H):wpAny (model X.prog X.w) X.A (pyIter (.ref s.heap.objs.size)) (U5 X pins σ tg R) E {s with heap:=s.heap.push {cls:=.type "range",data:=.fields #[.int lo t,.int hi u,.int 1 v]},toks:=tk}:=by
 refine wpAny_pyIter_range (IsRange.new ..) (small_one h1 h2 h3 h4) ?_;have I1:Inv X pins σ H {s with heap:=s.heap.push {cls:=.type "range",data:=.fields #[.int lo t,.int hi u,.int 1 v]},toks:=tk}:=I.kept λb o e=>Xl _ e
 refine⟨(s.heap.push {cls:=.type "range",data:=.fields #[.int lo t,.int hi u,.int 1 v]}).objs.size,[(s.heap.push {cls:=.type "range",data:=.fields #[.int lo t,.int hi u,.int 1 v]}).objs.size],_,_,H,rfl,
  I1.kept (t':=tk) λb o e=>Xl _ e,zu _ lo (hi - lo).toNat,?_,λb hb=>?_,q⟩
 ·have e1:lo + ((0:Nat):Int) * 1=lo:=by simp
  have e2:(((hi - lo).toNat:Nat):Int) - ((0:Nat):Int)=Builtin.Range.rangeSize lo hi 1:=by rw[rangeSize_one];split<;>omega
  show IsRangeIter _ _ (lo + ((0:Nat):Int) * 1) ((((hi - lo).toNat:Nat):Int) - ((0:Nat):Int)) 1;rw[e1,e2];exact Xz _ rfl
 ·have e:b=(s.heap.push {cls:=.type "range",data:=.fields #[.int lo t,.int hi u,.int 1 v]}).objs.size:=by simpa using hb
  subst e;exact I1.B1 (Xu _) (I1.hok.fresh (Xu _))
def OC(ta:TA):TI:=λσ H R=>ta σ H λvs H1=>∃j:Int,vs=[.int j]/\-(2 ^ 62)<=j/\j < 2 ^ 62/\R (OA 0 j.toNat) H1
def OD(ta:TA):TI:=λσ H R=>ta σ H λvs H1=>∃i j:Int,vs=[.int i,.int j]/\(-(2 ^ 62)<=i/\i < 2 ^ 62/\-(2 ^ 62)<=j/\j < 2 ^ 62)/\R (OA i (j - i).toNat) H1
theorem B2{a:Expr}{ta:TA}{p pos:Pos}(hg:Gl X "range")(hm:X.mg "range"=none)(ha:PA X [a] ta)(hs:starEach [a] X.env=[(false,eval a X.env)]:=by rfl):PI X tg (.Call (.Name "range" p) [a] [] pos) (OC ta):=by
 intro pins s σ H R I h;refine Call_ (ky I hg hm boot_range (Yl (ck (ha pos pins s σ H _ I h) λus s1 ⟨vs,H1,I1,r1,q1⟩=>?_) hs rfl));obtain⟨j,e,q1,q2,q⟩:=q1;subst e
 cases r1 with
 | cons r rr =>
  cases rr;obtain⟨t,rfl⟩:=r;exact call_range_1 (xJ I1 (by omega) (by omega) q1 q2 (by simpa using q))
theorem B3{a b:Expr}{ta:TA}{p pos:Pos}(hg:Gl X "range")(hm:X.mg "range"=none)(ha:PA X [a,b] ta)(hs:starEach [a,b] X.env=[(false,eval a X.env),(false,eval b X.env)]:=by rfl)(GH:starEach [b] X.env=[(false,eval b X.env)]:=by rfl):
  PI X tg (.Call (.Name "range" p) [a,b] [] pos) (OD ta):=by
 intro pins s σ H R I h;refine Call_ (ky I hg hm boot_range (Yl (ck (ha pos pins s σ H _ I h) λus s1 ⟨vs,H1,I1,r1,q1⟩=>?_) (by rw[hs,GH]) (by rw[GH];rfl)));obtain⟨i,j,e,⟨q1,q2,q3,q4⟩,q⟩:=q1;subst e
 cases r1 with
 | cons r rr =>
  cases rr with
  | cons r' rr =>
   cases rr;obtain⟨t,rfl⟩:=r;obtain⟨t',rfl⟩:=r';exact call_range_2 (xJ I1 q1 q2 q3 q4 q)
def SQ(wi:TI)(g:TG)(tb:TS):TS:=λD σ H=>wi σ H λJ H1=>∃W:Nat->Nat->St->Hp->Prop,(∃m,W 0 m σ H1)/\∀i m σ H,W i m σ H ->
 (J.stop i H/\D.nx σ H)∨(J.go i H/\∃N:St->Hp->Prop,(∀σ' H',N σ' H'->∃m',m' < m/\W (i + 1) m' σ' H')/\∀x H',J.yld i H x H'->g x σ H' λσ2 H2=>tb {D with nx:=N,ct:=N,bk:=D.nx} σ2 H2)
def rG(fp:List Addr)(h:Heap):List (Addr×Obj):=fp.filterMap λb=>(h.get? b).map λo=>(b,o)
theorem jD{fp:List Addr}{h:Heap}{b:Addr}{o:Obj}(hb:b∈fp)(e:h.get? b=some o):(b,o)∈rG fp h:=ZE.mpr ⟨b,hb,by rw[e];rfl⟩
theorem B4{fp:List Addr}{h:Heap}{p:Addr×Obj}(hp:p∈rG fp h):p.1∈fp/\h.get? p.1=some p.2:=by
 obtain⟨b,hb,e⟩:=ZE.mp hp
 cases q:h.get? b with
 | none=>rw[q]at e;cases e
 | some o =>
  rw[q]at e;have e':(b,o)=p:=XX e;subst e';exact⟨hb,q⟩
theorem Inv.pinned{pins:List (Addr×Obj)}{σ:St}{H:Hp}{s:Shared}{fp:List Addr}(I:Inv X pins σ H s)(hf:∀b∈fp,nP X pins H b)(ho:∀b∈fp,∃o,s.heap.get? b=some o/\∀v,o.data≠.cell v):Inv X (pins++rG fp s.heap) σ H s :=
 I.AU λp hp=>(Yg.mp hp).elim (λz=>I.pin p (XU _ z)) λz=>by
  obtain⟨hb,e⟩:=B4 z;obtain⟨f0,f1,f2,_⟩:=hf p.1 hb;obtain⟨o,e',d⟩:=ho p.1 hb;rw[e]at e';cases e';exact⟨e,f0,f1,f2,d⟩
theorem Inv.nQ{pins pl:List (Addr×Obj)}{σ:St}{H:Hp}{s:Shared}(I:Inv X (pins++pl) σ H s):Inv X pins σ H s:=I.AU λp hp=>I.pin p (XU _ (Zr _ hp))
theorem Dr{iter:Expr}{body:List Stmt}{wi:TI}{g:TG}{tb:TS}{pos:Pos}(hp:PassesOwn (model X.prog X.w) X.A X.env X.xe)(hc:X.calm=true)(hi:PI X tg iter wi)(hg:PG X tg g)(hb:ud X body tb)
  (hs:∀x,foldedSetIterable iter X.env x=pure x:=by intro _;rfl):PS X (.For tg iter body [] pos) (SQ wi g tb):=by
 intro pins s σ H D I h;refine wpAny_For (ck (hi pins s σ H _ I h) λv s1 h1=>ck h1 λitv s2 h2=>?_) hs;obtain⟨it,fp,tn,J,H2,e,I2,T,bu,f2,W,⟨m0,w0⟩,turn⟩:=h2;subst e;have stat:∀{H':Hp},(∀b∈fp,H' b=none)->∀b∈fp,nP X pins H' b:=λhn b hb=>⟨hn b hb,(f2 b hb).2⟩
 refine codeAny_forLoop_any (λn s'=>∃i σ' H',Inv X pins σ' H' s'/\tn i s'.heap/\(∀b∈fp,H' b=none)/\W i n σ' H') ?_ m0 ⟨0,σ,H2,I2,bu,λb hb=>(f2 b hb).1,w0⟩;rintro n s3 ⟨i,σ3,H3,I3,jB,U6,w3⟩;rcases turn i n σ3 H3 w3 with⟨stop,qn⟩ | ⟨go,N,hN,step⟩
 ·refine Yz hp (ck (T.done X rfl rfl rfl hc i pins s3 σ3 H3 X.xe I3 (stat U6) jB stop) λr s4 ⟨hr,I4⟩=>?_);subst hr;exact YO ⟨σ3,H3,I4,qn⟩
 ·refine Yz hp (ck (T.item X rfl rfl rfl hc i pins s3 σ3 H3 X.xe I3 (stat U6) jB go) λr s4 ⟨u,hr,h4⟩=>?_);subst hr;refine Yz hp (ck h4 λ_ s5 ⟨x,H5,I5,r5,y5,zv,RE⟩=>?_);have I5':=I5.pinned (stat RE) (T.obj _ _ zv);refine Yz hp (ck (hg _ s5 σ3 H5 x u _ I5' r5 (step x H5 y5)) λ_ s6 ⟨σ6,H6,I6,q6⟩=>?_);refine Yz hp (ck (hb _ s6 σ6 H6 _ I6 q6) λf s7 q7=>?_)
  have again:∀{σ7:St} {H7:Hp},Inv X (pins++rG fp s5.heap) σ7 H7 s7->N σ7 H7->∃m,m < n/\∃i σ' H',Inv X pins σ' H' s7/\tn i s7.heap/\(∀b∈fp,H' b=none)/\W i m σ' H':=λ{σ7 H7} I7 n7=>by
   obtain⟨m',hm,w7⟩:=hN σ7 H7 n7;refine⟨m',hm,i + 1,σ7,H7,I7.nQ,T.keep _ _ _ zv λb hb o e=>(I7.pin (b,o) (XU _ (XU _ (jD hb e)))).1,λb hb=>?_,w7⟩;obtain⟨o,e,d⟩:=T.obj _ _ zv b hb;exact(I7.pin (b,o) (XU _ (XU _ (jD hb e)))).2.1
  cases f with
  | next=>obtain⟨σ7,H7,I7,n7⟩:=q7;exact again I7 n7
  | cont=>obtain⟨σ7,H7,I7,n7⟩:=q7;exact again I7 n7
  | brk=>obtain⟨σ7,H7,I7,q7⟩:=q7;exact⟨σ7,H7,I7.nQ,q7⟩
  | ret v=>obtain⟨x7,σ7,H7,I7,r7,q7⟩:=q7;exact⟨x7,σ7,H7,I7.nQ,r7,q7⟩
end
theorem Ds{K:aJ}{a:Addr}{xs:List V}{g:TG}{tb:TS}{D:Ends}{σ:St}{H:Hp}(Pv:Nat->St->Hp->Prop)(h0:Pv 0 σ H)(hl:∀i σ H,i<=xs.length->Pv i σ H->fV K H a xs)
  (hs:∀i x σ H,xs[i]?=some x->Pv i σ H->g x σ H λσ2 H2=>tb {D with nx:=Pv (i + 1),ct:=Pv (i + 1),bk:=D.nx} σ2 H2) (hd:∀σ H,Pv xs.length σ H->D.nx σ H) :
  ∃W:Nat->Nat->St->Hp->Prop,(∃m,W 0 m σ H)/\∀i m σ H,W i m σ H ->
   ((KN K a).stop i H/\D.nx σ H)∨((KN K a).go i H/\∃N:St->Hp->Prop,(∀σ' H',N σ' H'->∃m',m' < m/\W (i + 1) m' σ' H')/\∀x H',(KN K a).yld i H x H'->g x σ H' λσ2 H2=>tb {D with nx:=N,ct:=N,bk:=D.nx} σ2 H2):=by
 refine⟨λi m σ H=>m=xs.length - i/\i<=xs.length/\Pv i σ H,⟨xs.length,by simp,Nat.zero_le _,h0⟩,?_⟩;rintro i m σ H ⟨rfl,hi,p⟩;have q:=hl i σ H hi p;by_cases hlt:i < xs.length
 ·refine .inr ⟨⟨xs,xs[i],q,by simp[hlt]⟩,Pv (i + 1),λσ' H' p'=>⟨xs.length - (i + 1),by omega,rfl,hlt,p'⟩,λx H' y=>?_⟩;obtain⟨e,y⟩:=y;subst e;exact hs i x σ _ (y xs q) p
 ·have e:i=xs.length:=by omega
  subst e;exact .inl ⟨⟨xs,q,Xu _⟩,hd σ H p⟩
abbrev R2:=V->V->Hp->VK->Prop
def gq(X:Cx)(f:Value->Value->Sem Value)(r:R2):Prop :=
 ∀(pins:List (Addr×Obj)) (s:Shared) (σ:St) (H:Hp) (x y:V) (v u:Value) (Q:VK),Inv X pins σ H s->RelV x v->RelV y u->r x y H Q ->
  wpAny (model X.prog X.w) X.A (f v u) (EP X pins σ Q) X.xe s
def SR(X:Cx)(f:Value->Sem Value)(r:V->Hp->VK->Prop):Prop :=
 ∀(pins:List (Addr×Obj)) (s:Shared) (σ:St) (H:Hp) (x:V) (v:Value) (Q:VK),Inv X pins σ H s->RelV x v->r x H Q ->
  wpAny (model X.prog X.w) X.A (f v) (EP X pins σ Q) X.xe s
def eY(X:Cx)(f:Value)(r:List V->Hp->VK->Prop):Prop :=
 ∀(pins:List (Addr×Obj)) (s:Shared) (σ:St) (H:Hp) (xs:List V) (us:List Value) (Q:VK),Inv X pins σ H s->Vals xs us->r xs H Q ->
  wpAny (model X.prog X.w) X.A (call f us) (EP X pins σ Q) X.xe s
def GI(r:R2)(ta tb:TE):TE:=λσ H Q=>ta σ H λx H1=>tb σ H1 λy H2=>r x y H2 Q
def VH(r:V->Hp->VK->Prop)(ta:TE):TE:=λσ H Q=>ta σ H λx H1=>r x H1 Q
inductive RI(C:Int->Int->Prop)(g:Int->Int->V)(x y:V)(H:Hp)(Q:VK):Prop where
 | mk (i j:Int) (e:x=.int i) (f:y=.int j) (c:C i j) (q:Q (g i j) H):RI C g x y H Q
def rI(C:Int->Int->Prop)(g:Int->Int->V):R2:=λx y H Q=>RI C g x y H Q
inductive U7(g:Int->Int->V)(x y:V)(H:Hp)(Q:VK):Prop where
 | mk (i j:Int) (e:x=.int i) (f:y=.int j) (q:Q (g i j) H):U7 g x y H Q
def Dt(g:Int->Int->V):R2:=λx y H Q=>U7 g x y H Q
def rU(g:Int->V):V->Hp->VK->Prop:=λx H Q=>∃i,x=.int i/\Q (g i) H
section
variable {X:Cx} {a b c:Expr} {ta tb tc:TE} {pos:Pos}
theorem KO(ha:PE X a ta)(hb:PE X b tb){pins:List (Addr×Obj)}{s:Shared}{σ:St}{H:Hp}{R:V->V->Hp->Prop}(I:Inv X pins σ H s)
  (h:ta σ H λx H1=>tb σ H1 λy H2=>R x y H2) {Q:Value->Shared->Prop} {f:Value->Value->Sem Value}
  (hf:∀v u s2 x y H2,Inv X pins σ H2 s2->RelV x v->RelV y u->R x y H2->wpAny (model X.prog X.w) X.A (f v u) Q X.xe s2) :
  wpAny (model X.prog X.w) X.A (eval a X.env) (λv s₁=>wpAny (model X.prog X.w) X.A (eval b X.env) (λu s₂=>wpAny (model X.prog X.w) X.A (f v u) Q X.xe s₂) X.xe s₁) X.xe s:=by
 refine ck (ha pins s σ H _ I h) λv s1 ⟨x,H1,I1,r1,q1⟩=>?_
 refine ck (hb pins s1 σ H1 _ I1 q1) λu s2 ⟨y,H2,I2,r2,q2⟩=>?_
 exact hf v u s2 x y H2 I2 r1 r2 q2
theorem OE{op:Operator}{r:R2}(ho:gq X (binaryOp op) r)(ha:PE X a ta)(hb:PE X b tb):PE X (.BinOp a op b pos) (GI r ta tb):=by
 intro pins s σ H Q I h;exact wpAny_BinOp (KO ha hb I h λv u s2 x y H2 I2 rx ry q=>ho pins s2 σ H2 x y v u Q I2 rx ry q)
theorem JQ{op:UnaryOp}{r:V->Hp->VK->Prop}(ho:SR X (unaryOp op) r)(ha:PE X a ta):PE X (.UnaryOp op a pos) (VH r ta):=by
 intro pins s σ H Q I h;exact UnaryOp_ (ck (ha pins s σ H _ I h) λv s1 ⟨x,H1,I1,r1,q1⟩=>ho pins s1 σ H1 x v Q I1 r1 q1)
theorem OG{f:Value->Value->Sem Value}{C:Int->Int->Prop}{g:Int->Int->Int}
  (rule:∀(i j:Int) (t u:Tok) (s:Shared) (Q:Value->Shared->Prop) (E:Value->Shared->Prop),C i j->Q (.int (g i j) s.toks) {s with toks:=s.toks + 1}->wpAny (model X.prog X.w) X.A (f (.int i t) (.int j u)) Q E s) :
  gq X f (rI C λi j=>.int (g i j)):=by
 intro pins s σ H x y v u Q I rx ry h;obtain⟨i,j,rfl,rfl,hc,q⟩:=h;obtain⟨t,rfl⟩:=rx;obtain⟨t',rfl⟩:=ry;exact rule i j t t' s _ _ hc ⟨.int (g i j),H,I.tok _,⟨_,rfl⟩,q⟩
theorem OH{f:Value->Value->Sem Value}{g:Int->Int->Int}
  (rule:∀(i j:Int) (t u:Tok) (s:Shared) (Q:Value->Shared->Prop) (E:Value->Shared->Prop),Q (.int (g i j) s.toks) {s with toks:=s.toks + 1}->wpAny (model X.prog X.w) X.A (f (.int i t) (.int j u)) Q E s) :
  gq X f (Dt λi j=>.int (g i j)):=by
 intro pins s σ H x y v u Q I rx ry h;obtain⟨i,j,rfl,rfl,q⟩:=h;obtain⟨t,rfl⟩:=rx;obtain⟨t',rfl⟩:=ry;exact rule i j t t' s _ _ ⟨.int (g i j),H,I.tok _,⟨_,rfl⟩,q⟩
theorem GJ{f:Value->Value->Sem Value}{g:Int->Int->Bool}
  (rule:∀(i j:Int) (t u:Tok) (s:Shared) (Q:Value->Shared->Prop) (E:Value->Shared->Prop),Q (.bool (g i j)) s->wpAny (model X.prog X.w) X.A (f (.int i t) (.int j u)) Q E s) :
  gq X f (Dt λi j=>.bl (g i j)):=by
 intro pins s σ H x y v u Q I rx ry h;obtain⟨i,j,rfl,rfl,q⟩:=h;obtain⟨t,rfl⟩:=rx;obtain⟨t',rfl⟩:=ry;exact rule i j t t' s _ _ ⟨.bl (g i j),H,I,rfl,q⟩
def GK(i j:Int):Prop:=0<=j/\j<=1000000/\i.natAbs < 2 ^ 64
def KP(i j:Int):Prop:=(-(2 ^ 64) < i/\i < 2 ^ 64)∨(-(2 ^ 64) < j/\j < 2 ^ 64)
theorem KP.ok{i j:Int}(h:KP i j):IntMulOk i j:=by
 rcases h with⟨h1,h2⟩ | ⟨h1,h2⟩
 ·exact .of_left (intBits_le_64 h1 h2)
 ·exact .of_right (intBits_le_64 h1 h2)
theorem KQ:gq X (binaryOp .Add) (Dt λi j=>.int (i + j)):=OH λ_ _ _ _ _ _ _ q=>add_int q
theorem KR:gq X (binaryOp .Sub) (Dt λi j=>.int (i - j)):=OH λ_ _ _ _ _ _ _ q=>sub_int q
theorem KS:gq X (binaryOp .Mod) (rI (λ_ j=>0 < j) λi j=>.int (i % j)):=OG λi j _ _ _ _ _ hc q=>by
 have h1:(0:Int) < j:=hc;exact mod_int' (by omega) (by rw[Int.fmod_eq_emod_of_nonneg i (by omega)];exact q)
theorem KU:gq X (binaryOp .Pow) (rI GK λi j=>.int (i ^ j.toNat)):=OG λ_ _ _ _ _ _ _ hc q=>pow_int_small hc.1 hc.2.1 hc.2.2 q
theorem KW:gq X (binaryOp .LShift) (rI GK λi j=>.int (i * 2 ^ j.toNat)):=OG λ_ _ _ _ _ _ _ hc q=>lshift_int_small hc.1 hc.2.1 hc.2.2 q
theorem VI{f:Value->Sem Value}{g:Int->Int}
  (rule:∀(i:Int) (t:Tok) (s:Shared) (Q:Value->Shared->Prop) (E:Value->Shared->Prop),Q (.int (g i) s.toks) {s with toks:=s.toks + 1}->wpAny (model X.prog X.w) X.A (f (.int i t)) Q E s) :
  SR X f (rU λi=>.int (g i)):=by
 intro pins s σ H x v Q I rx h;obtain⟨i,rfl,q⟩:=h;obtain⟨t,rfl⟩:=rx;exact rule i t s _ _ ⟨.int (g i),H,I.tok _,⟨_,rfl⟩,q⟩
theorem Du:SR X (unaryOp .USub) (rU λi=>.int (-i)):=VI λ_ _ _ _ _ q=>neg_int q
end
def OI:V->V->Bool
 | .non,.non=>true | .non,.int _=>true | .int _,.non=>true | .non,.bl _=>true | .bl _,.non=>true | .non,.str _=>true | .str _,.non=>true
 | .int _,.int _=>true | .bl _,.bl _=>true | .str _,.str _=>true | .byt _,.byt _=>true
 | .int _,.str _=>true | .str _,.int _=>true | .bl _,.str _=>true | .str _,.bl _=>true
 | _,_=>false
def SS:R2:=λx y H Q=>OI x y=true/\Q (.bl (decide (x=y))) H
def U8:R2:=λx y H Q=>OI x y=true/\Q (.bl (!decide (x=y))) H
theorem AW{i j:Int}:decide (V.int i=V.int j)=(i == j):=by
 rw[Bool.eq_iff_iff];simp
theorem Dv{i j:Bool}:decide (V.bl i=V.bl j)=(i == j):=by
 rw[Bool.eq_iff_iff];simp
theorem AX{i j:Str}:decide (V.str i=V.str j)=(i == j):=by
 rw[Bool.eq_iff_iff];simp
theorem AY{i j:Array UInt8}:decide (V.byt i=V.byt j)=(i.toList == j.toList):=by
 rw[Bool.eq_iff_iff];cases i;cases j;simp
section
variable {X:Cx} {a b c:Expr} {ta tb tc:TE} {pos:Pos}
theorem bw{pins:List (Addr×Obj)}{σ:St}{H:Hp}{s:Shared}{Q:VK}{k k':Bool}(I:Inv X pins σ H s)(q:Q (.bl k) H)(e:k=k'):EP X pins σ Q (.bool k') s:=by
 subst e;exact⟨.bl k,H,I,rfl,q⟩
theorem AZ:gq X (compareOp .Eq) SS:=by
 intro pins s σ H x y v u Q I rx ry h;obtain⟨hs,q⟩:=h
 cases x with
 | non =>
  cases rx
  cases y with
  | non=>cases ry;exact PySem.EqNone.eq_none_none (bw I q (by simp))
  | bl j=>cases ry;exact PySem.EqNone.eq_none_bool (bw I q (by simp))
  | int j=>obtain⟨t',rfl⟩:=ry;exact PySem.EqNone.eq_none_int (bw I q (by simp))
  | str j=>obtain⟨t',rfl⟩:=ry;exact PySem.EqNone.eq_none_str (bw I q (by simp))
  | _=>exact absurd (show false=true from hs) Xq
 | bl i =>
  cases rx
  cases y with
  | non=>cases ry;exact PySem.EqNone.eq_bool_none (bw I q (by simp))
  | bl j=>cases ry;exact eq_bool (bw I q Dv)
  | str j=>obtain⟨t',rfl⟩:=ry;exact PySem.EqMixed.eq_bool_str (bw I q (by simp))
  | _=>exact absurd (show false=true from hs) Xq
 | int i =>
  obtain⟨t,rfl⟩:=rx
  cases y with
  | non=>cases ry;exact PySem.EqNone.eq_int_none (bw I q (by simp))
  | int j=>obtain⟨t',rfl⟩:=ry;exact eq_int (bw I q AW)
  | str j=>obtain⟨t',rfl⟩:=ry;exact PySem.EqMixed.eq_int_str (bw I q (by simp))
  | _=>exact absurd (show false=true from hs) Xq
 | str i =>
  obtain⟨t,rfl⟩:=rx
  cases y with
  | non=>cases ry;exact PySem.EqNone.eq_str_none (bw I q (by simp))
  | bl j=>cases ry;exact PySem.EqMixed.eq_str_bool (bw I q (by simp))
  | int j=>obtain⟨t',rfl⟩:=ry;exact PySem.EqMixed.eq_str_int (bw I q (by simp))
  | str j=>obtain⟨t',rfl⟩:=ry;exact eq_str (bw I q AX)
  | _=>exact absurd (show false=true from hs) Xq
 | byt i =>
  obtain⟨t,rfl⟩:=rx
  cases y with
  | byt j=>obtain⟨t',rfl⟩:=ry;exact PySem.W.eq_bytes (bw I q AY)
  | _=>exact absurd (show false=true from hs) Xq
 | _=>cases y<;>exact absurd (show false=true from hs) Xq
theorem JR:gq X (compareOp .NotEq) U8:=by
 intro pins s σ H x y v u Q I rx ry h;obtain⟨hs,q⟩:=h
 cases x with
 | non =>
  cases rx
  cases y with
  | non=>cases ry;exact PySem.EqNone.ne_none_none (bw I q (by simp))
  | bl j=>cases ry;exact PySem.EqNone.ne_none_bool (bw I q (by simp))
  | int j=>obtain⟨t',rfl⟩:=ry;exact PySem.EqNone.ne_none_int (bw I q (by simp))
  | str j=>obtain⟨t',rfl⟩:=ry;exact PySem.EqNone.ne_none_str (bw I q (by simp))
  | _=>exact absurd (show false=true from hs) Xq
 | bl i =>
  cases rx
  cases y with
  | non=>cases ry;exact PySem.EqNone.ne_bool_none (bw I q (by simp))
  | bl j=>cases ry;exact ne_bool (bw I q (X7 not Dv))
  | str j=>obtain⟨t',rfl⟩:=ry;exact PySem.EqMixed.ne_bool_str (bw I q (by simp))
  | _=>exact absurd (show false=true from hs) Xq
 | int i =>
  obtain⟨t,rfl⟩:=rx
  cases y with
  | non=>cases ry;exact PySem.EqNone.ne_int_none (bw I q (by simp))
  | int j=>obtain⟨t',rfl⟩:=ry;exact ne_int (bw I q (X7 not AW))
  | str j=>obtain⟨t',rfl⟩:=ry;exact PySem.EqMixed.ne_int_str (bw I q (by simp))
  | _=>exact absurd (show false=true from hs) Xq
 | str i =>
  obtain⟨t,rfl⟩:=rx
  cases y with
  | non=>cases ry;exact PySem.EqNone.ne_str_none (bw I q (by simp))
  | bl j=>cases ry;exact PySem.EqMixed.ne_str_bool (bw I q (by simp))
  | int j=>obtain⟨t',rfl⟩:=ry;exact PySem.EqMixed.ne_str_int (bw I q (by simp))
  | str j=>obtain⟨t',rfl⟩:=ry;exact ne_str (bw I q (X7 not AX))
  | _=>exact absurd (show false=true from hs) Xq
 | byt i =>
  obtain⟨t,rfl⟩:=rx
  cases y with
  | byt j=>obtain⟨t',rfl⟩:=ry;exact PySem.W.ne_bytes (bw I q (X7 not AY))
  | _=>exact absurd (show false=true from hs) Xq
 | _=>cases y<;>exact absurd (show false=true from hs) Xq
theorem nR:gq X (compareOp .Lt) (Dt λi j=>.bl (decide (i < j))):=GJ λ_ _ _ _ _ _ _ q=>lt_int q
theorem cR:gq X (compareOp .LtE) (Dt λi j=>.bl (decide (i<=j))):=GJ λ_ _ _ _ _ _ _ q=>le_int q
theorem OJ:gq X (compareOp .Gt) (Dt λi j=>.bl (decide (j < i))):=GJ λ_ _ _ _ _ _ _ q=>gt_int q
theorem OK:gq X (compareOp .GtE) (Dt λi j=>.bl (decide (j<=i))):=GJ λ_ _ _ _ _ _ _ q=>ge_int q
theorem Dw:gq X (compareOp .Is) (λx y H Q=>y=.non/\Q (.bl (decide (x=.non))) H):=by
 intro pins s σ H x y v u Q I rx ry h;obtain⟨rfl,q⟩:=h;cases ry;refine is_none_gen (bw I q ?_);cases x<;>first
  | (cases rx;rfl)
  | (obtain⟨t,rfl⟩:=rx;rfl)
theorem vI:gq X (compareOp .IsNot) (λx y H Q=>y=.non/\Q (.bl (!decide (x=.non))) H):=by
 intro pins s σ H x y v u Q I rx ry h;obtain⟨rfl,q⟩:=h;cases ry;refine isnot_none_gen (bw I q ?_);cases x<;>first
  | (cases rx;rfl)
  | (obtain⟨t,rfl⟩:=rx;rfl)
theorem cN(b:Expr){op:CmpOp}(h:op≠.In:=by decide)(h2:op≠.NotIn:=by decide):behindInMarks op b=false:=by
 have e1:(op == CmpOp.In)=false:=by cases op<;>first | rfl | exact absurd rfl h
 have e2:(op == CmpOp.NotIn)=false:=by cases op<;>first | rfl | exact absurd rfl h2
 cases b<;>simp[behindInMarks,e1,e2]
theorem nS{op:CmpOp}{r:R2}(ho:gq X (compareOp op) r)(ha:PE X a ta)(hb:PE X b tb)(hm:behindInMarks op b=false):PE X (.Compare a [op] [b] pos) (GI r ta tb):=by
 intro pins s σ H Q I h;exact wpAny_Compare1 (KO ha hb I h λv u s2 x y H2 I2 rx ry q=>ho pins s2 σ H2 x y v u Q I2 rx ry q) hm
def Dx(t:TE):TT:=λσ H Q=>t σ H λx H'=>SI x H' Q
theorem tR{op:CmpOp}{r:R2}(ho:gq X (compareOp op) r)(ha:PE X a ta)(hb:PE X b tb)(hm:behindInMarks op b=false):PT X (.Compare a [op] [b] pos) (Dx (GI r ta tb)):=by
 intro pins s σ H Q I h
 refine wpAny_isTrue_Compare1 (ck (ha pins s σ H _ I h) λv s1 ⟨x,H1,I1,r1,q1⟩=>ck (hb pins s1 σ H1 _ I1 q1) λu s2 ⟨y,H2,I2,r2,q2⟩ =>
  ck (ho pins s2 σ H2 x y v u _ I2 r1 r2 q2) λc s3 ⟨z,H3,I3,r3,k,e,q3⟩=>?_) hm
 subst e;cases r3;exact X0 ⟨H3,I3,q3⟩
def zw(r r':R2)(ta tb tc:TE):TE:=λσ H Q=>ta σ H λx H1=>tb σ H1 λy H2=>r x y H2 λz H3=>∃k,z=.bl k /\
 (if k=true then tc σ H3 λw' H4=>r' y w' H4 Q else Q (.bl false) H3)
theorem nU{op op':CmpOp}{r r':R2}(ho:gq X (compareOp op) r)(ho':gq X (compareOp op') r')(ha:PE X a ta)(hb:PE X b tb)(hc:PE X c tc)
  (hm:lastMarks [op,op'] [b,c]=false:=by with_unfolding_all rfl):PE X (.Compare a [op,op'] [b,c] pos) (zw r r' ta tb tc):=by
 intro pins s σ H Q I h
 refine Compare_chain (ck (ha pins s σ H _ I h) λv s1 ⟨x,H1,I1,r1,q1⟩=>chain_link (ck (hb pins s1 σ H1 _ I1 q1) λu s2 ⟨y,H2,I2,r2,q2⟩ =>
  ck (ho pins s2 σ H2 x y v u _ I2 r1 r2 q2) λd s3 ⟨z,H3,I3,r3,k,e,q3⟩=>?_)) hm
 subst e;cases r3;refine X0 ?_
 cases k with
 | false=>exact ite_ff ⟨.bl false,H3,I3,rfl,q3⟩
 | true=>exact ite_tt (chain_last (ck (hc pins s3 σ H3 _ I3 q3) λw' s4 ⟨z',H4,I4,r4,q4⟩=>ho' pins s4 σ H4 y z' u w' Q I4 r2 r4 q4))
theorem Dy{op op':CmpOp}{r r':R2}(ho:gq X (compareOp op) r)(ho':gq X (compareOp op') r')(ha:PE X a ta)(hb:PE X b tb)(hc:PE X c tc)
  (hm:lastMarks [op,op'] [b,c]=false:=by with_unfolding_all rfl):PT X (.Compare a [op,op'] [b,c] pos) (Dx (zw r r' ta tb tc)):=by
 intro pins s σ H Q I h
 refine isTrue_chain (ck (ha pins s σ H _ I h) λv s1 ⟨x,H1,I1,r1,q1⟩=>test_link (ck (hb pins s1 σ H1 _ I1 q1) λu s2 ⟨y,H2,I2,r2,q2⟩ =>
  ck (ho pins s2 σ H2 x y v u _ I2 r1 r2 q2) λd s3 ⟨z,H3,I3,r3,k,e,q3⟩=>?_)) hm
 subst e;cases r3;refine X0 ?_
 cases k with
 | false =>
  obtain⟨k',e',q'⟩:=q3;cases e';exact ite_ff ⟨H3,I3,q'⟩
 | true =>
  refine ite_tt (test_last (ck (hc pins s3 σ H3 _ I3 q3) λw' s4 ⟨z',H4,I4,r4,q4⟩=>ck (ho' pins s4 σ H4 y z' u w' _ I4 r2 r4 q4) λd' s5 ⟨z2,H5,I5,r5,k2,e2,q5⟩=>?_));subst e2;cases r5;exact X0 ⟨H5,I5,q5⟩
theorem rH:(sizeLine:Nat) < 2 ^ 63:=by rw[sizeLine_eq];decide
theorem zx:gq X (binaryOp .Add) (λx y H Q=>∃i j,x=.str i/\y=.str j/\i.length + j.length<=sizeLine/\Q (.str (i++j)) H):=by
 intro pins s σ H x y v u Q I rx ry h;obtain⟨i,j,rfl,rfl,hz,q⟩:=h;obtain⟨t,rfl⟩:=rx;obtain⟨t',rfl⟩:=ry;exact add_str (λt' tk=>⟨.str (i++j),H,I.tok _,⟨_,rfl⟩,q⟩) hz
theorem vals1{x:V}{us:List Value}(r:Vals [x] us):∃u,us=[u]/\RelV x u:=by
 cases r with
 | cons r1 r2=>cases r2;exact⟨_,rfl,r1⟩
theorem vals2{x y:V}{us:List Value}(r:Vals [x,y] us):∃u w',us=[u,w']/\RelV x u/\RelV y w':=by
 cases r with
 | cons r1 r2 =>
  cases r2 with
  | cons r3 r4=>cases r4;exact⟨_,_,rfl,r1,r3⟩
theorem B5(hc:X.calm=true):eY X (.builtin "max") (λxs H Q=>∃i j,xs=[.int i,.int j]/\Q (.int (if j > i then j else i)) H):=by
 intro pins s σ H xs us Q I r h;obtain⟨i,j,rfl,q⟩:=h;obtain⟨u,w',rfl,⟨t,rfl⟩,⟨t',rfl⟩⟩:=vals2 r;refine max_two_ints (I.ok.hd hc) λh' tk k=>⟨_,H,I.kept k,?_,q⟩
 by_cases hj:j > i
 ·rw[XB hj,XB hj];exact⟨_,rfl⟩
 ·rw[XA hj,XA hj];exact⟨_,rfl⟩
theorem B6(hc:X.calm=true):eY X (.builtin "min") (λxs H Q=>∃i j,xs=[.int i,.int j]/\Q (.int (if j < i then j else i)) H):=by
 intro pins s σ H xs us Q I r h;obtain⟨i,j,rfl,q⟩:=h;obtain⟨u,w',rfl,⟨t,rfl⟩,⟨t',rfl⟩⟩:=vals2 r;refine min_two_ints (I.ok.hd hc) λh' tk k=>⟨_,H,I.kept k,?_,q⟩
 by_cases hj:j < i
 ·rw[XB hj,XB hj];exact⟨_,rfl⟩
 ·rw[XA hj,XA hj];exact⟨_,rfl⟩
theorem B7:eY X (.type "int") (λxs H Q=>(∃i,xs=[.int i]/\Q (.int i) H)∨∃k,xs=[.bl k]/\Q (.int (if k then 1 else 0)) H):=by
 intro pins s σ H xs us Q I r h;rcases h with⟨i,rfl,q⟩ | ⟨k,rfl,q⟩
 ·obtain⟨u,rfl,t,rfl⟩:=vals1 r;exact call_int_int ⟨.int i,H,I,⟨_,rfl⟩,q⟩
 ·obtain⟨u,rfl,r1⟩:=vals1 r;cases r1;exact call_int_bool ⟨.int (if k then 1 else 0),H,I.tok _,⟨_,rfl⟩,q⟩
end
structure VJ(h:Heap)(x dx C:Addr)(mA:Str->Option Value):Prop where
 obj:h.get? x=some (PySem.W.instObj C dx)
 ns:h.Ns1 dx mA
 ne:dx≠x
theorem B8{h:Heap}{dx:Addr}{mA:Str->Option Value}(n:h.Ns1 dx mA):∃od,h.get? dx=some od/\∀name,PySem.W.lookIn name od=some (mA name):=by
 obtain⟨o,es,ep,ho,hd,hk,_,hm⟩:=n;refine⟨o,ho,λname=>?_⟩;have e:=hm name;unfold nsFind findBy at e;rw[← Array.find?_toList]at e;unfold PySem.W.lookIn;rw[hd];dsimp only;split
 ·rename_i y q;rw[q]at e;exact X7 some e
 ·rename_i q;rw[q]at e
  have a:es.toList.any (·.refKey)=false:=by
   rw[List.any_eq_false];intro y hy;obtain⟨z,t,hkey⟩:=hk y (Array.mem_toList_iff.mp hy);simp[DictEntry.refKey,hkey]
  have a':¬ es.toList.any (·.refKey)=true:=by rw[a];exact Xq
  rw[XA a'];exact X7 some e
section
variable {prog:Program} {w:World} {A:Around} {E:Value->Shared->Prop} {s:Shared} {K:aJ} {x dx C f:Addr} {mA:Str->Option Value} {name:Str} {v:Value}
end
def qH(f:Str)(v:V):List (Str×V)->List (Str×V)
 | []=>[(f,v)]
 | (g,x)::r=>if g=f then(g,v)::r else(g,x)::qH f v r
theorem qq(f g:Str)(v:V):∀fs:List (Str×V),(qH f v fs).lookup g=if g=f then some v else fs.lookup g
 | []=>by
  show List.lookup g [(f,v)]=_;by_cases h:g=f
  ·have hb:(g == f)=true:=beq_iff_eq.mpr h;simp only[List.lookup,hb,if_pos h]
  ·have hb:(g == f)=false:=beq_eq_false_iff_ne.mpr h;simp only[List.lookup,hb,if_neg h]
 | (k,x)::r=>by
  have ih:=qq f g v r;rw[show qH f v ((k,x)::r)=(if k=f then(k,v)::r else(k,x)::qH f v r)from rfl];by_cases hk:k=f
  ·rw[XB hk];by_cases h:g=k
   ·have hb:(g == k)=true:=beq_iff_eq.mpr h;simp only[List.lookup,hb,if_pos (h.trans hk)]
   ·have hb:(g == k)=false:=beq_eq_false_iff_ne.mpr h;simp only[List.lookup,hb,if_neg (λe:g=f=>h (e.trans hk.symm))]
  ·rw[XA hk];by_cases h:g=k
   ·have hb:(g == k)=true:=beq_iff_eq.mpr h;simp only[List.lookup,hb,if_neg (λe:g=f=>hk (h.symm.trans e))]
   ·have hb:(g == k)=false:=beq_eq_false_iff_ne.mpr h;simp only[List.lookup,hb];exact ih
theorem oY(f:Str)(v:V):∀fs:List (Str×V),f∈(qH f v fs).map (·.1)/\∀g,g∈fs.map (·.1)->g∈(qH f v fs).map (·.1)
 | []=>⟨by simp[qH],λg h=>by simp at h⟩
 | (k,x)::r=>by
  obtain⟨i1,i2⟩:=oY f v r;rw[show qH f v ((k,x)::r)=(if k=f then(k,v)::r else(k,x)::qH f v r)from rfl];by_cases hk:k=f
  ·rw[if_pos hk];subst hk;exact⟨by simp,λg h=>by simpa using h⟩
  ·rw[XA hk];refine⟨?_,λg h=>?_⟩
   ·rw[Yj];exact X2 _ i1
   ·rw[Yj]at h ⊢;rcases X4.mp h with e | e
    ·exact X4.mpr (.inl e)
    ·exact X2 _ (i2 g e)
theorem xG.some_of{v:V}{o:Option Value}(r:xG (some v) o):∃u,o=some u/\RelV v u:=by
 cases o with
 | none=>exact(show False from r).elim
 | some u=>exact⟨u,rfl,r⟩
theorem B9{v:V}{u:Value}(r:RelV v u):PySem.W.handedIn u=true:=by
 cases v with
 | non=>cases (show u=Value.none from r);rfl
 | bl b=>cases (show u=Value.bool b from r);rfl
 | int i=>obtain⟨t,e⟩:=(show ∃t,u=Value.int i t from r);cases e;rfl
 | str x=>obtain⟨t,e⟩:=(show ∃t,u=Value.str x t from r);cases e;rfl
 | byt b=>obtain⟨t,e⟩:=(show ∃t,u=Value.bytes b t from r);cases e;rfl
 | flt b=>obtain⟨t,e⟩:=(show ∃t,u=Value.float b t from r);cases e;rfl
 | ref a=>cases (show u=Value.ref a from r);rfl
 | ty n=>cases (show u=Value.type n from r);rfl
section
variable {P:Program} {w:World} {H H':Hp} {h h':Heap} {a C dx:Addr} {fs fs':List (Str×V)}
end
structure zy(K:aJ)(C:Addr):Prop where
 pg:PySem.W.plainGet K C Str.empty=true
 hd:PySem.W.hasDictIn K C=true
 po:PySem.W.plainOver K C=true
 sa:PySem.W.findIn K (.ref C) "__setattr__"=some (some (.builtin "object.__setattr__"))
def rJ(K:aJ)(C:Addr)(f:Str):Prop:=PySem.W.findIn K (.ref C) f=some none
structure WZ(K:aJ)(C:Addr)(f:Str)(v:V)(u:Value):Prop where
 at_:PySem.W.findIn K (.ref C) f=some (some u)
 rel:RelV v u
 get:PySem.W.specialIn K u "__get__"=some none
 cp:PySem.W.copiedNames.contains f=false
structure Meth(K:aJ)(C:Addr)(m:Str)(f:Addr):Prop where
 at_:PySem.W.findIn K (.ref C) m=some (some (.ref f))
 fn:PySem.W.isFn K (.ref f)=true
 kp:PySem.W.keepIn K (.ref f)=true
section
variable {X:Cx} {pins:List (Addr×Obj)} {σ:St} {H:Hp} {s:Shared} {a C dx:Addr} {fs:List (Str×V)} {f:Str} {v:V} {A:Around} {E:Value->Shared->Prop}
theorem GL{prog:Program}{w:World}{env:Env}{e:Expr}{f:Str}{pos:Pos}{s:Shared}{Q:Value->Shared->Prop}(hb:attributeBase e f env (eval e env)=eval e env)
  (h:wpAny (model prog w) A (eval e env) (λo s₁=>wpAny (model prog w) A (getAttr o f true) Q E s₁) E s):wpAny (model prog w) A (eval (.Attribute e f pos) env) Q E s :=
 Attribute_any_ h (by rw[arm_eval_Attribute,hb])
end
inductive SU(K:aJ)(f:Str)(x:V)(H:Hp)(Q:VK):Prop where
 | mk (a C dx:Addr) (fs:List (Str×V)) (v:V) (e:x=.ref a) (h:H a=some (.ins C dx fs)) (c:zy K C) (n:rJ K C f) (l:fs.lookup f=some v) (q:Q v H):SU K f x H Q
section
variable {X:Cx} {o e value:Expr} {f:Str} {pos pos' tpos:Pos} {ta tv:TE}
end
section
variable {X:Cx} {pins:List (Addr×Obj)} {σ:St} {H:Hp} {s:Shared} {A:Around} {E:Value->Shared->Prop} {Q:Value->Shared->Prop} {c:Value} {b:Bool}
inductive rK(K:aJ)(H:Hp):V->Value->Prop where
 | non:rK K H .non (.type "NoneType")
 | bl (x:Bool):rK K H (.bl x) (.type "bool")
 | int (i:Int):rK K H (.int i) (.type "int")
 | str (x:Str):rK K H (.str x) (.type "str")
 | flt (x:UInt64):rK K H (.flt x) (.type "float")
 | lst {a:Addr} {xs:List V} (e:H a=some (.lst xs)):rK K H (.ref a) (.type "list")
 | mi {a:Addr} {o:Obj} {xs:List V} (e:H a=some (.mi o (.lst xs))):rK K H (.ref a) (.type "list")
 | tup {a:Addr} {xs:List V} (e:H a=some (.tup xs)):rK K H (.ref a) (.type "tuple")
 | dK {a:Addr} {kvs:List (Key×V)} (e:H a=some (.dK kvs)):rK K H (.ref a) (.type "dict")
 | dT {a:Addr} {kvs:List (List Key×V)} (e:H a=some (.dT kvs)):rK K H (.ref a) (.type "dict")
 | ins {a C dx:Addr} {fs:List (Str×V)} (e:H a=some (.ins C dx fs)) (cl:zy K C) (ha:PySem.W.findIn K (.ref C) "__class__"=some (some (.builtin "object.__class__")))
   (hn:PySem.W.specialIn K (.builtin "object.__class__") "__get__"=some (some (.builtin "getset_descriptor.__get__"))) (htk:PySem.W.takesIn K (.builtin "object.__class__")=some true)
   (hm:PySem.W.mroIn K C (.type "object")=some true):rK K H (.ref a) (.ref C)
end
structure cK(k:Nat)(A:Around)(cm:Bool:=true):Prop where
 hd:cm=true->A.handled=none
 dp:A.depth + 2 * k + 5 < recursionLimit
 un:A.units + 16 * k + 200 < cLine
 gd:A.guards=some []
theorem cK.mono{j k:Nat}{A:Around}{cm:Bool}(r:cK k A cm)(h:j<=k):cK j A cm:=⟨r.hd,by have:=r.dp;omega,by have:=r.un;omega,r.gd⟩
theorem cK.low{k:Nat}{A:Around}{cm:Bool}(r:cK k A cm):cK k A false:=⟨(λz=>nomatch z),r.dp,r.un,r.gd⟩
theorem cK.deeper{k:Nat}{A:Around}{cm:Bool}(r:cK (k + 1) A cm)(env:Env):cK k (A.deeper env) cm :=
 ⟨r.hd,by have:=r.dp;show A.depth + 1 + 2 * k + 5 < _;omega,by have:=r.un;show A.units + 3 + 16 * k + 200 < _;omega,r.gd⟩
theorem zz{A:Around}{C:Addr}{us:List Value}{kw:List (Str×Value)}:(A.under (.builtin "type.__call__" ⟨.ref C::us,kw⟩)).depth=A.depth + 1:=by
 first | rfl | simp[Around.under,Code.weight,Code.isCreation,Code.isGuard,Code.isCaller,Code.frames,Code.isFrame,guardIds]
theorem zF{A:Around}{C:Addr}{us:List Value}{kw:List (Str×Value)}:(A.under (.builtin "type.__call__" ⟨.ref C::us,kw⟩)).units=A.units + 1:=by
 first | rfl | simp[Around.under,Code.cUnits,Code.frames,Code.isFrame]
theorem cK.make{k:Nat}{A:Around}{cm:Bool}(r:cK (k + 1) A cm)(C:Addr)(us:List Value)(kw:List (Str×Value)):cK k (A.under (.builtin "type.__call__" ⟨.ref C::us,kw⟩)) cm :=
 ⟨r.hd,by have:=r.dp;rw[zz];omega,by have:=r.un;rw[zF];omega,r.gd⟩
theorem cK.depth{k:Nat}{A:Around}{cm:Bool}(r:cK k A cm):A.depth < recursionLimit:=by have:=r.dp;omega
theorem cK.units{k:Nat}{A:Around}{cm:Bool}(r:cK k A cm):A.units + 64 < cLine:=by have:=r.un;omega
def GN:TA:=λ_ H Q=>Q [] H
def JS(ta:TE)(tr:TA):TA:=λσ H Q=>ta σ H λx H1=>tr σ H1 λxs H2=>Q (x::xs) H2
section
variable {X:Cx} {e:Expr} {es:List Expr} {te:TE} {t:TA} {pos:Pos}
theorem pN:PA X [] GN:=λ_ _ _ _ H Q I h=>Calls.spliced_nil ⟨[],H,I,.nil,h⟩
theorem pK(ha:PE X e te)(hr:PA X es t)(hs:starEach (e::es) X.env=(false,eval e X.env)::starEach es X.env:=by rfl):PA X (e::es) (JS te t):=by
 intro pos pins s σ H Q I h;rw[hs];show wpAny _ _ (spliced ((false,eval e X.env)::backTo pos (starEach es X.env))) _ _ s;refine Calls.spliced_cons (ck (ha pins s σ H _ I h) λu s1 ⟨x,H1,I1,r1,q1⟩=>?_);exact ck (hr pos pins s1 σ H1 _ I1 q1) λus s2 ⟨xs,H2,I2,r2,q2⟩=>⟨x::xs,H2,I2,.cons r1 r2,q2⟩
def OL(t:TA):TE:=λσ H Q=>t σ H λxs H1=>xs.length<=sizeLine/\∀p,H1 p=none->Q (.ref p) (upd H1 p (.tup xs))
def KY(t:TA):TE:=λσ H Q=>t σ H λxs H1=>xs.length<=sizeLine/\∀p,H1 p=none->Q (.ref p) (upd H1 p (.lst xs))
theorem oZ{x1}(h:PA X es t):PE X (.Tuple es x1 pos) (OL t):=by
 intro pins s σ H Q I hq;refine wpAny_Tuple_spliced (ck (h pos pins s σ H _ I hq) λus s1 ⟨xs,H1,I1,r,z,q⟩=>⟨by rw[← r.length];exact z,?_⟩);have hf:H1 s1.heap.objs.size=none:=I1.hok.fresh (Xu _);refine⟨.ref s1.heap.objs.size,upd H1 s1.heap.objs.size (.tup xs),I1.laid (t':=s1.toks) (λb u e=>Xl _ e) (Xu _) ?_,rfl,q _ hf⟩;exact⟨z,us,r,⟨_,Xz _ rfl,rfl,_,rfl⟩⟩
theorem zH(h:PA X es t):PE X (.List es pos) (KY t):=by
 intro pins s σ H Q I hq;refine wpAny_List_spliced (ck (h pos pins s σ H _ I hq) λus s1 ⟨xs,H1,I1,r,z,q⟩=>⟨by rw[← r.length];exact z,?_⟩);have hf:H1 s1.heap.objs.size=none:=I1.hok.fresh (Xu _);refine⟨.ref s1.heap.objs.size,upd H1 s1.heap.objs.size (.lst xs),I1.laid (t':=s1.toks) (λb u e=>Xl _ e) (Xu _) ?_,rfl,q _ hf⟩;exact⟨z,us,0,r,Xz _ rfl⟩
end
abbrev Sp:=List V->Hp->VK->XK->Prop
abbrev zI:=List Env->Hp->Shared->XK->Value->Shared->Prop
structure zJ(P:Program)(w:World)(K:aJ)(mg:Str->Option Value)(base:Heap)(A:Around)(outer:List Env)(s:Shared)(H:Hp):Prop where
 frames:A.frames=some outer
 mod:Mod K mg base
 bs:∀b o,base.get? b=some o->s.heap.get? b=some o/\H b=none
 bsz:base.objs.size<=s.heap.objs.size
 oV:s.heap.FunFrames base outer
 frf:∀b∈qo outer,H b=none
 hok:qF P w H s.heap
 bare:AllBare s.gens
def CE(outer:List Env)(P:Program)(w:World)(H:Hp)(s:Shared)(Q:VK)(u:Value)(s':Shared):Prop :=
 ∃v H',s'.os=s.os/\AllBare s'.gens/\Un (qo outer) [] H H' s.heap s'.heap/\qF P w H' s'.heap/\RelV v u/\Q v H'
def CR(CX:zI)(outer:List Env)(P:Program)(w:World)(H:Hp)(s:Shared)(Q:VK)(E:XK)(r:Result)(s':Shared):Prop :=
 match r with
 | .ok (.ret u)=>CE outer P w H s Q u s'
 | .ok _=>False
 | .error e=>CX outer H s E e s'
structure bE(P:Program)(w:World)(K:aJ)(mg:Str->Option Value)(base:Heap)(CX:zI)(k:Nat)(f:Addr)(fd:FuncData)(ps:List Str)(sp:Sp)(cm:Bool:=true):Prop where
 len:∀vs H Q E,sp vs H Q E->vs.length=ps.length
 run:∀(A:Around) (outer:List Env) (s:Shared) (H:Hp) (args:Args) (us:List Value) (vs:List V) (Q:VK) (E:XK),cK k A cm->zJ P w K mg base A outer s H->BindsTo s fd args (ps.zip us)->Vals vs us->sp vs H Q E ->
  codeAny (model P w) A (.call (.ref f) args) (CR CX outer P w H s Q E) s
theorem zJ.make{P:Program}{w:World}{K:aJ}{mg:Str->Option Value}{base:Heap}{A:Around}{outer:List Env}{s:Shared}{H:Hp}(e:zJ P w K mg base A outer s H)(C:Addr)(us:List Value)(kw:List (Str×Value)):
  zJ P w K mg base (A.under (.builtin "type.__call__" ⟨.ref C::us,kw⟩)) outer s H:=⟨by first | exact e.frames | (simpa [Around.under,Code.envs,Code.isFrame,pushEnvs]using e.frames),e.mod,e.bs,e.bsz,e.oV,e.frf,e.hok,e.bare⟩
section
variable {X:Cx} {pins:List (Addr×Obj)} {σ:St} {H:Hp} {s s':Shared}
theorem Inv.KZ(I:Inv X pins σ H s):zJ X.prog X.w X.K X.mg X.base X.A X.stack s H :=
 ⟨I.ok.frames,I.ok.mod,I.bs,XT I.ok.bsz I.sz,I.stack,I.ri,I.hok,I.bare⟩
theorem Inv.after{Q:VK}{u:Value}(I:Inv X pins σ H s)(h:CE X.stack X.prog X.w H s Q u s'):EP X pins σ Q u s':=by
 obtain⟨v,H',os,bare,un,hok,r,q⟩:=h;obtain⟨hh,g,d,t,os'⟩:=s';obtain rfl:os'=s.os:=os;exact⟨v,H',I.call (h':=hh) (g':=g) (d':=d) (t':=t) (ch:=[]) un hok bare (λb z=>absurd z (by simp)),r,q⟩
end
def rL(sp:Sp)(dvs:List V)(E:XK)(t:TA):TE:=λσ H Q=>t σ H λvs H1=>sp (vs++dvs) H1 Q E
inductive OM(C:Addr)(m:Str)(x:V)(H:Hp)(R:Prop):Prop where
 | mk (a dx:Addr) (fs:List (Str×V)) (e:x=.ref a) (h:H a=some (.ins C dx fs)) (l:fs.lookup m=none) (r:R):OM C m x H R
def Binds(K:aJ)(fd:FuncData)(ps:List Str)(ds:List Value):Prop :=
 ∀(s:Shared) (us:List Value),K.In s.heap->(us++ds).length=ps.length->BindsTo s fd ⟨us,[]⟩ (ps.zip (us++ds))
theorem Binds.all{K:aJ}{fd:FuncData}{ps:List Str}(h:∀us:List Value,us.length=ps.length->bindArgs fd ⟨us,[]⟩=pure (ps.zip us)):Binds K fd ps []:=λs us _ hl=>by
 rw[Ys]at hl ⊢;exact .of_eq (h us hl)
def Passes(CX:zI)(X:Cx)(E:XK):Prop:=∀(pins:List (Addr×Obj)) (σ:St) (H:Hp) (s:Shared) (e:Value) (s':Shared),Inv X pins σ H s->CX X.stack H s E e s'->X.xe e s'
section
variable {X:Cx} {CX:zI} {k:Nat} {f C:Addr} {fd:FuncData} {ps:List Str} {sp:Sp} {dvs:List V} {ds:List Value} {E:XK} {x m:Str} {p pos apos:Pos} {e o:Expr} {es:List Expr} {ta:TE} {t:TA}
theorem Dz{pins:List (Addr×Obj)}{σ:St}{H:Hp}{s:Shared}{Q:VK}{us:List Value}{vs:List V}(F:bE X.prog X.w X.K X.mg X.base CX k f fd ps sp)(hr:cK k X.A)(hb:Binds X.K fd ps ds)(hd:Vals dvs ds)(hx:Passes CX X E)
  (I:Inv X pins σ H s) (r:Vals vs us) (h:sp (vs++dvs) H Q E):wpAny (model X.prog X.w) X.A (call (.ref f) us) (EP X pins σ Q) X.xe s:=by
 have r2:Vals (vs++dvs) (us++ds):=r.append hd;have hl:(us++ds).length=ps.length:=by rw[← r2.length];exact F.len _ _ _ _ h
 refine aaj (ZT (F.run X.A X.stack s H ⟨us,[]⟩ (us++ds) (vs++dvs) Q E hr I.KZ (hb s us I.nM hl) r2 h) λr s' hq=>?_)
 cases r with
 | error e=>exact hx pins σ H s e s' I hq
 | ok fl =>
  cases fl with
  | ret u=>exact I.after hq
  | next=>exact False.elim hq
  | brk=>exact False.elim hq
  | cont=>exact False.elim hq
theorem A1(F:bE X.prog X.w X.K X.mg X.base CX k f fd ps sp)(hr:cK k X.A)(hg:Gl X x)(hm:X.mg x=some (.ref f))(hk:PySem.W.keepIn X.K (.ref f)=true)(hb:Binds X.K fd ps ds)(hd:Vals dvs ds)(hx:Passes CX X E)
  (ha:PA X (e::es) t) (hdb:(x == ("__debug__" : Str))=false:=by decide) (he:starEach (e::es) X.env=(false,eval e X.env)::starEach es X.env:=by rfl) (hpl:(backTo pos (starEach es X.env)).any (·.1)=false:=by rfl) :
  PE X (.Call (.Name x p) (e::es) [] pos) (rL sp dvs E t):=by
 intro pins s σ H Q I h;refine Yy (lC I hg hm ?_ hdb);refine ZF (h₀:=X.base) I.ok.mod.kin hk (ck (ha pos pins s σ H _ I h) λus s1 ⟨vs,H1,I1,r,q⟩=>⟨I1.nM,?_⟩) he hpl;exact Dz F hr hb hd hx I1 r q
theorem DA(F:bE X.prog X.w X.K X.mg X.base CX k f fd ps sp)(hr:cK k X.A)(hg:Gl X x)(hm:X.mg x=some (.ref f))(hk:PySem.W.keepIn X.K (.ref f)=true)(hb:Binds X.K fd ps ds)(hd:Vals dvs ds)(hx:Passes CX X E)
  (hdb:(x == ("__debug__" : Str))=false:=by decide):PE X (.Call (.Name x p) [] [] pos) (rL sp dvs E GN):=by
 intro pins s σ H Q I h;refine Yy (lC I hg hm ?_ hdb);exact PySem.W.callWith_K0 I.nM hk (Dz (us:=[]) F hr hb hd hx I .nil h)
structure Mk(K:aJ)(C f:Addr):Prop where
 makes:PySem.W.makesIn K C=true
 init:PySem.W.findIn K (.ref C) "__init__"=some (some (.ref f))
 fn:PySem.W.isFn K (.ref f)=true
 kp:PySem.W.keepIn K (.ref C)=true
end
section
variable {X:Cx} {CX:zI} {k:Nat} {f C:Addr} {fd:FuncData} {ps ks:List Str} {sp:Sp} {E:XK} {x m:Str} {p pos apos kpos:Pos} {e o:Expr} {es:List Expr} {kws:List Keyword} {te ta:TE} {t tk:TA} {nm:Option Str}
structure SV(K:aJ)(fd:FuncData)(ps ks:List Str)(g:List Value->List Value->List Value)(gV:List V->List V->List V):Prop where
 to:∀(s:Shared) (us ws:List Value),K.In s.heap->(g us ws).length=ps.length->BindsTo s fd ⟨us,ks.zip ws⟩ (ps.zip (g us ws))
 rel:∀{vs:List V} {us:List Value} {zs:List V} {ws:List Value},Vals vs us->Vals zs ws->Vals (gV vs zs) (g us ws)
variable {g:List Value->List Value->List Value} {gV:List V->List V->List V}
end
structure aG(N P:List Str)(sc:Scope):Prop where
 kind:sc.kind=.function
 co:sc.isCoroutine=false
 gen:sc.isGenerator=false
 nd:N.Nodup
 pre:N.take P.length=P
 par:∀x∈P,sc.names.lookup x=some .local∨sc.names.lookup x=some .cell
 nofree:∀y∈sc.names,y.2≠.free
theorem uP{kindOf:Str->Option NameKind}{x:Str}:∀{binds:List (Str×Value)} {m:Str->Option Value},(∀v,(x,v)∉binds)->bindL kindOf binds m x=m x
 | [],_,_=>rfl
 | (n,v)::r,m,h=>by
  unfold bindL;rw[uP λw hw=>h w (List.mem_cons_of_mem _ hw)];split
  ·have:x≠n:=by rintro rfl;exact h v XZ
   simp[this]
  ·rfl
theorem uQ{kindOf:Str->Option NameKind}{x:Str}:∀{binds:List (Str×Value)} {m:Str->Option Value},(∀v,(x,v)∉binds)->bindC kindOf binds m x=m x
 | [],_,_=>rfl
 | (n,v)::r,m,h=>by
  unfold bindC;rw[uQ λw hw=>h w (List.mem_cons_of_mem _ hw)];split
  ·rfl
  ·have:x≠n:=by rintro rfl;exact h v XZ
   simp[this]
theorem uR{kindOf:Str->Option NameKind}{x:Str}{v:Value}:∀{P:List Str} {vs:List Value} {i:Nat} {m:Str->Option Value},P.Nodup->P[i]?=some x->vs[i]?=some v->kindOf x=some .local ->
  bindL kindOf (P.zip vs) m x=some v
 | [],_,_,_,_,h,_,_=>by simp at h
 | _::_,[],_,_,_,_,h,_=>by simp at h
 | p::P,w::vs,0,m,nd,h1,h2,hk=>by
  simp at h1 h2;subst h1;subst h2;show bindL kindOf ((p,w)::P.zip vs) m p=_;unfold bindL;rw[uP λv hv=>(List.nodup_cons.mp nd).1 (List.of_mem_zip hv).1,if_pos hk];simp
 | p::P,w::vs,i + 1,m,nd,h1,h2,hk=>by
  show bindL kindOf ((p,w)::P.zip vs) m x=_;unfold bindL;exact uR (i:=i) (List.nodup_cons.mp nd).2 (by simpa using h1) (by simpa using h2) hk
theorem uT{kindOf:Str->Option NameKind}{x:Str}{v:Value}:∀{P:List Str} {vs:List Value} {i:Nat} {m:Str->Option Value},P.Nodup->P[i]?=some x->vs[i]?=some v->kindOf x≠some .local ->
  bindC kindOf (P.zip vs) m x=some v
 | [],_,_,_,_,h,_,_=>by simp at h
 | _::_,[],_,_,_,_,h,_=>by simp at h
 | p::P,w::vs,0,m,nd,h1,h2,hk=>by
  simp at h1 h2;subst h1;subst h2;show bindC kindOf ((p,w)::P.zip vs) m p=_;unfold bindC;rw[uQ λv hv=>(List.nodup_cons.mp nd).1 (List.of_mem_zip hv).1,if_neg hk];simp
 | p::P,w::vs,i + 1,m,nd,h1,h2,hk=>by
  show bindC kindOf ((p,w)::P.zip vs) m x=_;unfold bindC;exact uT (i:=i) (List.nodup_cons.mp nd).2 (by simpa using h1) (by simpa using h2) hk
def start(N:List Str)(vs:List V):St:=vs.map some++List.replicate (N.length - vs.length) none
def pb(CX:zI)(P:Program)(w:World)(K:aJ)(mg:Str->Option Value)(base:Heap)(N:List Str)(qual:Str)(scope:Scope)(f:Addr)(cd:Value)(A:Around)(outer:List Env)(s:Shared)(H:Hp)(E:XK)(cm:Bool:=true):Cx where
 prog:=P
 w:=w
 K:=K
 mg:=mg
 base:=base
 A:=A.deeper (envOfC qual scope s.heap.objs.size f cd)
 N:=N
 s₀:=s
 H₀:=H
 env:=envOfC qual scope s.heap.objs.size f cd
 outer:=outer
 stack:=envOfC qual scope s.heap.objs.size f cd::outer
 ex:=[]
 calm:=cm
 fn:=λ_=>true
 pn:=[]
 xe:=λe s'=>wpAny (model P w) (A.deeper (envOfC qual scope s.heap.objs.size f cd)) (leaving (envOfC qual scope s.heap.objs.size f cd) e) (λ_ s''=>CX outer H s E e s'') (λe' s''=>CX outer H s E e' s'') s'
theorem xK{sc:Scope}{n:Nat}{x:Str}(h:sc.names.lookup x=some .cell):∃c,(cellsFrom n sc.names []).lookup x=some c:=by
 have q:=Z6 sc.names n [] (.inl h);exact ZU.mp q
theorem Ca{cm:Bool}{CX:zI}{P:Program}{w:World}{K:aJ}{mg:Str->Option Value}{base:Heap}{N ps:List Str}{qual:Str}{scope:Scope}{f:Addr}{cd:Value}{A:Around}{outer:List Env}{s s1:Shared}{H:Hp}{E:XK}{us:List Value}{vs:List V}
  (S:aG N ps scope) (hd:cm=true->A.handled=none) (e0:zJ P w K mg base A outer s H) (hl:vs.length=ps.length) (r:Vals vs us)
  (x:InCallC s s.heap.objs.size (bindL (envOfC qual scope s.heap.objs.size f cd).kindOf (ps.zip us) λ_=>none) (cellsFrom (s.heap.objs.size + 1) scope.names []) (bindC (envOfC qual scope s.heap.objs.size f cd).kindOf (ps.zip us) λ_=>none) s1) :
  Inv (pb CX P w K mg base N qual scope f cd A outer s H E cm) [] (start N vs) H s1:=by
 have hpl:ps.length<=N.length:=by have:=X7 List.length S.pre;rw[XC]at this;omega
 obtain⟨h1,tk,rfl,hk⟩:=x.done;have noA:∀b:Addr,b∉(pb CX P w K mg base N qual scope f cd A outer s H E cm).ex:=λb z=>absurd (show b∈([]:List Addr)from z) (by simp)
 refine⟨⟨e0.mod,S.kind,rfl,rfl,Xu _,λy z c h1 h2=>?_,λy hy=>?_,λy c _ h=>?_,hd,Around.frames_deeper e0.frames,.inr ⟨rfl,rfl⟩,λb z=>absurd z (noA b),e0.bs,e0.bsz,λb _ _=>noA b,λb z=>absurd z (noA b),e0.oV,e0.frf⟩,
  rfl,e0.bare,Un.kept hk,⟨_,x.toInCall.ns,λi y v h1 h2 h3=>?_⟩,λy c h=>⟨_,x.cell y c h⟩,e0.hok.fresh (Nat.le_refl _),λy c h=>?_,λp hp=>absurd (show p∈([]:List (Addr×Obj))from hp) (by simp),e0.hok.kept hk,?_⟩
 ·exact name_of_addr x.apart (YL h1) (YL h2)
 ·have hy:scope.names.lookup y=some .cell∨scope.names.lookup y=some .free:=hy;rcases hy with hy | hy
  ·exact xK hy
  ·exact absurd rfl (S.nofree _ (YL hy))
 ·exact aap (x.above y c (YL h))
 ·have hi:i < vs.length:=by
   unfold start at h2;by_cases hi:i < vs.length
   ·exact hi
   ·rw[List.getElem?_append_right (by simpa using hi)]at h2;rw[List.getElem?_replicate]at h2;split at h2<;>cases h2
  have ha:vs[i]?=some v:=by
   unfold start at h2;rw[List.getElem?_append_left (by simpa using hi),List.getElem?_map]at h2
   cases e:vs[i]? with
   | none=>rw[e]at h2;cases h2
   | some a=>rw[e]at h2;cases h2;rfl
  obtain⟨u,hu,rv⟩:=r.get ha
  have hp:ps[i]?=some y:=by
   rw[← S.pre,Y7 (by omega)];exact h1
  have ndP:ps.Nodup:=by rw[← S.pre];exact S.nd.sublist (List.take_sublist _ _)
  refine⟨u,rv,?_⟩;rcases S.par y (Xy hp)with k | k
  ·exact .inl ⟨k,uR ndP hp hu k⟩
  ·obtain⟨c,e⟩:=xK (n:=s.heap.objs.size + 1) k;refine .inr ⟨.inl k,c,e,?_⟩;have q:=x.cell y c e;rw[uT ndP hp hu (by show scope.names.lookup y≠_;rw[k];decide)]at q;exact q
 ·exact e0.hok.fresh (aap (x.above y c (YL h)))
 ·unfold start;show _=N.length;rw[List.length_append,List.length_map,List.length_replicate];omega
theorem JT{cm:Bool}{CX:zI}{P:Program}{w:World}{K:aJ}{mg:Str->Option Value}{base:Heap}{k:Nat}{f:Addr}{name qual:Str}{params:Arguments}{body:List Stmt}{scope:Scope}{dV kV doc pm cdv ct oc:Value}{an od:Option Addr}
  {osl:Array (Option Value)} {N ps:List Str} {sp:Sp} (lk:K.lookup f=some ⟨oc,od,.func (PySem.W.fnOf name qual params body scope dV kV doc pm an cdv ct),osl⟩) (hcd:PySem.W.codeIn K cdv qual=true) (S:aG N ps scope)
  (len:∀vs H Q E,sp vs H Q E->vs.length=ps.length)
  (hbody:∀(A:Around) (outer:List Env) (s:Shared) (H:Hp) (vs:List V) (Q:VK) (E:XK),cK k (A.deeper (envOfC qual scope s.heap.objs.size f cdv)) cm->sp vs H Q E ->
   ∃t,ud (pb CX P w K mg base N qual scope f cdv A outer s H E cm) body t/\t {nx:=λ_ H'=>Q .non H',rt:=Q} (start N vs) H) :
  bE P w K mg base CX (k + 1) f (PySem.W.fnOf name qual params body scope dV kV doc pm an cdv ct) ps sp cm:=by
 refine⟨len,λA outer s H args us vs Q E hr e0 hb r hsp=>?_⟩;have hl:=len _ _ _ _ hsp;have KX:K.In s.heap:=e0.mod.kin.keeps λb o e=>(e0.bs b o e).1
 have lim:s.heap.NoLimit:=e0.mod.nolimit.keeps λb o e=>(e0.bs b o e).1
 have hkind:∀y∈ps.zip us,scope.names.lookup y.1=some .local∨(scope.names.lookup y.1=some .cell/\((cellsFrom (s.heap.objs.size + 1) scope.names []).lookup y.1).isSome=true):=λ⟨n,v⟩ hy=>by
  rcases S.par n (List.of_mem_zip hy).1 with q | q
  ·exact .inl q
  ·exact .inr ⟨q,Z6 _ _ _ (.inl q)⟩
 refine codeAny_call_function hr.depth (KX _ _ lk) rfl S.co S.gen rfl (PySem.W.codeRec_of KX hcd) (hb _ _ _ _ ?_);refine wpAny_newFunctionEnv_cells S.kind hkind λenv he s1 x=>?_
 subst he;refine⟨lim.keeps x.toInCall.keep,codeAny_func ?_⟩;obtain⟨t,ht,hq⟩:=hbody A outer s H vs Q E (hr.deeper _) hsp;have I:Inv (pb CX P w K mg base N qual scope f cdv A outer s H E cm) [] (start N vs) H s1:=Ca S hr.hd e0 hl r x;refine X6 (ht [] s1 (start N vs) H _ I hq) (λfl s' hs=>?_) λe s' hs=>hs
 have fin:∀{σ':St} {H':Hp} {v:V} {u:Value},Inv (pb CX P w K mg base N qual scope f cdv A outer s H E cm) [] σ' H' s'->RelV v u->Q v H'->CE outer P w H s Q u s' :=
  λ{σ' H' v u} J rv q=>⟨v,H',J.os,J.bare,J.base,J.hok,rv,q⟩
 cases fl with
 | ret u =>
  obtain⟨v,σ',H',J,rv,q⟩:=hs;exact fin J rv q
 | next =>
  obtain⟨σ',H',J,q⟩:=hs;exact fin (v:=V.non) (u:=Value.none) J rfl q
 | brk =>
  obtain⟨_,_,_,q⟩:=hs;exact False.elim q
 | cont =>
  obtain⟨_,_,_,q⟩:=hs;exact False.elim q
section
variable {X:Cx} {x:Str} {p pos:Pos} {e:Expr} {es:List Expr} {t:TA} {id T:String} {r:List V->Hp->VK->Prop}
def SW(r:List V->Hp->VK->Prop)(t:TA):TE:=λσ H Q=>t σ H λvs H1=>r vs H1 Q
theorem cV(hc:eY X (.builtin id) r)(hg:Gl X x)(hm:X.mg x=none)(hv:bootBuiltins x=some (.builtin id))(ha:PA X (e::es) t)(hn:x≠"__name__":=by decide)(hdb:(x == ("__debug__" : Str))=false:=by decide)
  (he:starEach (e::es) X.env=(false,eval e X.env)::starEach es X.env:=by rfl) (hpl:(backTo pos (starEach es X.env)).any (·.1)=false:=by rfl):PE X (.Call (.Name x p) (e::es) [] pos) (SW r t):=by
 intro pins s σ H Q I h;refine Yy (ky I hg hm hv ?_ hn hdb);exact PyProof.Rows.callWith_builtin1 (ck (ha pos pins s σ H _ I h) λus s1 ⟨vs,H1,I1,r1,q1⟩=>hc pins s1 σ H1 vs us Q I1 r1 q1) he hpl
theorem Cb(hc:eY X (.type T) r)(hg:Gl X x)(hm:X.mg x=none)(hv:bootBuiltins x=some (.type T))(ha:PA X (e::es) t)(hn:x≠"__name__":=by decide)(hdb:(x == ("__debug__" : Str))=false:=by decide)
  (he:starEach (e::es) X.env=(false,eval e X.env)::starEach es X.env:=by rfl) (hpl:(backTo pos (starEach es X.env)).any (·.1)=false:=by rfl):PE X (.Call (.Name x p) (e::es) [] pos) (SW r t):=by
 intro pins s σ H Q I h;refine Yy (ky I hg hm hv ?_ hn hdb);exact Yl (ck (ha pos pins s σ H _ I h) λus s1 ⟨vs,H1,I1,r1,q1⟩=>hc pins s1 σ H1 vs us Q I1 r1 q1) he hpl
end
end L2
namespace HT
open PySem PyProof.Rows
section
open PySem.SeqAt
open PySem.AutoSeq1 (wpAny_loadPart')
open PySem.MeetsSeq PySem.MeetsSeq2 PySem.MeetsSeq3
end
section
variable {prog:Program} {w:World} {A:Around} {E:Value->Shared->Prop} {s:Shared}
theorem GO{t b:Addr}{vs ws:List Value}{Q:Value->Shared->Prop}(ht:IsTup s.heap t vs.toArray)(hb:IsTup s.heap b ws.toArray)(hv:vs≠[])
  (h1:ws=[]->Q (.ref t) s) (h2:ws≠[]->Q (.ref s.heap.objs.size) {s with heap:=s.heap.push {cls:=.type "tuple",data:=.seq (vs++ws).toArray}})
  (hsz:vs.length + ws.length<=sizeLine):wpAny (model prog w) A (binaryOp .Add (.ref t) (.ref b)) Q E s:=by
 obtain⟨⟨cls,dd,data,sl⟩,ho,hc,n,hd⟩:=id ht;obtain⟨⟨SX,NQ,data2,DB⟩,Cc,Cd,n2,hd2⟩:=id hb;simp only at hc hd Cd hd2;subst hc hd Cd hd2;have e:vs.toArray++ws.toArray=(vs++ws).toArray:=by simp
 by_cases hw:ws=[]
 ·exact concat_meets ⟨_,ho,rfl⟩ ⟨_,Cc,rfl⟩ noFill_tuple_add seq_tuple_add Z7 Z1 (ZV _ _)
   (tuple_addW1 t b vs.toArray ws.toArray n n2 dd NQ sl DB (by simpa using hv) (by simp[hw])) ⟨ho,Cc,h1 hw⟩
 ·refine concat_meets ⟨_,ho,rfl⟩ ⟨_,Cc,rfl⟩ noFill_tuple_add seq_tuple_add Z7 Z1 (ZV _ _)
   (tuple_addW2 t b vs.toArray ws.toArray n n2 dd NQ sl DB (by simpa using hv) (by simpa using hw) (by rw[List.size_toArray,List.size_toArray];exact hsz)) ⟨ho,Cc,?_⟩
  rw[e];exact h2 hw
def dD(n d:Nat):Option Int->Nat
 | none=>d
 | some v=>if v < 0 then(v + (n:Int)).toNat else min v.toNat n
theorem nV(n d:Nat):dD n d none=d:=rfl
theorem vJ(n d k:Nat):dD n d (some (k:Int))=min k n:=by
 show(if (k:Int) < 0 then((k:Int) + (n:Int)).toNat else min (k:Int).toNat n)=min k n;rw[XA (by omega),X1]
theorem K0(n d:Nat)(hd:d<=n)(o:Option Int):dD n d o<=n:=by
 cases o with
 | none=>exact hd
 | some v =>
  show(if v < 0 then(v + (n:Int)).toNat else min v.toNat n)<=n;by_cases hv:v < 0
  ·rw[XB hv];omega
  ·rw[XA hv];exact Nat.min_le_right _ _
theorem A2(v:Int)(n d:Nat):(if v < 0 then max (v + (n:Int)) 0 else min v (n:Int))=((dD n d (some v):Nat):Int):=by
 show(if v < 0 then max (v + (n:Int)) 0 else min v (n:Int))=(((if v < 0 then(v + (n:Int)).toNat else min v.toNat n):Nat):Int);by_cases hv:v < 0
 ·simp only[if_pos hv];omega
 ·simp only[if_neg hv];omega
theorem zK(lo hi:Option Int)(n:Nat):Builtin.Slice.sliceAdjust lo hi 1 (n:Int)=(((dD n 0 lo:Nat):Int),((dD n n hi:Nat):Int)):=by
 have h1:¬ ((1:Int) < 0):=by omega
 unfold Builtin.Slice.sliceAdjust;simp only[h1,if_false];refine Prod.ext ?_ ?_
 ·cases lo with
  | none=>rfl
  | some v=>exact A2 v n 0
 ·cases hi with
  | none=>rfl
  | some v=>exact A2 v n n
theorem zL(i j:Nat):Builtin.Slice.slicePlaces (i:Int) (j:Int) 1=j - i:=by
 unfold Builtin.Slice.slicePlaces;have h1:(1:Int) > 0:=by omega
 simp only[h1,if_true,Int.ediv_one];split<;>omega
theorem rM{v:Value}{o:Option Int}{Q:Option Int->Shared->Prop}(p:IsPart v o)(h:Q o s):wpAny (model prog w) A (Builtin.Slice.slicePartIndex v) Q E s:=by
 cases p with
 | none=>exact slicePart_none h
 | int i t=>exact slicePart_int h
theorem jn{sl:Addr}{vl vu:Value}{lo hi:Option Int}{n:Nat}{Q:Int×Int×Nat->Shared->Prop}(hs:s.heap.IsSliceOf sl vl vu .none)(pl:IsPart vl lo)(pu:IsPart vu hi)
  (h:Q (((dD n 0 lo:Nat):Int),1,dD n n hi - dD n 0 lo) s):wpAny (model prog w) A (Builtin.Slice.sliceApplied (.ref sl) (pure (n:Int))) Q E s:=by
 obtain⟨os,hos,hcs,hds⟩:=id hs;unfold Builtin.Slice.sliceApplied Builtin.Slice.sliceFields;refine wpAny_bind (wpAny_bind (wpAny_field hos hds (x:=vl) rfl (wpAny_bind (wpAny_field hos hds (x:=vu) rfl (wpAny_bind (wpAny_field hos hds (x:=.none) rfl (wpAny_pure ?_)))))));refine wpAny_bind (slicePart_none ?_);show wpAny _ _ (if ((1:Int) == 0)=true then _ else _) _ _ s;rw[if_neg (by decide)];refine wpAny_bind (rM pl (wpAny_bind (rM pu (wpAny_bind (wpAny_pure ?_)))));show wpAny _ _ (match Builtin.Slice.sliceAdjust lo hi 1 (n:Int)with | (lo,hi)=>pure (lo,(1:Int),Builtin.Slice.slicePlaces lo hi 1)) _ _ s;rw[zK lo hi n];show wpAny _ _ (pure (((dD n 0 lo:Nat):Int),(1:Int),Builtin.Slice.slicePlaces ((dD n 0 lo:Nat):Int) ((dD n n hi:Nat):Int) 1)) _ _ s;rw[zL];exact wpAny_pure h
theorem DE(xs:Array Value)(i k:Nat):((List.range k).filterMap λ(m:Nat)=>xs[((i:Int) + (m:Int) * 1).toNat]?).toArray=((xs.toList.drop i).take k).toArray:=by
 have e:(λ(m:Nat)=>xs[((i:Int) + (m:Int) * 1).toNat]?)=λm=>xs[i + m]?:=by
  funext m
  have:((i:Int) + (m:Int) * 1).toNat=i + m:=by omega
  rw[this]
 rw[e];have:=pick_run xs i k;rw[List.filterMap_map]at this;have e2:((λx=>xs[x]?) ∘ λx=>i + x)=λm=>xs[i + m]?:=rfl
 rw[e2]at this;rw[this]
theorem nW{t sl:Addr}{items:Array Value}{vl vu:Value}{lo hi:Option Int}{Q:Value->Shared->Prop}(ht:IsTup s.heap t items)(hs:s.heap.IsSliceOf sl vl vu .none)(pl:IsPart vl lo)(pu:IsPart vu hi)
  (hw:¬ (dD items.size 0 lo=0/\dD items.size items.size hi=items.size))
  (h:Q (.ref s.heap.objs.size) {s with heap:=s.heap.push {cls:=.type "tuple",data:=.seq ((items.toList.drop (dD items.size 0 lo)).take (dD items.size items.size hi - dD items.size 0 lo)).toArray}})
  (hsz:items.size<=sizeLine):wpAny (model prog w) A (getItem (.ref t) (.ref sl)) Q E s:=by
 have htake:sizeOk (.seq ((items.toList.drop (dD items.size 0 lo)).take (dD items.size items.size hi - dD items.size 0 lo)).toArray):=by
  show((items.toList.drop (dD items.size 0 lo)).take (dD items.size items.size hi - dD items.size 0 lo)).toArray.size<=sizeLine;rw[Yk,XC,Yx,Array.length_toList];omega
 have hj:dD items.size items.size hi<=items.size:=K0 _ _ (Nat.le_refl _) hi;obtain⟨os,hos,hcs,hds⟩:=id hs;have hTs:s.TypeIs (.ref sl) "slice":=⟨os,hos,hcs⟩;unfold getItem
 try with_reducible refine Zn ?_
 first | refine Xn (Xx ?_) | skip
 refine Xn (wpAny_sequenceKey ht.typeIs (by decide) ?_);refine Xn (wpAny_callSpecial?_slot (name:=Str.ofString "__getitem__") ht.typeIs YM
  (wpAny_call_entry YM ht.typeIs entry_tuple_getitem ?_ (args_tuple_getitem _ _)))
 show wpAny _ _ (Builtin.Tuple.tupleItemsOf (.ref t) >>= _) _ _ s;refine Xn (tupleItemsOf_ ht ?_);refine Xn (wpAny_typeOf hTs ?_);rw[XB (by decide)];refine Xn (jn hs pl pu ?_)
 have hno:¬ ((((dD items.size 0 lo:Nat):Int) == 0&&(1:Int) == 1&&(dD items.size items.size hi - dD items.size 0 lo) == items.size)=true):=by
  intro q;rw[XN,XN]at q;have q1:((dD items.size 0 lo:Nat):Int)=0:=eq_of_beq q.1.1;have q2:dD items.size items.size hi - dD items.size 0 lo=items.size:=eq_of_beq q.2;exact hw ⟨by omega,by omega⟩
 show wpAny _ _ (if (((dD items.size 0 lo:Nat):Int) == 0&&(1:Int) == 1&&(dD items.size items.size hi - dD items.size 0 lo) == items.size)=true then _ else _) _ _ s;rw[XA hno,DE]
 first
  | exact Xn (m:=Builtin.Tuple.tupleExact _) (Yv (Xx ⟨_,rfl,Xx h⟩) htake)
  | exact Xn (m:=Builtin.Tuple.tupleExact _) (Yv (Xn (Xx (Xx ⟨_,rfl,Xx h⟩))) htake)
  | exact Xn (Xn (m:=Builtin.Tuple.tupleExact _) (Yv (Xx (Xx ⟨_,rfl,Xx h⟩)) htake))
  | exact Xn (Xn (m:=Builtin.Tuple.tupleExact _) (Yv (Xx ⟨_,rfl,Xx h⟩) htake))
end
end HT
namespace L2
open PySem PySem.Spec PyProof.Rows
abbrev TO:=St->Hp->(Option Int->Hp->Prop)->Prop
def PO(X:Cx)(e:Option Expr)(t:TO):Prop :=
 ∀(pins:List (Addr×Obj)) (s:Shared) (σ:St) (H:Hp) (Q:Option Int->Hp->Prop),Inv X pins σ H s->t σ H Q ->
  wpAny (model X.prog X.w) X.A (evalPart e X.env) (λu s'=>∃o H',Inv X pins σ H' s'/\IsPart u o/\Q o H') X.xe s
def GP:TO:=λ_ H Q=>Q none H
def ON(t:TE):TO:=λσ H Q=>t σ H λx H1=>∃i,x=.int i/\Q (some i) H1
theorem intsAre_of{ns:List Int}:∀{us:List Value},Vals (ns.map V.int) us->IntsAre us ns:=by
 induction ns with
 | nil=>intro us r;rw[List.map_nil]at r;cases r;exact .nil
 | cons n ns ih =>
  intro us r;rw[Yj]at r
  cases r with
  | cons r1 r2 =>
   obtain⟨t,e⟩:=r1;subst e;exact .cons n t (ih r2)
section
variable {X:Cx} {e:Expr} {te:TE} {lo hi:Option Expr} {tl th:TO} {pos p2:Pos}
theorem GQ:PO X none GP:=by
 intro pins s σ H Q I h;rw[evalPart_none];exact Xx ⟨none,H,I,.none,h⟩
theorem GR(h:PE X e te):PO X (some e) (ON te):=by
 intro pins s σ H Q I hw;rw[evalPart_some];refine ck (h pins s σ H _ I hw) λu s1 ⟨x,H1,I1,r1,q1⟩=>?_
 obtain⟨i,rfl,q⟩:=q1;obtain⟨t,rfl⟩:=r1;exact⟨some i,H1,I1,.int i t,q⟩
def Gr(X:Cx)(r:V->Option Int->Option Int->Hp->VK->Prop):Prop :=
 ∀(pins:List (Addr×Obj)) (s:Shared) (σ:St) (H:Hp) (x:V) (v vl vu:Value) (lo hi:Option Int) (sl:Addr) (Q:VK),Inv X pins σ H s->RelV x v->s.heap.IsSliceOf sl vl vu .none->IsPart vl lo->IsPart vu hi->r x lo hi H Q ->
  ∃T id,typeLookup (.type T) "__getitem__"=pure (some (.builtin id))/\s.TypeIs v T/\wpAny (model X.prog X.w) X.A (getItem v (.ref sl)) (EP X pins σ Q) X.xe s
def VL(r:V->Option Int->Option Int->Hp->VK->Prop)(te:TE)(tl th:TO):TE:=λσ H Q=>te σ H λx H1=>tl σ H1 λl H2=>th σ H2 λu H3=>r x l u H3 Q
theorem DF{r:V->Option Int->Option Int->Hp->VK->Prop}(hr:Gr X r)(he:PE X e te)(hl:PO X lo tl)(hu:PO X hi th):PE X (.Subscript e (.Slice lo hi none p2) pos) (VL r te tl th):=by
 intro pins s σ H Q I h;refine Subscript_ (ck (he pins s σ H _ I h) λv s1 ⟨x,H1,I1,r1,q1⟩=>?_);refine wpAny_Slice (ck (hl pins s1 σ H1 _ I1 q1) λvl s2 ⟨l,H2,I2,pl,q2⟩=>ck (hu pins s2 σ H2 _ I2 q2) λvu s3 ⟨u,H3,I3,pu,q3⟩=>?_);rw[evalPart_none];refine Xx ?_;have I4:Inv X pins σ H3 {s3 with heap:=s3.heap.push {cls:=.type "slice",data:=.fields #[vl,vu,.none]}}:=I3.kept (t':=s3.toks) λb ob q=>Xl _ q
 obtain⟨T,id,hT,ht,hg⟩:=hr pins {s3 with heap:=s3.heap.push {cls:=.type "slice",data:=.fields #[vl,vu,.none]}} σ H3 x v vl vu l u s3.heap.objs.size Q I4 r1 (Heap.IsSliceOf.new ..) pl pu q3;show wpAny (model X.prog X.w) X.A (subscriptTail e (.Slice lo hi none p2) v (.ref s3.heap.objs.size)) (EP X pins σ Q) X.xe {s3 with heap:=s3.heap.push {cls:=.type "slice",data:=.fields #[vl,vu,.none]}};exact tail_any (ops:=[.ref s3.heap.objs.size,v]) ht hT hg (by with_unfolding_all rfl)
def rN(xs:List V)(lo hi:Option Int):List V:=(xs.drop (HT.dD xs.length 0 lo)).take (HT.dD xs.length xs.length hi - HT.dD xs.length 0 lo)
theorem qt(xs:List V)(lo hi:Option Int):(rN xs lo hi).length<=xs.length:=by
 unfold rN;rw[List.length_take,List.length_drop];omega
def SY(K:aJ):V->Option Int->Option Int->Hp->VK->Prop:=λx lo hi H Q=>∃a xs,x=.ref a/\e8 K H a xs /\
 ¬ (HT.dD xs.length 0 lo=0/\HT.dD xs.length xs.length hi=xs.length)/\∀p,H p=none->Q (.ref p) (upd H p (.tup (rN xs lo hi)))
theorem K1:Gr X (SY X.K):=by
 intro pins s σ H x v vl vu lo hi sl Q I rx hs pl pu h;obtain⟨a,xs,rfl,hx,hw,q⟩:=h;cases rx;obtain⟨its,r,ht,hz⟩:=I.tuple hx;have hlen:its.toArray.size=xs.length:=by rw[Yk];exact r.length.symm
 refine⟨"tuple",_,YM.lookup,ht.typeIs,?_⟩;refine HT.nW ht hs pl pu (by rw[hlen];exact hw) ?_ (by rw[hlen];exact hz);rw[hlen];refine⟨.ref s.heap.objs.size,_,I.laid (t':=s.toks) (o:=.tup (rN xs lo hi)) (λb ob q=>Xl _ q) (Xu _) ?_,rfl,q _ (I.hok.fresh (Xu _))⟩;exact⟨XT (qt xs lo hi) hz,_,(r.drop (HT.dD xs.length 0 lo)).take (HT.dD xs.length xs.length hi - HT.dD xs.length 0 lo),IsTup.new _ _⟩
def OO(K:aJ):R2:=λx y H Q=>∃a b xs ys,x=.ref a/\y=.ref b/\e8 K H a xs/\e8 K H b ys/\xs≠[]/\xs.length + ys.length<=sizeLine /\
 (ys=[]->Q (.ref a) H)/\(ys≠[]->∀p,H p=none->Q (.ref p) (upd H p (.tup (xs++ys))))
theorem Vals.vK{xs:List V}{us:List Value}(r:Vals xs us):us=[]↔xs=[]:=by
 cases r with
 | nil=>simp
 | cons _ _=>simp
theorem GS:gq X (binaryOp .Add) (OO X.K):=by
 intro pins s σ H x y v u Q I rx ry h;obtain⟨a,b,xs,ys,rfl,rfl,ha,hb,hx,hz,q1,q2⟩:=h;cases rx;cases ry;obtain⟨its,r1,p1,_⟩:=I.tuple ha;obtain⟨Cf,r2,p2,_⟩:=I.tuple hb;refine HT.GO p1 p2 (λz=>hx (r1.vK.mp z)) (λz=>⟨.ref a,H,I,rfl,q1 (r2.vK.mp z)⟩) (λz=>?_) (by rw[← r1.length,← r2.length];exact hz);refine⟨.ref s.heap.objs.size,_,I.laid (t':=s.toks) (o:=.tup (xs++ys)) (λb ob q=>Xl _ q) (Xu _) ?_,rfl,q2 (λw=>z (r2.vK.mpr w)) _ (I.hok.fresh (Xu _))⟩;exact⟨by rw[Xw];exact hz,_,r1.append r2,IsTup.new _ _⟩
end
def GU(n:Nat)(i:Int):Option Nat:=if 0<=i then(if i < n then some i.toNat else none)else if -(n:Int)<=i then some (i + n).toNat else none
def kz{α:Type}(xs:List α)(i:Int):Option α:=(GU xs.length i).bind λj=>xs[j]?
theorem GV{n:Nat}{i:Int}{j:Nat}(h:GU n i=some j):seqIndex? i n=some j/\j < n/\-(n:Int)<=i/\i < n:=by
 unfold GU at h;by_cases h0:0<=i
 ·rw[XB h0]at h;by_cases h1:i < n
  ·rw[XB h1]at h;have e:i.toNat=j:=XX h;exact⟨by rw[seqIndex_of h0 h1,e],by omega,by omega,h1⟩
  ·rw[XA h1]at h;cases h
 ·rw[XA h0]at h;by_cases h1:-(n:Int)<=i
  ·rw[XB h1]at h;have e:(i + n).toNat=j:=XX h;exact⟨by rw[seqIndex_neg (by omega) h1,e],by omega,h1,by omega⟩
  ·rw[XA h1]at h;cases h
theorem vL{α:Type}{xs:List α}{i:Int}{v:α}(h:kz xs i=some v):∃j,seqIndex? i xs.length=some j/\xs[j]?=some v/\j < xs.length/\-(xs.length:Int)<=i/\i < xs.length:=by
 unfold kz at h
 cases e:GU xs.length i with
 | none=>rw[e]at h;cases h
 | some j =>
  rw[e]at h;obtain⟨h1,h2,h3,h4⟩:=GV e;exact⟨j,h1,h,h2,h3,h4⟩
theorem aN{α:Type}{xs:List α}{j:Nat}{v:α}(h:xs[j]?=some v):kz xs (j:Int)=some v:=by
 have hj:j < xs.length:=(bX h).1
 have e:GU xs.length (j:Int)=some j:=by
  unfold GU;rw[if_pos (by omega),if_pos (by omega)];simp
 unfold kz;rw[e];exact h
def vM(b:Expr):Prop:=∀o i,subscripted b false o i=operate [o,i] (getItem o i)
def Gs(X:Cx)(r:R2):Prop :=
 ∀(value slice:Expr) (pins:List (Addr×Obj)) (s:Shared) (σ:St) (H:Hp) (x y:V) (v u:Value) (Q:VK),Inv X pins σ H s->RelV x v->RelV y u->r x y H Q ->
  subscripted slice false v u=operate [v,u] (getItem v u)->wpAny (model X.prog X.w) X.A (subscriptTail value slice v u) (EP X pins σ Q) X.xe s
def U9(X:Cx)(id:String)(r:V->List V->Hp->VK->Prop):Prop :=
 ∀(pins:List (Addr×Obj)) (s:Shared) (σ:St) (H:Hp) (x:V) (xs:List V) (v:Value) (us:List Value) (Q:VK),Inv X pins σ H s->RelV x v->Vals xs us->r x xs H Q ->
  wpAny (model X.prog X.w) X.A (call (.builtin id) (v::us)) (EP X pins σ Q) X.xe s
section
variable {X:Cx} {a b:Expr} {ta tb:TE} {pos:Pos}
theorem Gs.or{r r':R2}(h:Gs X r)(h':Gs X r'):Gs X (λx y H Q=>r x y H Q∨r' x y H Q):=by
 intro value slice pins s σ H x y v u Q I rx ry q hs;rcases q with q | q
 ·exact h value slice pins s σ H x y v u Q I rx ry q hs
 ·exact h' value slice pins s σ H x y v u Q I rx ry q hs
theorem kh{r:R2}(hr:Gs X r)(ha:PE X a ta)(hb:PE X b tb)(hs:vM b):PE X (.Subscript a b pos) (GI r ta tb):=by
 intro pins s σ H Q I h;exact Subscript_ (KO ha hb I h λv u s2 x y H2 I2 rx ry q=>hr a b pins s2 σ H2 x y v u Q I2 rx ry q (hs _ _))
inductive OP(K:aJ)(x y:V)(H:Hp)(Q:VK):Prop where
 | mk (p:Addr) (xs:List V) (i:Int) (v:V) (e:x=.ref p) (f:y=.int i) (s:fV K H p xs) (a:kz xs i=some v) (q:Q v H):OP K x y H Q
def OQ(K:aJ):R2:=λx y H Q=>OP K x y H Q
inductive OR(K:aJ)(x y:V)(H:Hp)(Q:VK):Prop where
 | mk (p:Addr) (xs:List V) (i:Int) (v:V) (e:x=.ref p) (f:y=.int i) (s:e8 K H p xs) (a:kz xs i=some v) (q:Q v H):OR K x y H Q
def GW(K:aJ):R2:=λx y H Q=>OR K x y H Q
def OS:R2:=λx y H Q=>∃z i c,x=.str z/\y=.int i/\z.length<=sizeLine/\kz z.cps.toList i=some c/\Q (.str ⟨#[c]⟩) H
theorem GX:Gs X (OQ X.K):=by
 intro value slice pins s σ H x y v u Q I rx ry h hs;obtain⟨p,xs,i,z,rfl,rfl,hq,he,q⟩:=h;cases rx;obtain⟨t,rfl⟩:=ry;obtain⟨its,r,pl,hz⟩:=I.list hq;obtain⟨j,h1,h2,h3,h4,h5⟩:=vL he;obtain⟨w,ew,rw'⟩:=r.get h2;have hl:=r.length;have hn:=rH;have fin:EP X pins σ Q w s:=⟨z,H,I,rw',q⟩;by_cases h0:0<=i
 ·have hj:i.toNat=j:=by
   rw[seqIndex_of h0 h5]at h1;exact XX h1
  exact item_listR pl.isList h0 (by omega) (by rw[hj];simpa using ew) fin hs
 ·have hj:(i + (its.toArray.size:Int)).toNat=j:=by
   rw[seqIndex_neg (by omega) h4]at h1;rw[Yk,← hl];exact XX h1
  exact Zi (x:=w) pl.isList.typeIs slot_list_getitem.lookup
   (wpAny_getItem_list_neg (Q:=λr s'=>r=w/\EP X pins σ Q r s') pl.isList (by omega) (by rw[List.size_toArray]<;>omega) (by omega) (by rw[hj];simpa using ew) ⟨rfl,fin⟩) hs
theorem iR:Gs X (GW X.K):=by
 intro value slice pins s σ H x y v u Q I rx ry h hs;obtain⟨p,xs,i,z,rfl,rfl,hq,he,q⟩:=h;cases rx;obtain⟨t,rfl⟩:=ry;obtain⟨its,r,pl,hz⟩:=I.tuple hq;obtain⟨j,h1,h2,h3,h4,h5⟩:=vL he;obtain⟨w,ew,rw'⟩:=r.get h2;have hl:=r.length;have hn:=rH;have fin:EP X pins σ Q w s:=⟨z,H,I,rw',q⟩;exact Zi (x:=w) pl.typeIs slot_tuple_getitem.lookup
  (getItem_tuple (j:=j) (Q:=λr s'=>r=w/\EP X pins σ Q r s') pl (by omega) (by omega) (by rw[List.size_toArray,← hl];exact h1) (by simpa using ew) ⟨rfl,fin⟩) hs
theorem K2:Gs X OS:=by
 intro value slice pins s σ H x y v u Q I rx ry h hs;obtain⟨z,i,c,rfl,rfl,hz,he,q⟩:=h;obtain⟨t,rfl⟩:=rx;obtain⟨t',rfl⟩:=ry;obtain⟨j,h1,h2,h3,h4,h5⟩:=vL he;have hl:z.cps.toList.length=z.length:=by simp[Str.length]
 rw[hl]at h1 h4 h5;have hn:=rH
 exact tail_any (Zs s z t) slot_str_getitem.lookup (getItem_str (c:=c) (by
  have e1:decide (i < -(2 ^ 63:Int))=false:=decide_eq_false (by omega);have e2:decide (i ≥ 2 ^ 63)=false:=decide_eq_false (by omega);rw[e1,e2,Bool.or_false]) (by rw[h1];simpa using h2) ⟨.str ⟨#[c]⟩,H,I.tok _,⟨_,rfl⟩,q⟩) hs
def Va(K:aJ):R2:=λx y H Q=>OQ K x y H Q∨GW K x y H Q∨OS x y H Q
theorem DG:Gs X (Va X.K):=GX.or (iR.or K2)
theorem vN(lo hi:Option Int)(n:Nat):(sliceBounds lo hi none n).1=((HT.dD n 0 lo:Nat):Int)/\(sliceBounds lo hi none n).2.1=((HT.dD n n hi:Nat):Int)/\(sliceBounds lo hi none n).2.2=1:=by
 refine⟨?_,?_,rfl⟩
 ·cases lo with
  | none=>simp[sliceBounds,HT.dD]
  | some i =>
   simp only[sliceBounds,HT.dD,Option.getD_none,show(1:Int) > 0 by decide,if_true];by_cases h:i < 0
   ·simp only[h,if_true]<;>omega
   ·simp only[h,if_false]<;>omega
 ·cases hi with
  | none=>simp[sliceBounds,HT.dD]
  | some i =>
   simp only[sliceBounds,HT.dD,Option.getD_none,show(1:Int) > 0 by decide,if_true];by_cases h:i < 0
   ·simp only[h,if_true]<;>omega
   ·simp only[h,if_false]<;>omega
theorem ue(its:List Value)(lo hi:Option Int):slicePick its.toArray lo hi none=((its.drop (HT.dD its.length 0 lo)).take (HT.dD its.length its.length hi - HT.dD its.length 0 lo)).toArray:=by
 obtain⟨h1,h2,h3⟩:=vN lo hi its.toArray.size;unfold slicePick;rw[h1,h2,h3];simp only[sliceRange_one,pick_run,List.size_toArray]<;>rfl
def OT(K:aJ):V->Option Int->Option Int->Hp->VK->Prop:=λx lo hi H Q=>∃a xs,x=.ref a/\fV K H a xs/\∀p,H p=none->Q (.ref p) (upd H p (.lst (rN xs lo hi)))
theorem GY:Gr X (OT X.K):=by
 intro pins s σ H x v vl vu lo hi sl Q I rx hs pl pu h;obtain⟨a,xs,rfl,hx,q⟩:=h;cases rx;obtain⟨its,r,ht,hz⟩:=I.list hx;have hlen:=r.length;refine⟨"list",_,slot_list_getitem.lookup,ht.isList.typeIs,?_⟩;refine wpAny_getItem_list_slice ht.isList hs pl pu .none (by simp) ?_ (by rw[List.size_toArray]<;>omega)
 rw[ue,← hlen];refine⟨.ref s.heap.objs.size,_,I.laid (t':=s.toks) (o:=.lst (rN xs lo hi)) (λb ob q=>Xl _ q) (Xu _) ?_,rfl,q _ (I.hok.fresh (Xu _))⟩;exact⟨XT (qt xs lo hi) hz,_,0,(r.drop (HT.dD xs.length 0 lo)).take (HT.dD xs.length xs.length hi - HT.dD xs.length 0 lo),Xz _ rfl⟩
def mj:V->Bool
 | .non=>true
 | .bl _=>true
 | .int _=>true
 | .str _=>true
 | _=>false
def Gu:V->V->Bool
 | .non,.non=>true
 | .bl a,.bl b=>a == b
 | .bl a,.int b=>(if a then 1 else 0) == b
 | .int a,.bl b=>a == (if b then 1 else 0)
 | .int a,.int b=>a == b
 | .str a,.str b=>a == b
 | _,_=>false
theorem K3{A:Around}{s:Shared}{y x:V}{u v:Value}(ry:RelV y u)(rx:RelV x v)(fy:mj y=true)(fx:mj x=true):SeqAt.EqAt A s u v (Gu y x):=by
 cases y with
 | non =>
  cases ry
  cases x with
  | non=>cases rx;exact SeqAt.EqAt.same _
  | bl b=>cases rx;exact SeqAt.EqAt.none_bool b
  | int b=>obtain⟨t,rfl⟩:=rx;exact SeqAt.EqAt.none_int b t
  | str b=>obtain⟨t,rfl⟩:=rx;exact SeqAt.EqAt.none_str b t
  | _=>exact absurd (show false=true from fx) Xq
 | bl a =>
  cases ry
  cases x with
  | non=>cases rx;exact SeqAt.EqAt.bool_none a
  | bl b=>cases rx;exact SeqAt.EqAt.bool_bool a b
  | int b=>obtain⟨t,rfl⟩:=rx;exact SeqAt.EqAt.bool_int a b t
  | str b=>obtain⟨t,rfl⟩:=rx;exact SeqAt.EqAt.bool_str a b t
  | _=>exact absurd (show false=true from fx) Xq
 | int a =>
  obtain⟨t',rfl⟩:=ry
  cases x with
  | non=>cases rx;exact SeqAt.EqAt.int_none a t'
  | bl b=>cases rx;exact SeqAt.EqAt.int_bool a t' b
  | int b=>obtain⟨t,rfl⟩:=rx;exact SeqAt.EqAt.int_int a t' b t
  | str b=>obtain⟨t,rfl⟩:=rx;exact SeqAt.EqAt.int_str a t' b t
  | _=>exact absurd (show false=true from fx) Xq
 | str a =>
  obtain⟨t',rfl⟩:=ry
  cases x with
  | non=>cases rx;exact SeqAt.EqAt.str_none a t'
  | bl b=>cases rx;exact SeqAt.EqAt.str_bool a t' b
  | int b=>obtain⟨t,rfl⟩:=rx;exact SeqAt.EqAt.str_int a t' b t
  | str b=>obtain⟨t,rfl⟩:=rx;exact SeqAt.EqAt.str_str a t' b t
  | _=>exact absurd (show false=true from fx) Xq
 | _=>exact absurd (show false=true from fy) Xq
def zM(x:V)(u:Value):Bool:=match u with
 | .none=>Gu .non x
 | .bool b=>Gu (.bl b) x
 | .int i _=>Gu (.int i) x
 | .str z _=>Gu (.str z) x
 | _=>false
theorem DH{x y:V}{u:Value}(r:RelV y u)(f:mj y=true):zM x u=Gu y x:=by
 cases y with
 | non=>cases r;rfl
 | bl b=>cases r;rfl
 | int i=>obtain⟨t,rfl⟩:=r;rfl
 | str z=>obtain⟨t,rfl⟩:=r;rfl
 | _=>exact absurd (show false=true from f) Xq
theorem nX{x:V}:∀{xs:List V} {us:List Value},Vals xs us->xs.all mj=true->us.any (zM x)=xs.any λy=>Gu y x
 | _,_,.nil,_=>rfl
 | y::xs,u::us,.cons r t,f=>by
  rw[ZL,XN]at f;rw[List.any_cons,List.any_cons,DH r f.1,nX t f.2]
theorem kA{A:Around}{s:Shared}{x:V}{v:Value}(rx:RelV x v)(fx:mj x=true):∀{xs:List V} {us:List Value},Vals xs us->xs.all mj=true->∀u∈us,SeqAt.EqAt A s u v (zM x u)
 | _,_,.nil,_=>λu hu=>by cases hu
 | y::xs,u::us,.cons r t,f=>λu' hu=>by
  rw[ZL,XN]at f;rcases X4.mp hu with rfl | hu
  ·rw[DH r f.1];exact K3 r rx f.1 fx
  ·exact kA rx fx t f.2 u' hu
def NR(x:V)(xs:List V):Bool:=xs.any λy=>Gu y x
def S0(K:aJ)(neg:Bool):R2:=λx y H Q=>∃p xs,y=.ref p/\(fV K H p xs∨e8 K H p xs)/\mj x=true/\xs.all mj=true/\Q (.bl (if neg then !NR x xs else NR x xs)) H
theorem pd:gq X (compareOp .In) (S0 X.K false):=by
 intro pins s σ H x y v u Q I rx ry h;obtain⟨p,xs,rfl,hq,fx,fs,q⟩:=h;cases ry;rcases hq with hq | hq
 ·obtain⟨its,r,pl,hz⟩:=I.list hq;refine SeqAt.in_listAt (zM x) pl.isList (λw hw=>kA rx fx r fs w (by simpa using hw)) ⟨.bl _,H,I,rfl,?_⟩;rw[show its.toArray.any (zM x)=its.any (zM x)by simp,nX r fs];exact q
 ·obtain⟨its,r,pl,hz⟩:=I.tuple hq;refine SeqAt.in_tupleAt (zM x) pl (λw hw=>kA rx fx r fs w (by simpa using hw)) ⟨.bl _,H,I,rfl,?_⟩;rw[show its.toArray.any (zM x)=its.any (zM x)by simp,nX r fs];exact q
theorem vO:gq X (compareOp .NotIn) (S0 X.K true):=by
 intro pins s σ H x y v u Q I rx ry h;obtain⟨p,xs,rfl,hq,fx,fs,q⟩:=h;cases ry;rcases hq with hq | hq
 ·obtain⟨its,r,pl,hz⟩:=I.list hq;refine SeqAt.notIn_listAt (zM x) pl.isList (λw hw=>kA rx fx r fs w (by simpa using hw)) ⟨.bl _,H,I,rfl,?_⟩;rw[show its.toArray.any (zM x)=its.any (zM x)by simp,nX r fs];exact q
 ·obtain⟨its,r,pl,hz⟩:=I.tuple hq;refine SeqAt.notIn_tupleAt (zM x) pl (λw hw=>kA rx fx r fs w (by simpa using hw)) ⟨.bl _,H,I,rfl,?_⟩;rw[show its.toArray.any (zM x)=its.any (zM x)by simp,nX r fs];exact q
theorem vP:eY X (.builtin "len") (λxs H Q=>∃p ys,xs=[.ref p]/\(fV X.K H p ys∨e8 X.K H p ys)/\Q (.int ys.length) H):=by
 intro pins s σ H xs us Q I r h;obtain⟨p,ys,rfl,hq,q⟩:=h;obtain⟨u,rfl,rx⟩:=vals1 r;cases rx;have hn:=rH;rcases hq with hq | hq
 ·obtain⟨its,r',pl,hz⟩:=I.list hq;have hlen:=r'.length;exact Calls.call_len_list pl.isList (by simp only[List.size_toArray]<;>omega) ⟨.int ys.length,H,I.tok _,⟨s.toks + 1,by rw[List.size_toArray,hlen]⟩,q⟩
 ·obtain⟨its,r',pl,hz⟩:=I.tuple hq;have hlen:=r'.length;exact len_tuple pl (by simp only[List.size_toArray]<;>omega) ⟨.int ys.length,H,I.tok _,⟨s.toks + 1,by rw[List.size_toArray,hlen]⟩,q⟩
theorem vQ:eY X (.builtin "len") (λxs H Q=>∃z,xs=[.str z]/\z.length<=sizeLine/\Q (.int z.length) H):=by
 intro pins s σ H xs us Q I r h;obtain⟨z,rfl,hz,q⟩:=h;obtain⟨u,rfl,t,rfl⟩:=vals1 r;have hn:=rH;exact len_str (by omega) ⟨.int z.length,H,I.tok _,⟨_,rfl⟩,q⟩
theorem vR:eY X (.type "list") (λxs H Q=>∃p ys,xs=[.ref p]/\(fV X.K H p ys∨e8 X.K H p ys)/\∀l,H l=none->Q (.ref l) (upd H l (.lst ys))):=by
 intro pins s σ H xs us Q I r h;obtain⟨p,ys,rfl,hq,q⟩:=h;obtain⟨u,rfl,rx⟩:=vals1 r;cases rx;have fin:∀(its:List Value),Vals ys its->ys.length<=sizeLine->∀(h':Heap) (c':Nat),(∀b o',s.heap.get? b=some o'->h'.get? b=some o') ->
   h'.get? s.heap.objs.size=some {cls:=.type "list",dict:=none,data:=.seq its.toArray c',slots:=#[]}->EP X pins σ Q (.ref s.heap.objs.size) {s with heap:=h'}:=λits r' hz h' c' kp e =>
  ⟨.ref s.heap.objs.size,_,I.laid (t':=s.toks) kp (Xu _) (show gm X.prog X.w _ h' _ (.lst ys)from ⟨hz,its,c',r',e⟩),rfl,q _ (I.hok.fresh (Xu _))⟩
 rcases hq with hq | hq
 ·obtain⟨its,r',pl,hz⟩:=I.list hq;have hlen:=r'.length;obtain⟨o,ho,hc,n,hd⟩:=pl.isList;exact call_list_seq p (.inl rfl) ho hc hd (λh' c' kp e=>fin its r' hz h' c' kp e) (by simp only[List.size_toArray]<;>omega)
 ·obtain⟨its,r',pl,hz⟩:=I.tuple hq;have hlen:=r'.length;obtain⟨o,ho,hc,n,hd⟩:=pl;exact call_list_seq p (.inr rfl) ho hc hd (λh' c' kp e=>fin its r' hz h' c' kp e) (by simp only[List.size_toArray]<;>omega)
def S1(K:aJ)(T:String)(x:V)(H:Hp):Prop:=match x with
 | .str _=>T="str"
 | .int _=>T="int"
 | .ref p=>(T="list"/\∃xs,fV K H p xs)∨(T="tuple"/\∃o,K.lookup p=some o/\o.cls=.type "tuple"/\o.dict=none) ∨
   (T="dict"/\((∃kvs,H p=some (.dK kvs))∨∃kvs,H p=some (.dT kvs)))∨(T="set"/\∃S n,H p=some (.set S n))
 | _=>False
theorem K4{pins:List (Addr×Obj)}{σ:St}{H:Hp}{s:Shared}{T:String}{x:V}{v:Value}(I:Inv X pins σ H s)(r:RelV x v)(ty:S1 X.K T x H):
  s.TypeIs v T/\∀a,v=.ref a->∃ob,s.heap.get? a=some ob/\ob.dict=none:=by
 cases x with
 | str z =>
  obtain⟨t,rfl⟩:=r;cases (show T="str" from ty);exact⟨Zs s z t,λ_ e=>nomatch e⟩
 | int i =>
  obtain⟨t,rfl⟩:=r;cases (show T="int" from ty);exact⟨ZP s i t,λ_ e=>nomatch e⟩
 | ref p =>
  cases r;rcases ty with⟨rfl,xs,hq⟩ | ⟨rfl,o,hk,hc,hd⟩ | ⟨rfl,hk⟩ | ⟨rfl,S,n,hk⟩
  ·obtain⟨its,_,pl,_⟩:=I.list hq;refine⟨pl.isList.typeIs,λa e=>?_⟩;cases e;obtain⟨o,n,e,c,hd,_⟩:=pl;exact⟨o,e,hd⟩
  ·refine⟨⟨o,I.nM p o hk,hc⟩,λa e=>?_⟩;cases e;exact⟨o,I.nM _ o hk,hd⟩
  ·have z:∃o,s.heap.get? p=some o/\o.ExactDict:=by
    rcases hk with⟨kvs,hk⟩ | ⟨kvs,hk⟩
    ·obtain⟨_,_,_,_,o,_,_,e,ex,_⟩:=I.hok p _ hk;exact⟨o,e,ex⟩
    ·obtain⟨_,_,_,_,o,_,_,e,ex,_⟩:=I.hok p _ hk;exact⟨o,e,ex⟩
   obtain⟨o,e,ex⟩:=z;refine⟨⟨o,e,ex.1⟩,λa e2=>?_⟩;cases e2;exact⟨o,e,ex.2.1⟩
  ·obtain⟨o,_,_,_,e,ex,_⟩:=I.hok p _ hk;refine⟨⟨o,e,ex.1⟩,λa e2=>?_⟩;cases e2;exact⟨o,e,ex.2.1⟩
 | _=>exact False.elim ty
def VM(K:aJ)(T:String)(r:V->List V->Hp->VK->Prop)(to:TE)(t:TA):TE:=λσ H Q=>to σ H λx H1=>S1 K T x H1/\t σ H1 λxs H2=>r x xs H2 Q
variable {o e:Expr} {es:List Expr} {to:TE} {t:TA} {name:Str} {apos cpos:Pos} {T id:String} {r:V->List V->Hp->VK->Prop}
theorem JU(pa:PlainAttrs T)(slot:Slot T name id)(hty:typeOf (.builtin id)=pure (.type "method_descriptor"))(hm:U9 X id r)(ho:PE X o to)(ha:PA X (e::es) t)
  (hbase:attributeBase o name X.env (eval o X.env)=eval o X.env:=by rfl)
  (hfew:((backTo cpos (starEach (e::es) X.env)).all (λx=>!x.1)&&(backToKw cpos (keywordEach [] X.env)).all (λx=>x.1.isSome)
   && decide ((e::es).length + ([]:List Keyword).length + (if ([]:List Keyword).isEmpty then 0 else 1) < 30))=true:=by rfl)
  (hline:(apos.endLine == cpos.line)=true:=by rfl) (hs:starEach (e::es) X.env=(false,eval e X.env)::starEach es X.env:=by rfl) (hplain:(backTo cpos (starEach es X.env)).any (·.1)=false:=by rfl) :
  PE X (.Call (.Attribute o name apos) (e::es) [] cpos) (VM X.K T r to t):=by
 intro pins s σ H Q I h;refine Z8 hbase hfew hline rfl (ck (ho pins s σ H _ I h) λv s1 ⟨x,H1,I1,r1,ty,q1⟩=>?_);obtain⟨h1,h2⟩:=K4 I1 r1 ty;refine⟨T,id,pa,slot,hty,h1,h2,?_⟩;have hA:=ha cpos pins s1 σ H1 _ I1 q1;rw[hs]at hA ⊢;refine Z9 (by show(false||(backTo cpos (starEach es X.env)).any (·.1))=false;rw[hplain]<;>rfl) (Calls.evalArgs_plain ?_)
 exact ck hA λus s2 ⟨vs,H2,I2,r2,q2⟩=>hm pins s2 σ H2 x vs v us Q I2 r1 r2 q2
end
def VN(X:Cx)(id:String)(r:V->List V->Hp->VK->Prop):Prop :=
 ∀(pins:List (Addr×Obj)) (s:Shared) (σ:St) (H:Hp) (x:V) (xs:List V) (v:Value) (us:List Value) (Q:VK),Inv X pins σ H s->RelV x v->Vals xs us->r x xs H Q ->
  wpAny (model X.prog X.w) X.A (call (.builtin id) (v::us)) (EP X pins σ Q) X.xe s
theorem Vals.one:∀{x:V} {us:List Value},Vals [x] us->∃u,us=[u]/\RelV x u
 | _,_,.cons r .nil=>⟨_,rfl,r⟩
theorem Vals.rep{xs:List V}{us:List Value}(h:Vals xs us):∀k:Nat,Vals (List.replicate k xs).flatten (List.replicate k us).flatten
 | 0=>.nil
 | k + 1=>by
  rw[X9,X9,Ye,Ye];exact Vals.append h (Vals.rep h k)
theorem foldl_rep(its:List Value):∀(k:Nat) (acc:List Value),
  List.foldl (λx1 x2=>x1++x2) acc.toArray (List.replicate k its.toArray)=(acc++(List.replicate k its).flatten).toArray
 | 0,acc=>by simp
 | k + 1,acc=>by
  have e:acc.toArray++its.toArray=(acc++its).toArray:=by simp
  have e2:(acc++its)++(List.replicate k its).flatten=acc++(List.replicate (k + 1) its).flatten:=by
   rw[X9,Ye,ZN]
  rw[← e2,← foldl_rep its k (acc++its),← e,X9,List.foldl_cons]
section
variable {X:Cx} {pins:List (Addr×Obj)} {σ:St} {H:Hp} {s:Shared} {l b:Addr} {xs ys zs:List V}
theorem Inv.S3{its its':List Value}{n:Nat}{f:Array Value->Array Value}{t':Nat}(I:Inv X pins σ H s)(hH:H l=some (.lst xs))
  (e:s.heap.get? l=some {cls:=.type "list",data:=.seq its.toArray n}) (hf:f its.toArray=its'.toArray) (hv:Vals ys its') (hz:ys.length<=sizeLine) :
  Inv X pins σ (upd H l (.lst ys)) {s with heap:=s.heap.update l (Obj.mapSeq f),toks:=t'}:=by
 have q:=PySem.IsL.update e f;rw[hf]at q;refine I.write (x:=l) (e:=l) (by rw[hH];exact trivial) (.inl rfl) (λb' u hb hu=>(YT s.heap (Obj.mapSeq f) (Y4 hb)).trans hu) ⟨_,q⟩ ?_;exact⟨hz,its',_,hv,q⟩
theorem Inv.K5{its:List Value}{t':Nat}(I:Inv X pins σ H s)(hv:Vals ys its)(hz:ys.length<=sizeLine):
  Inv X pins σ (upd H s.heap.objs.size (.lst ys)) {s with heap:=s.heap.push {cls:=.type "list",data:=.seq its.toArray},toks:=t'} :=
 I.laid (λ_ _ q=>Xl _ q) (Xu _) ⟨hz,its,0,hv,Xz _ rfl⟩
theorem Inv.fresh(I:Inv X pins σ H s):H s.heap.objs.size=none:=I.hok.fresh (Xu _)
theorem Inv.S4(I:Inv X pins σ H s)(hH:H l=some (.lst xs)):xs.length<=sizeLine/\∃(its:List Value) (n:Nat),Vals xs its/\xs.length=its.length/\s.heap.get? l=some {cls:=.type "list",data:=.seq its.toArray n}:=by
 obtain⟨z,its,n,r,e⟩:=I.hok l _ hH;exact⟨z,its,n,r,r.length,e⟩
theorem DJ{n:Nat}(h:n<=sizeLine):Builtin.List.listTooLong n=false:=by
 unfold Builtin.List.listTooLong;exact decide_eq_false (by omega)
end
section
variable {X:Cx}
def GZ:V->List V->Hp->VK->Prop:=λx vs H Q=>∃l xs y,x=.ref l/\vs=[y]/\H l=some (.lst xs)/\xs.length < sizeLine/\Q .non (upd H l (.lst (xs++[y])))
theorem uU:VN X "list.append" GZ:=by
 intro pins s σ H x vs v us Q I rx rv h;obtain⟨l,xs,y,rfl,rfl,hH,hz,q⟩:=h;cases rx;obtain⟨u,rfl,ru⟩:=rv.one;obtain⟨z,its,n,r,hl,e⟩:=I.S4 hH;refine call_meets F.slot_list_append ⟨_,e,rfl⟩ F.entry_list_append (F.args_list_append_2 _ _) (PySem.list_append l its.toArray n u (by rw[List.size_toArray];omega)) ⟨e,?_⟩;refine⟨.non,_,I.S3 (its':=its++[u]) hH e (by simp) (r.append (.cons ru .nil)) ?_,rfl,q⟩;rw[List.length_append,List.length_singleton];omega
theorem len_rep{α:Type}(xs:List α)(k:Nat):(List.replicate k xs).flatten.length=k * xs.length:=by
 induction k with
 | zero=>simp
 | succ k ih=>rw[X9,Ye,Xw,ih,Nat.succ_mul,ZW]
end
section
variable {prog:Program} {w:World} {A:Around} {E:Value->Shared->Prop} {s:Shared}
set_option maxRecDepth 100000 in
end
section
variable {X:Cx}
end
end L2
namespace Att
open PySem PySem.W PySem.Calls PyProof.Rows
theorem qI{P:Params}{h:Heap}:∀(ns:List Int) (vs:List Value),WellAll P h vs (ns.map WData.int)->IntsAre vs ns:=by
 intro ns
 induction ns with
 | nil =>
  intro vs w;rw[List.map_nil]at w;cases w;exact .nil
 | cons n ns ih =>
  intro vs w;rw[Yj]at w
  cases w with
  | cons a b =>
   cases a;exact .cons _ _ (ih _ b)
theorem Cg{l:OpenLaw}{n:Nat}(hn:l.most=some n){P:Params}{h:Heap}{args:List WData}{vals:List Value}
  (hpre:l.row.toRowW.claim.pre args=true) (hwl:WellAll P h vals args) :
  ∃a vs ns,vals=[Value.ref a]/\args=[WData.list (ns.map WData.int)]/\h.get? a=some {cls:=.type "list",data:=.seq vs.toArray}/\IntsAre vs ns/\ns.length<=n:=by
 have hsh:WShape.hasAll [] args [.list .int]=true:=(pre_splitW hpre).1;have hc:l.pre.holds [] {args:=args}=true:=(pre_splitW hpre).2;obtain⟨d,r,rfl,h1,h2⟩:=hasAllW_cons hsh;obtain rfl:=hasAllW_nil h2;obtain⟨xs,rfl,h3⟩:=hasW_list h1;obtain⟨ns,rfl⟩:=items_int h3
 have hlen:ns.length<=n:=by
  unfold OpenLaw.pre at hc
  have h4:(WTm.not (.lt (.lit (.int (n:Int))) (.len (.arg 0)))).holds [] {args:=[.list (ns.map .int)]}=true:=by
   have h4:=(holds_andW hc).1;rw[hn]at h4;exact h4
  have h5:=condW_of h4 (w_not (w_lt w_lit (w_len_list (w_arg rfl))));rw[Xk]at h5;refine Nat.le_of_not_lt λq=>?_
  have q':(n:Int) < ((ns.length:Nat):Int):=by omega
  first
   | (rw[Xm q']at h5;exact absurd h5 (by decide))
   | (simp at h5;omega)
 cases hwl with
 | cons w1 w2 =>
  cases w2
  cases w1 with
  | list ho hall=>exact⟨_,_,ns,rfl,rfl,ho,qI ns _ hall,hlen⟩
theorem Ci(l:OpenLaw)(args:List WData):l.row.toRowW.claim.post args (.bool true) args=true :=
 postW_of (r:=l.row.toRowW) (X:=(true == true))
  (show WShape.has [] (.bool true) .bool=true by first | rfl | decide | simp[WShape.has,WShape.arms,WShape.armsAll])
  (show(WTm.eq .res (.lit (.bool true))).value [] {args:=args,res:=some (.bool true),after:=args}=some (.bool (true == true))from w_eq_bool (w_res rfl) w_lit) rfl
theorem xM{l:OpenLaw}{n:Nat}{q:Program}{loose:List Str}{XP:(Str->Option Value)->Heap->Prop}{YP:World->Heap->Prop}{d:DefRec}
  (hn:l.most=some n) (hdf:d.params.defaults=[])
  (call:∀(w:World) (s₀ s₁:Shared) (mg mb:Str->Option Value) (fa:Addr) (o:Obj) (pm cd doc:Value) (a:Addr) (vs:List Value) (ns:List Int),
   Ground q loose [] XP w s₀ mg mb s₁.heap->YP w s₁.heap ->
   s₁.heap.get? fa=some o->o.data=.func (docDef d.name d.params d.body d.scope pm cd doc)->s₁.heap.CodeRec cd d.name->mg d.name=some (.ref fa) ->
   s₁.heap.get? a=some {cls:=.type "list",data:=.seq vs.toArray}->IntsAre vs ns->ns.length<=n->s₁.gens=#[] ->
   codeAny (model l.prog w) callerA (.call (.ref fa) ⟨[.ref a],[]⟩) (λr s'=>r=.ok (.ret (.bool true))/\OldK s₁.heap s'.heap/\s'.os=s₁.os/\AllBare s'.gens) s₁) :
  WalkO q loose XP YP l.row.toRowW d [] (λf vs=>PySem.call f vs):=by
 intro w s₀ s₁ mg mb G Y fa o pm cd doc dV kV ho hd hcd hD hmg hg args vals as hpre hlay hrd hwl hlo;obtain rfl:dV=.none:=Dflts.none hD hdf;obtain rfl:kV=.none:=Dflts.noKw hD;obtain⟨a,vs,ns,rfl,rfl,hobj,hints,hlen⟩:=Cg hn hpre hwl;refine enter_call (ZT (call w s₀ s₁ mg mb fa o pm cd doc a vs ns G Y ho (fd_plain hd) hcd hmg hobj hints hlen hg) λr s' hq=>?_);obtain⟨rfl,h2,h3,h4⟩:=hq;exact⟨.inl ⟨.bool true,.bool true,[],rfl,λ_=>rfl,.bool true,Ci l _,λ_=>⟨List.Pairwise.nil,λ_ hm=>(nomatch hm)⟩⟩,h2,h3,h4⟩
section
variable {prog:Program} {w:World} {A:Around} {E:Value->Shared->Prop} {s:Shared} {K:Frag}
end
end Att
namespace L2
open PySem PySem.Spec PyProof.Rows
theorem uV:∀{vs:List Value} {ns:List Int},IntsAre vs ns->Vals (ns.map V.int) vs
 | _,_,.nil=>.nil
 | _,_,.cons n t h=>.cons ⟨t,rfl⟩ (uV h)
def K6(H:Hp):Prop:=∀b,H b=none∨∃o xs,H b=some (.mi o (.lst xs))
theorem DK{P:Program}{w:World}{K:aJ}{mg mb:Str->Option Value}{CX:zI}{k:Nat}{fa a:Addr}{fd:FuncData}{x:Str}{sp:Sp}{s₁:Shared}{vs:List Value}{ns:List Int}
  (KX:K.In s₁.heap) (hns:s₁.heap.Ns mainGlobals mg) (hb:s₁.heap.Ns builtinsNs mb) (hbb:∀x:Str,x≠"__name__"->mb x=bootBuiltins x) (hlim:s₁.heap.NoLimit) (hg:s₁.gens=#[])
  (ha:s₁.heap.get? a=some {cls:=.type "list",data:=.seq vs.toArray}) (hi:IntsAre vs ns) (hl:ns.length<=sizeLine) (hr:cK k callerA)
  (F:∀base:Heap,K.In base->base.Ns mainGlobals mg->bE P w K mg base CX k fa fd [x] sp) (hbind:∀(s:Shared) (u:Value),BindsTo s fd ⟨[u],[]⟩ [(x,u)])
  (hsp:∀H:Hp,K6 H->fV K H a (ns.map V.int)->sp [.ref a] H (λv _=>v=.bl true) λ_ _ _=>False)
  (hCX:∀H e s',CX [] H s₁ (λ_ _ _=>False) e s'->False) :
  codeAny (model P w) callerA (.call (.ref fa) ⟨[.ref a],[]⟩) (λr s'=>r=.ok (.ret (.bool true))/\OldK s₁.heap s'.heap/\s'.os=s₁.os/\AllBare s'.gens) s₁:=by
 have rv:=uV hi;have lenV:=hi.length;have core:∀H:Hp,K6 H->fV K H a (ns.map V.int)->qF P w H s₁.heap->(∀b,H b≠none->b=a)->(H a≠none->K.lookup a=none) ->
   codeAny (model P w) callerA (.call (.ref fa) ⟨[.ref a],[]⟩) (λr s'=>r=.ok (.ret (.bool true))/\OldK s₁.heap s'.heap/\s'.os=s₁.os/\AllBare s'.gens) s₁:=by
  intro H hO hS hok hA hK;have base_of:∀{b:Addr} {o:Obj},s₁.heap.get? b=some o->H b=none->(vD s₁.heap H).get? b=some o:=λe n=>Dj e n
  have noA:∀{b:Addr} {o:Obj} {es:Array DictEntry} {ep:Nat},s₁.heap.get? b=some o->o.data=.dict es ep->H b=none:=λ{b o es ep} e d=>by
   cases q:H b with
   | none=>rfl
   | some u =>
    have e':b=a:=hA b (by rw[q];simp);subst e';rw[ha]at e;cases e;have d':Data.seq vs.toArray _=Data.dict es ep:=d;cases d'
  have nsK:∀{b:Addr} {m:Str->Option Value},s₁.heap.Ns b m->(vD s₁.heap H).Ns b m:=λ{b m} ⟨o,es,ep,e,d,r⟩=>⟨o,es,ep,base_of e (noA e d),d,r⟩
  have hKb:K.In (vD s₁.heap H):=λb o e=>base_of (KX b o e) (by
   cases q:H b with
   | none=>rfl
   | some u =>
    have e':b=a:=hA b (by rw[q];simp);subst e';rw[hK (by rw[q];simp)]at e;cases e)
  have hM:Mod K mg (vD s₁.heap H):=⟨hKb,nsK hns,⟨mb,nsK hb,hbb⟩,let ⟨mc,h1,h2⟩:=hlim;⟨mc,nsK h1,h2⟩⟩;have e0:zJ P w K mg (vD s₁.heap H) callerA [] s₁ H:=⟨rfl,hM,λb o e=>Gz e,Nat.le_of_eq (BY _ _),trivial,λb hb=>absurd (show b∈([]:List Addr)from hb) (by simp),hok,.of_eq hg⟩;refine codeAny_mono ((F _ hKb (nsK hns)).run callerA [] s₁ H ⟨[.ref a],[]⟩ [.ref a] [.ref a] _ _ hr e0 (hbind s₁ (.ref a)) (.cons rfl .nil) (hsp H hO hS)) λr s' h=>?_
  cases r with
  | error e=>exact(hCX H e s' h).elim
  | ok fl =>
   cases fl with
   | next=>exact False.elim h
   | brk=>exact False.elim h
   | cont=>exact False.elim h
   | ret u =>
    obtain⟨v,H',os,bare,un,hok',r',q⟩:=h;have q':v=.bl true:=q;subst q';obtain rfl:u=Value.bool true:=r';refine⟨rfl,OldK.of_keep λb o e=>?_,os,bare⟩
    cases q:H b with
    | none=>exact un.keep b o e q (by intro z;exact absurd (show b∈([]:List Addr)from z) (by simp)) (by simp)
    | some u =>
     rcases hO b with z | ⟨ob,xs,z⟩
     ·rw[q]at z;cases z
     ·have z2:=un.dn b ob _ z;obtain⟨e1,_⟩:=hok b _ z;obtain⟨e2,_⟩:=hok' b _ z2;rw[e]at e1;cases e1;exact e2
 cases hk:K.lookup a with
 | some o =>
  have e:=KX a o hk;rw[ha]at e;cases e;refine core (λ_=>none) (λ_=>.inl rfl) (.inr ⟨_,vs.toArray,_,hk,rfl,rfl,rfl,by rw[List.size_toArray,lenV];exact hl,by simpa using rv⟩) (λb u z=>by have z':(none:Option HO)=some u:=z;cases z') (λb z=>absurd rfl z) λz=>absurd rfl z
 | none =>
  refine core (λb=>if b=a then some (.mi {cls:=.type "list",data:=.seq vs.toArray} (.lst (ns.map V.int)))else none) (λb=>?_) (.inl (.inr ⟨{cls:=.type "list",data:=.seq vs.toArray},XB rfl⟩)) (λb u z=>?_) (λb z=>?_) λ_=>hk
  ·by_cases hb:b=a
   ·exact .inr ⟨_,_,XB hb⟩
   ·exact .inl (XA hb)
  ·by_cases hb:b=a
   ·have z':=(XB hb).symm.trans z;cases z';subst hb;exact⟨ha,by rw[Xk];exact hl,vs,_,rv,ha⟩
   ·have z':=(XA hb).symm.trans z;cases z'
  ·by_cases hb:b=a
   ·exact hb
   ·exact absurd (XA hb) z
theorem G0{l:PySem.W.OpenLaw}{n k:Nat}{q:Program}{loose:List Str}{XP:(Str->Option Value)->Heap->Prop}{YP:World->Heap->Prop}{d:DefRec}{K:Params->aJ}{CX:World->zI}{sp:World->Sp}{x:Str}
  (hn:l.most=some n) (VO:n<=sizeLine) (hdf:d.params.defaults=[]) (hr:cK k callerA)
  (hY:∀(w:World) (h:Heap),YP w h->(K w.params).In h)
  (F:∀(w:World) (mg:Str->Option Value) (fa:Addr) (h:Heap),(K w.params).In h->h.Ns mainGlobals mg->mg d.name=some (.ref fa) ->
   ∃fd:FuncData,(∀(s:Shared) (u:Value),BindsTo s fd ⟨[u],[]⟩ [(x,u)]) /\
    ∀base:Heap,(K w.params).In base->base.Ns mainGlobals mg->bE l.prog w (K w.params) mg base (CX w) k fa fd [x] (sp w))
  (hsp:∀(w:World) (H:Hp) (a:Addr) (ns:List Int),ns.length<=n->K6 H->fV (K w.params) H a (ns.map V.int)->sp w [.ref a] H (λv _=>v=.bl true) λ_ _ _=>False)
  (hCX:∀(w:World) (H:Hp) (s:Shared) (e:Value) (s':Shared),CX w [] H s (λ_ _ _=>False) e s'->False) :
  PySem.W.WalkO q loose XP YP l.row.toRowW d [] (λf vs=>PySem.call f vs):=by
 refine Att.xM hn hdf λw s₀ s₁ mg mb fa o pm cd doc a vs ns G Y ho hd hcd hmg hobj hints hlen hg=>?_
 have KX:=hY w _ Y;obtain⟨fd,hb,hF⟩:=F w mg fa _ KX G.T.g hmg;exact DK KX G.T.g G.T.b G.T.builtins G.T.nolimit hg hobj hints (XT hlen VO) hr hF hb (λH hO hS=>hsp w H a ns hlen hO hS) λH e s'=>hCX w H s₁ e s'
def dA(s:Stmt):Arguments:=match s with
 | .FunctionDef _ a _ _ _ _ _ _ _ _=>a
 | _=>{posonlyargs:=[],args:=[],vararg:=none,kwonlyargs:=[],kw_defaults:=[],kwarg:=none,defaults:=[]}
def dB(s:Stmt):List Stmt:=match s with
 | .FunctionDef _ _ b _ _ _ _ _ _ _=>b
 | _=>[]
def dS(s:Stmt):Scope:=match s with
 | .FunctionDef _ _ _ _ _ _ sc _ _ _=>sc
 | _=>{kind:=.function,names:=[],isGenerator:=false,isCoroutine:=false}
abbrev bM:zI:=λ_ _ _ _ _ _=>False
abbrev E0:XK:=λ_ _ _=>False
theorem DL{X:Cx}:Passes bM X E0:=λ_ _ _ _ _ _ _ h=>h.elim
structure eW(K:aJ)(x qual:Str)(st:Stmt)(f:Addr)(fd:FuncData):Prop where
 ex:∃(oc:Value) (od:Option Addr) (kV doc pm:Value) (an:Option Addr) (cdv ct:Value) (osl:Array (Option Value)),
  fd=PySem.W.fnOf x qual (dA st) (dB st) (dS st) .none kV doc pm an cdv ct/\K.lookup f=some ⟨oc,od,.func fd,osl⟩/\PySem.W.codeIn K cdv qual=true
 kp:PySem.W.keepIn K (.ref f)=true
section
variable {P:Program} {w:World} {K:aJ} {mg:Str->Option Value} {base:Heap}
theorem eW.ok{cm:Bool}{x qual:Str}{st:Stmt}{f:Addr}{fd:FuncData}{N ps:List Str}{k:Nat}{sp:Sp}(F:eW K x qual st f fd)(S:aG N ps (dS st))(len:∀vs H Q E,sp vs H Q E->vs.length=ps.length)
  (hbody:∀(cdv:Value) (A:Around) (outer:List Env) (s:Shared) (H:Hp) (vs:List V) (Q:VK) (E:XK),cK k (A.deeper (envOfC qual (dS st) s.heap.objs.size f cdv)) cm->sp vs H Q E ->
   ∃t,ud (pb bM P w K mg base N qual (dS st) f cdv A outer s H E cm).Oy (dB st) t/\t {nx:=λ_ H'=>Q .non H',rt:=Q} (start N vs) H):bE P w K mg base bM (k + 1) f fd ps sp cm:=by
 obtain⟨oc,od,kV,doc,pm,an,cdv,ct,osl,rfl,lk,hcd⟩:=F.ex;refine JT lk hcd S len λA outer s H vs Q E hr hsp=>?_
 obtain⟨t,h,q⟩:=hbody cdv A outer s H vs Q E hr hsp;exact⟨t,h.Oy,q⟩
theorem eW.binds{x qual:Str}{st:Stmt}{f:Addr}{fd:FuncData}{ps:List Str}(F:eW K x qual st f fd)
  (h:∀(kV doc pm:Value) (an:Option Addr) (cdv ct:Value) (us:List Value),us.length=ps.length->bindArgs (PySem.W.fnOf x qual (dA st) (dB st) (dS st) .none kV doc pm an cdv ct) ⟨us,[]⟩=pure (ps.zip us)):Binds K fd ps []:=by
 obtain⟨oc,od,kV,doc,pm,an,cdv,ct,osl,rfl,lk,hcd⟩:=F.ex;exact .all (h kV doc pm an cdv ct)
theorem vS{x qual:Str}{st:Stmt}{f:Addr}{oc:Value}{od an:Option Addr}{osl:Array (Option Value)}{kV doc pm cdv ct:Value}(l:K.lookup f=some ⟨oc,od,.func (PySem.W.fnOf x qual (dA st) (dB st) (dS st) .none kV doc pm an cdv ct),osl⟩)
  (c:PySem.W.codeIn K cdv qual=true) (k:PySem.W.keepIn K (.ref f)=true):eW K x qual st f (PySem.W.fnOf x qual (dA st) (dB st) (dS st) .none kV doc pm an cdv ct):=⟨⟨oc,od,kV,doc,pm,an,cdv,ct,osl,rfl,l,c⟩,k⟩
end
section
variable {X:Cx}
theorem pv(i:Nat){x:Str}{pos:Pos}(hN:X.N[i]?=some x:=by rfl)(hv:RD X.env.scope x:=by first | exact Xo rfl | exact YD (Xo rfl) | exact YD (YD rfl))(hd:(x == ("__debug__" : Str))=false:=by decide)
  (hcd:(x == ("__classdict__" : Str))=false:=by decide):PE X (.Name x pos) (BZ i):=Dl hN hv hd hcd
end
theorem bZ{A B:Prop}(h:B):if false=true then A else B:=by
 rw[XA Xq];exact h
theorem cc{A B:Prop}(h:A):if true=true then A else B:=by
 rw[XB rfl];exact h
theorem K7{c A B:Prop}[Decidable c](h1:c->A)(h2:¬ c->B):if c then A else B:=by
 by_cases h:c
 ·rw[XB h];exact h1 h
 ·rw[XA h];exact h2 h
def bD(H H':Hp):Prop:=∀b o,H b=some o->H' b=some o
theorem bD.refl(H:Hp):bD H H:=λ_ _ h=>h
theorem bD.trans{H H1 H2:Hp}(a:bD H H1)(b:bD H1 H2):bD H H2:=λc o h=>b c o (a c o h)
theorem bD.seq{K:aJ}{H H':Hp}{a:Addr}{xs:List V}(e:bD H H')(h:fV K H a xs):fV K H' a xs:=by
 rcases h with(h | ⟨o,h⟩) | h
 ·exact .inl (.inl (e _ _ h))
 ·exact .inl (.inr ⟨o,e _ _ h⟩)
 ·exact .inr h
open PySem PySem.Spec
theorem K8:bootBuiltins "len"=some (.builtin "len"):=by decide +kernel
theorem bF:bootBuiltins "isinstance"=some (.builtin "isinstance"):=by decide +kernel
theorem K9:bootBuiltins "max"=some (.builtin "max"):=by decide +kernel
theorem DM:bootBuiltins "min"=some (.builtin "min"):=by decide +kernel
theorem La:bootBuiltins "all"=some (.builtin "all"):=by decide +kernel
theorem zN:bootBuiltins "int"=some (.type "int"):=by decide +kernel
theorem A4:bootBuiltins "bool"=some (.type "bool"):=by decide +kernel
theorem G2:bootBuiltins "list"=some (.type "list"):=by decide +kernel
theorem DN:bootBuiltins "tuple"=some (.type "tuple"):=by decide +kernel
theorem DP:bootBuiltins "str"=some (.type "str"):=by decide +kernel
theorem xN:bootBuiltins "reversed"=some (.type "reversed"):=by decide +kernel
theorem Lb:bootBuiltins "zip"=some (.type "zip"):=by decide +kernel
theorem vT:bootBuiltins "enumerate"=some (.type "enumerate"):=by decide +kernel
theorem uf:bootBuiltins "ValueError"=some (.type "ValueError"):=by decide +kernel
structure dj(P:Program)(w:World)(K:aJ)(mg:Str->Option Value)(base:Heap)(CX:zI)(x:Str)(k:Nat)(ps:List Str)(sp:Sp):Prop where
 ex:∃(f:Addr) (fd:FuncData),bE P w K mg base CX k f fd ps sp/\Binds K fd ps []/\PySem.W.keepIn K (.ref f)=true/\mg x=some (.ref f)
section
variable {X:Cx} {x:Str} {k:Nat} {ps:List Str} {sp:Sp} {e:Expr} {es:List Expr} {t:TA} {p pos:Pos}
theorem A5(h:dj X.prog X.w X.K X.mg X.base bM x k ps sp)(hr:cK k X.A)(hg:Gl X x)(ha:PA X (e::es) t)(hdb:(x == ("__debug__" : Str))=false:=by decide)
  (he:starEach (e::es) X.env=(false,eval e X.env)::starEach es X.env:=by rfl) (hpl:(backTo pos (starEach es X.env)).any (·.1)=false:=by rfl) :
  PE X (.Call (.Name x p) (e::es) [] pos) (rL sp [] E0 t):=by
 obtain⟨f,fd,F,b,kp,m⟩:=h.ex;exact A1 F hr hg m kp b .nil DL ha hdb he hpl
theorem Lc(h:dj X.prog X.w X.K X.mg X.base bM x k ps sp)(hr:cK k X.A)(hg:Gl X x)(hdb:(x == ("__debug__" : Str))=false:=by decide):
  PE X (.Call (.Name x p) [] [] pos) (rL sp [] E0 GN):=by
 obtain⟨f,fd,F,b,kp,m⟩:=h.ex;exact DA F hr hg m kp b .nil DL hdb
end
theorem bD.tup{K:aJ}{H H':Hp}{a:Addr}{xs:List V}(e:bD H H')(h:e8 K H a xs):e8 K H' a xs:=by
 rcases h with(h | ⟨o,h⟩) | h
 ·exact .inl (.inl (e _ _ h))
 ·exact .inl (.inr ⟨o,e _ _ h⟩)
 ·exact .inr h
def S5:Key->PyData
 | .inl i=>.int i
 | .inr x=>.str x
inductive cy(K:aJ)(H:Hp):V->PyData->Prop
 | non:cy K H .non .none
 | bl (b:Bool):cy K H (.bl b) (.bool b)
 | int (i:Int):cy K H (.int i) (.int i)
 | str (x:Str):cy K H (.str x) (.str x)
 | lst {a:Addr} {xs:List V} {ds:List PyData} (h:fV K H a xs) (hl:xs.length=ds.length) (hi:∀(i:Nat) (x:V) (d:PyData),xs[i]?=some x->ds[i]?=some d->cy K H x d):cy K H (.ref a) (.list ds)
 | tup {a:Addr} {xs:List V} {ds:List PyData} (h:e8 K H a xs) (hl:xs.length=ds.length) (hi:∀(i:Nat) (x:V) (d:PyData),xs[i]?=some x->ds[i]?=some d->cy K H x d):cy K H (.ref a) (.tuple ds)
 | dct {a:Addr} {xs:List (Key×V)} {ds:List (PyData×PyData)} (h:H a=some (.dK xs)) (hk:xs.map (λp=>S5 p.1)=ds.map (·.1)) (hi:∀(i:Nat) (x:Key×V) (d:PyData×PyData),xs[i]?=some x->ds[i]?=some d->cy K H x.2 d.2):cy K H (.ref a) (.dict ds)
def kj(K:aJ)(H:Hp)(xs:List V)(ds:List PyData):Prop:=xs.length=ds.length/\∀(i:Nat) (x:V) (d:PyData),xs[i]?=some x->ds[i]?=some d->cy K H x d
theorem kj.nil{K:aJ}{H:Hp}:kj K H [] []:=⟨rfl,λi x d h=>by simp at h⟩
theorem kj.cons{K:aJ}{H:Hp}{x:V}{d:PyData}{xs:List V}{ds:List PyData}(h:cy K H x d)(r:kj K H xs ds):kj K H (x::xs) (d::ds) :=
 ⟨by simp[r.1],λi y e h1 h2=>by
  cases i with
  | zero=>simp at h1 h2;subst h1;subst h2;exact h
  | succ i=>exact r.2 i y e (by simpa using h1) (by simpa using h2)⟩
theorem cy.OU{K:aJ}{H:Hp}{a:Addr}{xs:List V}{ds:List PyData}(h:e8 K H a xs)(r:kj K H xs ds):cy K H (.ref a) (.tuple ds):=.tup h r.1 r.2
theorem cy.same{K:aJ}{H H':Hp}(e:bD H H'){v:V}{d:PyData}(h:cy K H v d):cy K H' v d:=by
 induction h with
 | non=>exact .non
 | bl b=>exact .bl b
 | int i=>exact .int i
 | str x=>exact .str x
 | lst h hl hi ih=>exact .lst (e.seq h) hl ih
 | tup h hl hi ih=>exact .tup (e.tup h) hl ih
 | dct h hk hi ih=>exact .dct (e _ _ h) hk ih
theorem fM{h:Heap}:∀{xs:List V} {us:List Value} {ds:List PyData},Vals xs us->xs.length=ds.length->(∀(i:Nat) (x:V) (d:PyData) (u:Value),xs[i]?=some x->ds[i]?=some d->RelV x u->∃as,Reads h u d as)->∃as,ReadsAll h us ds as
 | [],_,[],.nil,_,_=>⟨[],.nil⟩
 | [],_,_::_,_,hl,_=>nomatch hl
 | _::_,_,[],_,hl,_=>nomatch hl
 | x::xs,u::us,d::ds,.cons r t,hl,hi=>by
  obtain⟨as,ha⟩:=hi 0 x d u rfl rfl r;obtain⟨bs,hb⟩:=fM t (by simpa using hl) λi y e w h1 h2=>hi (i + 1) y e w (by simpa using h1) (by simpa using h2)
  exact⟨as++bs,.cons ha hb⟩
theorem G3:∀{k:Key} {v:Value},Di k v=true->RelV (kV k) v
 | .inl _,_,h=>by
  rcases bR h with⟨i,t,e,rfl⟩ | ⟨x,t,e,rfl⟩
  ·cases e;exact⟨t,rfl⟩
  ·cases e
 | .inr _,_,h=>by
  rcases bR h with⟨i,t,e,rfl⟩ | ⟨x,t,e,rfl⟩
  ·cases e
  ·cases e;exact⟨t,rfl⟩
theorem DQ{P:Program}{w:World}{es:List DictEntry}{vs:List (Key×Value)}(hp:PySem.Pairs (vC P w) es vs):∀{xs:List (Key×V)},KV xs vs->Vals (xs.map (·.2)) (es.map (·.val))/\Vals (xs.map λp=>kV p.1) (es.map (·.key)):=by
 induction hp with
 | nil=>intro xs rel;cases rel;exact⟨.nil,.nil⟩
 | @cons e kv es kvs h1 h2 t ih =>
  intro xs rel
  cases rel with
  | @cons a b l1 l2 r rt =>
   obtain⟨p,q⟩:=ih rt;refine⟨.cons ?_ p,.cons ?_ q⟩
   ·show RelV a.2 e.val;rw[h2];exact r.2
   ·show RelV (kV a.1) e.key;rw[r.1];exact G3 h1
section
variable {X:Cx} {pins:List (Addr×Obj)} {σ:St} {H:Hp} {s:Shared}
theorem cy.reads(I:Inv X pins σ H s){v:V}{d:PyData}(h:cy X.K H v d):∀{u:Value},RelV v u->∃as,Reads s.heap u d as:=by
 induction h with
 | non=>intro u r;cases r;exact⟨_,.none⟩
 | bl b=>intro u r;cases r;exact⟨_,.bool b⟩
 | int i=>intro u r;obtain⟨t,rfl⟩:=r;exact⟨_,.int i t⟩
 | str x=>intro u r;obtain⟨t,rfl⟩:=r;exact⟨_,.str x t⟩
 | lst h hl hi ih =>
  intro u r;cases r;obtain⟨its,rv,⟨o,n,e,c,_,d⟩,hz⟩:=I.list h;obtain⟨as,ha⟩:=fM (h:=s.heap) rv hl λi x d u h1 h2 r=>ih i x d h1 h2 r
  exact⟨_,.list e c d ha⟩
 | tup h hl hi ih =>
  intro u r;cases r;obtain⟨its,rv,⟨o,e,c,n,d⟩,hz⟩:=I.tuple h;obtain⟨as,ha⟩:=fM (h:=s.heap) rv hl λi x d u h1 h2 r=>ih i x d h1 h2 r
  exact⟨_,.tuple e c d ha⟩
 | @dct a xs ds h hk hi ih =>
  intro u r;cases r;obtain⟨_,_,vs,rel,o,es,ep,e,hx,hd,_,hp,_⟩:=(show gm X.prog X.w H s.heap a (.dK xs)from I.hok a _ h);obtain⟨rv,rk⟩:=DQ hp rel;have hl:xs.length=ds.length:=by simpa using congrArg List.length hk
  obtain⟨as,ha⟩:=fM (h:=s.heap) (ds:=ds.map (·.1)) rk (by simpa using hl) λi x d u h1 h2 r=>by
   rw[← hk,XJ]at h2;rw[XJ]at h1
   cases q:xs[i]? with
   | none=>rw[q]at h1;cases h1
   | some p =>
    rw[q]at h1 h2;cases h1;cases h2;obtain⟨k,v⟩:=p
    cases k with
    | inl n=>obtain⟨t,rfl⟩:=r;exact⟨_,.int n t⟩
    | inr n=>obtain⟨t,rfl⟩:=r;exact⟨_,.str n t⟩
  obtain⟨bs,hb⟩:=fM (h:=s.heap) (ds:=ds.map (·.2)) rv (by simpa using hl) λi x d u h1 h2 r=>by
   rw[XJ]at h1 h2
   cases q:xs[i]? with
   | none=>rw[q]at h1;cases h1
   | some p =>
    cases q2:ds[i]? with
    | none=>rw[q2]at h2;cases h2
    | some p2 =>
     rw[q]at h1;rw[q2]at h2;cases h1;cases h2;exact ih i p p2 q q2 r
  exact⟨_,.dict e hx.1 hd ha hb⟩
end
section
variable {X:Cx}
def OV(K:aJ):R2:=λx y H Q=>∃d d',cy K H x d/\cy K H y d'/\PySem.SeqAt.shaped d=true/\PySem.SeqAt.shaped d'=true/\Q (.bl (PyData.eqv d d')) H
def OW(K:aJ):R2:=λx y H Q=>∃d d',cy K H x d/\cy K H y d'/\PySem.SeqAt.shaped d=true/\PySem.SeqAt.shaped d'=true/\Q (.bl (!PyData.eqv d d')) H
theorem DR(hu:X.A.units + 64 < cLine):gq X (compareOp .Eq) (OV X.K):=by
 intro pins s σ H x y v u Q I rx ry h;obtain⟨d,d',h1,h2,s1,s2,q⟩:=h;obtain⟨as,r1⟩:=h1.reads I rx;obtain⟨bs,r2⟩:=h2.reads I ry;exact eq_dataH r1 r2 s1 s2 hu ⟨.bl _,H,I,rfl,q⟩
theorem DU(hu:X.A.units + 64 < cLine):gq X (compareOp .NotEq) (OW X.K):=by
 intro pins s σ H x y v u Q I rx ry h;obtain⟨d,d',h1,h2,s1,s2,q⟩:=h;obtain⟨as,r1⟩:=h1.reads I rx;obtain⟨bs,r2⟩:=h2.reads I ry;exact ne_dataH r1 r2 s1 s2 hu ⟨.bl _,H,I,rfl,q⟩
def OX(a:Addr):Heap->Prop:=λh=>∃o,h.get? a=some o/\o.cls=.type "dict"
inductive DW(K:aJ)(H:Hp):V->String->Prop
 | non:DW K H .non "NoneType"
 | bl (b:Bool):DW K H (.bl b) "bool"
 | int (i:Int):DW K H (.int i) "int"
 | str (x:Str):DW K H (.str x) "str"
 | lst {a:Addr} {xs:List V} (h:fV K H a xs):DW K H (.ref a) "list"
 | tup {a:Addr} {xs:List V} (h:e8 K H a xs):DW K H (.ref a) "tuple"
 | dct {a:Addr} (h:H a=some (.ext (OX a))):DW K H (.ref a) "dict"
def S8(K:aJ):List V->Hp->VK->Prop:=λvs H Q=>∃x n t b,vs=[x,.ty n]/\DW K H x t/\PySem.W.kitOne K (.type t) (.type n)=some b/\Q (.bl b) H
theorem kB:eY X (.builtin "isinstance") (S8 X.K):=by
 intro pins s σ H xs us Q I r h;obtain⟨x,n,t,b,rfl,ty,e,q⟩:=h;obtain⟨u,w',rfl,rx,rw'⟩:=vals2 r;cases rw';have fin:∀tk,EP X pins σ Q (.bool b) {s with toks:=tk}:=λtk=>⟨.bl b,H,I.tok tk,rfl,q⟩
 cases ty with
 | non=>cases rx;exact Yt PySem.W.kitx_none I.nM Za e (λz=>nomatch z) fin
 | bl y=>cases rx;exact Yt PySem.W.kitx_bool I.nM Za e (λz=>nomatch z) fin
 | int i=>obtain⟨t,rfl⟩:=rx;exact Yt PySem.W.kitx_int I.nM Za e (λz=>nomatch z) fin
 | str y=>obtain⟨t,rfl⟩:=rx;exact Yt PySem.W.kitx_str I.nM Za e (λz=>nomatch z) fin
 | lst h =>
  cases rx;obtain⟨its,rv,⟨o,n,e1,c,_,d⟩,hz⟩:=I.list h;exact Yt PySem.W.kitx_list I.nM ⟨o,e1,c⟩ e (λz=>nomatch z) fin
 | dct h =>
  cases rx;obtain⟨⟨o,e1,c⟩,_⟩:=I.hok _ _ h;exact Yt PySem.W.kitx_dict I.nM ⟨o,e1,c⟩ e (λz=>nomatch z) fin
 | tup h =>
  cases rx;obtain⟨its,rv,⟨o,e1,c,n,d⟩,hz⟩:=I.tuple h;exact Yt PySem.W.kitx_tuple I.nM ⟨o,e1,c⟩ e (λz=>nomatch z) fin
def DY(i j:Int):Prop:=(-340282366920938463463374607431768211456 < i/\i < 340282366920938463463374607431768211456)/\(-340282366920938463463374607431768211456 < j/\j < 340282366920938463463374607431768211456)
theorem DY.ok{i j:Int}(h:DY i j):IntMulOk i j:=by
 have e:(2:Nat) ^ 128=340282366920938463463374607431768211456:=by decide
 obtain⟨⟨h1,h2⟩,h3,h4⟩:=h;have a:i.natAbs < 2 ^ 128:=by rw[e];omega
 have b:j.natAbs < 2 ^ 128:=by rw[e];omega
 exact IntMulOk.of_bits (XT (Z2 a) (by decide)) (XT (Z2 b) (by decide))
end
def qJ(cells:List (Str×Addr)):List (Str×NameKind)->List (Str×Addr)->List (Str×Addr)
 | [],cs=>cs
 | (n,k)::r,cs=>qJ cells r (if k == .free then(match cells.lookup n with | some c=>(n,c)::cs | none=>cs)else cs)
theorem xO{cells:List (Str×Addr)}:∀(names:List (Str×NameKind)) (cs:List (Str×Addr)),(∀x c,cs.lookup x=some c->cells.lookup x=some c)->∀x c,(qJ cells names cs).lookup x=some c->cells.lookup x=some c
 | [],_,h=>h
 | (n,k)::r,cs,h=>by
  refine xO r _ λx c e=>?_
  split at e
  ·split at e
   ·rename_i c' hc;rw[ZX]at e;by_cases z:(x == n)=true
    ·rw[z]at e;have z':x=n:=by simpa using z
     rw[z'];exact hc.trans e
    ·rw[Zo]at z;rw[z]at e;exact h x c e
   ·exact h x c e
  ·exact h x c e
theorem uW{cells:List (Str×Addr)}{x:Str}{c:Addr}(hx:cells.lookup x=some c):∀(names:List (Str×NameKind)) (cs:List (Str×Addr)),cs.lookup x=some c->(qJ cells names cs).lookup x=some c
 | [],_,h=>h
 | (n,k)::r,cs,h=>by
  refine uW hx r _ ?_;split
  ·split
   ·rename_i c' hc;rw[ZX];by_cases z:(x == n)=true
    ·rw[z];have z':x=n:=by simpa using z
     rw[z']at hx;exact hc.symm.trans hx
    ·rw[Zo]at z;rw[z];exact h
   ·exact h
  ·exact h
theorem rO{cells:List (Str×Addr)}{x:Str}{c:Addr}(hx:cells.lookup x=some c):∀(names:List (Str×NameKind)) (cs:List (Str×Addr)),(x,NameKind.free)∈names->(qJ cells names cs).lookup x=some c
 | [],_,h=>nomatch h
 | (n,k)::r,cs,h=>by
  rcases X4.mp h with e | h
  ·cases e;refine uW hx r _ ?_;simp[hx,List.lookup_cons]
  ·exact rO hx r _ h
theorem mn{env:Env}{scope:Scope}(h:∀y∈scope.names,y.2=NameKind.free->∃c,env.cells.lookup y.1=some c):closureFor scope env=pure (qJ env.cells scope.names []):=by
 have go:∀(names:List (Str×NameKind)) (cs:List (Str×Addr)),(∀y∈names,y.2=NameKind.free->∃c,env.cells.lookup y.1=some c) ->
   (forIn names cs λx (r:List (Str×Addr))=>if (x.2 == NameKind.free)=true then do let c ← cellOf env x.1;pure (ForInStep.yield ((x.1,c)::r))else pure (ForInStep.yield r):Sem (List (Str×Addr)))=pure (qJ env.cells names cs):=by
  intro names
  induction names with
  | nil=>intro cs _;rfl
  | cons y r ih =>
   intro cs hy;obtain⟨n,k⟩:=y;rw[List.forIn_cons];by_cases hk:k=NameKind.free
   ·subst hk;obtain⟨c,hc⟩:=hy _ List.mem_cons_self rfl;have hc':env.cells.lookup n=some c:=hc;have hcell:cellOf env n=pure c:=by simp only[cellOf,hc']
    simp only[hcell,beq_self_eq_true,if_true,pure_bind];rw[ih _ λy hm=>hy y (List.mem_cons_of_mem _ hm)];simp only[qJ,beq_self_eq_true,if_true,hc']
   ·have hb:(k == NameKind.free)=false:=by simpa using hk
    simp only[hb,Bool.false_eq_true,if_false,pure_bind];rw[ih _ λy hm=>hy y (List.mem_cons_of_mem _ hm)];simp only[qJ,hb,Bool.false_eq_true,if_false]
 have e:=go scope.names [] h;unfold closureFor;simp only[bind_pure]at e ⊢;exact e
theorem rP{scope:Scope}{env:Env}(x:Str):(relabel scope env).names.lookup x=(scope.names.lookup x).map λk=>if (k == NameKind.free&&env.scope.kind == .function&&env.kindOf x == some .cell)=true then .cell else k:=by
 show(scope.names.map λ(n,k)=>if (k == NameKind.free&&env.scope.kind == .function&&env.kindOf n == some .cell)=true then(n,NameKind.cell)else(n,k)).lookup x=_
 induction scope.names with
 | nil=>rfl
 | cons y r ih =>
  obtain⟨n,k⟩:=y;rw[Yj];by_cases z:(x == n)=true
  ·have z':x=n:=by simpa using z
   subst z';by_cases hc:(k == NameKind.free&&env.scope.kind == .function&&env.kindOf x == some .cell)=true
   ·simp only[hc,if_true,List.lookup_cons,beq_self_eq_true,Option.map_some]
   ·simp only[hc,if_false,List.lookup_cons,beq_self_eq_true,Option.map_some,Bool.false_eq_true]
  ·rw[Zo]at z;by_cases hc:(k == NameKind.free&&env.scope.kind == .function&&env.kindOf n == some .cell)=true
   ·simp only[hc,if_true,List.lookup_cons,z];exact ih
   ·simp only[hc,if_false,List.lookup_cons,z,Bool.false_eq_true];exact ih
theorem dP{α β:Type}[BEq α][LawfulBEq α]{x:α}{b:β}:∀{l:List (α×β)},l.lookup x=some b->(x,b)∈l
 | [],h=>by simp at h
 | (n,k)::r,h=>by
  rw[ZX]at h;by_cases z:(x == n)=true
  ·rw[z]at h;have z':x=n:=by simpa using z
   cases h;rw[z'];exact XZ
  ·rw[Zo]at z;rw[z]at h;exact X2 _ (dP h)
def Cx.lT(X:Cx)(N:List Str)(scope:Scope)(C:Addr)(ex:List Addr)(s:Shared)(H:Hp):Cx where
 prog:=X.prog
 w:=X.w
 K:=X.K
 mg:=X.mg
 base:=X.base
 A:=X.A
 N:=N
 s₀:=s
 H₀:=H
 env:=compEnvC scope (qJ X.env.cells scope.names []) C X.env
 outer:=X.stack
 stack:=X.stack
 ex:=ex
 fn:=λ_=>false
 calm:=X.calm
 pn:=[]
 xe:=λ_ _=>False
structure mq(X:Cx)(own:Nat)(N:List Str)(ix:List Nat)(scope:Scope):Prop where
 kind:scope.kind=.function
 calm:X.calm=true
 free:scope.names.all (λy=>y.2 != .free||X.env.kindOf y.1 == some .cell)=true
 cell:scope.names.all (λy=>y.2 != .cell)=true
 loc:scope.names.all (λy=>y.2 != .local||scope.names.lookup y.1 == some .local)=true
 ixs:(ix.map λi=>X.N[i]?)=(N.drop own).map some
 fr:(N.drop own).all (λx=>scope.names.lookup x == some .free)=true
 len:N.length=own + ix.length
def eZ(own:Nat)(ix:List Nat)(σ:St):St:=List.replicate own none++ix.map λi=>(σ[i]?).getD none
theorem zO(own:Nat)(ix:List Nat)(σ:St):(eZ own ix σ).drop own=ix.map λi=>(σ[i]?).getD none:=by
 unfold eZ;rw[List.drop_left' (by simp)]
theorem uX{own:Nat}{ix:List Nat}{σ:St}{j:Nat}{v:V}(h:(eZ own ix σ)[j]?=some (some v)):∃i,own<=j/\ix[j - own]?=some i/\σ[i]?=some (some v):=by
 unfold eZ at h;by_cases hj:j < own
 ·rw[List.getElem?_append_left (by simpa using hj)]at h;rw[List.getElem?_replicate]at h;simp[hj]at h
 ·rw[List.getElem?_append_right (by simpa using hj)]at h;rw[List.length_replicate,List.getElem?_map]at h
  cases e:ix[j - own]? with
  | none=>rw[e]at h;simp at h
  | some i =>
   rw[e]at h;refine⟨i,by omega,rfl,?_⟩;have h':(σ[i]?).getD none=some v:=by simpa using h
   cases q:σ[i]? with
   | none=>rw[q]at h';simp at h'
   | some o=>rw[q]at h';simp at h';rw[h']
theorem zP{own:Nat}{ix:List Nat}{σ σ2:St}(hd:σ2.drop own=ix.map λi=>(σ[i]?).getD none):∀(j:Nat) v,(eZ own ix σ)[j]?=some (some v)->σ2[j]?=some (some v):=λj v h=>by
 by_cases hj:j < own
 ·obtain⟨i,h1,_⟩:=uX h;omega
 ·have e:(eZ own ix σ)[j]?=((eZ own ix σ).drop own)[j - own]?:=by rw[YQ];congr 1;omega
  have e2:σ2[j]?=(σ2.drop own)[j - own]?:=by rw[YQ];congr 1;omega
  rw[e,zO,← hd,← e2]at h;exact h
section
variable {X:Cx} {pins:List (Addr×Obj)} {σ:St} {H:Hp} {s:Shared} {own:Nat} {N:List Str} {ix:List Nat} {scope:Scope}
theorem mq.has(B:mq X own N ix scope)(I:Inv X pins σ H s):∀y∈scope.names,y.2=NameKind.free->X.env.kindOf y.1=some .cell/\∃c,X.env.cells.lookup y.1=some c:=λy hy e=>by
 have z:=List.all_eq_true.mp B.free y hy;rw[e]at z;have z':X.env.kindOf y.1=some .cell:=by simpa using z
 exact⟨z',I.ok.has y.1 (.inl z')⟩
theorem Cj{C:Addr}{ex:List Addr}{h':Heap}{tk:Nat}(B:mq X own N ix scope)(I:Inv X pins σ H s)(hC:C=s.heap.objs.size)(hx:∀b∈ex,nP X pins H b)(hlt:∀b∈ex,b < s.heap.objs.size)
  (hn:h'.Ns C (λ_=>none)) (hk:∀b o,s.heap.get? b=some o->h'.get? b=some o):Inv (X.lT N scope C ex s H) [] (eZ own ix σ) H {s with heap:=h',toks:=tk}:=by
 have sub:∀x c,(qJ X.env.cells scope.names []).lookup x=some c->X.env.cells.lookup x=some c:=xO scope.names [] λx c e=>by simp at e
 have nb:∀b o,X.base.get? b=some o->b∉ex:=λb o e hb=>by
  rcases (hx b hb).2.2.2.1 with z | z
  ·exact I.ok.noex b o e z
  ·exact absurd (Xs (Xr e) (XT I.ok.bsz z)) (Yp _)
 have nstk:∀b∈ex,b∉qo X.stack:=λb hb z=>by
  rcases X4.mp (I.zq b z)with e | e
  ·exact(hx b hb).2.1 e
  ·exact(hx b hb).2.2.1 e
 refine⟨⟨I.ok.mod,B.kind,I.ok.glob,I.ok.blt,?_,λx y c e1 e2=>I.ok.inj x y c (sub x c e1) (sub y c e2),λx hk'=>?_,(λ_ _ z=>absurd (show false=true from z) (by decide)),I.ok.hd,I.ok.frames,.inl rfl,λb hb=>⟨?_,λx c e=>(hx b hb).2.2.2.2.1 x c (sub x c e)⟩,
  λb o e=>I.bs b o e,XT I.ok.bsz I.sz,nb,nstk,I.stack,I.ri⟩,rfl,I.bare,Un.kept hk,⟨_,hn,λj x v e1 e2 e3=>?_⟩,λx c e=>?_,?_,λx c e=>I.freeC x c (sub x c e),(λp hp=>nomatch hp),I.hok.kept hk,?_⟩
 ·show s.heap.objs.size<=C;exact aas hC.symm
 ·have hk'':(relabel scope X.env).names.lookup x=some .cell∨(relabel scope X.env).names.lookup x=some .free:=hk';rw[rP]at hk''
  have hf:scope.names.lookup x=some .free:=by
   cases q:scope.names.lookup x with
   | none=>rw[q]at hk'';rcases hk'' with z | z<;>cases z
   | some k =>
    rw[q]at hk'';by_cases hkf:k=.free
    ·rw[hkf]
    ·exfalso
     have hb:(k == NameKind.free)=false:=by simpa using hkf
     have hm:=List.all_eq_true.mp B.cell (x,k) (dP q);simp only[Option.map_some,hb,Bool.false_and,Bool.false_eq_true,if_false]at hk'';rcases hk'' with z | z
     ·rw[Option.some.inj z]at hm;exact absurd hm (by simp)
     ·exact hkf (XX z)
  obtain⟨_,c,hc⟩:=B.has I (x,.free) (dP hf) rfl;exact⟨c,rO hc scope.names [] (dP hf)⟩
 ·show b≠C;rw[hC];exact Xv (hlt b hb)
 ·obtain⟨i,h1,h2,h3⟩:=uX e2;have hN:N[j]?=some x:=e1
  have hxN:X.N[i]?=some x:=by
   have e:(ix.map λi=>X.N[i]?)[j - own]?=((N.drop own).map some)[j - own]?:=by rw[B.ixs]
   rw[XJ,h2,XJ,YQ]at e;have hj:own + (j - own)=j:=by omega
   rw[hj,hN]at e;simpa using e
  have hfr:scope.names.lookup x=some .free:=by
   have hm:x∈N.drop own:=by
    refine Xy (i:=j - own) ?_;rw[YQ,show own + (j - own)=j by omega];exact hN
   have:=List.all_eq_true.mp B.fr x hm;simpa using this
  obtain⟨hkc,c,hc⟩:=B.has I (x,.free) (dP hfr) rfl;obtain⟨m,hm,hl⟩:=I.loc;obtain⟨u,r,l⟩:=hl i x v hxN h3 (.inr (.inl hkc));refine⟨u,r,?_⟩;rcases l with⟨z,_⟩ | ⟨_,c',hc',hz⟩
  ·have z':X.env.kindOf x=some .local:=z;have hkc':X.env.kindOf x=some .cell:=hkc;rw[hkc']at z';cases z'
  ·rw[hc]at hc';cases hc';refine .inr ⟨.inl ?_,c,rO hc scope.names [] (dP hfr),?_⟩
   ·show(relabel scope X.env).names.lookup x=some .cell;rw[rP,hfr];have hkc':X.env.kindOf x=some .cell:=hkc;have hkf:X.env.scope.kind=.function:=I.ok.kind;simp[hkc',hkf]
   ·obtain⟨o,ho,hd⟩:=hz;exact⟨o,hk _ _ ho,hd⟩
 ·obtain⟨v,o,ho,hd⟩:=I.cell x c (sub x c e);exact⟨v,o,hk _ _ ho,hd⟩
 ·show H C=none;exact I.hok.fresh (aas hC.symm)
 ·show(eZ own ix σ).length=N.length;rw[B.len];simp[eZ]
theorem G4{C:Addr}{ex:List Addr}{σ':St}{H':Hp}{s':Shared}(I:Inv X pins σ H s)(hx:∀b∈ex,nP X pins H b)(I':Inv (X.lT N scope C ex s H) [] σ' H' s'):Inv X pins σ H' s' :=
 I.JO (ch:=ex) I'.os I'.base I'.hok I'.bare λb hb=>⟨(hx b hb).2.2.2.1,(hx b hb).2.1,(hx b hb).2.2.2.2.1,(hx b hb).2.2.2.2.2⟩
def OY(X:Cx)(ifs:List Expr)(tt:TT):Prop:=∀(pins:List (Addr×Obj)) (s:Shared) (σ:St) (H:Hp) (Q:Bool->Hp->Prop),Inv X pins σ H s->tt σ H Q ->
 wpAny (model X.prog X.w) X.A (forIn ifs true λc r=>if r=true then do let ok ← isTrue c X.env (eval c X.env);pure (ForInStep.yield ok)else pure (ForInStep.yield r)) (TP X pins σ Q) X.xe s
def S9:TT:=λ_ H Q=>Q true H
theorem G5{X:Cx}:OY X [] S9:=λ_ _ _ H _ I h=>wpAny_tests_nil ⟨H,I,h⟩
def Vb(J:It)(own:Nat)(ix:List Nat)(σ:St)(g:TG)(tt:TT)(te:TE)(D:Addr)(H1:Hp)(Q:VK):Prop:=∃W:Nat->Nat->List V->Hp->Prop,
 (∃m,W 0 m [] (upd H1 D (.lst [])))/\∀i m ys H2,W i m ys H2->H2 D=some (.lst ys)/\((J.stop i H2/\Q (.ref D) H2)∨(J.go i H2/\ys.length < sizeLine/\∃Nx:List V->Hp->Prop,(∀ys' H',Nx ys' H'->∃m',m' < m/\W (i + 1) m' ys' H')/\∀x H3,J.yld i H2 x H3 ->
  g x (eZ own ix σ) H3 λσ2 H4=>σ2.drop own=(ix.map λi=>(σ[i]?).getD none)/\tt σ2 H4 λb H5=>if b=true then te σ2 H5 λv H6=>H6 D=some (.lst ys)/\Nx (ys++[v]) (upd H6 D (.lst (ys++[v])))else Nx ys H5))
def RF(own:Nat)(ix:List Nat)(wi:TI)(g:TG)(tt:TT)(te:TE):TE:=λσ H Q=>wi σ H λJ H1=>∀D,H1 D=none->Vb J own ix σ g tt te D H1 Q
theorem xP{prog:Program}{w:World}{A:Around}{R:Result->Shared->Prop}{s:Shared}{elt target iter:Expr}{ifs:List Expr}{scope:Scope}{pos:Pos}{it acc:Value}{env:Env}(I:Nat->Shared->Prop)
  (turn:∀n s,I n s->wpAny (model prog w) A (pyNext it) (λr s1=>match r with
   | none=>R (.ok .next) s1
   | some v=>wpAny (model prog w) A (letOwnedTupleGo target it v) (λ_ s1'=>wpAny (model prog w) A (assign target env v) (λ_ s2 =>
     wpAny (model prog w) A (forIn ifs true λc r=>if r=true then do let ok ← isTrue c env (eval c env);pure (ForInStep.yield ok)else pure (ForInStep.yield r)) (λok s3 =>
      if ok=true then wpAny (model prog w) A (eval elt env) (λx s4=>wpAny (model prog w) A (call (.builtin "list.append") [acc,x]) (λ_ s5=>∃m,m < n/\I m s5) (λ_ _=>False) s4) (λ_ _=>False) s3
      else ∃m,m < n/\I m s3) (λ_ _=>False) s2) (λ_ _=>False) s1') (λ_ _=>False) s1) (λ_ _=>False) s)
  (n:Nat) (h:I n s):codeAny (model prog w) A (.compLoop (.ListComp elt [⟨target,iter,ifs,0⟩] scope pos) 0 it acc env) R s:=by
 refine codeAny_loop rfl I (λn s hI=>?_) n h;show wpAny _ A ((compTurn (.ListComp elt [⟨target,iter,ifs,0⟩] scope pos) 0 it acc env).onRaise (λx=>do noteFrame x env;theTreesLotGoes x)) _ _ s;refine wpAny_noted ?_;rw[compTurn_list];refine Xn (ZM (Xn (X6 (turn n s hI) (λr s1 h1=>?_) λ_ _ z=>z.elim)))
 cases r with
 | none=>exact Xx h1
 | some v =>
  refine Xn (X6 h1 (λ_ s1' h1'=>?_) λ_ _ z=>z.elim);refine Xn (X6 h1' (λ_ s2 h2=>Xn (X6 h2 (λok s3 h3=>?_) λ_ _ z=>z.elim)) λ_ _ z=>z.elim)
  cases ok with
  | false=>exact Xx ⟨rfl,h3⟩
  | true=>exact Xn (Xn (X6 h3 (λx s4 h4=>Xn (X6 h4 (λ_ s5 h5=>Xx (Xx ⟨rfl,h5⟩)) λ_ _ z=>z.elim)) λ_ _ z=>z.elim))
theorem A6{elt tg iter:Expr}{ifs:List Expr}{pos:Pos}{g:TG}{tt:TT}{te:TE}{it:Addr}{fp:List Addr}{tn:Nat->Heap->Prop}{J:It}{Q:VK}{E:Value->Shared->Prop}{RR:Value->Addr->Result->Shared->Prop}(B:mq X own N ix scope)
  (hin:∀(C:Addr) (s:Shared) (H:Hp),PG (X.lT N scope C fp s H) tg g/\OY (X.lT N scope C fp s H) ifs tt/\PE (X.lT N scope C fp s H) elt te)
  (I:Inv X pins σ H s) (T:Turn X.prog X.w X.K tg J fp it tn) (st:tn 0 s.heap) (hf:∀b∈fp,nP X pins H b)
  (h:∀D,H D=none->Vb J own ix σ g tt te D H Q)
  (fin:∀(D C:Addr) (H':Hp) (s':Shared) (m:Str->Option Value),Inv X pins σ H' s'->s'.heap.Ns C m->H' C=none->C≠X.env.locals->(X.s₀.heap.objs.size<=C)->(∀x c,X.env.cells.lookup x=some c->c≠C)->(∀p∈X.pn++pins,p.1≠C)->Q (.ref D) H'->RR (.ref D) C (.ok .next) s') :
  wpAny (model X.prog X.w) X.A (newList []) (λacc s3=>wpAny (model X.prog X.w) X.A (newFunctionEnv scope X.env.globals (qJ X.env.cells scope.names []) [] X.env.qual none .none (some X.env)) (λcenv s4 =>
   codeAny (model X.prog X.w) X.A (.compStart (.ListComp elt [⟨tg,iter,ifs,0⟩] scope pos) 0 (.ref it) acc {cenv with scope:=relabel scope X.env}) (RR acc cenv.locals) s4) E s3) E s:=by
 obtain⟨W,⟨m0,w0⟩,turn⟩:=h s.heap.objs.size I.fresh;refine Yv ?_;have I3:=I.K5 (its:=[]) (ys:=[]) (t':=s.toks) .nil (X3 _)
 have hcell:∀y∈scope.names,y.2≠NameKind.cell:=λy hy e=>by
  have:=X8.mp B.cell y hy;rw[e]at this;exact absurd this (by decide)
 refine wpAny_newFunctionEnv hcell (by intro y hy;simp at hy) (λh1 Ld Le=>?_) B.kind;dsimp only at Ld Le ⊢;generalize Ta:s.heap.push {cls:=.type "list",dict:=none,data:=.seq ([]:List Value).toArray}=h2 at Ld Le ⊢
 have I3':Inv X pins σ (upd H s.heap.objs.size (.lst [])) {s with heap:=h2}:=by
  have z:({s with heap:=s.heap.push {cls:=.type "list",data:=.seq ([]:List Value).toArray},toks:=s.toks}:Shared)={s with heap:=h2}:=by rw[← Ta]
  rw[← z];exact I3
 have sz:h2.objs.size=s.heap.objs.size + 1:=by rw[← Ta,Zb]
 have Tb:∀b o,s.heap.get? b=some o->h2.get? b=some o:=λb o e=>by rw[← Ta];exact Xl _ e
 have JV:∀b o,h2.get? b=some o->h1.get? b=some o:=λb o e=>Le.extBut b o (Xv (Xr e)) (Xl _ e)
 have there:∀b∈fp,b < s.heap.objs.size:=λb hb=>by obtain⟨o,e,_⟩:=T.obj _ _ st b hb;exact Xr e
 have Tc:∀b∈fp,nP X pins (upd H s.heap.objs.size (.lst [])) b:=λb hb=>⟨by rw[uN (Xv (there b hb))];exact(hf b hb).1,(hf b hb).2⟩
 have VP:h1.Ns h2.objs.size (λ_=>none):=by simpa using Ld
 have I4:=Cj (tk:=s.toks + ([]:List (Str×Value)).length) (own:=own) (N:=N) (ix:=ix) B I3' rfl Tc (λb hb=>Xs (there b hb) (by show s.heap.objs.size<=h2.objs.size;rw[sz];exact aaa _)) VP JV;have qu:tn 0 h1:=T.keep _ _ _ st λb _ o e=>JV b o (Tb b o e)
 have Bc:(X.lT N scope h2.objs.size fp {s with heap:=h2} (upd H s.heap.objs.size (.lst []))).calm=true:=B.calm;obtain⟨pg,pif,pe⟩:=hin h2.objs.size {s with heap:=h2} (upd H s.heap.objs.size (.lst []))
 have fpb:∀{H':Hp},(∀b∈fp,H' b=none)->∀b∈fp,nP (X.lT N scope h2.objs.size fp {s with heap:=h2} (upd H s.heap.objs.size (.lst []))) [] H' b:=λhz b hb =>
  ⟨hz b hb,Xv (Xs (there b hb) (by show s.heap.objs.size<=h2.objs.size;rw[sz];exact aaa _)),I4.ok.exfs b hb,.inl hb,λx c e=>(I4.ok.exf b hb).2 x c e,(λp hp=>nomatch hp)⟩
 have loop:∀s3:Shared,s3={s with heap:=h1,toks:=s.toks + ([]:List (Str×Value)).length} ->
   codeAny (model X.prog X.w) X.A (.compLoop (.ListComp elt [⟨tg,iter,ifs,0⟩] scope pos) 0 (.ref it) (.ref s.heap.objs.size) (compEnvC scope (qJ X.env.cells scope.names []) h2.objs.size X.env)) (RR (.ref s.heap.objs.size) h2.objs.size) s3:=by
  rintro s3 rfl;refine xP (λn s'=>∃i ys H',Inv (X.lT N scope h2.objs.size fp {s with heap:=h2} (upd H s.heap.objs.size (.lst []))) [] (eZ own ix σ) H' s'/\tn i s'.heap/\(∀b∈fp,H' b=none)/\W i n ys H') ?_ m0
   ⟨0,[],_,I4,qu,λb hb=>(Tc b hb).1,w0⟩
  rintro n s5 ⟨i,ys,H5,I5,zv,RE,w5⟩;obtain⟨hD,t5⟩:=turn i n ys H5 w5;rcases t5 with⟨stop,qn⟩ | ⟨go,hz,Nx,hNx,step⟩
  ·refine ck (T.done (X.lT N scope h2.objs.size fp {s with heap:=h2} (upd H s.heap.objs.size (.lst []))) rfl rfl rfl Bc i [] s5 _ H5 (λ_ _=>False) I5 (fpb RE) zv stop) λr s6 ⟨hr,I6⟩=>?_
   subst hr;obtain⟨m,hm,_⟩:=I6.loc;refine fin _ _ H5 s6 m (G4 I3' Tc I6) hm I6.free ?_ ?_ (λx c e z=>?_) (λp hp z=>?_) qn
   ·have:=I3'.lt;exact Yr this
   ·exact I3'.sz
   ·obtain⟨v,q⟩:=I3'.cell x c e;have:=q.lt;rw[z]at this;exact absurd this (Yp _)
   ·have:=Xr (I3'.pin p hp).1;rw[z]at this;exact absurd this (Yp _)
  ·refine ck (T.item (X.lT N scope h2.objs.size fp {s with heap:=h2} (upd H s.heap.objs.size (.lst []))) rfl rfl rfl Bc i [] s5 _ H5 (λ_ _=>False) I5 (fpb RE) zv go) λr s6 ⟨u,hr,h6⟩=>?_
   subst hr;refine ck h6 λ_ s7 ⟨x,H7,I7,r7,y7,Td,VQ⟩=>?_
   have I7':=I7.pinned (fpb VQ) (T.obj _ _ Td);refine ck (pg _ s7 _ H7 x u _ I7' r7 (step x H7 y7)) λ_ s8 ⟨σ8,H8,I8,VR,q8⟩=>?_
   refine ck (pif _ s8 σ8 H8 _ I8 q8) λb s9 ⟨H9,I9,q9⟩=>?_
   have again:∀{ys':List V} {H':Hp} {s':Shared},Inv (X.lT N scope h2.objs.size fp {s with heap:=h2} (upd H s.heap.objs.size (.lst []))) ([]++rG fp s7.heap) σ8 H' s'->Nx ys' H' ->
     ∃m,m < n/\∃i ys H',Inv (X.lT N scope h2.objs.size fp {s with heap:=h2} (upd H s.heap.objs.size (.lst []))) [] (eZ own ix σ) H' s'/\tn i s'.heap/\(∀b∈fp,H' b=none)/\W i m ys H':=by
    intro ys' H' s' I' w';obtain⟨m',hm,w'⟩:=hNx _ _ w';refine⟨m',hm,i + 1,ys',H',(I'.nQ).weak ?_ (zP VR),T.keep _ _ _ Td λb hb o e=>(I'.pin (b,o) (XU _ (XU _ (jD hb e)))).1,λb hb=>?_,w'⟩
    ·rw[I'.len,← I4.len]
    ·obtain⟨o,e,d⟩:=T.obj _ _ Td b hb;exact(I'.pin (b,o) (XU _ (XU _ (jD hb e)))).2.1
   cases b with
   | true =>
    simp only[if_true]at q9 ⊢;refine ck (pe _ s9 σ8 H9 _ I9 q9) λv VS ⟨y,VT,VU,VV,Te,VW⟩=>?_
    refine ck (uU _ VS σ8 VT (.ref _) [y] (.ref _) [v] (λ_ H'=>Nx (ys++[y]) H') VU rfl (.cons VV .nil) ⟨_,ys,y,rfl,rfl,Te,hz,VW⟩) λ_ W0 ⟨_,W2,VX,_,VY⟩=>?_
    exact again VX VY
   | false =>
    simp only[Bool.false_eq_true,if_false]at q9 ⊢;exact again I9 q9
 exact codeAny_compStart_list (loop _ rfl) (T.self _ 0 _ _ _ qu (loop _ rfl))
theorem OZ{elt tg iter:Expr}{ifs:List Expr}{pos:Pos}{wi:TI}{g:TG}{tt:TT}{te:TE}(own:Nat)(N:List Str)(ix:List Nat)(B:mq X own N ix scope)(hi:PI X tg iter wi)
  (hin:∀(C:Addr) (fp:List Addr) (s:Shared) (H:Hp),PG (X.lT N scope C fp s H) tg g/\OY (X.lT N scope C fp s H) ifs tt/\PE (X.lT N scope C fp s H) elt te)
  (hs:∀x,foldedSetIterable iter X.env x=pure x:=by intro _;rfl):PE X (.ListComp elt [⟨tg,iter,ifs,0⟩] scope pos) (RF own ix wi g tt te):=by
 intro pins s σ H Q I h
 have hnames:∀y∈scope.names,y.2=NameKind.local->scope.names.lookup y.1=some .local:=λy hy e=>by
  have:=List.all_eq_true.mp B.loc y hy;rw[e]at this;simpa using this
 rw[eval_ListComp];refine ZY (use:=none) rfl hs (mn λy hy e=>(B.has I y hy e).2) B.kind hnames (ck (hi pins s σ H _ I h) λv s1 h1=>ck h1 λitv s2 h2=>?_);obtain⟨it,fp,tn,J,H2,e,I2,T,bu,f2,rd⟩:=h2;subst e;refine A6 (Q:=Q) (RR:=λacc C=>compPost (model X.prog X.w) X.A X.xe none (EP X pins σ Q) acc C) B (λC s H=>hin C fp s H) I2 T bu f2 rd ?_;intro D C H' s' m I' hn hC hL hsz hce hpi q;exact⟨m,hn,λh' sb=>⟨.ref D,H',I'.turned (t':=s'.toks) (λb o hb e=>(sb.2 b hb).trans e) hC hL (.inr hsz) hce hpi,rfl,q⟩⟩
theorem xQ{i:Nat}{x:Str}{elt tg iter:Expr}{ifs:List Expr}{pos pos' spos:Pos}{wi:TI}{g:TG}{tt:TT}{te:TE}(hN:X.N.Nodup)(hxi:X.N[i]?=some x)(hx:Loc X.env.scope x)(own:Nat)(N:List Str)(ix:List Nat)(B:mq X own N ix scope)(hi:PI X tg iter wi)
  (hin:∀(C:Addr) (fp:List Addr) (s:Shared) (H:Hp),PG (X.lT N scope C fp s H) tg g/\OY (X.lT N scope C fp s H) ifs tt/\PE (X.lT N scope C fp s H) elt te)
  (hsw:swapsWith (.ListComp elt [⟨tg,iter,ifs,0⟩] scope pos) (some (.Name x pos')) spos.line X.env=pure true:=by rfl) (hs:∀x,foldedSetIterable iter X.env x=pure x:=by intro _;rfl)
  (hfn:X.fn x=true∨X.env.scope.names.lookup x=some .local:=by first | exact .inl rfl | exact .inr rfl):PS X (.Assign [.Name x pos'] (.ListComp elt [⟨tg,iter,ifs,0⟩] scope pos) spos) (GF (RF own ix wi g tt te) (nO i)):=by
 intro pins s σ H D0 I h
 have hnames:∀y∈scope.names,y.2=NameKind.local->scope.names.lookup y.1=some .local:=λy hy e=>by
  have:=List.all_eq_true.mp B.loc y hy;rw[e]at this;simpa using this
 rw[exec_Assign_Name_used _ _ _ _ hsw];refine Xn (ZM (Xn ?_));show wpAny _ X.A (do let _ ← comprehension (.ListComp elt [⟨tg,iter,ifs,0⟩] scope pos) scope X.env _ (newList []) false (eval iter X.env) (some (assign (.Name x pos') X.env))) _ _ s;refine Xn (ck (ZY (use:=some (assign (.Name x pos') X.env)) (Q:=λ_ s'=>SP X pins D0 .next s') rfl hs (mn λy hy e=>(B.has I y hy e).2) B.kind hnames (ck (hi pins s σ H _ I h) λv s1 h1=>ck h1 λitv s2 h2=>?_)) λ_ s' hq=>Xx (Xx hq));obtain⟨it,fp,tn,J,H2,e,I2,T,bu,f2,rd⟩:=h2;subst e;refine A6 (Q:=λv H'=>nO i v σ H' D0.nx) (RR:=λacc C=>compPost (model X.prog X.w) X.A X.xe (some (assign (.Name x pos') X.env)) (λ_ s'=>SP X pins D0 .next s') acc C) B (λC s H=>hin C fp s H) I2 T bu f2 rd ?_;intro D C H' s' m I' hn hC hL hsz hce hpi q;show wpAny _ X.A (assign (.Name x pos') X.env (.ref D)) _ _ s';refine wpAny_assign_Name (oW I' hN hxi hx (v:=.ref D) rfl (λs'' I'' ⟨a,sb,ha⟩=>?_) hfn);refine⟨m,hn.sameBut sb ?_,λh' sb'=>⟨_,H',I''.turned (t':=s''.toks) (λb o hb e=>(sb'.2 b hb).trans e) hC hL (.inr hsz) hce hpi,q⟩⟩;rcases ha with e | e
 ·rw[e];exact hL
 ·exact Y4 (hce x a e)
end
theorem range_all(bs:List Bool):(List.range bs.length).all (λi=>(bs[i]?).getD true)=bs.all id:=by
 rw[Bool.eq_iff_iff,X8,X8]
 constructor
 ·intro h b hb;obtain⟨i,hi,e⟩:=List.mem_iff_getElem.mp hb;have z:=h i (aaf.mpr hi);rw[dC hi,e]at z;exact z
 ·intro h i hi;have hi':=aaf.mp hi;rw[dC hi'];exact h _ (Y0 hi')
section
variable {X:Cx}
def O0(K:aJ):List V->Hp->VK->Prop:=λxs H Q=>∃(p:Addr) (bs:List Bool),xs=[.ref p]/\fV K H p (bs.map V.bl)/\Q (.bl (bs.all id)) H
theorem DZ(hc:X.calm=true):eY X (.builtin "all") (O0 X.K):=by
 intro pins s σ H xs us Q I r h;obtain⟨p,bs,rfl,hS,q⟩:=h;obtain⟨u,rfl,ru⟩:=vals1 r;cases ru;obtain⟨its,rv,pl,hz⟩:=I.list hS
 have hlen:its.toArray.size=bs.length:=by
  have:=rv.length;simp at this;simp[this]
 have hlt:p < s.heap.objs.size:=by obtain⟨o,n,e,_⟩:=pl;exact Xr e
 refine call_all_walk (ZO pl.isList ?_);refine⟨s.heap.objs.size,_,_,its.toArray.size,_,_,λi=>(bs[i]?).getD true,rfl,Walks.list (show X.A.in1.handled=none from I.ok.hd hc) _ _ (Xv hlt) its.toArray,⟨⟨_,Xz _ rfl,rfl,rfl⟩,pl.isList.push _⟩,?_,λh' tk k=>?_⟩
 ·intro i v s' Q' E' hv hq
  have hi:i < bs.length:=by
   rw[← hlen];exact(Array.getElem?_eq_some_iff.mp hv).1
  obtain⟨u',hu',ru'⟩:=rv.get (i:=i) (x:=.bl bs[i]) (by rw[List.getElem?_map,dC hi];rfl);have e:its[i]?=some v:=by simpa using hv
  rw[hu']at e;cases e;cases ru';have hq':Q' ((bs[i]?).getD true) s':=hq;rw[dC hi]at hq';exact X0 hq'
 ·rw[hlen,range_all];exact⟨.bl _,H,I.kept (t':=tk) λb o e=>k b o (by simpa using Nat.ne_of_lt (Heap.lt_size e)) (Heap.get?_push_of_some _ e),rfl,q⟩
def JW(K:aJ):R2:=λx y H Q=>∃l b xs zs,x=.ref l/\y=.ref b/\fV K H l xs/\fV K H b zs/\xs.length + zs.length<=sizeLine/\∀p,H p=none->Q (.ref p) (upd H p (.lst (xs++zs)))
theorem G6:gq X (binaryOp .Add) (JW X.K):=by
 intro pins s σ H x y v u Q I rx ry h;obtain⟨l,b,xs,zs,rfl,rfl,hH,hB,hz,q⟩:=h;cases rx;cases ry;obtain⟨its,r,⟨⟨c1,d1,a1,D1⟩,n,e,rfl,rfl,rfl⟩,z⟩:=I.list hH;obtain⟨Cf,r2,⟨⟨c2,d2,a2,DB⟩,n2,e2,rfl,rfl,rfl⟩,z2⟩:=I.list hB;have hl:=r.length;have D2:=r2.length;refine concat_meets ⟨_,e,rfl⟩ ⟨_,e2,rfl⟩ noFill_list_add seq_list_add PySem.F.slot_list_add PySem.F.entry_list_add (PySem.F.args_list_add_2 _ _)
  (list_addW l b its.toArray Cf.toArray n n2 none none D1 DB (by rw[Yk,Yk];omega)) ⟨e,e2,?_⟩
 rw[show its.toArray++Cf.toArray=(its++Cf).toArray by simp];exact⟨.ref _,_,I.K5 (t':=s.toks) (r.append r2) (by rw[List.length_append];omega),rfl,q _ I.fresh⟩
def JX(K:aJ):List V->Hp->VK->Prop:=λxs H Q=>∃(p:Addr) (ns:List Int),xs=[.ref p]/\fV K H p (ns.map V.int)/\0 < ns.length/\∀m:Int,m∈ns->(∀a∈ns,a<=m)->Q (.int m) H
theorem Ck(hc:X.calm=true):eY X (.builtin "max") (JX X.K):=by
 intro pins s σ H xs us Q I r h;obtain⟨p,ns,rfl,hS,hne,q⟩:=h;obtain⟨u,rfl,ru⟩:=vals1 r;cases ru;obtain⟨its,rv,pl,hz⟩:=I.list hS;have hi:IntsAre its ns:=intsAre_of rv;obtain⟨zs,e⟩:=hi.allInts.items;have hns:ns=zs.toList.map (·.1):=by rw[← hi.numsOf,← nums_intItems,← e]
 have hz':zs.size=ns.length:=by rw[hns];simp
 have hl:=pl.isList;rw[e]at hl;refine max_intList (I.ok.hd hc) hl (by omega) λv h' tk hv hk=>?_
 obtain⟨t,rfl⟩:=intItems_at hv;have ab:=argBest_gt (numAt zs) (zs.size - 1);refine⟨.int _,H,I.kept hk,⟨t,rfl⟩,q _ ?_ λa ha=>?_⟩
 ·rw[hns,numAt_eq];exact getD_mem (YR ab.1 (by rw[Xk,Array.length_toList,hz'];omega))
 ·rw[hns]at ha;obtain⟨j,hj,rfl⟩:=mem_getD ha;rw[← numAt_eq];exact ab.2 j (by simp at hj;omega)
end
def Vc(K:aJ)(a:Addr)(xs:List V):It :=
 ⟨λi H=>i < xs.length/\fV K H a xs,λi H x H'=>H'=H/\xs[xs.length - 1 - i]?=some x,λi _=>i=xs.length⟩
theorem D3{P:Program}{w:World}{K:aJ}{tg:Expr}(a it:Addr)(xs:List V):Turn P w K tg (Vc K a xs) [it] it (λi h=>i<=xs.length/\h.IsRevIter it a ((xs.length:Int) - 1 - (i:Int))) where
 mem:=by simp
 obj:=λi h st b hb=>by
  have e:b=it:=by simpa using hb
  subst e;obtain⟨_,o,e,c,d⟩:=st;exact⟨o,e,λv z=>by rw[d]at z;cases z⟩
 keep:=λi h h' st k=>⟨st.1,st.2.at λo e=>k it (by simp) o e⟩
 item:=by
  intro X hP hw hK hc i pins s σ H E I hf st hg;subst hP hw hK;obtain⟨hi,hq⟩:=hg;obtain⟨its,rv,p,hz⟩:=I.list hq;have hx:xs[xs.length - 1 - i]?=some (xs[xs.length - 1 - i]'(by omega)):=dC (by omega);obtain⟨u,hu,ru⟩:=rv.get hx;obtain⟨f0,f1,f2,f3,f4,f5⟩:=hf it (by simp);have e:(xs.length:Int) - 1 - (i:Int)=((xs.length - 1 - i:Nat):Int):=by omega
  have bu:=st.2;rw[e]at bu;refine wpAny_pyNext_rev_item bu p.isList (x:=u) (by simpa using hu) λh' st' sb=>?_
  have I1:Inv X pins σ H {s with heap:=h'}:=I.turned (t':=s.toks) (λb o hb e=>(sb.2 b hb).trans e) f0 f1 f3 f4 f5;obtain⟨o,e1,c,d⟩:=id st';have e2:((xs.length - 1 - i:Nat):Int) - 1=(xs.length:Int) - 1 - ((i + 1:Nat):Int):=by omega
  rw[e2]at st';exact⟨u,rfl,AV (s:={s with heap:=h'}) e1 c d (by decide) ⟨_,H,I1,ru,⟨rfl,hx⟩,⟨hi,st'⟩,λb hb=>(hf b hb).1⟩⟩
 done:=by
  intro X hP hw hK hc i pins s σ H E I hf st hg;subst hP hw hK;have hi:i=xs.length:=hg;obtain⟨f0,f1,f2,f3,f4,f5⟩:=hf it (by simp);have e:(xs.length:Int) - 1 - (i:Int)=-1:=by omega
  have bu:=st.2;rw[e]at bu;exact wpAny_pyNext_rev_end (I.ok.hd hc) bu λh' eb=>⟨rfl,I.turned (t':=s.toks) (λb o hb e=>eb b o hb e) f0 f1 f3 f4 f5⟩
 self:=λ_ _ _ _ _ st h=>wpAny_pyIter_revIter st.2 h
section
variable {X:Cx} {tg:Expr}
def Tf(K:aJ)(ta:TA):TI:=λσ H R=>ta σ H λvs H1=>∃a xs,vs=[.ref a]/\fV K H1 a xs/\R (Vc K a xs) H1
theorem Lf{a:Expr}{ta:TA}{p pos:Pos}(hg:Gl X "reversed")(hm:X.mg "reversed"=none)(ha:PA X [a] ta)(hs:starEach [a] X.env=[(false,eval a X.env)]:=by rfl):PI X tg (.Call (.Name "reversed" p) [a] [] pos) (Tf X.K ta):=by
 intro pins s σ H R I h;refine Call_ (ky I hg hm xN (PyProof.Rows.callWith_type1 (ck (ha pos pins s σ H _ I h) λus s1 ⟨vs,H1,I1,r1,q1⟩=>?_) hs rfl));obtain⟨b,xs,rfl,hq,q⟩:=q1;obtain⟨u,rfl,ru⟩:=vals1 r1;cases ru;obtain⟨its,rv,pl,hz⟩:=I1.list hq;refine call_reversed_list pl.isList ?_;have hit:(s1.heap.push (revObj b ((its.toArray.size:Int) - 1))).IsRevIter s1.heap.objs.size b ((its.toArray.size:Int) - 1):=⟨_,Heap.get?_push_size _ rfl,rfl,rfl⟩;refine wpAny_pyIter_revIter hit ?_;have hl:its.toArray.size=xs.length:=by have:=rv.length;simp[this]
 refine⟨s1.heap.objs.size,[s1.heap.objs.size],_,_,H1,rfl,I1.kept (t':=s1.toks) λb o e=>Xl _ e,D3 b _ xs,⟨X3 _,?_⟩,λc hb=>?_,q⟩
 ·have e:(xs.length:Int) - 1 - ((0:Nat):Int)=(its.toArray.size:Int) - 1:=by omega
  rw[e];exact hit
 ·have e:c=s1.heap.objs.size:=by simpa using hb
  subst e;exact I1.B1 (Xu _) (I1.hok.fresh (Xu _))
end
def JY(K:aJ)(w:World)(d:Addr)(kds:List (Str×PyData)):Prop :=
 (d == sysModules)=false/\∃(o:Obj) (vs:List (Str×Value)),K.lookup d=some o/\(∀P:Program,o.IsDictOf (strKind P w) vs) /\
  Paired (λa b=>a.1=b.1/\∃v,RelV v a.2/\∀H:Hp,cy K H v b.2) vs kds
def iS(kds:List (Str×PyData))(k:Str):Option PyData:=(kds.find? λkv=>decide (kv.1=k)).map (·.2)
theorem rQ{K:aJ}{vs:List (Str×Value)}{kds:List (Str×PyData)}(k:Str)(h:Paired (λa b=>a.1=b.1/\∃v,RelV v a.2/\∀H:Hp,cy K H v b.2) vs kds):
  (valueAt vs k=none/\iS kds k=none)∨∃u d v,valueAt vs k=some u/\iS kds k=some d/\RelV v u/\∀H:Hp,cy K H v d:=by
 induction h with
 | nil=>exact .inl ⟨rfl,rfl⟩
 | @cons a b as bs hab t ih =>
  obtain⟨e,v,h1,h2⟩:=hab;by_cases q:a.1=k
  ·refine .inr ⟨a.2,b.2,v,?_,?_,h1,h2⟩
   ·unfold valueAt;rw[List.find?_cons_of_pos (by simpa using q)];rfl
   ·unfold iS;rw[List.find?_cons_of_pos (by simpa [← e]using q)];rfl
  ·have e1:valueAt (a::as) k=valueAt as k:=by unfold valueAt;rw[List.find?_cons_of_neg (by simpa using q)]
   have e2:iS (b::bs) k=iS bs k:=by unfold iS;rw[List.find?_cons_of_neg (by simpa [← e]using q)]
   rw[e1,e2];exact ih
def D4(w:World)(e:Str×Tok×Value):DictEntry:={hash:=PyData.keyHash w.params e.1,key:=.str e.1 e.2.1,val:=e.2.2}
theorem Lg{K:aJ}{w:World}{d:Addr}{ep:Nat}{ent:List (Str×Tok×Value)}{kds:List (Str×PyData)}(hd:(d == sysModules)=false)
  (lk:K.lookup d=some {cls:=.type "dict",data:=.dict (ent.map (D4 w)).toArray ep}) (nd:(ent.map (·.1)).Nodup)
  (h:Paired (λ(e:Str×Tok×Value) (kd:Str×PyData)=>e.1=kd.1/\∃v,RelV v e.2.2/\∀H:Hp,cy K H v kd.2) ent kds):JY K w d kds:=by
 refine⟨hd,_,ent.map (λe=>(e.1,e.2.2)),lk,λP=>⟨_,ep,⟨rfl,rfl,rfl⟩,rfl,?_,?_,?_⟩,?_⟩
 ·intro e he;simp at he;obtain⟨a,b,c,_,rfl⟩:=he;exact⟨a,strKind_is _ _ _ _,rfl⟩
 ·show Pairs _ (ent.map (D4 w)) _;clear h nd lk
  induction ent with
  | nil=>exact .nil
  | cons e r ih=>exact .cons (strKind_is _ _ _ _) rfl ih
 ·rw[YE];exact nd
 ·clear lk nd
  induction h with
  | nil=>exact .nil
  | cons a t ih=>exact .cons a ih
theorem G7{K:aJ}{r:Addr}{its:List Value}{ds:List PyData}(lk:K.lookup r=some {cls:=.type "tuple",data:=.seq its.toArray 0})(hz:its.length<=sizeLine)
  (h:Paired (λu d=>∃v,RelV v u/\∀H:Hp,cy K H v d) its ds):∃v,RelV v (.ref r)/\∀H:Hp,cy K H v (.tuple ds):=by
 have key:∃xs:List V,Vals xs its/\∀H:Hp,kj K H xs ds:=by
  clear lk hz
  induction h with
  | nil=>exact⟨[],.nil,λH=>kj.nil⟩
  | cons a t ih =>
   obtain⟨v,h1,h2⟩:=a;obtain⟨xs,g1,g2⟩:=ih;exact⟨v::xs,.cons h1 g1,λH=>kj.cons (h2 H) (g2 H)⟩
 obtain⟨xs,h1,h2⟩:=key;exact⟨.ref r,rfl,λH=>.OU (.inr ⟨_,its.toArray,0,lk,rfl,rfl,by simpa using hz,h1⟩) (h2 H)⟩
theorem A7{K:aJ}{r:Addr}{d:PyData}(h:∃v,RelV v (.ref r)/\∀H:Hp,cy K H v d):∀H:Hp,cy K H (.ref r) d:=by
 obtain⟨v,h1,h2⟩:=h;intro H;cases v<;>simp[RelV]at h1
 subst h1;exact h2 H
theorem A8{K:aJ}{x:Str}{t:Tok}:∃v,RelV v (.str x t)/\∀H:Hp,cy K H v (.str x):=⟨.str x,⟨t,rfl⟩,λ_=>.str x⟩
theorem A9{K:aJ}{i:Int}{t:Tok}:∃v,RelV v (.int i t)/\∀H:Hp,cy K H v (.int i):=⟨.int i,⟨t,rfl⟩,λ_=>.int i⟩
section
variable {X:Cx}
theorem JY.at{K:aJ}{pins:List (Addr×Obj)}{σ:St}{H:Hp}{s:Shared}{w:World}{d:Addr}{kds:List (Str×PyData)}(hK:X.K=K)(I:Inv X pins σ H s)(h:JY K w d kds):
  (d == sysModules)=false/\∃vs,(∀P,s.heap.DictOf (strKind P w) d vs)/\Paired (λa b=>a.1=b.1/\∃v,RelV v a.2/\∀H:Hp,cy K H v b.2) vs kds:=by
 obtain⟨h0,o,vs,lk,hd,hp⟩:=h;subst hK;exact⟨h0,vs,λP=>Heap.dictOf_iff.mpr ⟨o,I.nM d o lk,hd P⟩,hp⟩
def Tg(K:aJ)(w:World):R2:=λx y H Q=>∃d kds k dt,x=.ref d/\y=.str k/\JY K w d kds/\iS kds k=some dt/\∀v:V,(∀H:Hp,cy K H v dt)->Q v H
theorem D5:Gs X (Tg X.K X.w):=by
 intro value slice pins s σ H x y v u Q I rx ry h hs;obtain⟨d,kds,k,dt,rfl,rfl,hd,hg,q⟩:=h;cases rx;obtain⟨t,rfl⟩:=ry;obtain⟨h0,vs,hm,hp⟩:=hd.at rfl I;rcases rQ k hp with⟨a,b⟩ | ⟨u,e,z,a,b,c1,c2⟩
 ·rw[b]at hg;cases hg
 ·rw[b]at hg;cases hg;exact Zi (x:=u) (hm X.prog).mapOf.typeIs slot_dict_getitem.lookup
   (wpAny_getItem_of (Q:=λr s'=>r=u/\EP X pins σ Q r s') (strKind_is X.prog X.w k t) (hm X.prog).mapOf a ⟨rfl,⟨z,H,I.tok _,c1,q z c2⟩⟩) hs
def O1(K:aJ)(w:World)(to:TE)(t:TA):TE:=λσ H Q=>to σ H λx H1=>∃d kds,x=.ref d/\JY K w d kds/\t σ H1 λxs H2=>∃k z,xs=[.str k,z]/\(iS kds k=none->Q z H2) /\
 ∀dt,iS kds k=some dt->∀v:V,(∀H:Hp,cy K H v dt)->Q v H2
variable {o e:Expr} {es:List Expr} {to:TE} {t:TA} {apos cpos:Pos}
theorem G8(ho:PE X o to)(ha:PA X (e::es) t)
  (hbase:attributeBase o "get" X.env (eval o X.env)=eval o X.env:=by rfl)
  (hfew:((backTo cpos (starEach (e::es) X.env)).all (λx=>!x.1)&&(backToKw cpos (keywordEach [] X.env)).all (λx=>x.1.isSome)
   && decide ((e::es).length + ([]:List Keyword).length + (if ([]:List Keyword).isEmpty then 0 else 1) < 30))=true:=by rfl)
  (hline:(apos.endLine == cpos.line)=true:=by rfl) (hs:starEach (e::es) X.env=(false,eval e X.env)::starEach es X.env:=by rfl) (hplain:(backTo cpos (starEach es X.env)).any (·.1)=false:=by rfl) :
  PE X (.Call (.Attribute o "get" apos) (e::es) [] cpos) (O1 X.K X.w to t):=by
 intro pins s σ H Q I h;refine Z8 hbase hfew hline rfl (ck (ho pins s σ H _ I h) λv s1 ⟨x,H1,I1,r1,d,kds,ex,hd,q1⟩=>?_);subst ex;cases r1;obtain⟨h0,vs,hm,hp⟩:=hd.at rfl I1;refine⟨"dict","dict.get",PySem.F.plainAttrs_dict,aag,PySem.F.type_dict_get,(hm X.prog).mapOf.typeIs,λb eb=>?_,?_⟩
 ·cases eb;obtain⟨ob,_,_,g1,g2,_⟩:=hm X.prog;exact⟨ob,g1,g2.2.1⟩
 have hA:=ha cpos pins s1 σ H1 _ I1 q1;rw[hs]at hA ⊢;refine Z9 (by show(false||(backTo cpos (starEach es X.env)).any (·.1))=false;rw[hplain]<;>rfl) (Calls.evalArgs_plain ?_)
 refine ck hA λus s2 ⟨ws,H2,I2,r2,k,z,ez,q2,q3⟩=>?_
 subst ez;obtain⟨u1,u2,rfl,O2,O3⟩:=vals2 r2;obtain⟨tk,rfl⟩:=O2;obtain⟨h0,vs,hm,hp⟩:=hd.at rfl I2;refine call_meetsIn aag (hm X.prog).mapOf.typeIs PySem.F.entry_dict_get (PySem.F.args_dict_get_3 _ _ _) (meets_dict_get_default (strKind X.prog X.w) d (strKind_is X.prog X.w k tk) h0 u2) ⟨_,(hm X.prog).mapOf,?_⟩;rcases rQ k hp with⟨a,b⟩ | ⟨u,dt,v,a,b,c1,c2⟩
 ·rw[a];exact⟨z,H2,I2.tok _,O3,q2 b⟩
 ·rw[a];exact⟨v,H2,I2.tok _,c1,q3 dt b v c2⟩
end
theorem Inv.Ba{X:Cx}{pins:List (Addr×Obj)}{σ:List (Option V)}{H:Hp}{s:Shared}{h':Heap}{fp:List Addr}{a:Addr}{o:HO}{t':Nat}(I:Inv X pins σ H s)(hf:∀b∈fp,nP X pins H b)
  (k:∀b u,b∉fp->s.heap.get? b=some u->h'.get? b=some u) (hp:s.heap.objs.size<=a) (new:gm X.prog X.w (upd H a o) h' a o):Inv X pins σ (upd H a o) {s with heap:=h',toks:=t'}:=by
 have hn:=I.hok.fresh hp;have nfp:∀b u,H b=some u->b∉fp:=λb u e z=>by rw[(hf b z).1]at e;cases e
 refine I.step (g':=s.gens) (d':=s.drawn) (ch:=fp) (λb hb=>⟨(hf b hb).2.2.2.1,(hf b hb).2.1,(hf b hb).2.2.2.2.1,(hf b hb).2.2.2.2.2⟩) (λb o _ _ hc e _=>k b o hc e) (λb o _ _ hc e _=>⟨o.slots,k b o hc e⟩)
  (λb o hc e n=>by rw[uN (Xv (Xs (Xr e) hp))];exact n) (λb o hc e=>⟨o,k b o hc e⟩) (λb xs e=>by rw[uN (nN e hn)];exact e) (λb u xs e=>by rw[uN (nN e hn)];exact e)
  (λb ps e=>⟨#[],by rw[uN (nN e hn),e];simp⟩) (λm hm=>?_) (λb u e=>?_) I.bare
 ·obtain⟨o,es,ep,ho,r⟩:=hm;exact⟨o,es,ep,k _ o (λz=>(hf _ z).2.1 rfl) ho,r⟩
 ·by_cases hb:b=a
  ·subst hb;rw[uS]at e;cases e;exact new
  ·rw[uN hb]at e;refine(I.hok b u e).uc (λc v hc q=>k c v ?_ q) (λc q=>by rw[uN (nN q hn)];exact q) λc xs q=>by rw[uN (nN q hn)];exact q
   rcases hc with z | z
   ·rw[z];exact nfp b u e
   ·exact nfp c _ z
theorem Inv.Bb{X:Cx}{pins:List (Addr×Obj)}{σ:List (Option V)}{H:Hp}{s:Shared}{h':Heap}{fp:List Addr}{t':Nat}(I:Inv X pins σ H s)(hf:∀b∈fp,nP X pins H b)
  (k:∀b u,b∉fp->s.heap.get? b=some u->h'.get? b=some u):Inv X pins σ H {s with heap:=h',toks:=t'}:=by
 have nfp:∀b u,H b=some u->b∉fp:=λb u e z=>by rw[(hf b z).1]at e;cases e
 refine I.step (g':=s.gens) (d':=s.drawn) (ch:=fp) (λb hb=>⟨(hf b hb).2.2.2.1,(hf b hb).2.1,(hf b hb).2.2.2.2.1,(hf b hb).2.2.2.2.2⟩) (λb o _ _ hc e _=>k b o hc e) (λb o _ _ hc e _=>⟨o.slots,k b o hc e⟩)
  (λ_ _ _ _ n=>n) (λb o hc e=>⟨o,k b o hc e⟩) (λ_ _ e=>e) (λ_ _ _ e=>e) (λb ps e=>⟨#[],by rw[e];simp⟩) (λm hm=>?_) (λb u e=>?_) I.bare
 ·obtain⟨o,es,ep,ho,r⟩:=hm;exact⟨o,es,ep,k _ o (λz=>(hf _ z).2.1 rfl) ho,r⟩
 ·refine(I.hok b u e).uc (λc v hc q=>k c v ?_ q) (λ_ q=>q) λ_ _ q=>q
  rcases hc with z | z
  ·rw[z];exact nfp b u e
  ·exact nfp c _ z
def jo(q:Bool)(h:Heap)(a:Addr)(its:Array Value):Prop:=match q with | true=>h.IsList a its | false=>h.IsTuple a its
def e9(q:Bool)(h:Heap)(it a:Addr)(i:Nat):Prop:=match q with | true=>h.IsListIter it a i | false=>h.IsTupleIter it a i
def O4(q:Bool):String:=match q with | true=>"list_iterator" | false=>"tuple_iterator"
theorem jo.at{q:Bool}{h h':Heap}{a:Addr}{its:Array Value}(x:jo q h a its)(e:∀o,h.get? a=some o->h'.get? a=some o):jo q h' a its:=by
 cases q<;>(obtain⟨o,ho,r⟩:=x;exact⟨o,e _ ho,r⟩)
theorem e9.at{q:Bool}{h h':Heap}{it a:Addr}{i:Nat}(x:e9 q h it a i)(e:∀o,h.get? it=some o->h'.get? it=some o):e9 q h' it a i:=by
 cases q<;>(obtain⟨o,ho,r⟩:=x;exact⟨o,e _ ho,r⟩)
theorem e9.obj{q:Bool}{h:Heap}{it a:Addr}{i:Nat}(x:e9 q h it a i):∃o,h.get? it=some o/\∀v,o.data≠.cell v:=by
 cases q<;>(obtain⟨o,ho,c,d⟩:=x;exact⟨o,ho,λv z=>by rw[d]at z;cases z⟩)
section
variable {prog:Program} {w:World} {A:Around} {E:Value->Shared->Prop} {s:Shared}
theorem D6{it t:Addr}{i:Nat}{its:Array Value}{x:Value}{Q:Value->Shared->Prop}(hit:s.heap.IsTupleIter it t i)(ht:s.heap.IsTuple t its)(hx:its[i]?=some x)
  (hQ:∀h',h'.IsTupleIter it t (i + 1)->Heap.SameBut it s.heap h'->Q x {s with heap:=h'}):wpAny (model prog w) A (Builtin.SmallTypes.nextOf (.ref it)) Q E s:=by
 obtain⟨o,g1,g2,g3⟩:=id hit;obtain⟨ot,g4,_,nt,g5⟩:=ht;unfold Builtin.SmallTypes.nextOf;refine wpAny_bind (wpAny_callSpecial?_slot (name:=Str.ofString "__next__") hit.typeIs F.slot_tuple_iterator_next (wpAny_call_entry F.slot_tuple_iterator_next hit.typeIs F.entry_tuple_iterator_next ?_ (F.args_tuple_iterator_next_1 _)));show wpAny _ _ (field (.ref it) 0 >>= _) _ _ s;refine wpAny_bind (wpAny_field g1 g3 (x:=.ref t) rfl ?_);show wpAny _ _ (if (Value.ref t == Value.none)=true then _ else _) _ _ s;rw[if_neg (show ¬ ((Value.ref t == Value.none)=true)from Bool.false_ne_true)];show wpAny _ _ (field (.ref it) 1 >>= _) _ _ s;refine wpAny_bind (wpAny_field g1 g3 (x:=.int i 0) rfl ?_);show wpAny _ _ (seqItems? (.ref t) >>= _) _ _ s;refine wpAny_bind (wpAny_seqItems g4 g5 ?_);simp only[Int.toNat_natCast,hx];refine wpAny_bind (wpAny_setField g1 g3 (by simp) (wpAny_pure ⟨x,rfl,wpAny_pure (hQ _ ?_ (Heap.SameBut.update ..))⟩));exact⟨_,Heap.get?_update_self _ g1 (Obj.isFreed_of_fields (Obj.data_mapFields g3 _)),(Obj.cls_mapFields ..).trans g2,by rw[Obj.data_mapFields g3];simp[rawInt]⟩
theorem G9{it t:Addr}{i:Nat}{its:Array Value}{Q:Value->Shared->Prop}(hh:A.handled=none)(hit:s.heap.IsTupleIter it t i)(ht:s.heap.IsTuple t its)(hx:its[i]?=none)
  (hE:∀h' e,Heap.ExtBut it s.heap h'->(∃o,h'.get? e=some o/\o.cls=.type "StopIteration")->E (.ref e) {s with heap:=h'}):wpAny (model prog w) A (Builtin.SmallTypes.nextOf (.ref it)) Q E s:=by
 obtain⟨o,g1,g2,g3⟩:=id hit;obtain⟨ot,g4,_,nt,g5⟩:=ht;unfold Builtin.SmallTypes.nextOf;refine wpAny_bind (wpAny_callSpecial?_slot (name:=Str.ofString "__next__") hit.typeIs F.slot_tuple_iterator_next (wpAny_call_entry F.slot_tuple_iterator_next hit.typeIs F.entry_tuple_iterator_next ?_ (F.args_tuple_iterator_next_1 _)));show wpAny _ _ (field (.ref it) 0 >>= _) _ _ s;refine wpAny_bind (wpAny_field g1 g3 (x:=.ref t) rfl ?_);show wpAny _ _ (if (Value.ref t == Value.none)=true then _ else _) _ _ s;rw[if_neg (show ¬ ((Value.ref t == Value.none)=true)from Bool.false_ne_true)];show wpAny _ _ (field (.ref it) 1 >>= _) _ _ s;refine wpAny_bind (wpAny_field g1 g3 (x:=.int i 0) rfl ?_);show wpAny _ _ (seqItems? (.ref t) >>= _) _ _ s;refine wpAny_bind (wpAny_seqItems g4 g5 ?_);simp only[Int.toNat_natCast,hx];refine wpAny_bind (wpAny_rule (wpAny_bind (wpAny_setField g1 g3 (by simp) ?_)));show wpAny _ _ (newExc (.type "StopIteration") [] >>= _) _ _ _;refine wpAny_bind ?_;simp only[newExc,newTuple];refine wpAny_bind (wpAny_newObj_type ?_ (by size_fits));refine wpAny_bind (m:=firstArgMember _ _) (wpAny_of_eq (a:=Value.none) (by first | rfl | (simp only[firstArgMember];rfl)) ?_);refine wpAny_newObj_type ?_ (by size_fits);simp only[raiseNew];refine wpAny_bind (wpAny_handled ?_)
 first | rw[show A.in1.handled=none from hh] | rw[hh]
 refine Xn (Xx (wpAny_throw ?_));exact hE _ _ (((Heap.SameBut.update ..).extBut.push _).push _) ⟨_,Xz _ rfl,rfl⟩
theorem vU{q:Bool}{it t:Addr}{i:Nat}{its:Array Value}{x:Value}{Q:Value->Shared->Prop}(hit:e9 q s.heap it t i)(ht:jo q s.heap t its)(hx:its[i]?=some x)
  (hQ:∀h',e9 q h' it t (i + 1)->Heap.SameBut it s.heap h'->Q x {s with heap:=h'}):wpAny (model prog w) A (Builtin.SmallTypes.nextOf (.ref it)) Q E s:=by
 cases q with
 | true=>exact wpAny_nextOf_list_item hit ht hx hQ
 | false=>exact D6 hit ht hx hQ
theorem D7{q:Bool}{it t:Addr}{i:Nat}{its:Array Value}{Q:Value->Shared->Prop}(hh:A.handled=none)(hit:e9 q s.heap it t i)(ht:jo q s.heap t its)(hx:its[i]?=none)
  (hE:∀h' e,Heap.ExtBut it s.heap h'->(∃o,h'.get? e=some o/\o.cls=.type "StopIteration")->E (.ref e) {s with heap:=h'}):wpAny (model prog w) A (Builtin.SmallTypes.nextOf (.ref it)) Q E s:=by
 cases q with
 | true=>exact wpAny_nextOf_list_end hh hit ht hx hE
 | false=>exact G9 hh hit ht hx hE
variable {q1 q2:Bool} {z TI TO i1 i2 l1 l2:Addr} {k1 k2:Nat} {xs ys:Array Value} {x y a b:Value}
theorem Cm{Q:Option Value->Shared->Prop}(D:ZipApart z TI TO i1 i2 l1 l2)(hz:IsZip s.heap z TI TO .none)(hTI:IsPair s.heap TI (.ref i1) (.ref i2))(hTO:IsPair s.heap TO a b)
  (h1:e9 q1 s.heap i1 l1 k1) (h2:e9 q2 s.heap i2 l2 k2) (D8:jo q1 s.heap l1 xs) (D2:jo q2 s.heap l2 ys) (hx:xs[k1]?=some x) (hy:ys[k2]?=some y)
  (hQ:∀h',IsZip h' z TI TO (rawInt s.heap.objs.size)->IsPair h' TO x y->e9 q1 h' i1 l1 (k1 + 1)->e9 q2 h' i2 l2 (k2 + 1)->IsPair h' s.heap.objs.size x y ->
   (∀c o,c≠z->c≠TO->c≠i1->c≠i2->s.heap.get? c=some o->h'.get? c=some o)->Q (some (.ref s.heap.objs.size)) {s with heap:=h'}):wpAny (model prog w) A (pyNext (.ref z)) Q E s:=by
 have hT:s.TypeIs (.ref z) "zip":=⟨_,hz,rfl⟩;unfold pyNext;refine wpAny_bind (wpAny_attempt (wpAny_callSpecial?_slot (name:=Str.ofString "__next__") hT F.slot_zip_next (wpAny_call_entry F.slot_zip_next hT F.entry_zip_next ?_ (F.args_zip_next_1 _))));show wpAny _ _ (field (.ref z) 2 >>= _) _ _ _;refine wpAny_bind (wpAny_field hz rfl (x:=.bool false) rfl ?_);show wpAny _ _ (field (.ref z) 3 >>= _) _ _ _;refine wpAny_bind (wpAny_field hz rfl (x:=.ref TI) rfl (wpAny_bind (wpAny_seqItems hTI rfl ?_)));show wpAny _ _ (Builtin.SmallTypes.ownedTupleIsFree (.ref z) >>= _) _ _ _;refine wpAny_bind ?_;unfold Builtin.SmallTypes.ownedTupleIsFree;refine wpAny_bind (wpAny_field hz rfl (x:=.none) rfl (wpAny_pure ?_));simp only[if_true];refine wpAny_bind (wpAny_rule (wpAny_bind (wpAny_field hz rfl (x:=.ref TO) rfl (wpAny_bind (wpAny_setField_rec hz (by simp) λu1 JZ b1=>?_)))))
 replace JZ:IsZip u1 z TI TO .ellipsis:=JZ
 refine wpAny_bind ?_;simp only[List.zipIdx_cons,List.zipIdx_nil,List.forIn_cons,List.forIn_nil];refine wpAny_bind (wpAny_bind (wpAny_onRaise ?_));show wpAny _ _ (Builtin.SmallTypes.nextOf (.ref i1) >>= _) _ _ _;refine wpAny_bind (vU (h1.at λo e=>b1.extBut _ o D.i1z e) (D8.at λo e=>b1.extBut _ o D.l1z e) hx λu2 Vd b2=>wpAny_pure ?_);have D9:IsPair u2 TO a b:=b2.extBut _ _ D.TOi1 (b1.extBut _ _ D.TOz hTO);refine wpAny_bind (wpAny_seqItems D9 rfl (wpAny_bind (wpAny_updateSeq_pair D9 λu3 Ha b3=>?_)))
 replace Ha:IsPair u3 TO x b:=Ha
 refine Xn (aab (Xx (Xn (Xn (wpAny_onRaise ?_)))));show wpAny _ _ (Builtin.SmallTypes.nextOf (.ref i2) >>= _) _ _ _;refine Xn (vU (h2.at λo e=>b3.extBut _ o D.TOi2.symm (b2.extBut _ o D.i12.symm (b1.extBut _ o D.i2z e))) (D2.at λo e=>b3.extBut _ o D.l2TO (b2.extBut _ o D.l2i1 (b1.extBut _ o D.l2z e))) hy λu4 VZ b4=>Xx ?_);have O5:IsPair u4 TO x b:=b4.extBut _ _ D.TOi2 Ha;refine Xn (Zc O5 rfl (Xn (wpAny_updateSeq_pair O5 λu5 Hb b5=>?_)))
 replace Hb:IsPair u5 TO x y:=Hb
 refine Xn (aab (Xx (Xx ?_)));refine Xn (Zc Hb rfl (Xn (wpAny_newTuple ?_)));have hsz:u5.objs.size=s.heap.objs.size:=by rw[b5.1,b4.1,b3.1,b2.1,b1.1]
 have Ve:IsZip u5 z TI TO .ellipsis:=b5.extBut _ _ D.TOz.symm (b4.extBut _ _ D.i2z.symm (b3.extBut _ _ D.TOz.symm (b2.extBut _ _ D.i1z.symm JZ)));have V0:∀c o,c≠z->c≠TO->c≠i1->c≠i2->s.heap.get? c=some o->u5.get? c=some o:=λc o c1 c2 c3 c4 e=>b5.extBut _ _ c2 (b4.extBut _ _ c4 (b3.extBut _ _ c2 (b2.extBut _ _ c3 (b1.extBut _ _ c1 e))))
 have V1:e9 q1 u5 i1 l1 (k1 + 1):=Vd.at λo e=>b5.extBut _ o D.TOi1.symm (b4.extBut _ o D.i12 (b3.extBut _ o D.TOi1.symm e))
 have V2:e9 q2 u5 i2 l2 (k2 + 1):=VZ.at λo e=>b5.extBut _ o D.TOi2.symm e
 have hzl:z < u5.objs.size:=Heap.lt_size Ve;show wpAny _ _ (Builtin.SmallTypes.ownedTupleHandOut (.ref z) (.ref u5.objs.size) >>= _) _ _ _;refine wpAny_bind ?_;unfold Builtin.SmallTypes.ownedTupleHandOut;have V3:IsZip (u5.push {cls:=.type "tuple",data:=.seq #[x,y]}) z TI TO .ellipsis:=Heap.get?_push_of_some _ Ve;refine wpAny_bind (wpAny_setField_rec V3 (by simp) λu7 Th b7=>?_)
 replace Th:IsZip u7 z TI TO (rawInt u5.objs.size):=Th
 refine wpAny_setField_rec Th (by simp) λu8 Hc b8=>?_
 replace Hc:IsZip u8 z TI TO (rawInt u5.objs.size):=Hc
 have up:∀c o,c≠z->u5.get? c=some o->u8.get? c=some o:=λc o c1 e=>b8.extBut _ _ c1 (b7.extBut _ _ c1 (Xl _ e))
 have Vf:IsPair u8 u5.objs.size x y:=b8.extBut _ _ (Yr hzl) (b7.extBut _ _ (Yr hzl) (Xz _ rfl));rw[hsz]at Hc Vf;refine Xx ⟨_,rfl,Xx ?_⟩;show Q (some (.ref u5.objs.size)) _;rw[hsz];exact hQ u8 Hc (up _ _ D.TOz Hb) (V1.at λo e=>up _ o D.i1z e) (V2.at λo e=>up _ o D.i2z e) Vf λc o c1 c2 c3 c4 e=>up c o c1 (V0 c o c1 c2 c3 c4 e)
theorem Ea{Q:Option Value->Shared->Prop}(hh:A.handled=none)(D:ZipApart z TI TO i1 i2 l1 l2)(hz:IsZip s.heap z TI TO .none)(hTI:IsPair s.heap TI (.ref i1) (.ref i2))(hTO:IsPair s.heap TO a b)
  (h1:e9 q1 s.heap i1 l1 k1) (h2:e9 q2 s.heap i2 l2 k2) (D8:jo q1 s.heap l1 xs) (D2:jo q2 s.heap l2 ys) (hend:xs[k1]?=none∨ys[k2]?=none)
  (hQ:∀h',(∀c o,c≠z->c≠TO->c≠i1->c≠i2->s.heap.get? c=some o->h'.get? c=some o)->Q none {s with heap:=h'}):wpAny (model prog w) A (pyNext (.ref z)) Q E s:=by
 have hT:s.TypeIs (.ref z) "zip":=⟨_,hz,rfl⟩;have fin:∀(h':Heap) (e:Addr),(∀c o,c≠z->c≠TO->c≠i1->c≠i2->s.heap.get? c=some o->h'.get? c=some o)->(∃o,h'.get? e=some o/\o.cls=.type "StopIteration") ->
   wpAny (model prog w) A (do let b ← isInstance (.ref e) (.type "StopIteration");if b=true then pure none else throw (.ref e)) Q E {s with heap:=h'}:=λh' e hk ⟨o,ho,hc⟩ =>
  Xn (wpAny_isInstance (T:="StopIteration") (b:=true) ⟨o,ho,hc⟩ isSubtype_stop (Xx (hQ _ hk)))
 unfold pyNext;refine wpAny_bind (wpAny_attempt (wpAny_callSpecial?_slot (name:=Str.ofString "__next__") hT F.slot_zip_next (wpAny_call_entry F.slot_zip_next hT F.entry_zip_next ?_ (F.args_zip_next_1 _))));show wpAny _ _ (field (.ref z) 2 >>= _) _ _ _;refine wpAny_bind (wpAny_field hz rfl (x:=.bool false) rfl ?_);show wpAny _ _ (field (.ref z) 3 >>= _) _ _ _;refine wpAny_bind (wpAny_field hz rfl (x:=.ref TI) rfl (wpAny_bind (wpAny_seqItems hTI rfl ?_)));show wpAny _ _ (Builtin.SmallTypes.ownedTupleIsFree (.ref z) >>= _) _ _ _;refine wpAny_bind ?_;unfold Builtin.SmallTypes.ownedTupleIsFree;refine wpAny_bind (wpAny_field hz rfl (x:=.none) rfl (wpAny_pure ?_));simp only[if_true];refine wpAny_bind (wpAny_rule (wpAny_bind (wpAny_field hz rfl (x:=.ref TO) rfl (wpAny_bind (wpAny_setField_rec hz (by simp) λu1 JZ b1=>?_)))))
 replace JZ:IsZip u1 z TI TO .ellipsis:=JZ
 refine wpAny_bind ?_;simp only[List.zipIdx_cons,List.zipIdx_nil,List.forIn_cons,List.forIn_nil];refine wpAny_bind (wpAny_bind (wpAny_onRaise ?_));show wpAny _ _ (Builtin.SmallTypes.nextOf (.ref i1) >>= _) _ _ _
 cases hx:xs[k1]? with
 | none =>
  refine wpAny_bind (D7 hh (h1.at λo e=>b1.extBut _ o D.i1z e) (D8.at λo e=>b1.extBut _ o D.l1z e) hx λu2 e b2 he=>?_);obtain⟨oe,hoe,hce⟩:=he;have iT:IsZip u2 z TI TO .ellipsis:=b2 _ _ D.i1z.symm JZ;have hez:e≠z:=λx=>by subst x;rw[iT]at hoe;cases hoe;simp at hce
  exact wpAny_setField_rec iT (by simp) λu3 _ b3=>fin u3 e (λc o c1 _ c3 _ x=>b3.extBut _ _ c1 (b2 _ _ c3 (b1.extBut _ _ c1 x))) ⟨oe,b3.extBut _ _ hez hoe,hce⟩
 | some x =>
  have hy:ys[k2]?=none:=by rcases hend with h | h;rw[hx]at h;cases h;exact h
  refine wpAny_bind (vU (h1.at λo e=>b1.extBut _ o D.i1z e) (D8.at λo e=>b1.extBut _ o D.l1z e) hx λu2 Vd b2=>wpAny_pure ?_);have D9:IsPair u2 TO a b:=b2.extBut _ _ D.TOi1 (b1.extBut _ _ D.TOz hTO);refine wpAny_bind (wpAny_seqItems D9 rfl (wpAny_bind (wpAny_updateSeq_pair D9 λu3 Ha b3=>?_)));refine wpAny_bind (wpAny_letGo (wpAny_pure (wpAny_bind (wpAny_bind (wpAny_onRaise ?_)))));show wpAny _ _ (Builtin.SmallTypes.nextOf (.ref i2) >>= _) _ _ _;refine wpAny_bind (D7 hh (h2.at λo e=>b3.extBut _ o D.TOi2.symm (b2.extBut _ o D.i12.symm (b1.extBut _ o D.i2z e))) (D2.at λo e=>b3.extBut _ o D.l2TO (b2.extBut _ o D.l2i1 (b1.extBut _ o D.l2z e))) hy λu4 e b4 he=>?_);obtain⟨oe,hoe,hce⟩:=he;have Vg:IsZip u4 z TI TO .ellipsis:=b4 _ _ D.i2z.symm (b3.extBut _ _ D.TOz.symm (b2.extBut _ _ D.i1z.symm JZ));have hez:e≠z:=λx=>by subst x;rw[Vg]at hoe;cases hoe;simp at hce
  exact wpAny_setField_rec Vg (by simp) λu5 _ b5=>fin u5 e (λc o c1 c2 c3 c4 x=>b5.extBut _ _ c1 (b4 _ _ c4 (b3.extBut _ _ c2 (b2.extBut _ _ c3 (b1.extBut _ _ c1 x))))) ⟨oe,b5.extBut _ _ hez hoe,hce⟩
theorem xR{q:Bool}{l:Addr}{its:Array Value}{Q:Value->Shared->Prop}(hl:jo q s.heap l its)(hQ:Q (.ref s.heap.objs.size) {s with heap:=s.heap.push {cls:=.type (O4 q),data:=.fields #[.ref l,.int 0 0]}}):
  wpAny (model prog w) A (pyIter (.ref l)) Q E s:=by
 cases q with
 | true=>exact ZO hl hQ
 | false=>exact ZG hl hQ
theorem J0{q:Bool}{h:Heap}{it l:Addr}(e:h.get? it=some {cls:=.type (O4 q),data:=.fields #[.ref l,.int 0 0]}):e9 q h it l 0:=by
 cases q<;>exact⟨_,e,rfl,rfl⟩
end
def RG(q1:Bool)(h:Heap)(l1:Addr):Heap:=h.push {cls:=.type (O4 q1),data:=.fields #[.ref l1,.int 0 0]}
def O6(q1 q2:Bool)(h:Heap)(l1 l2:Addr):Heap:=(RG q1 h l1).push {cls:=.type (O4 q2),data:=.fields #[.ref l2,.int 0 0]}
def O7(q1 q2:Bool)(h:Heap)(l1 l2:Addr):Heap:=(O6 q1 q2 h l1 l2).push {cls:=.type "tuple",data:=.seq #[.ref h.objs.size,.ref (RG q1 h l1).objs.size]}
def O8(q1 q2:Bool)(h:Heap)(l1 l2:Addr):Heap:=(O7 q1 q2 h l1 l2).push {cls:=.type "tuple",data:=.seq #[.none,.none]}
def NS(q1 q2:Bool)(h:Heap)(l1 l2:Addr):Heap:=(O8 q1 q2 h l1 l2).push {cls:=.type "zip",data:=.fields #[.none,.bool false,.bool false,.ref (O6 q1 q2 h l1 l2).objs.size,.ref (O7 q1 q2 h l1 l2).objs.size]}
theorem zQ(q1 q2:Bool)(l1 l2:Addr)(xs ys:Array Value):
  Meets (Builtin.«zip.__new__» ⟨[.type "zip",.ref l1,.ref l2],[]⟩) (λ_ R s=>jo q1 s.heap l1 xs/\jo q2 s.heap l2 ys/\R (.ok (.ret (.ref (O8 q1 q2 s.heap l1 l2).objs.size))) {s with heap:=NS q1 q2 s.heap l1 l2}) :=
 .of_wp λprog w A R s h=>by
  obtain⟨hp,g,d,tk,os⟩:=s;obtain⟨D8,D2,h⟩:=h;have hsub:=sub_zip;have V4:jo q1 (Shared.heap ⟨hp,g,d,tk,os⟩) l1 xs:=D8;have V5:jo q2 (Shared.heap ⟨hp.push {cls:=.type (O4 q1),data:=.fields #[.ref l1,.int 0 0]},g,d,tk,os⟩) l2 ys:=jo.at D2 λo e=>Xl _ e
  wp_walk using xR V4,xR V5
  exact⟨_,rfl,h⟩
section
variable {prog:Program} {w:World} {A:Around} {E:Value->Shared->Prop} {s:Shared} {q1 q2:Bool}
theorem Co{l1 l2:Addr}{xs ys:Array Value}{Q:Value->Shared->Prop}(D8:jo q1 s.heap l1 xs)(D2:jo q2 s.heap l2 ys)
  (h:∀h',IsZip h' (s.heap.objs.size + 4) (s.heap.objs.size + 2) (s.heap.objs.size + 3) .none->IsPair h' (s.heap.objs.size + 2) (.ref s.heap.objs.size) (.ref (s.heap.objs.size + 1)) ->
   IsPair h' (s.heap.objs.size + 3) .none .none->e9 q1 h' s.heap.objs.size l1 0->e9 q2 h' (s.heap.objs.size + 1) l2 0->(∀c o,s.heap.get? c=some o->h'.get? c=some o)->Q (.ref (s.heap.objs.size + 4)) {s with heap:=h'}) :
  wpAny (model prog w) A (call (.type "zip") [.ref l1,.ref l2]) Q E s:=by
 refine callType_new F.called_zip (by decide) (F.typeCall_zip_2 _ _) (F.newCall_zip_2 _ _) (λobj=>F.args_object_init_3 obj _ _) F.entry_zip_new (zQ q1 q2 l1 l2 xs ys) ⟨D8,D2,?_⟩;have z1:(RG q1 s.heap l1).objs.size=s.heap.objs.size + 1:=Heap.size_push ..;have z2:(O6 q1 q2 s.heap l1 l2).objs.size=s.heap.objs.size + 2:=by unfold O6;rw[Heap.size_push,z1]
 have z3:(O7 q1 q2 s.heap l1 l2).objs.size=s.heap.objs.size + 3:=by unfold O7;rw[Heap.size_push,z2]
 have z4:(O8 q1 q2 s.heap l1 l2).objs.size=s.heap.objs.size + 4:=by unfold O8;rw[Heap.size_push,z3]
 have g5:(NS q1 q2 s.heap l1 l2).get? (O8 q1 q2 s.heap l1 l2).objs.size=some _:=Xz _ rfl;have g4:(NS q1 q2 s.heap l1 l2).get? (O7 q1 q2 s.heap l1 l2).objs.size=some _:=Xl _ (Xz _ rfl);have g3:(NS q1 q2 s.heap l1 l2).get? (O6 q1 q2 s.heap l1 l2).objs.size=some _:=Xl _ (Xl _ (Xz _ rfl));have g2:(NS q1 q2 s.heap l1 l2).get? (RG q1 s.heap l1).objs.size=some _:=Xl _ (Xl _ (Xl _ (Xz _ rfl)));have g1:(NS q1 q2 s.heap l1 l2).get? s.heap.objs.size=some _:=Xl _ (Xl _ (Xl _ (Xl _ (Xz _ rfl))));show _/\_;rw[z2,z3,z4]at g5;rw[z1,z2]at g3;rw[z3]at g4;rw[z1]at g2;rw[z4];exact⟨⟨_,g5,rfl⟩,h _ g5 g3 g4 (J0 g1) (J0 g2) λc o x=>Xl _ (Xl _ (Xl _ (Xl _ (Xl _ x))))⟩
end
def uY(q:Bool)(K:aJ)(H:Hp)(a:Addr)(xs:List V):Prop:=match q with | true=>fV K H a xs | false=>e8 K H a xs
theorem uY.heap{X:Cx}{pins:List (Addr×Obj)}{σ:St}{H:Hp}{s:Shared}{q:Bool}{a:Addr}{xs:List V}(I:Inv X pins σ H s)(h:uY q X.K H a xs):∃its:List Value,Vals xs its/\jo q s.heap a its.toArray:=by
 cases q with
 | true=>obtain⟨its,r,p,_⟩:=I.list h;exact⟨its,r,p.isList⟩
 | false=>obtain⟨its,r,p,_⟩:=I.tuple h;exact⟨its,r,p⟩
theorem jo.lt{q:Bool}{h:Heap}{a:Addr}{its:Array Value}(x:jo q h a its):a < h.objs.size:=by
 cases q<;>(obtain⟨o,ho,r⟩:=x;exact Xr ho)
theorem e9.lt{q:Bool}{h:Heap}{it a:Addr}{i:Nat}(x:e9 q h it a i):it < h.objs.size:=by
 obtain⟨o,ho,_⟩:=x.obj;exact Xr ho
def Vh(q1 q2:Bool)(K:aJ)(l1 l2:Addr)(xs ys:List V):It :=
 ⟨λi H=>i < xs.length/\i < ys.length/\uY q1 K H l1 xs/\uY q2 K H l2 ys,
  λi H x H'=>∃T u v,H T=none/\x=.ref T/\H'=upd H T (.tup [u,v])/\xs[i]?=some u/\ys[i]?=some v,
  λi H=>(xs.length<=i∨ys.length<=i)/\uY q1 K H l1 xs/\uY q2 K H l2 ys⟩
theorem Eb{P:Program}{w:World}{K:aJ}{elts:List Expr}{kx}{pos:Pos}{q1 q2:Bool}{z TI TO i1 i2 l1 l2:Addr}(xs ys:List V)(D:ZipApart z TI TO i1 i2 l1 l2):
  Turn P w K (.Tuple elts kx pos) (Vh q1 q2 K l1 l2 xs ys) [z,TI,TO,i1,i2] z (λi h=>IsZip h z TI TO .none/\IsPair h TI (.ref i1) (.ref i2)/\(∃a b,IsPair h TO a b)/\e9 q1 h i1 l1 i/\e9 q2 h i2 l2 i) where
 mem:=by simp
 obj:=λi h st b hb=>by
  obtain⟨hz,hTI,⟨a,b',hTO⟩,h1,h2⟩:=st;simp at hb;rcases hb with e | e | e | e | e
  ·subst e;exact⟨_,hz,λv z=>by cases z⟩
  ·subst e;exact⟨_,hTI,λv z=>by cases z⟩
  ·subst e;exact⟨_,hTO,λv z=>by cases z⟩
  ·subst e;exact h1.obj
  ·subst e;exact h2.obj
 keep:=λi h h' st k=>by
  obtain⟨hz,hTI,⟨a,b',hTO⟩,h1,h2⟩:=st;exact⟨k z (by simp) _ hz,k TI (by simp) _ hTI,⟨a,b',k TO (by simp) _ hTO⟩,h1.at λo e=>k i1 (by simp) o e,h2.at λo e=>k i2 (by simp) o e⟩
 item:=by
  intro X hP hw hK hc i pins s σ H E I hf st hg;subst hP hw hK;obtain⟨g1,g2,s1,s2⟩:=hg;obtain⟨hz,hTI,⟨a,b',hTO⟩,h1,h2⟩:=st;obtain⟨us,r1,p1⟩:=s1.heap I;obtain⟨vs,r2,p2⟩:=s2.heap I;obtain⟨u,hu,ru⟩:=r1.get (dC g1);obtain⟨v,hv,rv⟩:=r2.get (dC g2);refine Cm (x:=u) (y:=v) D hz hTI hTO h1 h2 p1 p2 (by simpa using hu) (by simpa using hv) λh' a1 a2 a3 a4 a5 hk=>?_
  refine⟨_,rfl,wpAny_letOwnedTupleGo_zip a1 λh'' b1 sb=>?_⟩;have nT:∀{c o},s.heap.get? c=some o->c≠s.heap.objs.size:=λe=>Xv (Xr e)
  have hT:IsPair h'' s.heap.objs.size u v:=sb.extBut _ _ (nT hz).symm a5
  have kk:∀c o,c∉[z,TI,TO,i1,i2]->s.heap.get? c=some o->h''.get? c=some o:=λc o hc e=>by
   simp at hc;exact sb.extBut _ _ hc.1 (hk c o hc.1 hc.2.2.1 hc.2.2.2.1 hc.2.2.2.2 e)
  refine⟨.ref s.heap.objs.size,upd H s.heap.objs.size (.tup [xs[i],ys[i]]),I.Ba hf kk (Xu _) ⟨by show 2<=sizeLine;decide,[u,v],.cons ru (.cons rv .nil),_,hT,rfl,_,rfl⟩,rfl,⟨_,_,_,I.fresh,rfl,rfl,dC g1,dC g2⟩,?_,λb hb=>?_⟩
  ·exact⟨b1,sb.extBut _ _ D.TIz (hk _ _ D.TIz D.TITO D.TIi1 D.TIi2 hTI),⟨_,_,sb.extBut _ _ D.TOz a2⟩,a3.at λo e=>sb.extBut _ o D.i1z e,a4.at λo e=>sb.extBut _ o D.i2z e⟩
  ·rw[uN ?_]
   ·exact(hf b hb).1
   ·simp at hb;rcases hb with e | e | e | e | e
    ·subst e;exact nT hz
    ·subst e;exact nT hTI
    ·subst e;exact nT hTO
    ·subst e;exact Xv h1.lt
    ·subst e;exact Xv h2.lt
 done:=by
  intro X hP hw hK hc i pins s σ H E I hf st hg;subst hP hw hK;obtain⟨g1,s1,s2⟩:=hg;obtain⟨hz,hTI,⟨a,b',hTO⟩,h1,h2⟩:=st;obtain⟨us,r1,p1⟩:=s1.heap I;obtain⟨vs,r2,p2⟩:=s2.heap I;have e1:=r1.length;have e2:=r2.length;refine Ea (I.ok.hd hc) D hz hTI hTO h1 h2 p1 p2 ?_ λh' hk=>⟨rfl,I.Bb (t':=s.toks) hf λc o hc e=>?_⟩
  ·rcases g1 with g | g
   ·exact .inl (by simp;omega)
   ·exact .inr (by simp;omega)
  ·simp at hc;exact hk c o hc.1 hc.2.2.1 hc.2.2.2.1 hc.2.2.2.2 e
 self:=λ_ _ _ _ _ st h=>wpAny_pyIter_zip st.1 h
section
variable {X:Cx}
end
theorem jE{H:Hp}{p:Addr}(h:H p=none)(o:HO):bD H (upd H p o):=λb u q=>by rw[uN (nN q h)];exact q
section
variable {prog:Program} {w:World} {A:Around} {E:Value->Shared->Prop} {s:Shared}
theorem Cp{t sl:Addr}{items:Array Value}{vl vu:Value}{lo hi:Option Int}{Q:Value->Shared->Prop}(ht:IsTup s.heap t items)(hs:s.heap.IsSliceOf sl vl vu .none)(pl:IsPart vl lo)(pu:IsPart vu hi)
  (hw:HT.dD items.size 0 lo=0/\HT.dD items.size items.size hi=items.size) (h:Q (.ref t) s):wpAny (model prog w) A (getItem (.ref t) (.ref sl)) Q E s:=by
 obtain⟨os,hos,hcs,hds⟩:=id hs;have hTs:s.TypeIs (.ref sl) "slice":=⟨os,hos,hcs⟩;unfold getItem
 try with_reducible refine Zn ?_
 first | refine Xn (Xx ?_) | skip
 refine wpAny_bind (wpAny_sequenceKey ht.typeIs (by decide) ?_);refine wpAny_bind (wpAny_callSpecial?_slot (name:=Str.ofString "__getitem__") ht.typeIs PyProof.Rows.slot_tuple_getitem (wpAny_call_entry PyProof.Rows.slot_tuple_getitem ht.typeIs entry_tuple_getitem ?_ (args_tuple_getitem _ _)));show wpAny _ _ (Builtin.Tuple.tupleItemsOf (.ref t) >>= _) _ _ s;refine wpAny_bind (tupleItemsOf_ ht (wpAny_bind (wpAny_typeOf hTs ?_)));rw[if_pos (by decide)];refine wpAny_bind (HT.jn hs pl pu ?_);show wpAny _ _ (if (((HT.dD items.size 0 lo:Nat):Int) == 0&&(1:Int) == 1&&(HT.dD items.size items.size hi - HT.dD items.size 0 lo) == items.size)=true then _ else _) _ _ s;rw[if_pos (by rw[hw.1,hw.2];simp)];unfold Builtin.Tuple.tupleIsExact;refine wpAny_bind (wpAny_bind (wpAny_typeOf ht.typeIs (wpAny_pure ?_)));rw[if_pos (by decide)];exact wpAny_bind (wpAny_rule (wpAny_pure ⟨_,rfl,wpAny_pure h⟩))
end
section
variable {X:Cx}
def O9(K:aJ):V->Option Int->Option Int->Hp->VK->Prop:=λx lo hi H Q=>∃a xs,x=.ref a/\e8 K H a xs/\∀p H',bD H H'->e8 K H' p (rN xs lo hi)->Q (.ref p) H'
theorem Hd:Gr X (O9 X.K):=by
 intro pins s σ H x v vl vu lo hi sl Q I rx hs pl pu h;obtain⟨a,xs,rfl,hx,q⟩:=h;by_cases hw:HT.dD xs.length 0 lo=0/\HT.dD xs.length xs.length hi=xs.length
 ·cases rx;obtain⟨its,r,ht,hz⟩:=I.tuple hx;have hlen:its.toArray.size=xs.length:=by rw[Yk];exact r.length.symm
  refine⟨"tuple",_,PyProof.Rows.slot_tuple_getitem.lookup,ht.typeIs,Cp ht hs pl pu (by rw[hlen];exact hw) ⟨.ref a,H,I,rfl,q a H (bD.refl _) ?_⟩⟩;have e:rN xs lo hi=xs:=by unfold rN;rw[hw.1,hw.2];simp
  rw[e];exact hx
 ·exact K1 pins s σ H _ v vl vu lo hi sl Q I rx hs pl pu ⟨a,xs,rfl,hx,hw,λp hp=>q p _ (jE hp _) (e8.of uS)⟩
def J1(K:aJ):R2:=λx y H Q=>∃a b xs ys,x=.ref a/\y=.ref b/\e8 K H a xs/\e8 K H b ys/\xs.length + ys.length<=sizeLine/\∀p H',bD H H'->e8 K H' p (xs++ys)->Q (.ref p) H'
theorem He:gq X (binaryOp .Add) (J1 X.K):=by
 intro pins s σ H x y v u Q I rx ry h;obtain⟨a,b,xs,ys,rfl,rfl,ha,hb,hz,q⟩:=h;by_cases hx:xs=[]
 ·subst hx;cases rx;cases ry;obtain⟨its,r1,p1,_⟩:=I.tuple ha;obtain⟨Cf,r2,p2,_⟩:=I.tuple hb;cases r1;obtain⟨⟨c1,d1,e1,D1⟩,ho,hc,n,hd⟩:=id p1;obtain⟨⟨c2,d2,e2,DB⟩,Cc,Cd,n2,hd2⟩:=id p2;simp only at hc hd Cd hd2;subst hc hd Cd hd2;exact concat_meets ⟨_,ho,rfl⟩ ⟨_,Cc,rfl⟩ noFill_tuple_add seq_tuple_add PySem.F.slot_tuple_add PySem.F.entry_tuple_add (PySem.F.args_tuple_add_2 _ _)
   (tuple_addW0 a b _ Cf.toArray n n2 d1 d2 D1 DB (by simp)) ⟨ho,Cc,⟨.ref b,H,I,rfl,q b H (bD.refl _) hb⟩⟩
 ·exact GS pins s σ H _ _ v u Q I rx ry ⟨a,b,xs,ys,rfl,rfl,ha,hb,hx,hz,λe=>q a H (bD.refl _) (by rw[e,Ys];exact ha),λ_ p hp=>q p _ (jE hp _) (e8.of uS)⟩
end
structure Dd(P:Program)(w:World)(fs:List Env)(H H':Hp)(h0 B:Heap)(a:Addr)(cls a0:Value)(h:Heap):Prop where
 keep:∀b o,h0.get? b=some o->H b=none->b∉qo fs->B.get? b=some o
 there:∀b o,h0.get? b=some o->b∉qo fs->∃o',B.get? b=some o'
 slot:∀b o,h0.get? b=some o->b∈qo fs->∃sl,h.get? b=some {o with slots:=sl}
 free:∀b o,h0.get? b=some o->H b=none->H' b=none
 tups:∀b xs,H b=some (.tup xs)->H' b=some (.tup xs)
 dn:∀b o u,H b=some (.mi o u)->H' b=some (.mi o u)
 tbls:∀b ps,H b=some (.tbl ps)->∃more,H' b=some (.tbl (ps++more))
 hok:qF P w H' B
 fly:Heap.FlyingW B fs a cls a0 h
section
variable {P:Program} {w:World} {fs:List Env} {H H':Hp} {h0 B h h':Heap} {a:Addr} {cls a0:Value}
theorem Dd.un(F:Dd P w fs H H' h0 B a cls a0 h):Un (qo fs) [] H H' h0 h where
 keep:=λb o e n hb _=>F.fly.1 b o (F.keep b o e n hb)
 slot:=λb o e _ hb _=>F.slot b o e hb
 free:=λb o e n _=>F.free b o e n
 there:=λb o e _=>by
  by_cases hb:b∈qo fs
  ·obtain⟨sl,q⟩:=F.slot b o e hb;exact⟨_,q⟩
  ·obtain⟨o',q⟩:=F.there b o e hb;exact⟨o',F.fly.1 b o' q⟩
 tups:=F.tups
 dn:=F.dn
 tbls:=F.tbls
theorem Dd.Ti(F:Dd P w fs H H' h0 B a cls a0 h):qF P w H' h:=F.hok.kept F.fly.1
theorem Dd.new(F:Dd P w fs H H' h0 B a cls a0 h):H' a=none:=by
 cases q:H' a with
 | none=>rfl
 | some u =>
  have:=(F.hok a u q).lt;have z:=F.fly.2.1
  exact absurd z (by
   intro z
   have e:∃o,B.get? a=some o:=by
    have ok:=F.hok a u q
    cases u with
    | lst xs=>obtain⟨_,_,_,_,e⟩:=ok;exact⟨_,e⟩
    | tup xs=>obtain⟨_,_,_,o,e,_⟩:=ok;exact⟨_,e⟩
    | dK kvs=>obtain⟨_,_,_,_,o,_,_,e,_⟩:=ok;exact⟨_,e⟩
    | dT kvs=>obtain⟨_,_,_,_,o,_,_,e,_⟩:=ok;exact⟨_,e⟩
    | set S n=>obtain⟨o,_,_,_,e,_⟩:=ok;exact⟨_,e⟩
    | ins C dx fs=>obtain⟨_,_,_,e,_⟩:=ok;exact⟨_,e⟩
    | own y=>exact ok
    | xd fs=>obtain⟨_,⟨o,_,_,e,_⟩,_⟩:=ok;exact⟨_,e⟩
    | rng lo hi=>obtain⟨_,_,_,e⟩:=ok;exact⟨_,e⟩
    | mi ob u=>obtain⟨e,_⟩:=ok;exact⟨_,e⟩
    | tbl ps=>exact⟨_,ok⟩
    | met f y=>exact⟨_,ok⟩
    | ext φ=>obtain⟨_,e,_⟩:=ok;exact e
   obtain⟨o,e⟩:=e;rw[z]at e;cases e)
theorem Dd.on(F:Dd P w fs H H' h0 B a cls a0 h)(fl:Heap.FlyingW B fs a cls a0 h')(u:h.UpToSlots h'):Dd P w fs H H' h0 B a cls a0 h' :=
 ⟨F.keep,F.there,λb o e hb=>by
  obtain⟨sl,q⟩:=F.slot b o e hb;obtain⟨_,o',ho',hn⟩:=F.fly.2.2.1.mem hb;rw[q]at ho';have e1:=XX ho';obtain⟨sl',q'⟩:=u b _ q (by rw[e1];exact hn);exact⟨sl',q'⟩,F.free,F.tups,F.dn,F.tbls,F.hok,fl⟩
end
section
variable {P:Program} {w:World} {K:aJ} {mg:Str->Option Value} {base:Heap} {N:List Str} {qual:Str} {scope:Scope} {f:Addr} {cd:Value} {A:Around} {outer:List Env} {s₀:Shared} {H₀:Hp} {E:XK}
theorem cH{env:Env}{l:List Env}{L b:Addr}(hf:env.frame=some L):b∈qo (env::l)↔b=L∨b∈qo l:=by
 unfold qo;rw[List.filterMap_cons,hf];exact List.mem_cons
end
def Ec:Bool->List Value
 | true=>[.type "ValueError",.type "Exception",.type "BaseException",.type "object"]
 | false=>[.type "Exception",.type "BaseException",.type "object"]
def Vi:Bool->String
 | true=>"ValueError"
 | false=>"Exception"
def Lh:Bool->String
 | true=>"ValueError.__new__"
 | false=>"Exception.__new__"
def V6:Bool->String
 | true=>"ValueError.__init__"
 | false=>"Exception.__init__"
theorem Vj:∀b,PySem.ExcBaseFacts (Vi b) (Lh b) (V6 b) (Ec b)
 | true=>F.excBase_ValueError
 | false=>F.excBase_Exception
theorem Hf(b:Bool):(Ec b).contains (.type (Vi b))=true:=by cases b<;>decide
theorem Ed(b:Bool):(Ec b).contains (.type "BaseException")=true:=by cases b<;>decide
section
variable {X:Cx} {x:Str} {C:Addr} {E:XK} {np cpos pos:Pos}
end
def ExcAt(C a:Addr):Heap->Prop:=λh=>∃o vs,h.get? a=some o/\o.cls=.ref C/\o.data=.fields vs
theorem excMatches_K{K:aJ}{M:Model}{A:Around}{E:Value->Shared->Prop}{h:Heap}{g:Array GenState}{d:Drawn}{t:Nat}{os:OsState}{a C CW:Addr}{oe:Obj}{Q:Bool->Shared->Prop}(X:K.In h)(he:h.get? a=some oe)(hcls:oe.cls=.ref C)
  (q:PySem.W.ktsIn K CW "BaseException"=true) (m:PySem.W.mroIn K C (.ref CW)=some true) (hq:Q true ⟨h,g,d,t,os⟩):wpAny M A (excMatches (.ref a) (.ref CW)) Q E ⟨h,g,d,t,os⟩:=by
 obtain⟨nm,qn,N,bs,bm,hdct,sn,sub,ab,col,dd,k0,k1,k2,k3,k5,newId,hC,hbase,_⟩:=PySem.W.kts_cls X q;have hcB:(Value.ref CW::bm).contains (.type "BaseException")=true:=by rw[List.contains_cons,hbase,Bool.or_true]
 have f:=tc_notTuple;have L:=PySem.W.looks_mroIn (M:=M) X m;unfold excMatches
 repeat (first | (with_reducible refine XS he ?_;rw[hcls]) | with_reducible refine XS hC ?_ | (with_reducible refine Zz hC ?_;rw[hcB]) | with_reducible refine L.at ?_ | wp_step)
 exact hq
abbrev Cx.hand(X:Cx)(a:Addr)(E:Value->Shared->Prop):Cx:={X with A:=X.A.mark (some (.ref a)),calm:=false,xe:=E}
section
variable {X:Cx} {pins:List (Addr×Obj)} {σ:St} {H:Hp} {s:Shared}
theorem Inv.hand(I:Inv X pins σ H s)(a:Addr)(E:Value->Shared->Prop):Inv (X.hand a E) pins σ H s :=
 ⟨⟨I.ok.mod,I.ok.kind,I.ok.glob,I.ok.blt,I.ok.above,I.ok.inj,I.ok.has,I.ok.cab,(λz=>nomatch (show false=true from z)),I.ok.frames,I.ok.stk,I.ok.exf,I.ok.bs,I.ok.bsz,I.ok.noex,I.ok.exfs,I.ok.oV,I.ok.frf⟩,I.os,I.bare,I.base,I.loc,I.cell,I.free,I.freeC,I.pin,I.hok,I.len⟩
theorem Inv.vV{a:Addr}{E:Value->Shared->Prop}(ok:X.Ok)(I:Inv (X.hand a E) pins σ H s):Inv X pins σ H s:=⟨ok,I.os,I.bare,I.base,I.loc,I.cell,I.free,I.freeC,I.pin,I.hok,I.len⟩
theorem Inv.adopt{a:Addr}{φ:Heap->Prop}(I:Inv X pins σ H s)(hn:H a=none)(h1:X.s₀.heap.get? a=none)(hL:a≠X.env.locals)(hfs:a∉X.fs)(hc:∀x c,X.env.cells.lookup x=some c->c≠a)(hp:∀p∈X.pn++pins,p.1≠a)
  (ok:φ s.heap/\(∃o,s.heap.get? a=some o)/\∀u v:Heap,φ u->(∀o,u.get? a=some o->v.get? a=some o)->φ v):Inv X pins σ (upd H a (.ext φ)) s:=by
 refine⟨I.ok,I.os,I.bare,⟨I.base.keep,I.base.slot,λb o e n hx=>?_,I.base.there,λb xs e=>?_,λb o u e=>?_,λb ps e=>?_⟩,I.loc,I.cell,?_,λx c e=>?_,λp hq=>?_,λb u e=>?_,I.len⟩
 ·rw[uN (λz=>by rw[z,h1]at e;cases e)];exact I.base.free b o e n hx
 ·have e':=I.base.tups b xs e;rw[uN (nN e' hn)];exact e'
 ·have e':=I.base.dn b o u e;rw[uN (nN e' hn)];exact e'
 ·obtain⟨m,e'⟩:=I.base.tbls b ps e;exact⟨m,by rw[uN (nN e' hn)];exact e'⟩
 ·rw[uN (Y4 hL)];exact I.free
 ·rw[uN (hc x c e)];exact I.freeC x c e
 ·obtain⟨q1,q2,q3⟩:=I.pin p hq;exact⟨q1,by rw[uN (hp p hq)];exact q2,q3⟩
 ·by_cases hb:b=a
  ·subst hb;rw[uS]at e;cases e;exact ok
  ·rw[uN hb]at e;exact(I.hok b u e).uc (λ_ _ _ q=>q) (λc q=>by rw[uN (nN q hn)];exact q) λc xs q=>by rw[uN (nN q hn)];exact q
theorem Bd{M:Model}{A:Around}{E:Value->Shared->Prop}{i:Nat}{n:Str}{pos:Pos}{Q:Unit->Shared->Prop}(I:Inv X pins σ H s)(hN:X.N.Nodup)(hi:X.N[i]?=some n)(hk:X.env.kindOf n=some .local)
  (h:∀s',Inv X pins (σ.set i none) H s'->Q () s'):wpAny M A (do bindName X.env n .none;unbindBehindTheSuite X.env n pos) Q E s:=by
 obtain⟨m,hn,hl⟩:=id I.loc;have hcls:(X.env.scope.kind == .class||(X.env.scope.kind == .module&&X.env.locals != X.env.globals))=false:=by rw[I.ok.kind];rfl
 have hiσ:i < σ.length:=by rw[I.len];exact(bX hi).1
 obtain⟨oL,_,_,hoL,_⟩:=id hn;refine wpAny_nameGoes_keeps hk hn hcls λh' v hn' hs=>?_
 refine h _ ⟨I.ok,I.os,I.bare,⟨λb o e n hb hx=>?_,λb o e n hb hx=>?_,I.base.free,λb o e hx=>?_,I.base.tups,I.base.dn,I.base.tbls⟩,⟨_,hn',λj y v' e1 e2 e3=>?_⟩,λy c e=>?_,I.free,I.freeC,λp hp=>?_,λb ob e=>?_,by simpa using I.len⟩
 ·exact(hs.2 b (Xv (Xs (Xr e) I.ok.above))).trans (I.base.keep b o e n hb hx)
 ·obtain⟨sl,e1⟩:=I.base.slot b o e n hb hx;exact⟨sl,(hs.2 b (Xv (Xs (Xr e) I.ok.above))).trans e1⟩
 ·obtain⟨o',e1⟩:=I.base.there b o e hx;exact⟨o',(hs.2 b (Xv (Xs (Xr e) I.ok.above))).trans e1⟩
 ·by_cases hj:j=i
  ·subst hj;rw[XF hiσ]at e2;cases e2
  ·rw[XM (Y4 hj)]at e2;obtain⟨u',r',q⟩:=hl j y v' e1 e2 e3;refine⟨u',r',?_⟩;rcases q with⟨k,e⟩ | ⟨k,c,e,z⟩
   ·refine .inl ⟨k,?_⟩;have:y≠n:=λe=>hj (rD hN e1 (e ▸ hi))
    simp[this,e]
   ·exact .inr ⟨k,c,e,z.sameBut hs (I.GC y c e)⟩
 ·obtain⟨w',z⟩:=I.cell y c e;exact⟨w',z.sameBut hs (I.GC y c e)⟩
 ·obtain⟨e,n,ne,nf,d⟩:=I.pin p hp;exact⟨(hs.2 p.1 ne).trans e,n,ne,nf,d⟩
 ·refine(I.hok b ob e).uc (λc w' hc q=>(hs.2 c ?_).trans q) (λ_ q=>q) λ_ _ q=>q
  rintro rfl;rcases hc with rfl | hc
  ·rw[I.free]at e;cases e
  ·rw[I.free]at hc;cases hc
end
section
variable {X:Cx} {CW:Addr} {cx n:Str} {i:Nat} {b₀:Stmt} {suite:List Stmt} {np hpos pos:Pos} {tb:TS}
end
open PySem PySem.Spec PyProof.Rows PySem.W Builtin.Getset_descriptor
structure KX(K:Frag)(C:Addr):Prop where
 ga:findIn K (.ref C) "__getattribute__"=some (some (.builtin "BaseException.__getattribute__"))
 gh:findIn K (.ref C) "__getattr__"=some none
 cl:findIn K (.ref C) "__class__"=some (some (.builtin "object.__class__"))
 mb:mroIn K C (.type "BaseException")=some true
 mo:mroIn K C (.type "object")=some true
section
variable {prog:Program} {w:World} {A:Around} {E:Value->Shared->Prop} {K:Frag} {a C:Addr} {o:Obj} {h:Heap} {g:Array GenState} {d:Drawn} {t:Nat} {os:OsState}
theorem Ee{R:Result->Shared->Prop}(X:K.In h)(k:KX K C)(hx:h.get? a=some o)(hc:o.cls=.ref C)(hq:R (.ok (.ret (.ref C))) ⟨h,g,d,t,os⟩):
  codeAny (model prog w) A (.call (.builtin "getset_descriptor.__get__") ⟨[.builtin "object.__class__",.ref a,.ref C],[]⟩) R ⟨h,g,d,t,os⟩:=by
 have L0:Looks (model prog w) h (typeOf (.ref a)) (.ref C):=hc ▸ (Looks.ld hx).andThen .now;have L1:=looks_mroIn (M:=model prog w) X k.mo;refine codeAny_call_builtin KF.slot_gs.plain KF.entry_gs (KF.slot_gs.check _ _ _ _ _ _ _ _ KF.type_class (KF.args_gs _ _ _) ?_);unfold Builtin.«getset_descriptor.__get__» descrGet;rw[dga_obj];refine wpAny_bind (wpAny_pure ?_);unfold descrGetter descrCheckInstance descrNameAndClass isInstance;simp only[KF.owner_class]
 repeat lk
 refine⟨Code.quiet_builtin _ (by decide +kernel),codeAny_builtin KF.entry_class ?_⟩;unfold Builtin.«object.__class__» shownTypeOf
 repeat lk
 exact hq
theorem Ef{tk:Tok}{Q:Fin->Shared->Prop}(X:K.In h)(k:KX K C)(hx:h.get? a=some o)(hc:o.cls=.ref C)(hq:Q (.done (.ret (.ref C))) ⟨h,g,d,t,os⟩):
  wpAny (model prog w) A (Builtin.«object.__getattribute__» ⟨[.ref a,.str "__class__" tk],[]⟩) Q E ⟨h,g,d,t,os⟩:=by
 have L0:Looks (model prog w) h (typeOf (.ref a)) (.ref C):=hc ▸ (Looks.ld hx).andThen .now;have L1:=YX (M:=model prog w) X k.cl;have W3:(⟨h,g,d,t,os⟩:Shared).TypeIs (.builtin "object.__class__") "getset_descriptor":=F.typeOf_object_class;have f5:=F.typeOf_object_class;have f6:=F.slot_gs_get.lookup;have f7:=F.slot_gs_set.lookup
 repeat (any_goals (first | assumption | with_reducible refine L1.at ?_ | (with_reducible refine XS hx ?_;rw[hc]) | wp_step))
 refine Ee X k hx hc ?_
 repeat (any_goals (first | assumption | wp_step))
theorem xS{M:Model}{nameV:Value}{Q:Unit->Shared->Prop}(X:K.In h)(k:KX K C)(hx:h.get? a=some o)(hc:o.cls=.ref C)(hq:Q () ⟨h,g,d,t,os⟩):wpAny M A (checkBuiltinCall "BaseException.__getattribute__" ⟨[.ref a,nameV],[]⟩) Q E ⟨h,g,d,t,os⟩:=by
 have L1:=looks_mroIn (M:=M) X k.mb;have hk:builtinKind "BaseException.__getattribute__"=some .slot:=by decide +kernel
 have hsplit:splitId "BaseException.__getattribute__"=some ("BaseException","__getattribute__"):=by decide +kernel
 have ha:=F.args_bexc_ga (.ref a) nameV;simp only[checkBuiltinCall,hk,hsplit];refine wpAny_bind ?_;unfold isInstance
 repeat (first | (with_reducible refine XS hx ?_;rw[hc]) | with_reducible refine L1.at ?_ | wp_step)
 exact hq
theorem Hg{tk:Tok}{Q:Value->Shared->Prop}(X:K.In h)(k:KX K C)(hx:h.get? a=some o)(hc:o.cls=.ref C)(hq:Q (.ref C) ⟨h,g,d,t,os⟩):
  wpAny (model prog w) A (getAttrBy (.ref a) (.str "__class__" tk) false false) Q E ⟨h,g,d,t,os⟩:=by
 have L1:=YX (M:=model prog w) X k.ga;have L2:=YX (M:=model prog w) X k.gh;have f3:=Y1.ga.bind (.ref a);have Tj:(false&&onTheHeap (Value.builtin "BaseException.__getattribute__"))=false:=rfl;have Tn:(Value.builtin "BaseException.__getattribute__" == Value.builtin "object.__getattribute__")=false:=by decide +kernel
 have V7:(onTheHeap (Value.ref C)&&Value.builtin "BaseException.__getattribute__" == Value.builtin "object.__getattribute__")=false:=by rw[Tn];rfl
 repeat (any_goals (first | assumption | (with_reducible refine XS hx ?_;rw[hc]) | with_reducible refine L1.at ?_ | with_reducible refine L2.at ?_ | wp_step))
 refine Zt Y1.ga.plain F.entry_bexc_ga (xS X k hx hc (Ef X k hx hc ?_))
 repeat (any_goals (first | assumption | wp_step))
theorem Cq{Q:Option Value->Shared->Prop}(X:K.In h)(k:KX K C)(hx:h.get? a=some o)(hc:o.cls=.ref C)(hq:Q (some (.ref C)) ⟨h,g,d,t + 1,os⟩):wpAny (model prog w) A (getAttr? (.ref a) "__class__") Q E ⟨h,g,d,t,os⟩:=by
 unfold getAttr? getAttrBy?
 repeat (any_goals (first | assumption | with_reducible apply Hg X k hx hc | wp_step))
end
theorem Eg{K:Frag}{a C:Addr}{cd:ClassData}(k:KX K C)(hC:clsIn K C=some cd):KitX K (.ref a) (.ref C) (ExcAt C a) where
 ty:=λ_ _ _ ⟨o,_,h1,h2,_⟩=>h2 ▸ (Looks.ld h1).andThen .now
 it:=λ_ _ X _=>by
  unfold clsIn at hC;split at hC
  ·rename_i c' d' cd' sl' ho;intro A' Q' E' s' kk q;unfold isType loadHead;exact wpAny_bind (wpAny_loadPart (kk _ _ (X _ _ ho)) (wpAny_pure q))
  ·cases hC
 ne:=λh tp dd its n sl X e=>by
  refine YV.mpr λq=>?_
  have z:=beq_iff_eq.mp q;cases z;unfold clsIn at hC;split at hC
  ·rename_i c' d' cd' sl' ho;have:=X _ _ ho;rw[e]at this;cases this
  ·cases hC
 ca:=λ{_ _ _ _ _ s} X p q=>by
  obtain⟨o,vs,h1,h2,_⟩:=p;obtain⟨h,g,d,t,os⟩:=s;exact Cq X k h1 h2 q
section
variable {X:Cx}
end
def Eh(_i j:Int):Prop:=j≠0/\j.natAbs < 18446744073709551616
theorem Eh.ok{i j:Int}(hc:Eh i j):Builtin.divisionGoesByPylong i j=false:=by
 refine PyProof.noPylong_of_log2 ?_;have z:j.natAbs≠0:=λz=>hc.1 (Int.natAbs_eq_zero.mp z)
 exact Xs ((Nat.log2_lt z).mpr (show j.natAbs < 2 ^ 64 from hc.2)) (by decide)
theorem rR:∀l:List (Str×Tok),Vals ((l.map (·.1)).map V.str) (strValues l)
 | []=>.nil
 | (x,t)::r=>.cons ⟨t,rfl⟩ (rR r)
section
variable {X:Cx}
def Li:V->List V->Hp->VK->Prop:=λv vs H Q=>∃x y:Str,v=.str x/\vs=[.str y]/\(y.length == 0)=false/\x.length<=sizeLine/\(Builtin.Str.partsBetween x (Builtin.Str.occurrences x y 0 x.length (x.length + 1)) y.length).length<=sizeLine/\(Txt.split x y).length<=sizeLine /\
 ∀p,H p=none->Q (.ref p) (upd H p (.lst ((Txt.split x y).map V.str)))
theorem Ei:U9 X "str.split" Li:=by
 intro pins s σ H v vs u us Q I rx rv h;obtain⟨x,y,rfl,rfl,hy,hx,hp,hl,q⟩:=h;obtain⟨t,rfl⟩:=rx;obtain⟨u,rfl,k,rfl⟩:=vals1 rv
 have fin:∀(l:List (Str×Tok)) (tk:Nat),l.map (·.1)=Txt.split x y->EP X pins σ Q (.ref s.heap.objs.size) {s with toks:=tk,heap:=s.heap.push {cls:=.type "list",data:=.seq (strValues l).toArray}}:=λl tk e=>by
  refine⟨.ref s.heap.objs.size,_,I.laid (t':=tk) (λb o e=>Xl _ e) (Xu _) (show gm X.prog X.w _ _ _ (.lst ((Txt.split x y).map V.str))from ⟨by rw[Xk];exact hl,strValues l,_,by rw[← e];exact rR l,Xz _ rfl⟩),rfl,q _ (I.hok.fresh (Xu _))⟩
 cases h1:(decide (x.length < y.length)||decide (Builtin.Str.strKind x < Builtin.Str.strKind y))
 ·cases hf:(Builtin.Str.occurrences x y 0 x.length (x.length + 1)).isEmpty
  ·refine Zd YU (Zs _ _ _) Zf (Y8 _ _) (meets_str_split_sep x y t k h1 hy hf hx hp) ?_;show wants (EP X pins σ Q) X.xe _ {s with toks:=_,heap:=s.heap.push {cls:=.type "list",data:=.seq (strsFrom s.toks (Builtin.Str.partsBetween x (Builtin.Str.occurrences x y 0 x.length (x.length + 1)) y.length)).toArray}};rw[strsFrom_eq];exact fin (numbered s.toks _) _ ((numbered_texts _ _).trans ((XA (ZA h1)).trans (XA (ZA hf))).symm)
  ·exact Zd YU (Zs _ _ _) Zf (Y8 _ _) (meets_str_split_not_found x y t k h1 hy hf)
    (fin [(x,t)] _ ((XA (ZA h1)).trans (XB hf)).symm)
 ·exact Zd YU (Zs _ _ _) Zf (Y8 _ _) (meets_str_split_cannot_occur x y t k h1)
   (fin [(x,t)] _ (XB h1).symm)
end
def Vk(K:aJ)(l:Addr)(xs:List V):It :=
 ⟨λi H=>i < xs.length/\fV K H l xs,
  λi H x H'=>∃T v,H T=none/\x=.ref T/\H'=upd H T (.tup [.int (i:Int),v])/\xs[i]?=some v,
  λi H=>xs.length<=i/\fV K H l xs⟩
theorem Cr{P:Program}{w:World}{K:aJ}{elts:List Expr}{kx}{pos:Pos}{e it l:Addr}(xs:List V)(hne:e≠it):
  Turn P w K (.Tuple elts kx pos) (Vk K l xs) [e,it] e (λi h=>(∃old,IsEnum h e it i old)/\h.IsListIter it l i) where
 mem:=by simp
 obj:=λi h st b hb=>by
  obtain⟨⟨old,he⟩,h1⟩:=st;simp at hb;rcases hb with z | z
  ·subst z;exact⟨_,he,λv z=>by cases z⟩
  ·subst z;exact(show e9 true h b l i from h1).obj
 keep:=λi h h' st k=>by
  obtain⟨⟨old,he⟩,h1⟩:=st;exact⟨⟨old,k e (by simp) _ he⟩,(show e9 true h it l i from h1).at λo x=>k it (by simp) o x⟩
 item:=by
  intro X hP hw hK hc i pins s σ H E I hf st hg;subst hP hw hK;obtain⟨g1,s1⟩:=hg;obtain⟨⟨old,he⟩,h1⟩:=st;obtain⟨us,r1,p1,hz⟩:=I.list s1;obtain⟨u,hu,ru⟩:=r1.get (dC g1);refine wpAny_pyNext_enum_item (x:=u) he h1 p1.isList (by simpa using hu) hne λh' a1 a2 a3 a4 hk=>?_
  refine⟨_,rfl,wpAny_letOwnedTupleGo_enum a1 λh'' b1 sb=>?_⟩;have nT:∀{c o},s.heap.get? c=some o->c≠s.heap.objs.size:=λe=>Xv (Xr e)
  have hT:=sb.extBut _ _ (nT he).symm a3
  have kk:∀c o,c∉[e,it]->s.heap.get? c=some o->h''.get? c=some o:=λc o hc x=>by
   simp at hc;exact sb.extBut _ _ hc.1 (hk c o hc.1 hc.2 x)
  refine⟨.ref s.heap.objs.size,upd H s.heap.objs.size (.tup [.int (i:Int),xs[i]]),I.Ba hf kk (Xu _) ⟨by show 2<=sizeLine;decide,[.int i s.toks,u],.cons ⟨_,rfl⟩ (.cons ru .nil),_,hT,rfl,_,rfl⟩,rfl,⟨_,_,I.fresh,rfl,rfl,dC g1⟩,?_,λb hb=>?_⟩
  ·exact⟨⟨_,b1⟩,(show e9 true h' it l (i + 1)from a2).at λo x=>sb.extBut _ o hne.symm x⟩
  ·rw[uN ?_]
   ·exact(hf b hb).1
   ·simp at hb;rcases hb with z | z
    ·subst z;exact nT he
    ·subst z;exact Xv (show e9 true s.heap b l i from h1).lt
 done:=by
  intro X hP hw hK hc i pins s σ H E I hf st hg;subst hP hw hK;obtain⟨g1,s1⟩:=hg;obtain⟨⟨old,he⟩,h1⟩:=st;obtain⟨us,r1,p1,hz⟩:=I.list s1;have e1:=r1.length;refine wpAny_pyNext_enum_end (I.ok.hd hc) he h1 p1.isList (by simp;omega) λh' hk=>⟨rfl,I.Bb (t':=s.toks) hf λc o hc x=>?_⟩
  simp at hc;exact hk c o hc.2 x
 self:=λ_ _ _ _ _ st h=>by
  obtain⟨⟨old,he⟩,_⟩:=st;exact wpAny_pyIter_enum he h
section
variable {X:Cx}
def Pa(K:aJ)(ta:TA):TI:=λσ H R=>ta σ H λvs H1=>∃l xs,vs=[.ref l]/\fV K H1 l xs/\R (Vk K l xs) H1
theorem Hh{elts:List Expr}{kx}{tpos:Pos}{a:Expr}{ta:TA}{p pos:Pos}(hg:Gl X "enumerate")(hm:X.mg "enumerate"=none)(ha:PA X [a] ta)(hs:starEach [a] X.env=[(false,eval a X.env)]:=by rfl):
  PI X (.Tuple elts kx tpos) (.Call (.Name "enumerate" p) [a] [] pos) (Pa X.K ta):=by
 intro pins s σ H R I h;refine Call_ (ky I hg hm vT (Yl (ck (ha pos pins s σ H _ I h) λus s1 ⟨vs,H1,I1,r1,q1⟩=>?_) hs rfl));obtain⟨l,xs,rfl,s1',q⟩:=q1;obtain⟨u1,rfl,O2⟩:=vals1 r1;cases O2;obtain⟨V8,r1,p1,hz⟩:=I1.list s1';refine call_enumerate_list p1.isList λh' he h1 hsz kk=>?_
 refine wpAny_pyIter_enum he ?_;refine⟨s1.heap.objs.size + 1,[s1.heap.objs.size + 1,s1.heap.objs.size],_,_,H1,rfl,I1.kept (t':=s1.toks) kk,Cr xs (Yr (Nat.lt_succ_self _)),⟨⟨_,he⟩,h1⟩,?_,q⟩;intro c hb
 have hb':s1.heap.objs.size<=c:=by
  simp at hb;rcases hb with e | e<;>(rw[e];first | exact Nat.le_refl _ | exact Nat.le_add_right _ _)
 exact I1.B1 hb' (I1.hok.fresh hb')
end
theorem pf:fillsNumberSlot (.type "tuple") "mul"=pure false :=
 PySem.fillsNumberSlot_seq (id:="tuple.__mul__") (r:=some (.builtin "tuple.__rmul__")) F.slot_tuple_mul.lookup (by decide +kernel) F.slot_tuple_rmul.lookup (by decide +kernel)
theorem vW:seqRepeat? (.type "tuple")=pure (some (.builtin "tuple.__mul__")):=by
 unfold seqRepeat?;rw[PySem.seqSlot_of (T:="tuple") (name:="__mul__") (id:="tuple.__mul__") F.slot_tuple_mul.lookup (by decide +kernel),PySem.seqSlot_of (T:="tuple") (name:="__rmul__") (id:="tuple.__rmul__") F.slot_tuple_rmul.lookup (by decide +kernel)];rfl
theorem vX(a:Int)(t:Tok)(l:Addr)(items:Array Value)(n:Nat)(d:Option Addr)(sl:Array (Option Value)):
  Meets (Builtin.«int.__rmul__» ⟨[.int a t,.ref l],[]⟩) (λ_ R s=>s.heap.get? l=some {cls:=.type "tuple",dict:=d,data:=.seq items n,slots:=sl}/\R (.ok (.ret Value.notImplemented)) s) :=
 .of_wp λprog w A R s h=>by obtain⟨hp,g,dd,tk,os⟩:=s;obtain⟨hl,h⟩:=h;wp_walk;exact⟨_,rfl,h⟩
theorem xT(l:Addr)(items:Array Value)(n:Nat)(x:Int)(u:Tok)(d:Option Addr)(sl:Array (Option Value))(h1:x=1):
  Meets (Builtin.«tuple.__mul__» ⟨[.ref l,.int x u],[]⟩) (λ_ R s=>s.heap.get? l=some {cls:=.type "tuple",dict:=d,data:=.seq items n,slots:=sl}/\R (.ok (.ret (.ref l))) s) :=
 .of_wp λprog w A R s h=>by obtain⟨hp,g,dd,tk,os⟩:=s;obtain⟨hl,h⟩:=h;subst h1;wp_walk;exact⟨_,rfl,h⟩
theorem vY(l:Addr)(items:Array Value)(n:Nat)(x:Int)(u:Tok)(d:Option Addr)(sl:Array (Option Value))(c1:(decide (x < -(2 ^ 63))||decide (x ≥ 2 ^ 63))=false)(c2:(items.isEmpty||x == 1)=false)(c3:(decide (x<=0)||items.isEmpty)=true):
  Meets (Builtin.«tuple.__mul__» ⟨[.ref l,.int x u],[]⟩) (λ_ R s=>s.heap.get? l=some {cls:=.type "tuple",dict:=d,data:=.seq items n,slots:=sl}/\R (.ok (.ret (.ref s.heap.objs.size))) {s with heap:=s.heap.push {cls:=Value.type "tuple",data:=Data.seq #[]},toks:=s.toks}) :=
 .of_wp λprog w A R s h=>by
  obtain⟨hp,g,dd,tk,os⟩:=s;obtain⟨hl,h⟩:=h
  wp_walk;refine Zu (Xp (by rw[c1];decide)) ?_;wp_walk;exact⟨_,rfl,h⟩
theorem vZ(l:Addr)(items:Array Value)(n:Nat)(x:Int)(u:Tok)(d:Option Addr)(sl:Array (Option Value))(c1:(decide (x < -(2 ^ 63))||decide (x ≥ 2 ^ 63))=false)(c2:(items.isEmpty||x == 1)=false)(c3:(decide (x<=0)||items.isEmpty)=false)(c4:¬ (items.size:Int) * x > (2 ^ 63 - 1) / 8)(c5:Builtin.Tuple.tupleTooMany ((items.size:Int) * x)=false)
  (hs:(List.foldl (λx1 x2=>x1++x2) #[] (List.replicate x.toNat items)).size<=sizeLine) :
  Meets (Builtin.«tuple.__mul__» ⟨[.ref l,.int x u],[]⟩) (λ_ R s=>s.heap.get? l=some {cls:=.type "tuple",dict:=d,data:=.seq items n,slots:=sl}/\R (.ok (.ret (.ref s.heap.objs.size))) {s with heap:=s.heap.push {cls:=Value.type "tuple",data:=Data.seq (List.foldl (λx1 x2=>x1++x2) #[] (List.replicate x.toNat items))},toks:=s.toks}) :=
 .of_wp λprog w A R s h=>by
  obtain⟨hp,g,dd,tk,os⟩:=s;obtain⟨hl,h⟩:=h
  wp_walk;refine Zu (Xp (by rw[c1];decide)) ?_;wp_walk;refine Zu (Xp c4) ?_;wp_walk;exact⟨_,rfl,h⟩
section
variable {X:Cx}
def J2(K:aJ):R2:=λx y H Q=>∃a xs k,x=.ref a/\y=.int k/\e8 K H a xs/\xs≠[]/\-9223372036854775808<=k/\k < 9223372036854775808/\xs.length * k.toNat<=sizeLine/\∀p H',bD H H'->e8 K H' p (List.replicate k.toNat xs).flatten->Q (.ref p) H'
theorem Hi:gq X (binaryOp .Mult) (J2 X.K):=by
 intro pins s σ H x y v u Q I rx ry h;obtain⟨a,xs,k,rfl,rfl,ha,hx,h1,h2,hz,q⟩:=h;cases rx;obtain⟨t,rfl⟩:=ry;obtain⟨its,r1,p1,hsz⟩:=I.tuple ha;obtain⟨⟨c1,d1,e1,D1⟩,ho,hc,n,hd⟩:=id p1;simp only at hc hd;subst hc hd;have hlen:its.toArray.size=xs.length:=by rw[List.size_toArray];exact r1.length.symm
 have b1:(decide (k < -(2 ^ 63))||decide (k ≥ 2 ^ 63))=false:=by simp;omega
 have go:wpAny (model X.prog X.w) X.A (call (.builtin "tuple.__mul__") [.ref a,.int k t]) (EP X pins σ Q) X.xe s:=by
  by_cases To:k=1
  ·refine Zd F.slot_tuple_mul ⟨_,ho,rfl⟩ F.entry_tuple_mul (F.args_tuple_mul_2 _ _) (xT a its.toArray n k t d1 D1 To) ⟨ho,?_⟩;refine⟨.ref a,H,I,rfl,q a H (bD.refl _) ?_⟩;subst To;show e8 X.K H a (xs++[]);rw[Ys];exact ha
  ·have hne:¬ its.toArray.isEmpty=true:=by
    intro z;apply hx;rw[Array.isEmpty_iff_size_eq_zero,hlen]at z;exact YN.mp z
   have b2:(its.toArray.isEmpty||k == 1)=false:=by
    refine YV.mpr ?_;show ¬ _;rw[Bool.or_eq_true];rintro(z | z)
    ·exact hne z
    ·exact To (by simpa using z)
   by_cases Vl:k<=0
   ·refine call_meets F.slot_tuple_mul ⟨_,ho,rfl⟩ F.entry_tuple_mul (F.args_tuple_mul_2 _ _) (vY a its.toArray n k t d1 D1 b1 b2 (by simp[Vl])) ⟨ho,?_⟩;refine⟨.ref s.heap.objs.size,_,I.laid (t':=s.toks) (o:=.tup []) (λb ob q=>Heap.get?_push_of_some _ q) (Nat.le_refl _) ⟨by simp,[],.nil,IsTup.new _ _⟩,rfl,q _ _ (jE (I.hok.fresh (Nat.le_refl _)) _) (e8.of ?_)⟩;rw[show k.toNat=0 by omega];exact uS
   ·have b3:(decide (k<=0)||its.toArray.isEmpty)=false:=by
     refine YV.mpr ?_;show ¬ _;rw[Bool.or_eq_true];rintro(z | z)
     ·exact Vl (XI z)
     ·exact hne z
    have hprod:(its.toArray.size:Int) * k=((xs.length * k.toNat:Nat):Int):=by
     rw[hlen,Int.natCast_mul,show((k.toNat:Nat):Int)=k by omega]
    have hcap:(sizeLine:Nat)<=(2 ^ 63 - 1) / 8:=by decide
    have hfold:List.foldl (λx1 x2=>x1++x2) #[] (List.replicate k.toNat its.toArray)=(List.replicate k.toNat its).flatten.toArray:=by
     have:=foldl_rep its k.toNat [];rw[List.nil_append]at this;exact this
    have hfl:(List.replicate k.toNat its).flatten.length=k.toNat * its.length:=len_rep its k.toNat;have hitl:its.length=xs.length:=by rw[← hlen,Yk]
    refine call_meets F.slot_tuple_mul ⟨_,ho,rfl⟩ F.entry_tuple_mul (F.args_tuple_mul_2 _ _) (vZ a its.toArray n k t d1 D1 b1 b2 b3 (by rw[hprod];clear hprod;generalize xs.length * k.toNat=N at hz;omega) (by unfold Builtin.Tuple.tupleTooMany;rw[hprod];clear hprod;generalize xs.length * k.toNat=N at hz;exact decide_eq_false (by omega)) (by rw[hfold,List.size_toArray,hfl,hitl,Nat.mul_comm];exact hz)) ⟨ho,?_⟩;rw[hfold];refine⟨.ref s.heap.objs.size,_,I.laid (t':=s.toks) (o:=.tup (List.replicate k.toNat xs).flatten) (λb ob q=>Heap.get?_push_of_some _ q) (Nat.le_refl _) ⟨by rw[len_rep,Nat.mul_comm];exact hz,_,r1.rep k.toNat,IsTup.new _ _⟩,rfl,q _ _ (jE (I.hok.fresh (Nat.le_refl _)) _) (e8.of uS)⟩
 exact ZQ (T:="tuple") (U:="int") (by decide) ⟨_,ho,rfl⟩ (λs'=>ZP s' k t) pf F.fills_int_mul Zv vW F.slot_int_index.lookup
  (Zd Zv (ZP s k t) F.entry_int_rmul (F.args_int_rmul_2 _ _) (vX k t a its.toArray n d1 D1) ⟨ho,rfl,⟨_,ho,rfl⟩,go⟩)
end
section
variable {X:Cx}
def Hj(r r' r'':R2)(ta tb tc td:TE):TE:=λσ H Q=>ta σ H λx H1=>tb σ H1 λy H2=>r x y H2 λz H3=>∃k,z=.bl k /\
 (if k=true then tc σ H3 λw' H4=>r' y w' H4 λz' H5=>∃k',z'=.bl k'/\(if k'=true then td σ H5 λv' H6=>r'' w' v' H6 Q else Q (.bl false) H5)else Q (.bl false) H3)
theorem Cs{a b c d:Expr}{ta tb tc td:TE}{pos:Pos}{op op' op'':CmpOp}{r r' r'':R2}(ho:gq X (compareOp op) r)(ho':gq X (compareOp op') r')(ho'':gq X (compareOp op'') r'')(ha:PE X a ta)(hb:PE X b tb)(hc:PE X c tc)(hd:PE X d td)
  (hm:lastMarks [op,op',op''] [b,c,d]=false:=by with_unfolding_all rfl):PE X (.Compare a [op,op',op''] [b,c,d] pos) (Hj r r' r'' ta tb tc td):=by
 intro pins s σ H Q I h
 refine Compare_chain (ck (ha pins s σ H _ I h) λv s1 ⟨x,H1,I1,r1,q1⟩=>chain_link (ck (hb pins s1 σ H1 _ I1 q1) λu s2 ⟨y,H2,I2,r2,q2⟩ =>
  ck (ho pins s2 σ H2 x y v u _ I2 r1 r2 q2) λd s3 ⟨z,H3,I3,r3,k,e,q3⟩=>?_)) hm
 subst e;cases r3;refine X0 ?_
 cases k with
 | false=>exact ite_ff ⟨.bl false,H3,I3,rfl,q3⟩
 | true =>
  refine ite_tt (chain_link (ck (hc pins s3 σ H3 _ I3 q3) λw' s4 ⟨z',H4,I4,r4,q4⟩=>ck (ho' pins s4 σ H4 y z' u w' _ I4 r2 r4 q4) λd' s5 ⟨z5,H5,I5,r5,k5,e5,q5⟩=>?_));subst e5;cases r5;refine X0 ?_
  cases k5 with
  | false=>exact ite_ff ⟨.bl false,H5,I5,rfl,q5⟩
  | true=>exact ite_tt (chain_last (ck (hd pins s5 σ H5 _ I5 q5) λv' s6 ⟨z6,H6,I6,r6,q6⟩=>ho'' pins s6 σ H6 z' z6 w' v' Q I6 r4 r6 q6))
end
section
variable {X:Cx}
def J3:V->Option Int->Option Int->Hp->VK->Prop:=λv lo hi H Q=>∃(x:Str),v=.str x/\x.length<=sizeLine/\Q (.str (Txt.slice x lo hi)) H
theorem Hk:Gr X J3:=by
 intro pins s σ H x v vl vu lo hi sl Q I rx hs pl pu h;obtain⟨x,rfl,hz,q⟩:=h;obtain⟨t,rfl⟩:=rx
 have go:∀(l u:Option (Int×Tok)),l.map (·.1)=lo->u.map (·.1)=hi->s.heap.IsSlice sl l u none->∃T id,typeLookup (.type T) "__getitem__"=pure (some (.builtin id))/\s.TypeIs (.str x t) T/\wpAny (model X.prog X.w) X.A (getItem (.str x t) (.ref sl)) (EP X pins σ Q) X.xe s:=λl u el eu hs=>by
  subst el eu;refine⟨"str",_,PySem.F.slot_str_getitem.lookup,Zs _ _ _,wpAny_getItem_str_slice (l:=l) (u:=u) (st:=none) hs rfl (post_val_or_str ⟨XT (Txt.slice_le x _ _) hz,λt' k=>?_⟩)⟩;exact⟨.str _,H,I.kept (t':=k) λ_ _ e=>e,⟨t',rfl⟩,q⟩
 cases pl with
 | none =>
  cases pu with
  | none=>exact go none none rfl rfl hs
  | int j tj=>exact go none (some (j,tj)) rfl rfl hs
 | int i ti =>
  cases pu with
  | none=>exact go (some (i,ti)) none rfl rfl hs
  | int j tj=>exact go (some (i,ti)) (some (j,tj)) rfl rfl hs
end
open PySem PySem.Spec PyProof.Rows PySem.W PySem.Builtin PySem.Builtin.ObjectAttr
def rS(K:Frag)(C:Addr)(bmB:List Value)(newId:String):Bool:=match K.lookup C with
 | some ⟨.type "type",_,.cls cd,sl⟩=>(match cd.mro,sl.toList with
  | .ref C'::bm,[_,_,_,_,some (.builtin n),_]=>C' == C&&n == newId&&!cd.hasDel&&tailIn K bmB bm&&nsOkIn K cd.ns&&cd.hasDict
  | _,_=>false)
 | _=>false
theorem rm{K:Frag}{h:Heap}{C:Addr}{bmB:List Value}{newId:String}(X:K.In h)(q:rS K C bmB newId=true):
  ∃(bm:List Value) (N:Addr) (nm qn:Str) (bs:List Value) (sn:List Str) (sub:List Value) (ab:Bool) (col:Option Bool) (dd:Option Addr) (k0 k1 k2 k3 k5:Option Value) (mN:Str->Option Value),
   h.get? C=some (excClassObj nm qn C N bs bm true sn sub ab col dd k0 k1 k2 k3 k5 newId)/\h.Ns N mN/\OwnTail h bmB bm/\∃cd,clsIn K C=some cd/\cd.mro=.ref C::bm/\cd.hasDict=true:=by
 unfold rS at q;split at q
 ·rename_i dd cd sl ho;split at q
  ·rename_i C' bm k0 k1 k2 k3 n k5 hm hs;simp only[Bool.and_eq_true,beq_iff_eq,Bool.not_eq_true']at q;have hcls:clsIn K C=some cd:=by unfold clsIn;rw[ho]
   obtain⟨⟨⟨⟨⟨rfl,rfl⟩,hdel⟩,ht⟩,hok⟩,hhd⟩:=q;obtain⟨nm,bs,mro,ns,qn,hd,sn,sub,ab,col,del⟩:=cd;dsimp only at hm hdel hok hhd;subst hm hdel hhd
   have hsl:sl=#[k0,k1,k2,k3,some (.builtin n),k5]:=by
    obtain⟨l⟩:=sl;simp only at hs;rw[hs]
   subst hsl;exact⟨bm,ns,nm,qn,bs,sn,sub,ab,col,dd,k0,k1,k2,k3,k5,_,X _ _ ho,.of_isNs (PySem.W.isNs_of_in X hok),PySem.W.tail_of_in X ht,⟨_,hcls,by rfl,by rfl⟩⟩
  ·cases q
 ·cases q
section
variable {prog:Program} {w:World} {A:Around} {E:Value->Shared->Prop} {K:Frag} {h:Heap} {g:Array GenState} {d:Drawn} {t:Nat} {os:OsState}
variable {nm q:Str} {C N:Addr} {bs bm bmB:List Value} {hdct:Bool} {sn:List Str} {sub:List Value} {ab:Bool} {col:Option Bool} {dd:Option Addr} {k0 k1 k2 k3 k5:Option Value} {B Bn newId nid initId inN:String} {bmN:List Value}
def ph(C:Addr)(t:Addr):Obj:={cls:=.ref C,data:=.fields #[.ref t,.none,.none,.none,.bool false,.none]}
theorem zR(Fn:ExcBaseFacts Bn newId inN bmN)(hBn:bmB.contains (.type Bn)=true)(F:ExcBaseFacts B nid initId bmB)(T:OwnTail h bmB bm){rest:List Value}{Q:Fin->Shared->Prop}{fI:Addr}
  (hC:h.get? C=some (excClassObj nm q C N bs bm hdct sn sub ab col dd k0 k1 k2 k3 k5 newId)) (X:K.In h) (hi:findIn K (.ref C) "__init__"=some (some (.ref fI))) (hf:isFn K (.ref fI)=true)
  (hq:wpAny (model prog w) A (call (.ref fI) (.ref (h.objs.size + 1)::rest)) (λr s'=>r=.none/\Q (.done (.ret (.ref (h.objs.size + 1)))) s') E ⟨(h.push {cls:=.type "tuple",data:=.seq rest.toArray}).push (ph C h.objs.size),g,d,t,os⟩) (hrest:rest.length<=sizeLine) :
  wpAny (model prog w) A (Builtin.«type.__call__» ⟨.ref C::rest,[]⟩) Q E ⟨h,g,d,t,os⟩:=by
 repeat (first | with_reducible refine XS hC ?_ | with_reducible refine wpAny_madeBy_exc hC ?_ | wp_step)
 refine codeAny_call_builtin_code (Code.quiet_builtin _ Fn.quiet) (wpAny_check_new_subU Fn hBn T hC ?_);refine codeAny_exc_new_subU Fn hBn F T hC ?_ hrest;show wpAny _ _ _ _ _ _;have kp:∀b o,h.get? b=some o->((h.push {cls:=.type "tuple",data:=.seq rest.toArray}).push {cls:=.ref C,data:=.fields #[.ref h.objs.size,.none,.none,.none,.bool false,.none]}).get? b=some o:=λb o e=>Xl _ (Xl _ e)
 have hC₁:=kp _ _ hC;have X₁:=X.keeps kp;have hget:((h.push {cls:=.type "tuple",data:=.seq rest.toArray}).push
   {cls:=.ref C,data:=.fields #[.ref h.objs.size,.none,.none,.none,.bool false,.none]}).get? (h.objs.size + 1)=some
   {cls:=.ref C,data:=.fields #[.ref h.objs.size,.none,.none,.none,.bool false,.none]}:=by heap_get
 have hcC:(Value.ref C::bm).contains (.ref C)=true:=by simp
 unfold isInstance
 repeat (first | with_reducible refine XS hget ?_ | (with_reducible refine Zz hC₁ ?_;rw[hcC]) | wp_step)
 show wpAny _ _ (typeLookup (.ref C) _) _ _ _;refine(YX (M:=model prog w) X₁ hi).at ?_;refine Zn (Xn ((bind_fn X₁ _ (Ze.mp hf)).at ?_));refine Xn (X6 hq (λr s' hr=>?_) λ_ _ x=>x);obtain⟨rfl,hQ⟩:=hr
 wp_walk
 exact hQ
theorem Ct(Fn:ExcBaseFacts Bn newId inN bmN)(hBn:bmB.contains (.type Bn)=true)(F:ExcBaseFacts B nid initId bmB)(T:OwnTail h bmB bm){rest:List Value}{Q:Value->Shared->Prop}{fI:Addr}
  (hC:h.get? C=some (excClassObj nm q C N bs bm hdct sn sub ab col dd k0 k1 k2 k3 k5 newId)) (X:K.In h) (hi:findIn K (.ref C) "__init__"=some (some (.ref fI))) (hf:isFn K (.ref fI)=true)
  (hq:wpAny (model prog w) (A.under (.builtin "type.__call__" ⟨.ref C::rest,[]⟩)) (call (.ref fI) (.ref (h.objs.size + 1)::rest)) (λr s'=>r=.none/\Q (.ref (h.objs.size + 1)) s') E ⟨(h.push {cls:=.type "tuple",data:=.seq rest.toArray}).push (ph C h.objs.size),g,d,t,os⟩) (hrest:rest.length<=sizeLine) :
  wpAny (model prog w) A (call (.ref C) rest) Q E ⟨h,g,d,t,os⟩:=by
 have f1:=tc_lookup;have f2:=tc_bind (.ref C);have hT:(⟨h,g,d,t,os⟩:Shared).TypeIs (.ref C) "type":=⟨_,hC,rfl⟩;refine aaj (codeAny_of_tree ?_);show wpAny _ _ (callAny (.ref C) _) _ _ _
 repeat (any_goals (first | assumption | with_reducible refine XS hC ?_ | wp_step))
 refine⟨rfl,?_⟩;exact codeAny_call_builtin_at (Code.quiet_builtin _ (by decide +kernel)) entry_typeCall (wpAny_check_type_call_sub hC (zR Fn hBn F T hC X hi hf hq hrest))
end
theorem xU(self:Value){h:Heap}{bm:List Value}{bx:Bool}(T:OwnTail h (Ec bx) bm):refuseLoop self "__setattr__" bm=pure ():=by
 induction T with
 | base =>
  cases bx with
  | true=>exact PySem.F.store_ValueError.passes self
  | false=>exact PySem.F.store_Exception.passes self
 | own _ _ _ _ ih=>rw[refuseLoop_ref];exact ih
section
variable {prog:Program} {w:World} {A:Around} {K:Frag} {s:Shared} {x C:Addr} {R:Result->Shared->Prop}
theorem uZ{ox:Obj}{od:Option Obj}{name:Str}{tk:Tok}{v:Value}{bm:List Value}{cd:ClassData}{bx:Bool}(X:K.In s.heap)(I:InstAt s.heap x ox C od)(hc:clsIn K C=some cd)(hm':cd.mro=.ref C::bm)(T:OwnTail s.heap (Ec bx) bm)(hmo:mroIn K C (.type "object")=some true)(ht:findIn K (.ref C) name=some none)
  (h:wpAny (model prog w) A.in1 (storeInOwnDict (.ref x) (.ref C) (.str name tk) name v false)
   (λfin s'=>match fin with | .done f=>R (.ok f) s' | .again c'=>c'.quiet=true/\codeAny (model prog w) A c' R s') (λe s'=>R (.error e) s') s) :
  codeAny (model prog w) A (.call (.builtin "object.__setattr__") ⟨[.ref x,.str name tk,v],[]⟩) R s:=by
 have SF:=PySem.F.store_object;have sub:Looks (model prog w) s.heap (isInstance (.ref x) (.type "object")) true:=I.type.andThen (looks_mroIn X hmo);refine Zt SF.slot.plain SF.entry (@check_slot (model prog w) _ _ s "object.__setattr__" "object" "__setattr__" (.ref x) [.str name tk,v] [] _ SF.kind SF.split sub (SF.args (.ref x) (.str name tk) v) ?_);have hm:Looks (model prog w) s.heap (mroOf (.ref C)) cd.mro:=(looks_clsIn X hc).andThen .now;rw[osa_eq,refuse_eq];refine Xn (Xn (I.type.here (Xn (hm.here ?_))));rw[hm',refuseLoop_ref,xU _ T];refine Xx (Xn (I.type.here (Xn ((YX X ht).here (Xn ?_)))));refine Xx ?_;exact h
end
section
variable {prog:Program} {w:World} {A:Around} {E:Value->Shared->Prop} {h:Heap} {g:Array GenState} {d:Drawn} {t:Nat} {os:OsState}
variable {nm q:Str} {C N x:Addr} {bs bm:List Value} {sn:List Str} {sub:List Value} {ab:Bool} {col:Option Bool} {dd:Option Addr} {k0 k1 k2 k3 k5:Option Value} {newId:String} {name:Str} {v:Value}
theorem zS{tk:Tok}{o:Obj}{Q:Fin->Shared->Prop}(hC:h.get? C=some (excClassObj nm q C N bs bm true sn sub ab col dd k0 k1 k2 k3 k5 newId))(hx:h.get? x=some o)(hc:o.cls=.ref C)(hnc:∀c,o.data≠.cls c)(hdn:o.dict=none)
  (hq:∀h' tk',h'.get? x=some {cls:=o.cls,dict:=some h.objs.size,data:=o.data,slots:=o.slots}->h'.Ns1 h.objs.size (λy=>if y=name then some v else none)->(∀b ob,b≠x->h.get? b=some ob->h'.get? b=some ob)->Q (.done (.ret .none)) ⟨h',g,d,tk',os⟩) :
  wpAny (model prog w) A (storeInOwnDict (.ref x) (.ref C) (.str name tk) name v false) Q E ⟨h,g,d,t,os⟩:=by
 unfold storeInOwnDict
 repeat (first | (with_reducible refine XS hx ?_;rw[hc]) | with_reducible refine XS hC ?_ | wp_step)
 rw[hdn];dsimp only;rw[if_neg (by simp[typeHasDict])];split
 ·rename_i c hcd;exact absurd hcd (hnc c)
 ·have hx₁:(h.push {cls:=.type "dict",data:=.dict #[]}).get? x=some o:=Xl _ hx;have hxs:x≠h.objs.size:=Xv (Xr hx);refine Xn (wpAny_alloc' ?_);refine Xn (wpAny_update' hx₁ ?_);refine Xx ?_;have hgd:((h.push {cls:=.type "dict",data:=.dict #[]}).update x λo=>{cls:=o.cls,dict:=some h.objs.size,data:=o.data,slots:=o.slots}).get? h.objs.size
    = some {cls:=.type "dict",data:=.dict #[]} :=
   (Heap.get?_update_ne _ _ _ _ hxs.symm).trans (Heap.get?_push_at rfl rfl)
  have hnd:((h.push {cls:=.type "dict",data:=.dict #[]}).update x λo=>{cls:=o.cls,dict:=some h.objs.size,data:=o.data,slots:=o.slots}).Ns h.objs.size (λ_=>none) :=
   ⟨_,#[],_,hgd,rfl,λe he=>absurd he (by simp),λ_=>rfl⟩
  show wpAny _ _ (storeInDict h.objs.size (.str name tk) name v) _ _ _;unfold storeInDict newKeyGuard;refine wpAny_bind (wpAny_pure (wpAny_bind (wpAny_nsSet1 (Heap.Ns1.of_empty hnd) λh' hn' hs=>?_)));obtain⟨oD,esD,epD,hoD,hdD,hcD⟩:=hn'.count (Within.cons name v Within.nil);refine wpAny_bind (wpAny_lookBehind hoD (by rw[hdD];exact pastItsLine_dict (Nat.le_trans hcD (by rw[List.length_cons,List.length_nil,sizeLine_eq];omega))) ?_)
  wp_walk
  have hx':h'.get? x=some {cls:=o.cls,dict:=some h.objs.size,data:=o.data,slots:=o.slots}:=by
   refine(hs.2 x hxs).trans (YY _ hx₁ ?_);have hfr:=(ZH.mp hx).2;obtain⟨oc,od,odt,osl⟩:=o;cases odt<;>first | rfl | exact hfr
  refine hq h' _ hx' hn' λb ob hbx hb=>?_
  exact(hs.2 b (Xv (Xr hb))).trans ((Heap.get?_update_ne _ _ _ _ hbx).trans (Xl _ hb))
theorem zT{tk:Tok}{o:Obj}{dx:Addr}{mA:Str->Option Value}{ns:List Str}{Q:Fin->Shared->Prop}(hC:h.get? C=some (excClassObj nm q C N bs bm true sn sub ab col dd k0 k1 k2 k3 k5 newId))(hx:h.get? x=some o)(hc:o.cls=.ref C)(hdx:o.dict=some dx)(hns:h.Ns1 dx mA)(hw:Within mA ns)(hl:ns.length < 1000)
  (hq:∀h' tk',h'.Ns1 dx (λy=>if y=name then some v else mA y)->(∀b ob,b≠dx->h.get? b=some ob->h'.get? b=some ob)->Q (.done (.ret .none)) ⟨h',g,d,tk',os⟩) :
  wpAny (model prog w) A (storeInOwnDict (.ref x) (.ref C) (.str name tk) name v false) Q E ⟨h,g,d,t,os⟩:=by
 unfold storeInOwnDict
 repeat (first | (with_reducible refine XS hx ?_;rw[hc]) | with_reducible refine XS hC ?_ | wp_step)
 rw[hdx];refine wpAny_pure ?_;show wpAny _ _ (storeInDict dx (.str name tk) name v) _ _ _;unfold storeInDict newKeyGuard;refine wpAny_bind (wpAny_pure (wpAny_bind (wpAny_nsSet1 hns λh' hn' hs=>?_)));obtain⟨oD,esD,epD,hoD,hdD,hcD⟩:=hn'.count (Within.cons name v hw);refine wpAny_bind (wpAny_lookBehind hoD (by rw[hdD];exact pastItsLine_dict (Nat.le_trans hcD (by rw[List.length_cons,sizeLine_eq];omega))) ?_)
 wp_walk
 exact hq h' _ hn' λb ob hb hb'=>(hs.2 b hb).trans hb'
end
def XP(C e:Addr)(dx:Option Addr):Heap->Prop:=λh=>∃t0,h.get? e=some {cls:=.ref C,dict:=dx,data:=.fields #[.ref t0,.none,.none,.none,.bool false,.none]}
def XD(dx:Addr)(fs:List (Str×V)):Heap->Prop:=λh=>∃mA,h.Ns1 dx mA/\(∀f,xG (fs.lookup f) (mA f))/\Within mA (fs.map (·.1))
structure KXs(K:Frag)(C:Addr):Prop where
 sa:findIn K (.ref C) "__setattr__"=some (some (.builtin "object.__setattr__"))
 ex:∃bx,rS K C (Ec bx) (Lh bx)=true
 mo:mroIn K C (.type "object")=some true
theorem u0{C e:Addr}{dx:Option Addr}(h1 h2:Heap)(h:XP C e dx h1)(k:∀o,h1.get? e=some o->h2.get? e=some o):XP C e dx h2:=by
 obtain⟨t0,g⟩:=h;exact⟨t0,k _ g⟩
theorem u6{dx:Addr}{fs:List (Str×V)}(h1 h2:Heap)(h:XD dx fs h1)(k:∀o,h1.get? dx=some o->h2.get? dx=some o):XD dx fs h2:=by
 obtain⟨mA,n,r⟩:=h;exact⟨mA,n.at k,r⟩
theorem Ns1.obj{h:Heap}{a:Addr}{m:Str->Option Value}(n:h.Ns1 a m):∃o,h.get? a=some o:=let ⟨o,_,_,e,_⟩:=n;⟨o,e⟩
section
variable {X:Cx} {C a:Addr} {pins:List (Addr×Obj)} {σ:St} {H:Hp} {s:Shared} {A:Around} {E:Value->Shared->Prop} {f:Str}
theorem Pb{y:V}{u:Value}{Q:Unit->Shared->Prop}(I:Inv X pins σ H s)(e:H a=some (.ext (XP C a none)))(k:KXs X.K C)(hf:findIn X.K (.ref C) f=some none)(ry:RelV y u)
  (h:∀s' dx,H dx=none->dx≠a->Inv X pins σ (upd (upd H dx (.ext (XD dx [(f,y)]))) a (.ext (XP C a (some dx)))) s'->Q () s'):wpAny (model X.prog X.w) A (setAttr (.ref a) f u) Q E s:=by
 obtain⟨⟨t0,hg⟩,_,_⟩:=I.hok a _ e;obtain⟨bx,hbx⟩:=k.ex;obtain⟨bm,N,nm,qn,bs,sn,sub,ab,col,dd,k0,k1,k2,k3,k5,mN,hC,hn,T,cd,hcd,hmro,_⟩:=rm I.nM hbx;have IA:InstAt s.heap a {cls:=.ref C,dict:=none,data:=.fields #[.ref t0,.none,.none,.none,.bool false,.none]} C none:=⟨hg,rfl,rfl,Za⟩;refine set_plain I.nM IA k.sa (uZ (s:={s with toks:=s.toks + 1}) I.nM IA hcd hmro T k.mo hf ?_);obtain⟨hp,g,d,tk,os⟩:=s;have hda:hp.objs.size≠a:=Yr (Xr hg);refine zS hC hg rfl (λc z=>by cases z) rfl λh' tk' g1 n1 kp=>h _ hp.objs.size (I.hok.fresh (Xu _)) hda ?_
 obtain⟨od,god⟩:=Ns1.obj n1;have hpo:(hp.push od).get? hp.objs.size=some od:=Xz hp (ZH.mp god).2;have n0:(hp.push od).Ns1 hp.objs.size (λy=>if y=f then some u else none):=n1.at λo q=>by rw[god]at q;cases q;exact hpo
 have Tj:XD hp.objs.size [(f,y)] (hp.push od):=⟨_,n0,λg=>by
  show xG (List.lookup g [(f,y)]) (if g=f then some u else none);by_cases q:g=f
  ·rw[if_pos q,q];simp only[List.lookup,beq_self_eq_true];exact ry
  ·rw[if_neg q];simp only[List.lookup];rw[beq_false_of_ne q];exact True.intro,λg hg=>by
  by_cases q:g=f
  ·rw[q];exact List.mem_singleton_self _
  ·exact absurd (XA q) hg⟩
 have I1:=I.laid (a:=hp.objs.size) (o:=.ext (XD hp.objs.size [(f,y)])) (h':=hp.push od) (t':=tk') (λb u q=>Xl _ q) (Xu _) ⟨Tj,⟨_,hpo⟩,u6⟩;have ea:upd H hp.objs.size (.ext (XD hp.objs.size [(f,y)])) a=some (.ext (XP C a none)):=by rw[uN hda.symm];exact e
 refine I1.write (x:=a) (e:=a) (t':=tk') (by rw[ea];exact Za) (.inl rfl) (λb ob hb z=>?_) ⟨_,g1⟩ ⟨⟨t0,g1⟩,⟨_,g1⟩,u0⟩;by_cases hbs:b=hp.objs.size
 ·subst hbs;have z':(hp.push od).get? hp.objs.size=some ob:=z;rw[hpo]at z';cases z';exact god
 ·have z':(hp.push od).get? b=some ob:=z;rw[Heap.get?_push_ne _ _ _ hbs]at z';exact kp b ob hb z'
theorem Pc{y:V}{u:Value}{dx:Addr}{fs:List (Str×V)}{Q:Unit->Shared->Prop}(I:Inv X pins σ H s)(e:H a=some (.ext (XP C a (some dx))))(ed:H dx=some (.ext (XD dx fs)))(hl:fs.length < 900)(k:KXs X.K C)(hf:findIn X.K (.ref C) f=some none)(ry:RelV y u)
  (h:∀s',Inv X pins σ (upd H dx (.ext (XD dx (qH f y fs)))) s'->Q () s'):wpAny (model X.prog X.w) A (setAttr (.ref a) f u) Q E s:=by
 obtain⟨⟨t0,hg⟩,_,_⟩:=I.hok a _ e;obtain⟨⟨mA,n,r,wi⟩,_,_⟩:=I.hok dx _ ed;obtain⟨bx,hbx⟩:=k.ex;obtain⟨bm,N,nm,qn,bs,sn,sub,ab,col,dd,k0,k1,k2,k3,k5,mN,hC,hn,T,cd,hcd,hmro,_⟩:=rm I.nM hbx;obtain⟨od,god⟩:=Ns1.obj n;have IA:InstAt s.heap a {cls:=.ref C,dict:=some dx,data:=.fields #[.ref t0,.none,.none,.none,.bool false,.none]} C (some od):=⟨hg,rfl,rfl,god⟩;refine set_plain I.nM IA k.sa (uZ (s:={s with toks:=s.toks + 1}) I.nM IA hcd hmro T k.mo hf ?_);obtain⟨hp,g,d,tk,os⟩:=s;refine zT hC hg rfl rfl n wi (by rw[Xk];omega) λh' tk' n1 kp=>h _ ?_
 obtain⟨od',god'⟩:=Ns1.obj n1;refine I.write (x:=dx) (e:=dx) (t':=tk') (by rw[ed];exact Za) (.inl rfl) (λb ob hb z=>kp b ob hb z) ⟨_,god'⟩ ⟨⟨_,n1,λg=>?_,λg hg=>?_⟩,⟨_,god'⟩,u6⟩
 ·show xG ((qH f y fs).lookup g) (if g=f then some u else mA g);rw[qq];by_cases q:g=f
  ·rw[XB q,XB q];exact ry
  ·rw[XA q,XA q];exact r g
 ·by_cases q:g=f
  ·rw[q];exact(oY f y fs).1
  ·refine(oY f y fs).2 g (wi g λz=>hg ?_);show(if g=f then some u else mA g)=none;rw[XA q];exact z
end
def V9(K:Frag)(ta tv:TE)(f:Str):TS:=λD σ H=>tv σ H λy H1=>ta σ H1 λx H2=>∃a C,x=.ref a/\KXs K C/\rJ K C f /\
 ((H2 a=some (.ext (XP C a none))/\∀dx,H2 dx=none->dx≠a->D.nx σ (upd (upd H2 dx (.ext (XD dx [(f,y)]))) a (.ext (XP C a (some dx))))) ∨
  ∃dx fs,H2 a=some (.ext (XP C a (some dx)))/\H2 dx=some (.ext (XD dx fs))/\fs.length < 900/\D.nx σ (upd H2 dx (.ext (XD dx (qH f y fs)))))
section
variable {X:Cx} {o e value:Expr} {f:Str} {pos pos' tpos:Pos} {ta tv:TE}
theorem J4(ha:PE X o ta)(hv:PE X value tv)(hs:swapsWith value (some (.Attribute o f pos')) pos.line X.env=pure false):PS X (.Assign [.Attribute o f pos'] value pos) (V9 X.K ta tv f):=by
 intro pins s σ H D I h;refine plainObj_wpAny_Assign_Attribute (ck (hv pins s σ H _ I h) λu s1 ⟨y,H1,I1,ry,q⟩=>ck (ha pins s1 σ H1 _ I1 q) λov s2 ⟨x,H2,I2,rx,a,C,ex,k,n,q2⟩=>?_) hs;subst ex;obtain rfl:ov=Value.ref a:=rx;rcases q2 with⟨ea,q2⟩ | ⟨dx,fs,ea,ed,l,q2⟩
 ·exact Pb I2 ea k n ry λs3 dx hd hda I3=>⟨σ,_,I3,q2 dx hd hda⟩
 ·exact Pc I2 ea ed l k n ry λs3 I3=>⟨σ,_,I3,q2⟩
end
section
variable {prog:Program} {w:World} {A:Around} {E:Value->Shared->Prop} {K:Frag} {a C:Addr} {o:Obj} {od:Option Obj} {h:Heap} {g:Array GenState} {d:Drawn} {t:Nat} {os:OsState} {name:Str} {v:Value}
theorem Tp{tk:Tok}{Q:Fin->Shared->Prop}(X:K.In h)(IA:InstAt h a o C od)(hf:findObj K C od name=some (.value v))(hq:Q (.done (.ret v)) ⟨h,g,d,t,os⟩):
  wpAny (model prog w) A (Builtin.«object.__getattribute__» ⟨[.ref a,.str name tk],[]⟩) Q E ⟨h,g,d,t,os⟩:=by
 have L0:=IA.type (M:=model prog w);have L1:=looks_find (M:=model prog w) X IA hf;refine Xn (Xx (Xn (Xx (Xn (L0.at (Xn (L1.at ?_)))))));exact Xx hq
theorem Wa{tk:Tok}{fill expr:Bool}{Q:Value->Shared->Prop}(X:K.In h)(k:KX K C)(IA:InstAt h a o C od)(hf:findObj K C od name=some (.value v))(hh:handedIn v=true)(hq:Q v ⟨h,g,d,t,os⟩):
  wpAny (model prog w) A (getAttrBy (.ref a) (.str name tk) fill expr) Q E ⟨h,g,d,t,os⟩:=by
 have hx:=IA.at_;have hc:=IA.cls;have L1:=YX (M:=model prog w) X k.ga;have L2:=YX (M:=model prog w) X k.gh;have f3:=Y1.ga.bind (.ref a);have Tj:(expr&&onTheHeap (Value.builtin "BaseException.__getattribute__"))=false:=by cases expr<;>rfl
 have Tn:(Value.builtin "BaseException.__getattribute__" == Value.builtin "object.__getattribute__")=false:=by decide +kernel
 have V7:(onTheHeap (Value.ref C)&&Value.builtin "BaseException.__getattribute__" == Value.builtin "object.__getattribute__")=false:=by rw[Tn];rfl
 repeat (any_goals (first | assumption | (with_reducible refine XS hx ?_;rw[hc]) | with_reducible refine L1.at ?_ | with_reducible refine L2.at ?_ | wp_step))
 refine Zt Y1.ga.plain F.entry_bexc_ga (xS X k hx hc (Tp X IA hf ?_));have ho:=handedOut_of hh
 repeat (any_goals (first | assumption | wp_step | (rw[ho])))
theorem Pd{expr:Bool}{Q:Value->Shared->Prop}(X:K.In h)(k:KX K C)(IA:InstAt h a o C od)(hf:findObj K C od name=some (.value v))(hh:handedIn v=true)(hq:Q v ⟨h,g,d,t + 1,os⟩):
  wpAny (model prog w) A (getAttr (.ref a) name expr) Q E ⟨h,g,d,t,os⟩:=by
 unfold getAttr;refine wpAny_bind (wpAny_mkText ?_);exact Wa X k IA hf hh hq
end
def XG(C a dx:Addr):Heap->Prop:=λh=>∃o vs,h.get? a=some o/\o.cls=.ref C/\o.dict=some dx/\o.data=.fields vs
def Vm(K:Frag)(ta:TE)(f:Str):TE:=λσ H Q=>ta σ H λx H1=>∃a C dx fs v φ,x=.ref a/\H1 a=some (.ext φ)/\(∀h,φ h->XG C a dx h)/\H1 dx=some (.ext (XD dx fs))/\KX K C/\hasDictIn K C=true/\rJ K C f/\fs.lookup f=some v/\Q v H1
theorem Be{X:Cx}{e:Expr}{f:Str}{pos:Pos}{ta:TE}(he:PE X e ta)(hb:attributeBase e f X.env (eval e X.env)=eval e X.env):PE X (.Attribute e f pos) (Vm X.K ta f):=by
 intro pins s σ H Q I h;refine GL hb (ck (he pins s σ H _ I h) λu s1 ⟨x,H1,I1,rx,a,C,dx,fs,v,φ,ex,ea,hφ,ed,k,hd,n,l,q⟩=>?_);subst ex;obtain rfl:u=Value.ref a:=rx;obtain⟨p,_,_⟩:=I1.hok a _ ea;obtain⟨⟨mA,nn,r,_⟩,_,_⟩:=I1.hok dx _ ed;obtain⟨o,vs,g1,g2,g3,g4⟩:=hφ _ p;obtain⟨od,ho,hl⟩:=B8 nn;obtain⟨u',hu,ru⟩:=xG.some_of (v:=v) (o:=mA f) (by rw[← l];exact r f);have IA:InstAt s1.heap a o C (some od):=⟨g1,g2,by unfold notCls;rw[g4],by rw[g3];exact ho⟩;obtain⟨hp,g,d,t,os⟩:=s1;exact Pd I1.nM k IA (findObj_own hd n rfl (by rw[hl,hu])) (B9 ru) ⟨v,H1,I1.tok _,ru,q⟩
structure Vn(K:Frag)(C f:Addr):Prop where
 ex:∃bx,rS K C (Ec bx) (Lh bx)=true
 init:findIn K (.ref C) "__init__"=some (some (.ref f))
 fn:isFn K (.ref f)=true
 kp:keepIn K (.ref C)=true
section
variable {X:Cx} {CX:zI} {k:Nat} {f C:Addr} {fd:FuncData} {ps:List Str} {sp:Sp} {dvs:List V} {ds:List Value} {E:XK} {x m:Str} {p pos apos:Pos} {e o:Expr} {es:List Expr} {ta:TE} {t:TA}
theorem Cu{pins:List (Addr×Obj)}{σ:St}{H:Hp}{s:Shared}{Q:VK}{us:List Value}{vs:List V}{cm:Bool}(M:Vn X.K C f)(F':bE X.prog X.w X.K X.mg X.base CX k f fd ps sp cm)(hr:cK (k + 1) X.A cm)(hb:Binds X.K fd ps ds)(hd:Vals dvs ds)
  (hx:Passes CX X E) (I:Inv X pins σ H s) (r:Vals vs us) (hz:vs.length<=sizeLine)
  (h:∀x,s.heap.objs.size<=x->H x=none->sp (.ref x::(vs++dvs)) (upd H x (.ext (XP C x none))) (λv H2=>v=.non/\Q (.ref x) H2) E) :
  wpAny (model X.prog X.w) X.A (call (.ref C) us) (EP X pins σ Q) X.xe s:=by
 obtain⟨bx,hbx⟩:=M.ex;obtain⟨bm,N,nm,qn,bs,sn,sub,ab,col,dd,k0,k1,k2,k3,k5,mN,hC,hn,T,cd,hcd,hmro,_⟩:=rm I.nM hbx;have hq:=h (s.heap.objs.size + 1) (aaa _) (I.hok.fresh (aaa _));obtain⟨hp,g,d,tk,os⟩:=s;have I1:=I.kept (h':=hp.push {cls:=.type "tuple",data:=.seq us.toArray}) (t':=tk) (λb u q=>Xl _ q)
 have e2:((hp.push {cls:=.type "tuple",data:=.seq us.toArray}).push (ph C hp.objs.size)).get? (hp.objs.size + 1)=some (ph C hp.objs.size):=by
  have:=Xz (hp.push {cls:=.type "tuple",data:=.seq us.toArray}) (o:=ph C hp.objs.size) rfl
  rwa [Zb]at this
 have I2:=I1.laid (a:=hp.objs.size + 1) (o:=.ext (XP C (hp.objs.size + 1) none)) (h':=(hp.push {cls:=.type "tuple",data:=.seq us.toArray}).push (ph C hp.objs.size)) (t':=tk) (λb u q=>Xl _ q) (aas (Zb _ _)) ⟨⟨_,e2⟩,⟨_,e2⟩,u0⟩;have r2:Vals (V.ref (hp.objs.size + 1)::(vs++dvs)) (Value.ref (hp.objs.size + 1)::(us++ds)):=.cons rfl (r.append hd)
 have hl:(Value.ref (hp.objs.size + 1)::us++ds).length=ps.length:=by
  have e:=r2.length;rw[F'.len _ _ _ _ hq]at e;exact e.symm
 refine Ct (bmB:=Ec bx) (Vj bx) (Hf bx) (Vj bx) T hC I.nM M.init M.fn ?_ (by rw[← r.length];exact hz);refine aaj (ZT (F'.run _ X.stack _ _ ⟨Value.ref (hp.objs.size + 1)::us,[]⟩ (Value.ref (hp.objs.size + 1)::(us++ds)) _ _ E (hr.make C us [])
  (I2.KZ.make C us []) (hb _ (Value.ref (hp.objs.size + 1)::us) I2.nM hl) r2 hq) λr s' hq'=>?_)
 cases r with
 | error e=>exact hx pins σ _ _ e s' I2 hq'
 | ok fl =>
  cases fl with
  | ret u =>
   obtain⟨v,H',I3,rv,ev,q3⟩:=I2.after hq';subst ev;exact⟨rv,⟨V.ref (hp.objs.size + 1),H',I3,rfl,q3⟩⟩
  | next=>exact False.elim hq'
  | brk=>exact False.elim hq'
  | cont=>exact False.elim hq'
def Pe(K:Frag):List V->Hp->VK->Prop:=λvs H Q=>∃a C c D b φ,vs=[.ref a,c]/\H a=some (.ext φ)/\(∀h,φ h->ExcAt C a h)/\KX K C/\hasDictIn K C=true/\RelV c D/\kitOne K (.ref C) D=some b/\Q (.bl b) H
theorem jq:eY X (.builtin "isinstance") (Pe X.K):=by
 intro pins s σ H xs us Q I r h;obtain⟨a,C,c,D,b,φ,rfl,hH,hφ,hk,hcl,rc,e,q⟩:=h;obtain⟨u,w',rfl,rx,rw'⟩:=vals2 r;cases rx
 have hD:w'=D:=by
  cases c<;>simp[RelV]at rc rw'<;>first | (rw[rw',rc]) | (obtain⟨t1,e1⟩:=rc;obtain⟨t2,e2⟩:=rw';subst e1;subst e2;exact absurd e (by simp[kitOne,kitCls]))
 subst hD;obtain⟨cd,hcd,_⟩:=any_some hcl;obtain⟨p,_,_⟩:=I.hok a _ hH;exact Yt (Eg hk hcd) I.nM (hφ _ p) e (λz=>nomatch z) λtk=>⟨.bl b,H,I.tok tk,rfl,q⟩
end
def inner(s:Stmt):Stmt:=match s with
 | .ClassDef _ _ _ b _ _ _ _ _ _ _=>b.headD (.Pass ⟨0,0,0,0⟩)
 | _=>.Pass ⟨0,0,0,0⟩
def Ej(K:Frag)(fs:List Str):Sp:=λvs H Q _=>∃a C ys,vs=.ref a::ys/\ys.length=fs.length/\KXs K C/\(∀f∈fs,rJ K C f)/\H a=some (.ext (XP C a none)) /\
 ∀dx,H dx=none->dx≠a->Q .non (upd (upd H dx (.ext (XD dx (fs.zip ys)))) a (.ext (XP C a (some dx))))
theorem Lj{H:Hp}{a b:Addr}{u v u':HO}(h:b≠a):upd (upd (upd H b u) a v) b u'=upd (upd H b u') a v:=by
 funext c
 unfold upd;by_cases h1:c=b
 ·subst h1;rw[XB rfl,XA h,XB rfl]
 ·simp only[if_neg h1]
structure Ek(P:Program)(w:World)(K:Frag)(mg:Str->Option Value)(base:Heap)(C:Addr)(fs:List Str):Prop where
 s:KXs K C
 no:∀f∈fs,rJ K C f
 le:fs.length<=1000
 ini:∃f fd,Vn K C f/\bE P w K mg base bM 1 f fd ("self"::fs) (Ej K fs) false/\Binds K fd ("self"::fs) []
section
variable {X:Cx} {C:Addr} {fs:List Str} {x:Str} {p pos:Pos} {e:Expr} {es:List Expr} {t:TA}
end
open PySem PySem.Spec PyProof.Rows PySem.W
def Cn(o:Obj):Prop:=∃vs,o.data=.fields vs/\vs[2]?=some .none
def Dk(h h':Heap):Prop:=∀b o,h.get? b=some o->∃o',h'.get? b=some o'/\o'.dict=o.dict/\(Cn o->Cn o')
theorem Dk.refl(h:Heap):Dk h h:=λ_ o e=>⟨o,e,rfl,id⟩
theorem Dk.trans{h1 h2 h3:Heap}(x:Dk h1 h2)(y:Dk h2 h3):Dk h1 h3:=λb o e =>
 let ⟨o1,e1,d1,c1⟩:=x b o e;let ⟨o2,e2,d2,c2⟩:=y b o1 e1;⟨o2,e2,d2.trans d1,λz=>c2 (c1 z)⟩
def KD{α:Type}(t:Sem α):Prop:=∀(M:Model) (Γ:PySem.Ctx) (Q:α->Pos->Shared->Prop) (E:Value->Pos->Shared->Prop) (p:Pos) (s:Shared),
 Sem.wp M Γ t Q E p s->Sem.wp M Γ t (λa p' s'=>Q a p' s'/\Dk s.heap s'.heap) (λe p' s'=>E e p' s'/\Dk s.heap s'.heap) p s
section
variable {α β:Type}
theorem bN(a:α):KD (pure a:Sem α):=λ_ _ _ _ _ s h=>⟨h,Dk.refl s.heap⟩
theorem dq(m:String):KD (Sem.unsupported m:Sem α):=λ_ _ _ _ _ _ h=>False.elim (by simpa using h)
theorem bf{t:Sem α}{f:α->Sem β}(h1:KD t)(h2:∀a,KD (f a)):KD (t >>= f):=by
 intro M Γ Q E p s h;rw[Sem.wp_bind']at h ⊢;refine Sem.wp_mono M Γ t (λa p1 s1 z=>?_) (λ_ _ _ z=>z) p s (h1 M Γ _ _ p s h);exact Sem.wp_mono M Γ (f a) (λ_ _ _ y=>⟨y.1,z.2.trans y.2⟩) (λ_ _ _ y=>⟨y.1,z.2.trans y.2⟩) p1 s1 (h2 a M Γ _ _ p1 s1 z.1)
theorem v7(a:Addr)(part:Option Value):KD (loadPart a part):=λM Γ Q E p s h=>by
 unfold loadPart at h ⊢;rw[Sem.wp_load]at h ⊢;obtain⟨o,e,q⟩:=h;exact⟨o,e,q,Dk.refl _⟩
theorem Cv{h:Heap}{a:Addr}{f:Obj->Obj}(hf:∀o:Obj,((f o).dict=o.dict/\(Cn o->Cn (f o)))/\(o.isFreed=false->(f o).isFreed=false)):Dk h (h.update a f):=λb o e=>by
 by_cases hb:a=b
 ·subst hb;exact⟨_,YY f e ((hf o).2 (ZH.mp e).2),(hf o).1⟩
 ·exact⟨o,(YT h f hb).trans e,rfl,id⟩
theorem u9(a:Addr)(part:Option Value){f:Obj->Obj}(hf:∀o:Obj,((f o).dict=o.dict/\(Cn o->Cn (f o)))/\(o.isFreed=false->(f o).isFreed=false)):KD (updatePart a part f):=λM Γ Q E p s h=>by
 unfold updatePart at h ⊢;rw[Sem.wp_update]at h ⊢;exact⟨h.1,h.2,Cv hf⟩
theorem xV(o:Obj):KD (alloc o):=λM Γ Q E p s h=>by
 unfold alloc at h ⊢;rw[Sem.wp_alloc]at h ⊢;exact⟨h,λb ob e=>⟨ob,Heap.get?_push_of_some _ e,rfl,id⟩⟩
theorem rT:KD stack:=λM Γ Q E p s h=>⟨h,Dk.refl _⟩
end
theorem kC{α:Type}{t:Sem α}(k:KD t){M:Model}{A:Around}{E:Value->Shared->Prop}{Q:α->Shared->Prop}{s:Shared}(h:wpAny M A t Q E s):wpAny M A t (λa s'=>Q a s'/\Dk s.heap s'.heap) E s:=λΓ p hΓ =>
 Sem.wp_mono M Γ t (λ_ _ _ y=>y) (λ_ _ _ y=>y.1) p s (k M Γ _ _ p s (h Γ p hΓ))
theorem nY(v:Value)(i:Nat):KD (field v i):=by
 unfold field fieldsOf;refine bf ?_ λvs=>?_
 ·split
  ·refine bf (v7 _ _) λo=>?_
   split
   ·exact bN _
   ·exact dq _
  ·exact dq _
 ·first
  | (split<;>first | exact bN _ | exact dq _)
theorem El(i:Nat)(x:Value)(hi:i≠2)(o:Obj):((Obj.mapFields (·.setIfInBounds i x) o).dict=o.dict/\(Cn o->Cn (Obj.mapFields (·.setIfInBounds i x) o)))/\(o.isFreed=false->(Obj.mapFields (·.setIfInBounds i x) o).isFreed=false):=by
 obtain⟨c,d,dt,sl⟩:=o;refine⟨⟨?_,λ⟨vs,e,q⟩=>⟨_,Obj.data_mapFields e _,?_⟩⟩,?_⟩
 ·cases dt<;>rfl
 ·rw[Array.getElem?_setIfInBounds_ne hi];exact q
 ·cases dt<;>exact λz=>z
theorem iw(v:Value)(i:Nat)(x:Value)(hi:i≠2:=by decide):KD (setField v i x):=by
 unfold setField updateField;split
 ·refine bf (v7 _ _) λo=>?_
  split
  ·split
   ·exact u9 _ _ (El _ _ hi)
   ·exact dq _
  ·exact dq _
 ·exact dq _
theorem jF(e:Value)(f:Option Addr):KD (setFlight e f):=by
 unfold setFlight;refine bf (nY _ _) λtb=>?_
 split
 ·exact iw _ _ _
 ·exact bN _
theorem Cw(env:Env)(outer:List Env):KD (behindIsImport env outer):=by
 unfold behindIsImport;split
 ·exact bN _
 ·split
  ·exact bN _
  ·exact bf (nY _ _) λ_=>bN _
theorem Em:KD underTheClaimsCaller:=by
 unfold underTheClaimsCaller;exact bf rT λ_=>bN _
theorem Hl(env:Env)(b:Bool)(l:List Env):KD (keptBack env b l):=by
 unfold keptBack;split
 ·split
  ·exact bN _
  ·exact bf Em λ_=>bN _
 ·exact bN _
theorem xW:∀l:List Env,KD (readyFrames l)
 | []=>bN _
 | env::outer=>by
  unfold readyFrames;split
  ·refine bf (v7 _ _) λo=>?_
   split
   ·exact bN _
   ·refine bf (Cw _ _) λb=>bf (Hl _ _ _) λv=>bf (u9 _ _ λo=>⟨⟨rfl,λz=>z⟩,λz=>by obtain⟨c,d,dt,sl⟩:=o;cases dt<;>exact z⟩) λ_=>xW outer
  ·exact dq _
theorem rV(l:List Env):KD (frameObject l):=by
 unfold frameObject;split
 ·exact bN _
 ·exact bf (xW _) λ_=>bN _
theorem v8:KD frameEnvs:=by
 unfold frameEnvs;exact bf rT λ_=>bN _
theorem rW(env:Env):KD (PySem.frameOf env):=by
 unfold PySem.frameOf;refine bf v8 λl=>bf (rV _) λr=>?_
 split
 ·exact bN _
 ·exact dq _
theorem xX(f:Addr)(b:Bool):KD (entryPlaceOf f b):=by
 unfold entryPlaceOf;refine bf rT λl=>?_
 split
 ·exact bN _
 ·exact bN _
theorem qv(a b c d e:Value)(pl:List Value):KD (EntryCells.newEntry a b c d e pl):=by
 unfold EntryCells.newEntry newFields newObj newObjAsIs;generalize ([a,b,c,d,e]++if pl.isEmpty=true then List.replicate 6 Value.none else pl).toArray=ws;dsimp only;split
 ·exact bf (dq _) λ_=>bf (xV _) λ_=>bN _
 ·exact bf (xV _) λ_=>bN _
theorem Bf(e:Value)(env:Env):KD (noteFrame e env):=by
 unfold noteFrame;split
 ·refine bf (nY _ _) λhd=>?_
  dsimp only;split
  ·refine bf (nY _ _) λx=>?_
   split
   ·exact bN _
   ·exact bf (iw _ _ _) λ_=>bf (rW _) λ_=>bf (xX _ _) λ_=>bf (qv _ _ _ _ _ _) λ_=>iw _ _ _
  ·exact bf (rW _) λ_=>bf (xX _ _) λ_=>bf (qv _ _ _ _ _ _) λ_=>iw _ _ _
 ·exact dq _
theorem rX(env:Env)(e:Value):KD (leaving env e):=bf (Bf e env) λ_=>jF e none
def mH(h:Heap)(a:Addr)(dd:Option Addr):Prop:=∃o,h.get? a=some o/\o.dict=dd/\(dd=none->Cn o)
theorem mH.dk{h h':Heap}{a:Addr}{dd:Option Addr}(d:mH h a dd)(k:Dk h h'):mH h' a dd :=
 let ⟨o,e,q,c⟩:=d;let ⟨o',e',q',c'⟩:=k a o e;⟨o',e',q'.trans q,λz=>c' (c z)⟩
def t8(P:Program)(w:World):zI:=λouter H s E e s'=>∃(a C t:Addr) (H':Hp) (B:Heap) (dd:Option Addr),e=.ref a/\s'.os=s.os/\AllBare s'.gens/\Dd P w outer H H' s.heap B a (.ref C) (.ref t) s'.heap/\mH s'.heap a dd/\E (.ref C) dd H'
def del(H:Hp)(a:Addr):Hp:=λb=>if b=a then none else H b
theorem Eo{H:Hp}{a:Addr}:del H a a=none:=by unfold del;rw[if_pos rfl]
theorem kD{H:Hp}{a b:Addr}(h:b≠a):del H a b=H b:=by unfold del;rw[if_neg h]
def Tq(X:Cx)(E:XK):Prop:=∀(pins:List (Addr×Obj)) (σ:St) (H:Hp) (s:Shared) (a C:Addr) (dx:Option Addr),Inv X pins σ H s->X.s₀.heap.objs.size<=a->H a=some (.ext (XP C a dx))->E (.ref C) dx (del H a)->X.xe (.ref a) s
section
variable {P:Program} {w:World} {K:aJ} {mg:Str->Option Value} {base:Heap} {N:List Str} {qual:Str} {scope:Scope} {f:Addr} {cd:Value} {A:Around} {outer:List Env} {s₀:Shared} {H₀:Hp} {E:XK}
theorem v9:Tq (pb (t8 P w) P w K mg base N qual scope f cd A outer s₀ H₀ E) E:=by
 intro pins σ H s a C dx I Wb hHa hE
 let env:=envOfC qual scope s₀.heap.objs.size f cd
 have hf:env.frame=some s₀.heap.objs.size:=rfl;have Wc:s₀.heap.objs.size<=a:=Wb;obtain⟨⟨t0,hg⟩,_,_⟩:=I.hok a _ hHa;have hst:=I.stack
 have nfa:a∉qo (env::outer):=λhb=>by
  have:=I.ri a hb;rw[this]at hHa;cases hHa
 let hid:=a::qo (env::outer)
 have hBs:(hideAll s.heap hid).StaysIn s.heap:=λb o q=>of_hideAll _ q
 have hin:∀v∈(env::outer),∀b,v.frame=some b->b∈hid:=λv hv b hb=>X2 _ (ZE.mpr ⟨v,hv,hb⟩)
 have hFF:s.heap.FunFrames (hideAll s.heap hid) (env::outer):=funFrames_hide hst hin;have hBa:(hideAll s.heap hid).get? a=none:=hideAll_none _ XZ;show wpAny _ _ (leaving env (.ref a)) _ _ _;have lib:=wpAny_leaving_firstW (M:=model P w) (A:=(pb (t8 P w) P w K mg base N qual scope f cd A outer s₀ H₀ E).A) (E:=λ_ _=>False) (s:=s) (Q:=λ_ s'=>∃h',s'={s with heap:=h'}/\Heap.LeftW (hideAll s.heap hid) (env::outer) a (.ref C) (.ref t0) s.heap h') (I.ok.frames) hFF hf hg hBs hBa rfl rfl rfl λh' L=>⟨h',rfl,L⟩
 refine X6 (kC (rX env (.ref a)) lib) (λ_ s' z=>?_) λ_ _ z=>z.elim
 obtain⟨⟨h2,rfl,k1,⟨_,_,k2⟩,k3,x4⟩,dk⟩:=z
 have ni:∀b o,s₀.heap.get? b=some o->b∉qo outer->b∉hid:=λb o q nb hb=>by
  rcases X4.mp hb with z | z
  ·exact absurd (Xr q) (by rw[z];exact Nat.not_lt.mpr Wc)
  ·rcases (cH hf).mp z with z | z
   ·exact absurd (Xr q) (by rw[z];exact Yp _)
   ·exact nb z
 refine⟨a,C,t0,del H a,_,dx,rfl,I.os,I.bare,⟨λb o q n nb=>?_,λb o q nb=>?_,λb o q hb=>?_,λb o q n=>?_,λb xs q=>?_,λb o u q=>?_,λb ps q=>?_,λb u q=>?_,⟨k1,hBa,k2,k3⟩⟩,mH.dk ⟨_,hg,rfl,λ_=>⟨_,rfl,rfl⟩⟩ dk,hE⟩
 ·exact hideAll_get _ (I.base.keep b o q n nb (by intro z;cases z)) (ni b o q nb)
 ·obtain⟨o',q'⟩:=I.base.there b o q (by intro z;cases z);exact⟨o',hideAll_get _ q' (ni b o q nb)⟩
 ·obtain⟨sl,q'⟩:=I.base.slot b o q (I.ok.frf b hb) hb (by intro z;cases z);obtain⟨_,o',ho',hn⟩:=hst.mem ((cH hf).mpr (.inr hb));rw[q']at ho';have e1:=XX ho';obtain⟨sl',q2⟩:=x4 b _ q' (by rw[e1];exact hn);exact⟨sl',q2⟩
 ·have:=I.base.free b o q n (by intro z;cases z);unfold del;split
  ·rfl
  ·exact this
 ·have:=I.base.tups b xs q;rw[kD (xH this hHa (by intro z;cases z))];exact this
 ·have:=I.base.dn b o u q;rw[kD (xH this hHa (by intro z;cases z))];exact this
 ·obtain⟨m1,e1⟩:=I.base.tbls b ps q;exact⟨m1,by rw[kD (xH e1 hHa (by intro z;cases z))];exact e1⟩
 ·have hba:b≠a:=λz=>by subst z;rw[Eo]at q;cases q
  rw[kD hba]at q
  have nf:∀c v,H c=some v->c≠a->c∉hid:=λc v q' hca hb=>by
   rcases X4.mp hb with z | z
   ·exact hca z
   ·have:=I.ri c z;rw[this]at q';cases q'
  have no:∀c,H c=some (.own b)->c≠a:=λc q'=>xH q' hHa (by intro z;cases z)
  refine(I.hok b u q).uc (λc v hc q'=>hideAll_get _ q' ?_) (λc q'=>by rw[kD (no c q')];exact q') λc xs q'=>by rw[kD (xH q' hHa (by intro z;cases z))];exact q'
  rcases hc with z | z
  ·rw[z];exact nf b u q hba
  ·exact nf c _ z (no c z)
theorem Hm:Passes (t8 P w) (pb (t8 P w) P w K mg base N qual scope f cd A outer s₀ H₀ E) E:=by
 intro pins σ H s e s' I hc;obtain⟨a,C,t,H',B,dd,rfl,ho,hb,F,hdd,hE⟩:=hc
 let env:=envOfC qual scope s₀.heap.objs.size f cd
 have hf:env.frame=some s₀.heap.objs.size:=rfl;have F':Dd P w (env::outer) H H' s.heap B a (.ref C) (.ref t) s'.heap:=F;show wpAny _ _ (leaving env (.ref a)) _ _ _;have lib:=wpAny_leaves_onW (M:=model P w) (A:=(pb (t8 P w) P w K mg base N qual scope f cd A outer s₀ H₀ E).A) (E:=λ_ _=>False) (s:=s')
  (Q:=λ_ s2=>∃h2,s2={s' with heap:=h2}/\Heap.FlyingW B outer a (.ref C) (.ref t) h2/\s'.heap.UpToSlots h2) (I.ok.frames) hf F'.fly λh2 x1 x4=>⟨h2,rfl,x1,x4⟩
 refine X6 (kC (rX env (.ref a)) lib) (λ_ s2 z=>?_) λ_ _ z=>z.elim
 obtain⟨⟨h2,rfl,x1,x4⟩,dk⟩:=z
 have ni:∀b o,s₀.heap.get? b=some o->b∉qo outer->b∉qo (env::outer):=λb o q nb hb=>by
  rcases (cH hf).mp hb with z | z
  ·exact absurd (Xr q) (by rw[z];exact Yp _)
  ·exact nb z
 refine⟨a,C,t,H',B,dd,rfl,ho.trans I.os,hb,⟨λb o q n nb=>?_,λb o q nb=>?_,λb o q hb=>?_,λb o q n=>?_,λb xs q=>F'.tups b xs (I.base.tups b xs q),λb o u q=>F'.dn b o u (I.base.dn b o u q),λb ps q=>?_,F'.hok,x1⟩,hdd.dk dk,hE⟩
 ·exact F'.keep b o (I.base.keep b o q n nb (by intro z;cases z)) (I.base.free b o q n (by intro z;cases z)) (ni b o q nb)
 ·obtain⟨o',q'⟩:=I.base.there b o q (by intro z;cases z);exact F'.there b o' q' (ni b o q nb)
 ·obtain⟨sl,q'⟩:=I.base.slot b o q (I.ok.frf b hb) hb (by intro z;cases z);obtain⟨DB,q2⟩:=F'.slot b _ q' ((cH hf).mpr (.inr hb));obtain⟨_,o',ho',hn⟩:=F'.fly.2.2.1.mem ((cH hf).mpr (.inr hb));rw[q2]at ho';have e1:=XX ho';obtain⟨sl',q3⟩:=x4 b _ q2 (by rw[e1];exact hn);exact⟨sl',q3⟩
 ·obtain⟨o',q'⟩:=I.base.there b o q (by intro z;cases z);exact F'.free b o' q' (I.base.free b o q n (by intro z;cases z))
 ·obtain⟨m1,e1⟩:=I.base.tbls b ps q;obtain⟨m2,e2⟩:=F'.tbls b _ e1;exact⟨m1++m2,by rw[e2,Array.append_assoc]⟩
theorem eW.Wd{x qual:Str}{st:Stmt}{f:Addr}{fd:FuncData}{N ps:List Str}{k:Nat}{sp:Sp}(F:eW K x qual st f fd)(S:aG N ps (dS st))(len:∀vs H Q E,sp vs H Q E->vs.length=ps.length)
  (hbody:∀(cdv:Value) (A:Around) (outer:List Env) (s:Shared) (H:Hp) (vs:List V) (Q:VK) (E:XK),cK k (A.deeper (envOfC qual (dS st) s.heap.objs.size f cdv))->sp vs H Q E ->
   ∃t,ud (pb (t8 P w) P w K mg base N qual (dS st) f cdv A outer s H E) (dB st) t/\t {nx:=λ_ H'=>Q .non H',rt:=Q} (start N vs) H):bE P w K mg base (t8 P w) (k + 1) f fd ps sp:=by
 obtain⟨oc,od,kV,doc,pm,an,cdv,ct,osl,rfl,lk,hcd⟩:=F.ex;exact JT lk hcd S len λA outer s H vs Q E hr hsp=>hbody cdv A outer s H vs Q E hr hsp
end
theorem Ep{X:Cx}{x:Str}{k:Nat}{ps:List Str}{sp:Sp}{e:Expr}{es:List Expr}{t:TA}{p pos:Pos}{E:XK}(h:dj X.prog X.w X.K X.mg X.base (t8 X.prog X.w) x k ps sp)(hx:Passes (t8 X.prog X.w) X E)(hr:cK k X.A)(hg:Gl X x)(ha:PA X (e::es) t)(hdb:(x == ("__debug__" : Str))=false:=by decide)
  (he:starEach (e::es) X.env=(false,eval e X.env)::starEach es X.env:=by rfl) (hpl:(backTo pos (starEach es X.env)).any (·.1)=false:=by rfl) :
  PE X (.Call (.Name x p) (e::es) [] pos) (rL sp [] E t):=by
 obtain⟨f,fd,F,b,kp,m⟩:=h.ex;exact A1 F hr hg m kp b .nil hx ha hdb he hpl
theorem Lk{P:Program}{w:World}{X:Cx}:Passes (t8 P w) X E0:=λ_ _ _ _ _ _ _ ⟨_,_,_,_,_,_,_,_,_,_,_,h⟩=>h.elim
section
variable {M:Model} {A:Around} {E:Value->Shared->Prop} {env:Env} {nm qn:Str} {C Nc:Addr} {bs bm:List Value} {hdct:Bool} {sn:List Str} {sub:List Value} {ab:Bool} {col:Option Bool} {dd:Option Addr} {k0 k1 k2 k3 k5:Option Value} {newId:String}
theorem Cy{s:Shared}{x:Sem Value}{Q:Flow->Shared->Prop}(hb:bm.contains (.type "BaseException")=true)(hh:A.handled=none)
  (h:wpAny M A x (λv s1=>∃e t0 dx,v=.ref e/\s1.heap.get? C=some (excClassObj nm qn C Nc bs bm hdct sn sub ab col dd k0 k1 k2 k3 k5 newId) /\
   s1.heap.get? e=some {cls:=.ref C,dict:=dx,data:=.fields #[.ref t0,.none,.none,.none,.bool false,.none]}/\E (.ref e) s1) E s):wpAny M A (raiseStmt env (some x) none) Q E s:=by
 have hB:(Value.ref C::bm).contains (.type "BaseException")=true:=by rw[List.contains_cons,hb,Bool.or_true]
 unfold raiseStmt;refine wpAny_bind (wpAny_mono h (λv s1 z=>?_) λ_ _ z=>z);obtain⟨e,t0,dx,rfl,gC,ge,hE⟩:=z;obtain⟨hp,g,d,tk,os⟩:=s1
 repeat (first | with_reducible refine XS ge ?_ | (with_reducible refine Zz gC ?_;rw[hB]) | with_reducible refine XS gC ?_ | wp_step)
 exact wpAny_raiseNew_none hh hE
end
def Hn(C:Addr)(fs:List Str)(E:XK)(t:TA):TS:=λ_ σ H=>t σ H λvs H1=>vs.length=fs.length/\∀dx H2,H1 dx=none->bD H1 H2->H2 dx=some (.ext (XD dx (fs.zip vs)))->E (.ref C) (some dx) H2
section
variable {X:Cx} {C:Addr} {fs:List Str} {x:Str} {np cpos pos:Pos} {e:Expr} {es:List Expr} {t:TA} {E:XK}
theorem Cz(hz:Tq X E)(M:Ek X.prog X.w X.K X.mg X.base C fs)(hr:cK 2 X.A)(hg:Gl X x)(hm:X.mg x=some (.ref C))(hc:X.calm=true)(ha:PA X (e::es) t)(hdb:(x == ("__debug__" : Str))=false:=by decide)
  (he:starEach (e::es) X.env=(false,eval e X.env)::starEach es X.env:=by rfl) (hpl:(backTo cpos (starEach es X.env)).any (·.1)=false:=by rfl) :
  PS X (.Raise (some (.Call (.Name x np) (e::es) [] cpos)) none pos) (Hn C fs E t):=by
 intro pins s σ H D I h;obtain⟨f,fd,M',F',b⟩:=M.ini;obtain⟨bx,hbx⟩:=M'.ex;obtain⟨bm,N,nm,qn,bs,sn,sub,ab,col,dd,k0,k1,k2,k3,k5,mN,hC,hn,T,_⟩:=rm I.mod.kin hbx;rw[arm_exec_Raise];refine Xn (ZM (Cy (C:=C) (nm:=nm) (qn:=qn) (Nc:=N) (bs:=bs) (bm:=bm) (hdct:=true) (sn:=sn) (sub:=sub) (ab:=ab) (col:=col) (dd:=dd) (k0:=k0) (k1:=k1) (k2:=k2) (k3:=k3) (k5:=k5) (newId:=Lh bx) (T.hasType (X:="BaseException") (b:=true) (Ed bx)) (I.ok.hd hc) ?_));refine Xn (X6 (?_:wpAny (model X.prog X.w) X.A (eval (.Call (.Name x np) (e::es) [] cpos) X.env) _ X.xe s) (λv s1 z=>Xn (ZM (Xx z))) λ_ _ z=>z);refine Yy (lC I hg hm ?_ hdb);refine ZF (h₀:=X.base) I.ok.mod.kin M'.kp (ck (ha cpos pins s σ H _ I h) λus s1 ⟨vs,H1,I1,r,hl,q⟩=>⟨I1.nM,?_⟩) he hpl;refine X6 (Cu (dvs:=[]) M' F' hr.low b .nil DL I1 r (by rw[hl,sizeLine_eq];have:=M.le;omega) (Q:=λv H2=>∃a dx,v=.ref a/\s1.heap.objs.size<=a/\H2 a=some (.ext (XP C a (some dx)))/\E (.ref C) (some dx) (del H2 a)) λa hsz hn'=>⟨a,C,vs++[],rfl,by rw[Ys];exact hl,M.s,M.no,uS,λdx hd hda=>⟨rfl,a,dx,rfl,hsz,uS,?_⟩⟩) (λu s' z=>?_) λ_ _ z=>z
 ·rw[uN hda]at hd;refine q dx _ hd (λc o z=>?_) ?_
  ·rw[kD (nN z hn'),uN (nN z hn'),uN (nN z hd),uN (nN z hn')];exact z
  ·rw[kD hda,uN hda,uS,Ys]
 ·obtain⟨v,H2,I2,rv,a,dx,rfl,hsz,hHa,hE⟩:=z;cases rv;obtain⟨⟨t0,g0⟩,_,_⟩:=I2.hok a _ hHa;exact⟨a,t0,_,rfl,I2.bk _ _ hC,g0,hz pins σ H2 s' a C (some dx) I2 (XT I1.sz hsz) hHa hE⟩
end
def Ll(C a:Addr)(dd:Option Addr):Heap->Prop:=λh=>∃o vs,h.get? a=some o/\o.cls=.ref C/\o.data=.fields vs/\o.dict=dd
theorem nZ{C a:Addr}{dd:Option Addr}(h:Heap)(p:Ll C a dd h):ExcAt C a h:=let ⟨o,vs,q1,q2,q3,_⟩:=p;⟨o,vs,q1,q2,q3⟩
theorem wa{C a dx:Addr}(h:Heap)(p:Ll C a (some dx) h):XG C a dx h:=let ⟨o,vs,q1,q2,q3,q4⟩:=p;⟨o,vs,q1,q2,q4,q3⟩
def J5(K:aJ)(CW:Addr)(i:Nat)(tb:TS)(D:Ends)(σ:St):XK:=λcls dd H2=>∃C,cls=.ref C/\PySem.W.mroIn K C (.ref CW)=some true /\
 ∀a,H2 a=none->tb {nx:=λσ' H'=>D.nx (σ'.set i none) H',rt:=D.rt,bk:=λσ' H'=>D.bk (σ'.set i none) H',ct:=λσ' H'=>D.ct (σ'.set i none) H'} (σ.set i (some (.ref a))) (upd H2 a (.ext (Ll C a dd)))
section
variable {X:Cx} {CW:Addr} {cx n:Str} {i:Nat} {b₀:Stmt} {suite:List Stmt} {np hpos pos:Pos} {tb:TS}
theorem Ho{more:List ExceptHandler}{pins:List (Addr×Obj)}{σ:St}{H:Hp}{s s1:Shared}{D:Ends}{e:Value}(hst:X.stack=X.env::X.outer)(hf:X.env.frame=some X.env.locals)(hg:Gl X cx)(hm:X.mg cx=some (.ref CW))(q:PySem.W.ktsIn X.K CW "BaseException"=true)
  (hN:X.N.Nodup) (hi:X.N[i]?=some n) (hk:X.env.kindOf n=some .local) (hs:∀a E,ud (X.hand a E) (b₀::suite) tb) (hd:(cx == ("__debug__" : Str))=false) (hex:X.ex=[])
  (I:Inv X pins σ H s) (hc:t8 X.prog X.w X.stack H s (J5 X.K CW i tb D σ) e s1) :
  wpAny (model X.prog X.w) X.A (noteFrame e X.env) (λ_ s₂=>wpAny (model X.prog X.w) X.A (setFlight e none) (λ_ s₃ =>
   wpAny (model X.prog X.w) X.A (handleBy e X.env (.ExceptHandler (some (.Name cx np)) (some n) (b₀::suite) hpos::more)) (SP X pins D) X.xe s₃) X.xe s₂) X.xe s1:=by
 obtain⟨a,C,t,H',B,dd,rfl,ho,hb,F,hdd,C',hC',hsub,hE⟩:=hc;cases hC';have hfr:X.A.frames=some (X.env::X.outer):=by rw[← hst];exact I.ok.frames
 have F0:Dd X.prog X.w (X.env::X.outer) H H' s.heap B a (.ref C) (.ref t) s1.heap:=by rw[← hst];exact F
 have lib1:=wpAny_looks_onW (M:=model X.prog X.w) (A:=X.A) (E:=X.xe) (s:=s1) (Q:=λ_ s'=>∃h4,s'={s1 with heap:=h4}/\Heap.HeldW B (X.env::X.outer) a (.ref C) (.ref t) X.env.locals h4/\s1.heap.UpToSlots h4) hfr hf F0.fly λh4 Er RH=>⟨h4,rfl,Er,RH⟩
 refine X6 (kC (Bf (.ref a) X.env) lib1) (λ_ s4 z4=>?_) λ_ _ z=>z
 obtain⟨⟨h4,rfl,Er,RH⟩,We⟩:=z4;have lib2:=wpAny_landsW (M:=model X.prog X.w) (A:=X.A) (E:=X.xe) (s:={s1 with heap:=h4}) (Q:=λ_ s'=>∃h5,s'={s1 with heap:=h5}/\Heap.FlyingW B (X.env::X.outer) a (.ref C) (.ref t) h5/\h4.UpToSlots h5) Er λh5 Pf RJ=>⟨h5,rfl,Pf,RJ⟩
 refine X6 (kC (jF (.ref a) none) lib2) (λ_ s5 z5=>?_) λ_ _ z=>z
 obtain⟨⟨h5,rfl,Pf,RJ⟩,Wg⟩:=z5;have Wh:mH h5 a dd:=(hdd.dk We).dk Wg
 have inv:∀(h:Heap) (tk:Nat),Heap.FlyingW B (X.env::X.outer) a (.ref C) (.ref t) h->s1.heap.UpToSlots h->Inv X pins σ H' {s1 with heap:=h,toks:=tk}:=λh tk fl sm=>by
  have Fh:=F0.on fl sm;refine I.JO (ch:=[]) ho (by rw[hst];exact Fh.un) Fh.Ti hb (λb z=>nomatch z)
 have I5:=inv h5 s1.toks Pf (RH.trans RJ);obtain⟨oe,vs,g1,g2,g3,g4⟩:=Pf.first;refine wpAny_handleBy_cons (codeAny_handlers_test ?_) (by intro q;cases q);refine lC (X:=X.hand a λ_ _=>False) (I5.hand a _) hg hm ?_ hd;refine excMatches_K I5.nM g1 g2 q hsub (codeAny_handlers_suite_as ?_);have Ts:∀A3:Around,wpAny (model X.prog X.w) A3 (setFlight (.ref a) none) (λ_ s'=>∃h6,s'={s1 with heap:=h6}/\Heap.FlyingW B (X.env::X.outer) a (.ref C) (.ref t) h6/\h5.UpToSlots h6) (λ_ _=>False) {s1 with heap:=h5}:=λA3=>lands_againW (s:={s1 with heap:=h5}) Pf λh6 NT Tt=>⟨h6,rfl,NT,Tt⟩
 refine X6 (kC (jF (.ref a) none) (Ts _)) (λ_ s6 z6=>?_) λ_ _ z=>z.elim
 obtain⟨⟨h6,rfl,NT,Tt⟩,Wi⟩:=z6;obtain⟨W4,Wj,Wk,_⟩:mH h6 a dd:=Wh.dk Wi;have I6:=inv h6 s1.toks NT ((RH.trans RJ).trans Tt);obtain⟨oe,vs,g1,g2,g3,g4⟩:=NT.first;have nH:H' a=none:=F0.new;have nB:B.get? a=none:=NT.2.1
 have nf:a∉qo (X.env::X.outer):=λhm=>by
  obtain⟨_,o,ho',hn'⟩:=NT.2.2.1.mem hm;rw[g1]at ho';cases ho';exact hn' _ g3
 have hL:a≠X.env.locals:=λz=>nf ((cH hf).mpr (.inl z))
 have hfs:a∉X.fs:=λz=>nf ((cH hf).mpr (.inr z))
 have old:∀b o,s.heap.get? b=some o->b≠a:=λb o e z=>by
  subst z;obtain⟨o',e'⟩:=F0.there b o e nf;rw[nB]at e';cases e'
 have h1:X.s₀.heap.get? a=none:=by
  cases e:X.s₀.heap.get? a with
  | none=>rfl
  | some o =>
   obtain⟨o',e'⟩:=I.base.there a o e (by rw[hex];exact λz=>nomatch z);exact absurd rfl (old a o' e')
 have hcc:∀x c,X.env.cells.lookup x=some c->c≠a:=λx c e z=>by
  obtain⟨v,o,ho',hd'⟩:=I6.cell x c e;have Cc:h6.get? c=some o:=ho';rw[z,g1]at Cc;cases Cc;rw[g3]at hd';cases hd'
 have hpp:∀p∈X.pn++pins,p.1≠a:=λp hp z=>by
  have:=(I.pin p hp).1;exact old _ _ this z
 have qd:oe.dict=dd:=by
  have z:h6.get? a=some oe:=g1;rw[Wj]at z;cases z;exact Wk
 have I7:=I6.adopt (φ:=Ll C a dd) nH h1 hL hfs hcc hpp ⟨⟨oe,vs,g1,g2,g3,qd⟩,⟨oe,g1⟩,λu v ⟨o,ws,q1,q2,q3,q4⟩ k=>⟨o,ws,k o q1,q2,q3,q4⟩⟩;refine oW I7 hN hi (.inl hk) (v:=.ref a) rfl (λs8 I8 _=>?_) (.inr hk);refine X6 (hs a _ pins s8 _ _ _ (I8.hand a _) (hE a nH)) (λfl s9 h9=>?_) (λ_ _ z=>z)
 cases fl with
 | next =>
  obtain⟨σ',H9,I9,q9⟩:=h9;exact Bd (I9.vV I.ok) hN hi hk λs' I'=>⟨_,H9,I',q9⟩
 | brk =>
  obtain⟨σ',H9,I9,q9⟩:=h9;exact Bd (I9.vV I.ok) hN hi hk λs' I'=>⟨_,H9,I',q9⟩
 | cont =>
  obtain⟨σ',H9,I9,q9⟩:=h9;exact Bd (I9.vV I.ok) hN hi hk λs' I'=>⟨_,H9,I',q9⟩
 | ret u =>
  obtain⟨v,σ',H9,I9,r9,q9⟩:=h9;exact Bd (I9.vV I.ok) hN hi hk λs' I'=>⟨v,_,H9,I',r9,q9⟩
def Pg(K:aJ)(CW:Addr)(i:Nat)(sp:Sp)(t:TA)(tb:TS):TS:=λD σ H=>t σ H λvs H1=>sp (vs++[]) H1 (λ_ H2=>D.nx σ H2) (J5 K CW i tb D σ)
theorem Hq{x:Str}{k:Nat}{ps:List Str}{sp:Sp}{e:Expr}{es:List Expr}{t:TA}{p cpos epos:Pos}(h:dj X.prog X.w X.K X.mg X.base (t8 X.prog X.w) x k ps sp)(hr:cK k X.A)(hgf:Gl X x)(ha:∀E,PA (X.qG E) (e::es) t)
  (hg:Gl X cx) (hm:X.mg cx=some (.ref CW)) (q:PySem.W.ktsIn X.K CW "BaseException"=true) (hN:X.N.Nodup) (hi:X.N[i]?=some n) (hk:X.env.kindOf n=some .local) (hs:∀a E,ud (X.hand a E) (b₀::suite) tb)
  (hst:X.stack=X.env::X.outer:=by rfl) (hf:X.env.frame=some X.env.locals:=by rfl) (hex:X.ex=[]:=by rfl) (hd:(cx == ("__debug__" : Str))=false:=by decide) (hdb:(x == ("__debug__" : Str))=false:=by decide)
  (he:starEach (e::es) X.env=(false,eval e X.env)::starEach es X.env:=by rfl) (hpl:(backTo cpos (starEach es X.env)).any (·.1)=false:=by rfl) (hsw:swapsWith (.Call (.Name x p) (e::es) [] cpos) none epos.line X.env=pure false:=by rfl) :
  PS X (.Try [.Expr (.Call (.Name x p) (e::es) [] cpos) epos] [.ExceptHandler (some (.Name cx np)) (some n) (b₀::suite) hpos] [] [] pos) (Pg X.K CW i sp t tb):=by
 intro pins s σ H D I hw;obtain⟨f,fd,F,b,kp,m⟩:=h.ex;refine wpAny_Try_except ?_
 let Et:Value->Shared->Prop:=λe s₁=>wpAny (model X.prog X.w) X.A (noteFrame e X.env) (λ_ s₂=>wpAny (model X.prog X.w) X.A (setFlight e none) (λ_ s₃=>wpAny (model X.prog X.w) X.A (handleBy e X.env [.ExceptHandler (some (.Name cx np)) (some n) (b₀::suite) hpos]) (SP X pins D) X.xe s₃) X.xe s₂) X.xe s₁
 have ev:wpAny (model X.prog X.w) X.A (eval (.Call (.Name x p) (e::es) [] cpos) X.env) (EP X pins σ λ_ H2=>D.nx σ H2) Et s:=by
  refine Yy (lC I hgf m ?_ hdb);refine ZF (h₀:=X.base) I.ok.mod.kin kp (ck (ha Et cpos pins s σ H _ (I.qG Et) hw) λus s1 ⟨vs,H1,I1,r,q1⟩=>⟨I1.nM,?_⟩) he hpl;have I1':=I1.jC;have hl:(us++[]).length=ps.length:=by rw[← (r.append (show Vals [] []from .nil)).length];exact F.len _ _ _ _ q1
  refine aaj (ZT (F.run X.A X.stack s1 H1 ⟨us,[]⟩ (us++[]) (vs++[]) _ _ hr I1'.KZ (b s1 us I1'.nM hl) (r.append .nil) q1) λr s' hq=>?_)
  cases r with
  | error e=>exact Ho hst hf hg hm q hN hi hk hs hd hex I1' hq
  | ok fl =>
   cases fl with
   | ret u=>exact I1'.after hq
   | next=>exact False.elim hq
   | brk=>exact False.elim hq
   | cont=>exact False.elim hq
 have st:wpAny (model X.prog X.w) X.A (execs [.Expr (.Call (.Name x p) (e::es) [] cpos) epos] X.env) (SP X pins D) Et s:=by
  refine ZS (ck (wpAny_Expr_any (Q:=SP X pins D) (ck ev λv s1 ⟨x,H1,I1,r1,q1⟩=>⟨σ,H1,I1,q1⟩) I.quiet hsw) λfl s1 h1=>?_)
  cases fl with
  | next=>exact YO h1
  | brk=>exact h1
  | cont=>exact h1
  | ret u=>exact h1
 refine X6 st (λfl s1 h1=>?_) λ_ _ z=>z
 cases fl with
 | next=>exact YO h1
 | brk=>exact h1
 | cont=>exact h1
 | ret u=>exact h1
end
section
variable {κ:Type} [DecidableEq κ]
end
section
variable {P:Program} {w:World} {H:Hp} {h:Heap} {a:Addr}
end
section
variable {X:Cx} {pins:List (Addr×Obj)} {σ:St} {H:Hp} {s:Shared} {a:Addr} {y v:V} {u r:Value} {o:Option V} {A:Around} {E:Value->Shared->Prop}
end
section
variable {X:Cx} {pins:List (Addr×Obj)} {σ:St} {H:Hp} {s:Shared} {a:Addr} {kvs:List (Key×V)} {k:Key} {u:Value} {A:Around} {E:Value->Shared->Prop}
end
section
variable {X:Cx} {o i e value:Expr} {pos pos' tpos:Pos} {td ty tv:TE}
end
section
variable {X:Cx} {pos:Pos}
end
def jr(P:Addr->Prop)(H HX:Hp):Prop:=∀c o,¬ P c->H c=some o->HX c=some o
open Classical in
noncomputable def cutH (P:Addr->Prop) (H:Hp):Hp:=λc=>if P c then none else H c
theorem cM{P:Addr->Prop}{H:Hp}{c:Addr}{o:HO}:cutH P H c=some o↔¬ P c/\H c=some o:=by
 unfold cutH;by_cases h:P c
 ·rw[XB h];exact⟨(λz=>nomatch z),(λz=>absurd h z.1)⟩
 ·rw[XA h];exact⟨λz=>⟨h,z⟩,λz=>z.2⟩
theorem cf{P:Addr->Prop}{H:Hp}:bD (cutH P H) H:=λ_ _ e=>(cM.mp e).2
def aM(K:aJ)(P:Addr->Prop)(H:Hp)(v:V)(d:PyData):Prop:=cy K (cutH P H) v d
theorem jr.refl{P:Addr->Prop}{H:Hp}:jr P H H:=λ_ _ _ e=>e
theorem jr.of{P:Addr->Prop}{H H':Hp}(s:bD H H'):jr P H H':=λc o _ e=>s c o e
theorem jr.trans{P:Addr->Prop}{H H1 H2:Hp}(a:jr P H H1)(b:jr P H1 H2):jr P H H2:=λc o n e=>b c o n (a c o n e)
theorem aM.now{K:aJ}{P:Addr->Prop}{H:Hp}{v:V}{d:PyData}(h:aM K P H v d):cy K H v d:=cy.same cf h
theorem lE{P P':Addr->Prop}{H H':Hp}(s:∀c o,¬ P c->H c=some o->¬ P' c/\H' c=some o):bD (cutH P H) (cutH P' H'):=λc o e=>by
 obtain⟨h1,h2⟩:=cM.mp e;exact cM.mpr (s c o h1 h2)
theorem aM.sub{K:aJ}{P P':Addr->Prop}{H:Hp}{v:V}{d:PyData}(h:aM K P H v d)(s:∀c,P' c->P c):aM K P' H v d:=cy.same (lE λc o n e=>⟨λz=>n (s c z),e⟩) h
theorem aM.same{K:aJ}{P:Addr->Prop}{H H':Hp}{v:V}{d:PyData}(h:aM K P H v d)(s:bD H H'):aM K P H' v d:=cy.same (lE λc o n e=>⟨n,s c o e⟩) h
inductive DV where
 | dat (d:PyData) | ref (k:Nat)
def kE(o:HO):Prop:=(∃xs,o=.lst xs)∨(∃C dx fs,o=.ins C dx fs)∨∃φ,o=.ext φ
structure Ob where
 lies:aJ->(Addr->Prop)->Hp->List Addr->Prop
 keep:∀K P H fp P' H',lies K P H fp->(∀c,P c->∃o,H c=some o/\kE o)->(∀a∈fp,∀o,H a=some o->H' a=some o)->bD (cutH P H) (cutH P' H')->lies K P' H' fp
 mu:∀K P H fp,lies K P H fp->∀a∈fp,∃o,H a=some o/\kE o
inductive Ce where
 | live (ds:List PyData) | froz (ds:List PyData) | deep (xs:List DV) | obj (o:Ob)
@[reducible] def Ce.lv:Ce->Bool
 | .froz _=>false
 | _=>true
abbrev bO:=List (Option DV)
abbrev aK:=List Ce
def Lv(al:List (List Addr))(st:aK):Addr->Prop:=λc=>∃(k:Nat) (fp:List Addr) (ce:Ce),al[k]?=some fp/\c∈fp/\st[k]?=some ce/\ce.lv=true
def Fb(G:Addr->Prop)(al:List (List Addr))(st:aK):Addr->Prop:=λc=>G c∨Lv al st c
def gP(K:aJ)(P:Addr->Prop)(H:Hp)(al:List (List Addr))(v:V):DV->Prop
 | .dat d=>aM K P H v d
 | .ref k=>∃a r,al[k]?=some (a::r)/\v=.ref a
def cB{α:Type}(R:V->α->Prop)(ys:List V)(xs:List α):Prop:=ys.length=xs.length/\∀(i:Nat) y x,ys[i]?=some y->xs[i]?=some x->R y x
def Hr(K:aJ)(P:Addr->Prop)(H:Hp)(al:List (List Addr))(fp:List Addr):Ce->Prop
 | .live xs=>∃a ys,fp=[a]/\H a=some (.lst ys)/\cB (aM K P H) ys xs
 | .froz ds=>∃a,fp=[a]/\aM K P H (.ref a) (.list ds)
 | .deep xs=>∃a ys,fp=[a]/\H a=some (.lst ys)/\cB (gP K P H al) ys xs
 | .obj o=>fp≠[]/\o.lies K P H fp
structure YK where
 Y:Hp->(Addr->Prop)->(Addr->Prop)->Prop
 up:∀H0 A0 G G',(∀c,G c->G' c)->Y H0 A0 G->Y H0 A0 G'
def y0:YK:=⟨λ_ _ _=>True,λ_ _ _ _ _ h=>h⟩
structure KF where
 K:aJ
 y:YK
instance:CoeOut KF aJ:=⟨KF.K⟩
@[reducible] def k0(K:aJ):KF:=⟨K,y0⟩
@[reducible] def kf(X:Cx)(Y:YK):KF:=⟨X.K,Y⟩
structure DI(J:KF)(H0:Hp)(A0:Addr->Prop)(G:Addr->Prop)(al:List (List Addr))(H:Hp)(st:aK):Prop where
 len:al.length=st.length
 nd:al.flatten.Nodup
 ok:∀a∈al.flatten,∃o,H a=some o
 cel:∀(k:Nat) fp c,al[k]?=some fp->st[k]?=some c->Hr J (Fb G al st) H al fp c
 fr:jr A0 H0 H
 nw:∀a∈al.flatten,A0 a∨H0 a=none
 gd:∀a∈al.flatten,¬ G a
 gs:∀c,G c->∃o,H c=some o/\kE o
 lk:J.y.Y H0 A0 G
def pj(K:aJ)(P:Addr->Prop)(H:Hp)(al:List (List Addr))(s:St)(env:bO):Prop:=s.length=env.length/\∀(i:Nat) dv,env[i]?=some (some dv)->∃v,s[i]?=some (some v)/\gP K P H al v dv
structure Ext(al:List (List Addr))(H:Hp)(st:aK)(al':List (List Addr))(H':Hp)(st':aK):Prop where
 keep:jr (Lv al st) H H'
 pre:∀(k:Nat) a r,al[k]?=some (a::r)->∃r',al'[k]?=some (a::r')
 nws:∀c∈al'.flatten,c∈al.flatten∨H c=none
 lv:∀c,Lv al' st' c->Lv al st c∨H c=none
theorem Ext.refl{al:List (List Addr)}{H:Hp}{st:aK}:Ext al H st al H st:=⟨.refl,λ_ _ r h=>⟨r,h⟩,λ_ h=>.inl h,λ_ h=>.inl h⟩
theorem Ext.free{al al':List (List Addr)}{H H':Hp}{st st':aK}(e:Ext al H st al' H' st'){c:Addr}(h:H' c=none)(hl:¬ Lv al st c):H c=none:=by
 cases q:H c with
 | none=>rfl
 | some o=>rw[e.keep c o hl q]at h;cases h
theorem gQ{al:List (List Addr)}{k:Nat}{fp:List Addr}{a:Addr}(h:al[k]?=some fp)(ha:a∈fp):a∈al.flatten:=YF.mpr ⟨fp,Xy h,ha⟩
theorem Lv.mem{al:List (List Addr)}{st:aK}{c:Addr}(h:Lv al st c):c∈al.flatten:=by
 obtain⟨k,fp,ce,h1,h2,_⟩:=h;exact gQ h1 h2
theorem kF:∀{al:List (List Addr)},al.flatten.Nodup->∀{i j:Nat} {f g:List Addr} {a:Addr},al[i]?=some f->al[j]?=some g->a∈f->a∈g->i=j
 | [],_,i,j,f,g,a,h1,_,_,_=>by simp at h1
 | x::r,nd,i,j,f,g,a,h1,h2,m1,m2=>by
  rw[Ye,List.nodup_append]at nd
  cases i with
  | zero =>
   cases j with
   | zero=>rfl
   | succ j =>
    simp at h1 h2;subst h1;exact absurd rfl (nd.2.2 a m1 a (gQ h2 m2))
  | succ i =>
   cases j with
   | zero =>
    simp at h1 h2;subst h2;exact absurd rfl (nd.2.2 a m2 a (gQ h1 m1))
   | succ j =>
    simp at h1 h2;exact congrArg (· + 1) (kF nd.2.1 h1 h2 m1 m2)
section
variable {K:aJ} {J:KF} {H0:Hp} {A0:Addr->Prop} {G:Addr->Prop} {al bq cu:List (List Addr)} {H H1 H2:Hp} {st aD bu:aK}
theorem Ext.trans(I1:DI J H0 A0 G bq H1 aD)(a:Ext al H st bq H1 aD)(b:Ext bq H1 aD cu H2 bu):Ext al H st cu H2 bu:=by
 refine⟨λc o n e=>b.keep c o (λz=>?_) (a.keep c o n e),λk x r h=>?_,λc hc=>?_,λc hc=>?_⟩
 ·rcases a.lv c z with y | y
  ·exact n y
  ·rw[y]at e;cases e
 ·obtain⟨r1,h1⟩:=a.pre k x r h;exact b.pre k x r1 h1
 ·rcases b.nws c hc with z | z
  ·exact a.nws c z
  ·by_cases w:Lv al st c
   ·exact .inl w.mem
   ·exact .inr (a.free z w)
 ·rcases b.lv c hc with z | z
  ·exact a.lv c z
  ·by_cases w:Lv al st c
   ·exact .inl w
   ·exact .inr (a.free z w)
theorem cS{G1:Addr->Prop}(g:∀c,G1 c->G c∨H c=none)(e:Ext al H st bq H1 aD):bD (cutH (Fb G al st) H) (cutH (Fb G1 bq aD) H1):=lE λc o n q=>by
 refine⟨λz=>?_,e.keep c o (λw=>n (.inr w)) q⟩;rcases z with z | z
 ·rcases g c z with w | w
  ·exact n (.inl w)
  ·rw[w]at q;cases q
 ·rcases e.lv c z with w | w
  ·exact n (.inr w)
  ·rw[w]at q;cases q
theorem aM.iU{G1:Addr->Prop}{v:V}{d:PyData}(h:aM K (Fb G al st) H v d)(g:∀c,G1 c->G c∨H c=none)(e:Ext al H st bq H1 aD):aM K (Fb G1 bq aD) H1 v d:=cy.same (cS g e) h
theorem aM.ext{v:V}{d:PyData}(h:aM K (Fb G al st) H v d)(e:Ext al H st bq H1 aD):aM K (Fb G bq aD) H1 v d:=h.iU (λ_ z=>.inl z) e
theorem gP.d{P:Addr->Prop}{v:V}{d:PyData}(h:aM K P H v d):gP K P H al v (.dat d):=h
theorem gP.iU{G1:Addr->Prop}{v:V}{dv:DV}(h:gP K (Fb G al st) H al v dv)(g:∀c,G1 c->G c∨H c=none)(e:Ext al H st bq H1 aD):gP K (Fb G1 bq aD) H1 bq v dv:=by
 cases dv with
 | dat d=>exact aM.iU h g e
 | ref k =>
  obtain⟨a,r,h1,h2⟩:=h;obtain⟨r',h3⟩:=e.pre k a r h1;exact⟨a,r',h3,h2⟩
theorem gP.ext{v:V}{dv:DV}(h:gP K (Fb G al st) H al v dv)(e:Ext al H st bq H1 aD):gP K (Fb G bq aD) H1 bq v dv:=h.iU (λ_ z=>.inl z) e
theorem cB.imp{α:Type}{R R':V->α->Prop}{ys:List V}{xs:List α}(h:cB R ys xs)(f:∀y x,R y x->R' y x):cB R' ys xs:=⟨h.1,λi y x a b=>f y x (h.2 i y x a b)⟩
theorem cB.nil{α:Type}{R:V->α->Prop}:cB R [] []:=⟨rfl,λi y x h=>by simp at h⟩
theorem cB.cons{α:Type}{R:V->α->Prop}{y:V}{x:α}{ys:List V}{xs:List α}(h:R y x)(r:cB R ys xs):cB R (y::ys) (x::xs):=⟨by simp[r.1],λi a b h1 h2=>by
 cases i with
 | zero=>simp at h1 h2;subst h1;subst h2;exact h
 | succ i=>exact r.2 i a b (by simpa using h1) (by simpa using h2)⟩
theorem cB.append{α:Type}{R:V->α->Prop}{ys zs:List V}{xs us:List α}(h:cB R ys xs)(h':cB R zs us):cB R (ys++zs) (xs++us):=by
 refine⟨by simp[h.1,h'.1],λj z u hz hu=>?_⟩;by_cases hj:j < ys.length
 ·rw[XE hj]at hz;rw[XE (by rw[← h.1];exact hj)]at hu;exact h.2 j z u hz hu
 ·rw[XO (by omega)]at hz;rw[XO (by rw[← h.1];omega),← h.1]at hu;exact h'.2 _ z u hz hu
theorem cB.take{α:Type}{R:V->α->Prop}{ys:List V}{xs:List α}(h:cB R ys xs)(n:Nat):cB R (ys.take n) (xs.take n):=by
 refine⟨by rw[XC,XC,h.1],λj y k hy hk=>?_⟩;have hj:j < (ys.take n).length:=(bX hy).1;rw[XC]at hj;rw[Y7 (by omega)]at hy hk;exact h.2 _ y k hy hk
theorem cB.drop{α:Type}{R:V->α->Prop}{ys:List V}{xs:List α}(h:cB R ys xs)(n:Nat):cB R (ys.drop n) (xs.drop n):=by
 refine⟨by rw[Yx,Yx,h.1],λj y k hy hk=>?_⟩;rw[YQ]at hy hk;exact h.2 _ y k hy hk
theorem cB.at{α:Type}{R:V->α->Prop}{ys:List V}{xs:List α}(h:cB R ys xs){i:Nat}{x:α}(hx:xs[i]?=some x):∃y,ys[i]?=some y/\R y x:=by
 have hi:i < ys.length:=by rw[h.1];exact(bX hx).1
 exact⟨ys[i],dC hi,h.2 i _ x (dC hi) hx⟩
theorem cB.Ph{α β:Type}{R:V->β->Prop}{f:α->β}{ys:List V}{xs:List α}(h:cB R ys (xs.map f)):cB (λy x=>R y (f x)) ys xs:=by
 refine⟨by rw[h.1,Xk],λi y x hy hx=>?_⟩;exact h.2 i y (f x) hy (by rw[XJ,hx];rfl)
theorem pj.iU{G1:Addr->Prop}{s:St}{env:bO}(h:pj K (Fb G al st) H al s env)(g:∀c,G1 c->G c∨H c=none)(e:Ext al H st bq H1 aD):pj K (Fb G1 bq aD) H1 bq s env:=⟨h.1,λi dv hi=>by
 obtain⟨v,h1,h2⟩:=h.2 i dv hi;exact⟨v,h1,h2.iU g e⟩⟩
theorem pj.ext{s:St}{env:bO}(h:pj K (Fb G al st) H al s env)(e:Ext al H st bq H1 aD):pj K (Fb G bq aD) H1 bq s env:=h.iU (λ_ z=>.inl z) e
theorem pj.set{P:Addr->Prop}{s:St}{env:bO}{v:V}{dv:DV}(h:pj K P H al s env)(hv:gP K P H al v dv)(i:Nat):pj K P H al (s.set i (some v)) (env.set i (some dv)):=by
 refine⟨by rw[YA,YA];exact h.1,λj u hu=>?_⟩;rw[List.getElem?_set]at hu;by_cases hj:i=j
 ·subst hj;rw[XB rfl]at hu;split at hu
  ·rename_i hl;cases hu;exact⟨v,by rw[XF (by rw[h.1];exact hl)],hv⟩
  ·cases hu
 ·rw[XA hj]at hu;obtain⟨w,h1,h2⟩:=h.2 j u hu;exact⟨w,by rw[XM hj];exact h1,h2⟩
theorem aM.jG{P:Addr->Prop}{v:V}{ds:List PyData}(h:aM K P H v (.list ds)):∃(a:Addr) (ys:List V),v=.ref a/\fV K H a ys/\fV K (cutH P H) a ys/\cB (aM K P H) ys ds:=by
 have h:cy K (cutH P H) v (.list ds):=h
 cases h with
 | lst hS hl hi=>exact⟨_,_,rfl,cf.seq hS,hS,hl,hi⟩
theorem aM.dF{P:Addr->Prop}{v:V}{ds:List PyData}(h:aM K P H v (.tuple ds)):∃(a:Addr) (ys:List V),v=.ref a/\e8 K H a ys/\e8 K (cutH P H) a ys/\cB (aM K P H) ys ds:=by
 have h:cy K (cutH P H) v (.tuple ds):=h
 cases h with
 | tup hS hl hi=>exact⟨_,_,rfl,cf.tup hS,hS,hl,hi⟩
theorem aM.aV{P:Addr->Prop}{v:V}{i:Int}(h:aM K P H v (.int i)):v=.int i:=by
 have h:cy K (cutH P H) v (.int i):=h;cases h;rfl
theorem aM.cv{P:Addr->Prop}{v:V}{i:Str}(h:aM K P H v (.str i)):v=.str i:=by
 have h:cy K (cutH P H) v (.str i):=h;cases h;rfl
theorem aM.gR{P:Addr->Prop}{v:V}{i:Bool}(h:aM K P H v (.bool i)):v=.bl i:=by
 have h:cy K (cutH P H) v (.bool i):=h;cases h;rfl
theorem aM.fc{P:Addr->Prop}{v:V}(h:aM K P H v .none):v=.non:=by
 have h:cy K (cutH P H) v .none:=h;cases h;rfl
theorem aM.lst{P:Addr->Prop}{a:Addr}{ys:List V}{ds:List PyData}(n:¬ P a)(h:H a=some (.lst ys))(r:cB (aM K P H) ys ds):aM K P H (.ref a) (.list ds):=cy.lst (fV.of (cM.mpr ⟨n,h⟩)) r.1 r.2
theorem aM.tup{P:Addr->Prop}{a:Addr}{ys:List V}{ds:List PyData}(n:¬ P a)(h:H a=some (.tup ys))(r:cB (aM K P H) ys ds):aM K P H (.ref a) (.tuple ds):=cy.tup (e8.of (cM.mpr ⟨n,h⟩)) r.1 r.2
theorem Ext.same(s:bD H H1):Ext al H st al H1 st:=⟨.of s,λ_ _ r h=>⟨r,h⟩,λ_ z=>.inl z,λ_ z=>.inl z⟩
theorem Ext.new{a:Addr}{o:HO}(h:H a=none):Ext al H st al (upd H a o) st:=.same λc p e=>by rw[uN (nN e h)];exact e
theorem Hr.iU{G1:Addr->Prop}{fp:List Addr}{c:Ce}(h:Hr K (Fb G al st) H al fp c)(g:∀c,G1 c->G c∨H c=none)(e:Ext al H st bq H1 aD)(hP:∀c,Fb G al st c->∃o,H c=some o/\kE o)(k:c.lv=true->∀a∈fp,∀o,H a=some o->H1 a=some o):Hr K (Fb G1 bq aD) H1 bq fp c:=by
 cases c with
 | live xs =>
  obtain⟨a,ys,h0,h1,h2⟩:=h;exact⟨a,ys,h0,k rfl a (by rw[h0];exact Yc.mpr rfl) _ h1,h2.imp λy x z=>aM.iU z g e⟩
 | froz ds =>
  obtain⟨a,h0,h1⟩:=h;exact⟨a,h0,aM.iU h1 g e⟩
 | deep xs =>
  obtain⟨a,ys,h0,h1,h2⟩:=h;exact⟨a,ys,h0,k rfl a (by rw[h0];exact Yc.mpr rfl) _ h1,h2.imp λy x z=>gP.iU z g e⟩
 | obj o=>exact⟨h.1,o.keep _ _ _ _ _ _ h.2 hP (k rfl) (cS g e)⟩
theorem Hr.ext{fp:List Addr}{c:Ce}(h:Hr K (Fb G al st) H al fp c)(e:Ext al H st bq H1 aD)(hP:∀c,Fb G al st c->∃o,H c=some o/\kE o)(k:c.lv=true->∀a∈fp,∀o,H a=some o->H1 a=some o):Hr K (Fb G bq aD) H1 bq fp c:=h.iU (λ_ z=>.inl z) e hP k
theorem DI.rY(I:DI J H0 A0 G al H st){c:Addr}(h:Fb G al st c):∃o,H c=some o/\kE o:=by
 rcases h with h | ⟨k,fp,ce,h1,h2,h3,h4⟩
 ·exact I.gs c h
 ·have z:=I.cel k fp ce h1 h3
  cases ce with
  | live xs=>obtain⟨a,ys,rfl,g,_⟩:=z;rw[xF h2];exact⟨_,g,.inl ⟨_,rfl⟩⟩
  | froz ds=>cases h4
  | deep xs=>obtain⟨a,ys,rfl,g,_⟩:=z;rw[xF h2];exact⟨_,g,.inl ⟨_,rfl⟩⟩
  | obj o=>exact o.mu _ _ _ _ z.2 c h2
theorem DI.same(I:DI J H0 A0 G al H st)(s:bD H H1):DI J H0 A0 G al H1 st:=⟨I.len,I.nd,(λa ha=>by obtain⟨o,e⟩:=I.ok a ha;exact⟨o,s _ _ e⟩),(λk a c h1 h2=>(I.cel k a c h1 h2).ext (.same s) (λc hc=>I.rY hc) λ_ a _ o e=>s _ _ e),(λc o n e=>s c o (I.fr c o n e)),I.nw,I.gd,(λc hc=>by obtain⟨o,e,m⟩:=I.gs c hc;exact⟨o,s _ _ e,m⟩),I.lk⟩
theorem DI.new(I:DI J H0 A0 G al H st){a:Addr}{o:HO}(h:H a=none):DI J H0 A0 G al (upd H a o) st:=I.same λc p e=>by rw[uN (nN e h)];exact e
theorem DI.Hs(I:DI J H0 A0 G al H st){a:Addr}(h:H a=none):¬ Fb G al st a:=by
 intro z;rcases z with z | z
 ·obtain⟨o,e,_⟩:=I.gs a z;rw[h]at e;cases e
 ·obtain⟨o,e⟩:=I.ok a z.mem;rw[h]at e;cases e
theorem DI.n0(I:DI J H0 A0 G al H st){a:Addr}(h:H a=none):A0 a∨H0 a=none:=by
 cases q:H0 a with
 | none=>exact .inr rfl
 | some o =>
  by_cases w:A0 a
  ·exact .inl w
  ·rw[I.fr a o w q]at h;cases h
theorem DI.freeze(I:DI J H0 A0 G al H st){k:Nat}{fp:List Addr}{ds:List PyData}(ha:al[k]?=some fp)(hs:st[k]?=some (.live ds)):∃a,fp=[a]/\Ext al H st al H (st.set k (.froz ds))/\DI J H0 A0 G al H (st.set k (.froz ds))/\aM J (Fb G al (st.set k (.froz ds))) H (.ref a) (.list ds):=by
 have hk:=(bX hs).1
 have E:Ext al H st al H (st.set k (.froz ds)):=⟨.refl,λ_ _ r h=>⟨r,h⟩,λ_ z=>.inl z,λc ⟨j,f,ce,h1,h2,h3,h4⟩=>by
  by_cases e:k=j
  ·subst e;rw[XF hk]at h3;cases h3;cases h4
  ·rw[XM e]at h3;exact .inl ⟨j,f,ce,h1,h2,h3,h4⟩⟩
 obtain⟨a,ys,rfl,g1,g2⟩:=I.cel k fp _ ha hs
 have na:¬ Fb G al (st.set k (.froz ds)) a:=λz=>by
  rcases z with z | ⟨j,f,ce,h1,h2,h3,h4⟩
  ·exact I.gd a (gQ ha (Yc.mpr rfl)) z
  ·have:=kF I.nd ha h1 (Yc.mpr rfl) h2;subst this;rw[XF hk]at h3;cases h3;cases h4
 have F:aM J (Fb G al (st.set k (.froz ds))) H (.ref a) (.list ds):=.lst na g1 (g2.imp λy x z=>aM.ext z E);refine⟨a,rfl,E,⟨by rw[YA];exact I.len,I.nd,I.ok,λj b c h1 h2=>?_,I.fr,I.nw,I.gd,I.gs,I.lk⟩,F⟩;by_cases e:k=j
 ·subst e;rw[XF hk]at h2;rw[ha]at h1;cases h1;cases h2;exact⟨a,rfl,F⟩
 ·rw[XM e]at h2;exact(I.cel j b c h1 h2).ext E (λc hc=>I.rY hc) λ_ _ _ o q=>q
theorem DI.more(I:DI J H0 A0 G al H st){fp:List Addr}{c:Ce}(fr:∀a∈fp,H a=none)(nd:fp.Nodup)(s:bD H H1)(ok:∀a∈fp,∃o,H1 a=some o)(hc:Hr J (Fb G (al++[fp]) (st++[c])) H1 (al++[fp]) fp c):Ext al H st (al++[fp]) H1 (st++[c])/\DI J H0 A0 G (al++[fp]) H1 (st++[c]):=by
 have nal:∀a∈fp,a∉al.flatten:=λa ha z=>by obtain⟨o,e⟩:=I.ok a z;rw[fr a ha]at e;cases e
 have mem:∀c∈(al++[fp]).flatten,c∈al.flatten∨c∈fp:=λc hc=>by
  rw[aan,aac]at hc;exact Yg.mp hc
 have E:Ext al H st (al++[fp]) H1 (st++[c]):=⟨.of s,λk a r h=>⟨r,by rw[XE (bX h).1];exact h⟩,λc hc=>by
   rcases mem c hc with z | z
   ·exact .inl z
   ·exact .inr (fr c z),λc ⟨j,f,ce,h1,h2,h3,h4⟩=>by
  by_cases e:j < al.length
  ·rw[XE e]at h1;rw[XE (by rw[← I.len];exact e)]at h3;exact .inl ⟨j,f,ce,h1,h2,h3,h4⟩
  ·rw[XO (by omega)]at h1;have:=Xy h1;rw[xF this]at h2;exact .inr (fr c h2)⟩
 refine⟨E,⟨by simp[I.len],?_,λc hc=>?_,λj b c' h1 h2=>?_,λc o n e=>s c o (I.fr c o n e),λc hc=>?_,λc hc=>?_,λc hc=>?_,I.lk⟩⟩
 ·rw[aan,aac,List.nodup_append];exact⟨I.nd,nd,λx hx y hy z=>nal y hy (z ▸ hx)⟩
 ·rcases mem c hc with z | z
  ·obtain⟨o,e⟩:=I.ok c z;exact⟨o,s _ _ e⟩
  ·exact ok c z
 ·by_cases e:j < al.length
  ·rw[XE e]at h1;rw[XE (by rw[← I.len];exact e)]at h2;exact(I.cel j b c' h1 h2).ext E (λc hc=>I.rY hc) λ_ _ _ o q=>s _ _ q
  ·have hj:j=al.length:=by have:=(bX h1).1;simp at this;omega
   subst hj;rw[XO (Xu _),ZZ]at h1;rw[I.len,XO (Xu _),ZZ]at h2;cases h1;cases h2;exact hc
 ·rcases mem c hc with z | z
  ·exact I.nw c z
  ·exact I.n0 (fr c z)
 ·rcases mem c hc with z | z
  ·exact I.gd c z
  ·exact λw=>I.Hs (fr c z) (.inl w)
 ·obtain⟨o,e,m⟩:=I.gs c hc;exact⟨o,s _ _ e,m⟩
theorem DI.cell(I:DI J H0 A0 G al H st){a:Addr}{ys:List V}{xs:List PyData}(h:H a=none)(hy:cB (aM J (Fb G al st) H) ys xs):Ext al H st (al++[[a]]) (upd H a (.lst ys)) (st++[.live xs])/\DI J H0 A0 G (al++[[a]]) (upd H a (.lst ys)) (st++[.live xs]):=by
 have s:bD H (upd H a (.lst ys)):=λc p e=>by rw[uN (nN e h)];exact e
 refine I.more (λc hc=>by rw[xF hc];exact h) (by simp) s (λc hc=>by rw[xF hc];exact⟨_,uS⟩) ⟨a,ys,rfl,uS,hy.imp λy x z=>cy.same (lE λc o n q=>⟨λw=>?_,s _ _ q⟩) z⟩;rcases w with w | ⟨j,f,ce,h1,h2,h3,h4⟩
 ·exact n (.inl w)
 ·by_cases e:j < al.length
  ·rw[XE e]at h1;rw[XE (by rw[← I.len];exact e)]at h3;exact n (.inr ⟨j,f,ce,h1,h2,h3,h4⟩)
  ·rw[XO (by omega)]at h1;have:=Xy h1;rw[xF this]at h2;rw[xF h2,h]at q;cases q
theorem DI.turn(I:DI J H0 A0 G al H st){k:Nat}{a:Addr}{r r':List Addr}{c c':Ce}(ha:al[k]?=some (a::r))(hs:st[k]?=some c)(hl:c.lv=true)(kp:∀b o,b∉a::r->H b=some o->H1 b=some o)(nw:∀b∈r',b∈a::r∨H b=none)(ok:∀b∈a::r',∃o,H1 b=some o)(nd:(a::r').Nodup)(na:∀b∈r',b∉a::r->H b=none)
  (hc:bD (cutH (Fb G al st) H) (cutH (Fb G (al.set k (a::r')) (st.set k c')) H1)->Hr J (Fb G (al.set k (a::r')) (st.set k c')) H1 (al.set k (a::r')) (a::r') c') (mu:∀b∈a::r,∃o,H b=some o/\kE o):Ext al H st (al.set k (a::r')) H1 (st.set k c')/\DI J H0 A0 G (al.set k (a::r')) H1 (st.set k c'):=by
 have hk:=(bX hs).1;have hka:=(bX ha).1;have lvk:∀b∈a::r,Lv al st b:=λb hb=>⟨k,_,c,ha,hb,hs,hl⟩
 have mem:∀b∈(al.set k (a::r')).flatten,b∈al.flatten∨H b=none:=λb hb=>by
  obtain⟨f,hf,hbf⟩:=YF.mp hb;rcases Y5 hf with z | z
  ·exact .inl (YF.mpr ⟨f,z,hbf⟩)
  ·rw[z]at hbf;rcases X4.mp hbf with y | y
   ·rw[y];exact .inl (gQ ha XZ)
   ·rcases nw b y with w | w
    ·exact .inl (gQ ha w)
    ·exact .inr w
 have E:Ext al H st (al.set k (a::r')) H1 (st.set k c'):=⟨λb o n e=>kp b o (λz=>n (lvk b z)) e,λj b q h=>by
   by_cases e:k=j
   ·subst e;rw[ha]at h;cases h;exact⟨r',by rw[XF hka]⟩
   ·exact⟨q,by rw[XM e];exact h⟩,mem,λb ⟨j,f,ce,h1,h2,h3,h4⟩=>by
   by_cases e:k=j
   ·subst e;rw[XF hka]at h1;cases h1;rcases X4.mp h2 with y | y
    ·rw[y];exact .inl (lvk a XZ)
    ·rcases nw b y with w | w
     ·exact .inl (lvk b w)
     ·exact .inr w
   ·rw[XM e]at h1 h3;exact .inl ⟨j,f,ce,h1,h2,h3,h4⟩⟩
 have keepOther:∀(j:Nat) f,k≠j->al[j]?=some f->∀b∈f,∀o,H b=some o->H1 b=some o:=λj f e hf b hb o q=>kp b o (λz=>e (kF I.nd ha hf z hb)) q
 have parted:∀b∈(al.set k (a::r')).flatten,b∈a::r'∨∃(j:Nat) (f:List Addr),k≠j/\al[j]?=some f/\b∈f:=λb hb=>by
  obtain⟨f,hf,hbf⟩:=YF.mp hb;obtain⟨j,hj⟩:=Yu hf;by_cases e:k=j
  ·subst e;rw[XF hka]at hj;cases hj;exact .inl hbf
  ·rw[XM e]at hj;exact .inr ⟨j,f,e,hj,hbf⟩
 refine⟨E,⟨by rw[YA,YA];exact I.len,?_,λb hb=>?_,λj f ce h1 h2=>?_,λb o n e=>?_,λb hb=>?_,λb hb=>?_,λb hb=>?_,I.lk⟩⟩
 ·unfold List.Nodup;rw[List.pairwise_flatten,List.pairwise_iff_getElem];have Tu:=I.nd;refine⟨λf hf=>?_,λi j hi hj hij x hx y hy=>?_⟩
  ·rcases Y5 hf with z | z
   ·exact(List.pairwise_flatten.mp Tu).1 f z
   ·rw[z];exact nd
  ·intro e;subst e;have gi:=dC hi;have gj:=dC hj
   have far:∀(j:Nat) f,k≠j->al[j]?=some f->x∈f->x∈a::r'->False:=λj f e hf hxf hx'=>by
    by_cases w:x∈a::r
    ·exact e (kF Tu ha hf w hxf)
    ·rcases X4.mp hx' with z | z
     ·exact w (by rw[z];exact XZ)
     ·obtain⟨o,q⟩:=I.ok x (gQ hf hxf);rw[na x z w]at q;cases q
   by_cases e1:k=i
   ·subst e1;have e2:k≠j:=by omega
    rw[XF hka]at gi;rw[XM e2]at gj;exact far j _ e2 gj hy (by rw[XX gi];exact hx)
   ·rw[XM e1]at gi;by_cases e2:k=j
    ·subst e2;rw[XF hka]at gj;exact far i _ e1 gi hx (by rw[XX gj];exact hy)
    ·rw[XM e2]at gj;exact absurd (kF Tu gi gj hx hy) (by omega)
 ·rcases parted b hb with z | ⟨j,f,e,hf,hbf⟩
  ·exact ok b z
  ·obtain⟨o,q⟩:=I.ok b (gQ hf hbf);exact⟨o,keepOther j f e hf b hbf o q⟩
 ·by_cases e:k=j
  ·subst e;rw[XF hka]at h1;rw[XF hk]at h2;cases h1;cases h2;exact hc (cS (λ_ z=>.inl z) E)
  ·rw[XM e]at h1 h2;exact(I.cel j f ce h1 h2).ext E (λc hc=>I.rY hc) λ_ b hb o q=>keepOther j f e h1 b hb o q
 ·by_cases w:b∈a::r
  ·rcases I.nw b (gQ ha w)with y | y
   ·exact absurd y n
   ·rw[y]at e;cases e
  ·exact kp b o w (I.fr b o n e)
 ·rcases mem b hb with z | z
  ·exact I.nw b z
  ·exact I.n0 z
 ·intro z;rcases mem b hb with w | w
  ·exact I.gd b w z
  ·exact I.Hs w (.inl z)
 ·obtain⟨o,q,m⟩:=I.gs b hb;refine⟨o,kp b o (λz=>I.gd b (gQ ha z) hb) q,m⟩
theorem DI.put(I:DI J H0 A0 G al H st){k:Nat}{a:Addr}{zs xs:List PyData}{ys:List V}(ha:al[k]?=some [a])(hs:st[k]?=some (.live zs))(hy:cB (aM J (Fb G al st) H) ys xs):Ext al H st al (upd H a (.lst ys)) (st.set k (.live xs))/\DI J H0 A0 G al (upd H a (.lst ys)) (st.set k (.live xs)):=by
 have ea:al.set k [a]=al:=by
  apply YW;intro j;by_cases e:k=j
  ·subst e;rw[XF (bX ha).1,ha]
  ·rw[XM e]
 obtain⟨b,ws,e0,g1,g2⟩:=I.cel k [a] _ ha hs;cases e0;have z:=I.turn (H1:=upd H a (.lst ys)) (r:=[]) (r':=[]) (c':=.live xs) ha hs rfl (λb o n e=>by rw[uN (λz=>n (by rw[z];exact List.mem_cons_self))];exact e) (λb hb=>nomatch hb) (λb hb=>by rw[xF hb];exact⟨_,uS⟩) (by simp) (λb hb=>nomatch hb) (λs=>⟨a,ys,rfl,uS,hy.imp λy x z=>cy.same s z⟩) (λb hb=>by rw[xF hb];exact⟨_,g1,.inl ⟨_,rfl⟩⟩);rw[ea]at z;exact z
theorem xY{k:Nat}{fp:List Addr}(ha:al[k]?=some fp):al.set k fp=al:=by
 apply YW;intro j;by_cases e:k=j
 ·subst e;rw[XF (bX ha).1,ha]
 ·rw[XM e]
theorem DI.putD(I:DI J H0 A0 G al H st){k:Nat}{a:Addr}{zs xs:List DV}{ys:List V}(ha:al[k]?=some [a])(hs:st[k]?=some (.deep zs))(hy:cB (gP J (Fb G al st) H al) ys xs):Ext al H st al (upd H a (.lst ys)) (st.set k (.deep xs))/\DI J H0 A0 G al (upd H a (.lst ys)) (st.set k (.deep xs)):=by
 obtain⟨b,ws,e0,g1,g2⟩:=I.cel k [a] _ ha hs;cases e0
 have z:=I.turn (H1:=upd H a (.lst ys)) (r:=[]) (r':=[]) (c':=.deep xs) ha hs rfl (λb o n e=>by rw[uN (λz=>n (by rw[z];exact List.mem_cons_self))];exact e) (λb hb=>nomatch hb) (λb hb=>by rw[xF hb];exact⟨_,uS⟩) (by simp) (λb hb=>nomatch hb) (λs=>⟨a,ys,rfl,uS,hy.imp λy x z=>by
    cases x with
    | dat d=>exact cy.same s z
    | ref j=>rw[xY ha];exact z⟩) (λb hb=>by rw[xF hb];exact⟨_,g1,.inl ⟨_,rfl⟩⟩)
 rw[xY ha]at z;exact z
theorem DI.Lm(I:DI J H0 A0 G al H st){p:Addr}{xs:List V}(h:e8 J H p xs):e8 J (cutH (Fb G al st) H) p xs:=by
 have n:∀o,H p=some o->¬ kE o->¬ Fb G al st p:=λo e m z=>by
  obtain⟨o',e',m'⟩:=I.rY z;rw[e]at e';cases e';exact m m'
 rcases h with(h | ⟨o,h⟩) | h
 ·exact .inl (.inl (cM.mpr ⟨n _ h (λm=>by rcases m with⟨ys,m⟩ | ⟨C,dx,fs,m⟩ | ⟨φ,m⟩<;>cases m),h⟩))
 ·exact .inl (.inr ⟨o,cM.mpr ⟨n _ h (λm=>by rcases m with⟨ys,m⟩ | ⟨C,dx,fs,m⟩ | ⟨φ,m⟩<;>cases m),h⟩⟩)
 ·exact .inr h
end
abbrev DC:=DV->aK->Prop
abbrev DX:=bO->aK->DC->Prop
abbrev lF:=bO->aK->(List DV->aK->Prop)->Prop
abbrev DT:=bO->aK->(Bool->aK->Prop)->Prop
abbrev Gv:=DV->DV->aK->DC->Prop
abbrev RK:=List DV->aK->DC->Prop
def Kn(J:KF)(H0:Hp)(A0:Addr->Prop)(G:Addr->Prop)(al:List (List Addr))(H:Hp)(st:aK)(Q:DC)(R:VK):Prop:=∀dv st' al' v H',Ext al H st al' H' st'->DI J H0 A0 G al' H' st'->gP J (Fb G al' st') H' al' v dv->Q dv st'->R v H'
def Pj(J:KF)(H0:Hp)(A0:Addr->Prop)(G:Addr->Prop)(al:List (List Addr))(H:Hp)(st:aK)(Q:Bool->aK->Prop)(R:Bool->Hp->Prop):Prop:=∀b st' al' H',Ext al H st al' H' st'->DI J H0 A0 G al' H' st'->Q b st'->R b H'
def Wl(J:KF)(H0:Hp)(A0:Addr->Prop)(G:Addr->Prop)(al:List (List Addr))(H:Hp)(st:aK)(Q:List DV->aK->Prop)(R:List V->Hp->Prop):Prop:=∀dvs st' al' vs H',Ext al H st al' H' st'->DI J H0 A0 G al' H' st'->cB (gP J (Fb G al' st') H' al') vs dvs->Q dvs st'->R vs H'
def AE(J:KF)(t:TE)(e:DX):Prop:=∀(H0:Hp) (A0:Addr->Prop) (G:Addr->Prop) (al:List (List Addr)) (H:Hp) (st:aK) (s:St) (env:bO) (Q:DC) (R:VK),DI J H0 A0 G al H st->pj J (Fb G al st) H al s env->e env st Q->Kn J H0 A0 G al H st Q R->t s H R
def AT(J:KF)(t:TT)(e:DT):Prop:=∀(H0:Hp) (A0:Addr->Prop) (G:Addr->Prop) (al:List (List Addr)) (H:Hp) (st:aK) (s:St) (env:bO) (Q:Bool->aK->Prop) (R:Bool->Hp->Prop),DI J H0 A0 G al H st->pj J (Fb G al st) H al s env->e env st Q->Pj J H0 A0 G al H st Q R->t s H R
def AA(J:KF)(t:TA)(n:Nat)(e:lF):Prop:=∀(H0:Hp) (A0:Addr->Prop) (G:Addr->Prop) (al:List (List Addr)) (H:Hp) (st:aK) (s:St) (env:bO) (Q:List DV->aK->Prop) (R:List V->Hp->Prop),DI J H0 A0 G al H st->pj J (Fb G al st) H al s env->e env st Q->Wl J H0 A0 G al H st (λl s=>l.length=n/\Q l s) R->t s H R
def AO(J:KF)(r:R2)(o:Gv):Prop:=∀(H0:Hp) (A0:Addr->Prop) (G:Addr->Prop) (al:List (List Addr)) (H:Hp) (st:aK) (x y:V) (dx dy:DV) (Q:DC) (R:VK),DI J H0 A0 G al H st->gP J (Fb G al st) H al x dx->gP J (Fb G al st) H al y dy->o dx dy st Q->Kn J H0 A0 G al H st Q R->r x y H R
def AB(J:KF)(r:List V->Hp->VK->Prop)(o:RK):Prop:=∀(H0:Hp) (A0:Addr->Prop) (G:Addr->Prop) (al:List (List Addr)) (H:Hp) (st:aK) (vs:List V) (ds:List DV) (Q:DC) (R:VK),DI J H0 A0 G al H st->cB (gP J (Fb G al st) H al) vs ds->o ds st Q->Kn J H0 A0 G al H st Q R->r vs H R
structure bz(X:Cx)(Y:YK)(e:Expr)(d:DX):Prop where
 h:∃t,PE X e t/\AE (kf X Y) t d
structure wb(X:Cx)(Y:YK)(e:Expr)(d:DT):Prop where
 h:∃t,PT X e t/\AT (kf X Y) t d
structure t9(X:Cx)(Y:YK)(e:Expr)(d:DT):Prop where
 h:∃t,PW X e t/\AT (kf X Y) t d
structure qw(X:Cx)(Y:YK)(es:List Expr)(n:Nat)(d:lF):Prop where
 h:∃t,PA X es t/\AA (kf X Y) t n d
section
variable {K:aJ} {J:KF} {H0:Hp} {A0:Addr->Prop} {G:Addr->Prop} {al bq cu:List (List Addr)} {H H1 H2:Hp} {st aD bu:aK} {Q:DC} {R:VK}
theorem Kn.here(k:Kn J H0 A0 G al H st Q R)(I:DI J H0 A0 G al H st){v:V}{dv:DV}(h:gP J (Fb G al st) H al v dv)(q:Q dv st):R v H:=k dv st al v H .refl I h q
theorem Kn.laid(k:Kn J H0 A0 G al H st Q R)(I:DI J H0 A0 G al H st){v:V}{dv:DV}(s:bD H H1)(h:gP J (Fb G al st) H1 al v dv)(q:Q dv st):R v H1:=k dv st al v H1 (.same s) (I.same s) h q
theorem Kn.go(k:Kn J H0 A0 G al H st Q R)(I:DI J H0 A0 G bq H1 aD)(e:Ext al H st bq H1 aD):Kn J H0 A0 G bq H1 aD Q R:=λdv st' al' v H' e' I' h q=>k dv st' al' v H' (e.trans I e') I' h q
theorem Pj.go{Q:Bool->aK->Prop}{R:Bool->Hp->Prop}(k:Pj J H0 A0 G al H st Q R)(I:DI J H0 A0 G bq H1 aD)(e:Ext al H st bq H1 aD):Pj J H0 A0 G bq H1 aD Q R:=λdv st' al' H' e' I' q=>k dv st' al' H' (e.trans I e') I' q
theorem iy{a:Addr}{o:HO}(h:H a=none):bD H (upd H a o):=λc p e=>by rw[uN (nN e h)];exact e
end
@[reducible] def Es(i:Nat)(env:bO)(st:aK)(Q:DC):Prop:=match env[i]? with
 | some (some dv)=>Q dv st
 | _=>False
@[reducible] def eC(d:PyData)(_:bO)(st:aK)(Q:DC):Prop:=Q (.dat d) st
section
variable {X:Cx} {Y:YK} {a b c e:Expr} {es:List Expr} {pos:Pos} {ea eb ec:DX}
theorem Ln{J:KF}{i:Nat}:AE J (BZ i) (Es i):=λH0 A0 G al H st s env Q R I E h k=>by
 unfold Es at h;split at h
 ·rename_i dv hd;obtain⟨v,h1,h2⟩:=E.2 i dv hd;exact⟨v,h1,k.here I h2 h⟩
 ·exact h.elim
theorem Eu{J:KF}{v:V}{d:PyData}(h:∀H,cy J H v d):AE J (tC v) (eC d):=λH0 A0 G al H st s env Q R I E q k=>k.here I (.d (h _)) q
theorem ae(i:Nat){x:Str}(hN:X.N[i]?=some x:=by rfl)(hv:RD X.env.scope x:=by first | exact Xo rfl | exact YD (Xo rfl) | exact YD (YD rfl))(hd:(x == ("__debug__" : Str))=false:=by decide)
  (hcd:(x == ("__classdict__" : Str))=false:=by decide):bz X Y (.Name x pos) (Es i):=⟨_,Dl hN hv hd hcd,Ln⟩
theorem ah{i j}:bz X Y (.Constant (.int i) j pos) (eC (.int i)):=⟨_,pI,Eu λ_=>.int i⟩
theorem dQ{i j}:bz X Y (.Constant (.bool i) j pos) (eC (.bool i)):=⟨_,rE,Eu λ_=>.bl i⟩
theorem dc{j}:bz X Y (.Constant .none j pos) (eC .none):=⟨_,vE,Eu λ_=>.non⟩
theorem aC{i j}:bz X Y (.Constant (.str i) j pos) (eC (.str i)):=⟨_,Dm,Eu λ_=>.str i⟩
theorem fu{x:Str}{v:V}{u:Value}{d:PyData}(hg:Gl X x)(hm:X.mg x=some u)(r:RelV v u)(h:∀H,cy X.K H v d)(hd:(x == ("__debug__" : Str))=false:=by decide):bz X Y (.Name x pos) (eC d):=⟨_,gp hg hm r hd,Eu h⟩
@[reducible] def pk(o:Gv)(ea eb:DX)(env:bO)(st:aK)(Q:DC):Prop:=ea env st λx aD=>eb env aD λy bu=>o x y bu Q
theorem Bg{J:KF}{r:R2}{o:Gv}{ta tb:TE}(ho:AO J r o)(ha:AE J ta ea)(hb:AE J tb eb):AE J (GI r ta tb) (pk o ea eb):=λH0 A0 G al H st s env Q R I E h k=>by
 refine ha H0 A0 G al H st s env _ _ I E h λx aD bq v H1 e1 I1 d1 q1=>?_
 refine hb H0 A0 G bq H1 aD s env _ _ I1 (E.ext e1) q1 λy bu cu u H2 e2 I2 d2 q2=>?_
 exact ho H0 A0 G cu H2 bu v u x y Q R I2 (d1.ext e2) d2 q2 (k.go I2 (e1.trans I1 e2))
theorem qx{op:Operator}{r:R2}{o:Gv}(ho:gq X (binaryOp op) r)(ao:AO (kf X Y) r o)(ha:bz X Y a ea)(hb:bz X Y b eb):bz X Y (.BinOp a op b pos) (pk o ea eb):=by
 obtain⟨ta,p1,a1⟩:=ha.h;obtain⟨tb,p2,a2⟩:=hb.h;exact⟨_,OE ho p1 p2,Bg ao a1 a2⟩
theorem rZ{op:CmpOp}{r:R2}{o:Gv}(ho:gq X (compareOp op) r)(ao:AO (kf X Y) r o)(ha:bz X Y a ea)(hb:bz X Y b eb)(hm:behindInMarks op b=false):bz X Y (.Compare a [op] [b] pos) (pk o ea eb):=by
 obtain⟨ta,p1,a1⟩:=ha.h;obtain⟨tb,p2,a2⟩:=hb.h;exact⟨_,nS ho p1 p2 hm,Bg ao a1 a2⟩
theorem mI{f:Value->Value->Sem Value}{r r':R2}(h:gq X f r)(h':gq X f r'):gq X f (λx y H Q=>r x y H Q∨r' x y H Q):=λpins s σ H x y v u Q I rx ry q=>by
 rcases q with q | q
 ·exact h pins s σ H x y v u Q I rx ry q
 ·exact h' pins s σ H x y v u Q I rx ry q
@[reducible] def oI(C:Int->Int->Prop)(g:Int->Int->PyData)(x y:DV)(st:aK)(Q:DC):Prop:=match x,y with
 | .dat (.int i),.dat (.int j)=>C i j/\Q (.dat (g i j)) st
 | _,_=>False
@[reducible] def Ht(g:Int->Int->PyData)(x y:DV)(st:aK)(Q:DC):Prop:=match x,y with
 | .dat (.int i),.dat (.int j)=>Q (.dat (g i j)) st
 | _,_=>False
theorem Ew{J:KF}{C:Int->Int->Prop}{g:Int->Int->V}{d:Int->Int->PyData}(h:∀i j H,cy J H (g i j) (d i j)):AO J (rI C g) (oI C d):=λH0 A0 G al H st x y dx dy Q R I a b q k=>by
 unfold oI at q;split at q
 ·rw[aM.aV a,aM.aV b];exact⟨_,_,rfl,rfl,q.1,k.here I (.d (h _ _ _)) q.2⟩
 ·exact q.elim
theorem cL{J:KF}{g:Int->Int->V}{d:Int->Int->PyData}(h:∀i j H,cy J H (g i j) (d i j)):AO J (Dt g) (Ht d):=λH0 A0 G al H st x y dx dy Q R I a b q k=>by
 unfold Ht at q;split at q
 ·rw[aM.aV a,aM.aV b];exact⟨_,_,rfl,rfl,k.here I (.d (h _ _ _)) q⟩
 ·exact q.elim
end
@[reducible] def iz(st:aK):DV->Option (List PyData)
 | .dat (.list ds)=>some ds
 | .ref k=>match st[k]? with
  | some (.live ds)=>some ds
  | some (.froz ds)=>some ds
  | _=>none
 | _=>none
@[reducible] def vc(st:aK):DV->Option PyData
 | .dat d=>some d
 | .ref k=>match st[k]? with
  | some (.live ds)=>some (.list ds)
  | some (.froz ds)=>some (.list ds)
  | _=>none
section
variable {K:aJ} {J:KF} {H0:Hp} {A0:Addr->Prop} {G:Addr->Prop} {al bq cu:List (List Addr)} {H H1 H2:Hp} {st aD bu:aK} {Q:DC} {R:VK}
theorem CA{k:Nat}{ds:List PyData}(e:iz st (.ref k)=some ds):st[k]?=some (.live ds)∨st[k]?=some (.froz ds):=by
 have e:(match st[k]? with | some (.live ds)=>some ds | some (.froz ds)=>some ds | _=>none)=some ds:=e
 revert e
 cases st[k]? with
 | none=>intro e;cases e
 | some c=>cases c with
  | live xs=>intro e;cases e;exact .inl rfl
  | froz xs=>intro e;cases e;exact .inr rfl
  | deep xs=>intro e;cases e
  | obj o=>intro e;cases e
theorem CB{k:Nat}{d:PyData}(e:vc st (.ref k)=some d):∃ds,iz st (.ref k)=some ds/\d=.list ds:=by
 have e:(match st[k]? with | some (.live ds)=>some (PyData.list ds) | some (.froz ds)=>some (.list ds) | _=>none)=some d:=e;show ∃ds,(match st[k]? with | some (.live ds)=>some ds | some (.froz ds)=>some ds | _=>none)=some ds/\d=.list ds
 revert e
 cases st[k]? with
 | none=>intro e;cases e
 | some c=>cases c with
  | live xs=>intro e;cases e;exact⟨_,rfl,rfl⟩
  | froz xs=>intro e;cases e;exact⟨_,rfl,rfl⟩
  | deep xs=>intro e;cases e
  | obj o=>intro e;cases e
theorem gP.J6(I:DI J H0 A0 G al H st){v:V}{x:DV}{ds:List PyData}(h:gP J (Fb G al st) H al v x)(e:iz st x=some ds):∃(a:Addr) (ys:List V),v=.ref a/\fV J H a ys/\cB (aM J (Fb G al st) H) ys ds:=by
 cases x with
 | dat d =>
  cases d with
  | list xs=>cases e;obtain⟨a,ys,h1,h2,_,h3⟩:=aM.jG h;exact⟨a,ys,h1,h2,h3⟩
  | _=>cases e
 | ref k =>
  obtain⟨a,r,h1,h2⟩:=h;rcases CA e with hs | hs
  ·obtain⟨a',ys,e0,g1,g2⟩:=I.cel k _ _ h1 hs;cases e0;exact⟨a,ys,h2,fV.of g1,g2⟩
  ·obtain⟨a',e0,g0⟩:=I.cel k _ _ h1 hs;cases e0;obtain⟨b,ys,g1,g2,_,g3⟩:=aM.jG g0;cases g1;exact⟨a,ys,h2,g2,g3⟩
theorem gP.RL(I:DI J H0 A0 G al H st){v:V}{x:DV}{d:PyData}(h:gP J (Fb G al st) H al v x)(e:vc st x=some d):cy J H v d:=by
 cases x with
 | dat d'=>cases e;exact aM.now h
 | ref k =>
  obtain⟨ds,e1,rfl⟩:=CB e;obtain⟨a,ys,rfl,h2,h3⟩:=h.J6 I e1;exact .lst h2 h3.1 λi x d a b=>(h3.2 i x d a b).now
@[reducible] def mi:DV->aK->(PyData->aK->Prop)->Prop
 | .dat d,st,Q=>Q d st
 | .ref k,st,Q=>match st[k]? with
  | some (.froz ds)=>Q (.list ds) st
  | some (.live ds)=>Q (.list ds) (st.set k (.froz ds))
  | _=>False
@[reducible] def dn:List DV->aK->(List PyData->aK->Prop)->Prop
 | [],st,Q=>Q [] st
 | x::r,st,Q=>mi x st λd aD=>dn r aD λds bu=>Q (d::ds) bu
theorem r8(I:DI J H0 A0 G al H st){v:V}{x:DV}{Q:PyData->aK->Prop}(h:gP J (Fb G al st) H al v x)(q:mi x st Q):∃d aD,Ext al H st al H aD/\DI J H0 A0 G al H aD/\aM J (Fb G al aD) H v d/\Q d aD:=by
 cases x with
 | dat d=>exact⟨d,st,.refl,I,h,q⟩
 | ref k =>
  obtain⟨a,r,h1,rfl⟩:=h;unfold mi at q;dsimp only at q;split at q
  ·rename_i ds hs;obtain⟨a',e0,g0⟩:=I.cel k _ _ h1 hs;cases e0;exact⟨_,st,.refl,I,g0,q⟩
  ·rename_i ds hs;obtain⟨a',e0,E,I',F⟩:=I.freeze h1 hs;cases e0;exact⟨_,_,E,I',F,q⟩
  ·exact q.elim
theorem dY:∀{xs:List DV} {st:aK} {vs:List V} {Q:List PyData->aK->Prop},DI J H0 A0 G al H st->cB (gP J (Fb G al st) H al) vs xs->dn xs st Q->∃ds aD,Ext al H st al H aD/\DI J H0 A0 G al H aD/\cB (aM J (Fb G al aD) H) vs ds/\Q ds aD
 | [],st,vs,Q,I,h,q=>by
  have:=h.1
  cases vs with
  | nil=>exact⟨[],st,.refl,I,.nil,q⟩
  | cons v r=>simp at this
 | x::xs,st,vs,Q,I,h,q=>by
  have:=h.1
  cases vs with
  | nil=>simp at this
  | cons v r =>
   obtain⟨d,aD,E1,I1,F1,q1⟩:=r8 I (h.2 0 v x rfl rfl) q;have h':cB (gP J (Fb G al aD) H al) r xs:=⟨by simpa using this,λi y z a b=>(h.2 (i + 1) y z (by simpa using a) (by simpa using b)).ext E1⟩;obtain⟨ds,bu,E2,I2,F2,q2⟩:=dY I1 h' q1;exact⟨d::ds,bu,E1.trans I1 E2,I2,.cons (F1.ext E2) F2,q2⟩
end
section
variable {X:Cx} {Y:YK} {a b c e:Expr} {es:List Expr} {pos:Pos} {ea eb ec:DX} {K:aJ} {J:KF}
@[reducible] def Ey(_:bO)(st:aK)(Q:List DV->aK->Prop):Prop:=Q [] st
@[reducible] def Bh(ea:DX)(r:lF)(env:bO)(st:aK)(Q:List DV->aK->Prop):Prop:=ea env st λx aD=>r env aD λxs bu=>Q (x::xs) bu
theorem Ez:AA J GN 0 Ey:=λH0 A0 G al H st s env Q R I E h k=>k [] st al [] H .refl I .nil ⟨rfl,h⟩
theorem Hu{ta:TE}{tr:TA}{n:Nat}{r:lF}(ha:AE J ta ea)(hr:AA J tr n r):AA J (JS ta tr) (n + 1) (Bh ea r):=λH0 A0 G al H st s env Q R I E h k=>by
 refine ha H0 A0 G al H st s env _ _ I E h λx aD bq v H1 e1 I1 d1 q1=>?_
 refine hr H0 A0 G bq H1 aD s env _ _ I1 (E.ext e1) q1 λxs bu cu vs H2 e2 I2 d2 q2=>?_
 exact k (x::xs) bu cu (v::vs) H2 (e1.trans I1 e2) I2 (.cons (d1.ext e2) d2) ⟨by simp[q2.1],q2.2⟩
theorem af:qw X Y [] 0 Ey:=⟨_,pN,Ez⟩
theorem aa{n:Nat}{r:lF}(ha:bz X Y e ea)(hr:qw X Y es n r)(hs:starEach (e::es) X.env=(false,eval e X.env)::starEach es X.env:=by rfl):qw X Y (e::es) (n + 1) (Bh ea r):=by
 obtain⟨ta,p1,a1⟩:=ha.h;obtain⟨tb,p2,a2⟩:=hr.h;exact⟨_,pK p1 p2 hs,Hu a1 a2⟩
@[reducible] def Hv(t:lF)(env:bO)(st:aK)(Q:DC):Prop:=t env st λxs aD=>dn xs aD λds bu=>Q (.dat (.tuple ds)) bu
@[reducible] def Hw(t:lF)(env:bO)(st:aK)(Q:DC):Prop:=t env st λxs aD=>dn xs aD λds bu=>Q (.dat (.list ds)) bu
@[reducible] def Bi(t:lF)(env:bO)(st:aK)(Q:DC):Prop:=t env st λxs aD=>dn xs aD λds bu=>Q (.ref bu.length) (bu++[.live ds])
theorem Lo{t:TA}{n:Nat}{d:lF}(hn:n<=sizeLine)(h:AA J t n d):AE J (OL t) (Hv d):=λH0 A0 G al H st s env Q R I E q k=>by
 refine h H0 A0 G al H st s env _ _ I E q λxs aD bq vs H1 e1 I1 d1 q1=>?_
 obtain⟨ds,bu,E2,I2,F2,q2⟩:=dY I1 d1 q1.2;refine⟨by rw[d1.1,q1.1];exact hn,λp hp=>?_⟩;have k2:=k.go I2 (e1.trans I1 E2);exact k2.laid I2 (iy hp) (.d (aM.tup (I2.Hs hp) uS (F2.imp λy x z=>z.same (iy hp)))) q2
theorem Lp{t:TA}{n:Nat}{d:lF}(hn:n<=sizeLine)(h:AA J t n d):AE J (KY t) (Hw d):=λH0 A0 G al H st s env Q R I E q k=>by
 refine h H0 A0 G al H st s env _ _ I E q λxs aD bq vs H1 e1 I1 d1 q1=>?_
 obtain⟨ds,bu,E2,I2,F2,q2⟩:=dY I1 d1 q1.2;refine⟨by rw[d1.1,q1.1];exact hn,λp hp=>?_⟩;have k2:=k.go I2 (e1.trans I1 E2);exact k2.laid I2 (iy hp) (.d (aM.lst (I2.Hs hp) uS (F2.imp λy x z=>z.same (iy hp)))) q2
theorem Kn.cell{H0:Hp}{A0:Addr->Prop}{G:Addr->Prop}{al:List (List Addr)}{H:Hp}{st:aK}{Q:DC}{R:VK}(k:Kn J H0 A0 G al H st Q R)(I:DI J H0 A0 G al H st){p:Addr}{ys:List V}{ds:List PyData}(hp:H p=none)(F:cB (aM J (Fb G al st) H) ys ds)(q:Q (.ref st.length) (st++[.live ds])):R (.ref p) (upd H p (.lst ys)):=by
 obtain⟨E,I'⟩:=I.cell hp F;exact k (.ref st.length) _ _ _ _ E I' ⟨p,[],by rw[← I.len,XO (Xu _),ZZ];rfl,rfl⟩ q
theorem Kn.list{H0:Hp}{A0:Addr->Prop}{G:Addr->Prop}{al:List (List Addr)}{H:Hp}{st:aK}{Q:DC}{R:VK}(k:Kn J H0 A0 G al H st Q R)(I:DI J H0 A0 G al H st){p:Addr}{ys:List V}{ds:List PyData}(hp:H p=none)(F:cB (aM J (Fb G al st) H) ys ds)(q:Q (.dat (.list ds)) st):R (.ref p) (upd H p (.lst ys)) :=
 k.laid I (iy hp) (.d (aM.lst (I.Hs hp) uS (F.imp λy x z=>z.same (iy hp)))) q
theorem Hy{t:TA}{n:Nat}{d:lF}(hn:n<=sizeLine)(h:AA J t n d):AE J (KY t) (Bi d):=λH0 A0 G al H st s env Q R I E q k=>by
 refine h H0 A0 G al H st s env _ _ I E q λxs aD bq vs H1 e1 I1 d1 q1=>?_
 obtain⟨ds,bu,E2,I2,F2,q2⟩:=dY I1 d1 q1.2;exact⟨by rw[d1.1,q1.1];exact hn,λp hp=>(k.go I2 (e1.trans I1 E2)).cell I2 hp F2 q2⟩
theorem au{k n:Nat}{d:lF}(h:qw X Y es n d)(hn:n<=sizeLine:=by decide):bz X Y (.Tuple es k pos) (Hv d):=by
 obtain⟨t,p,a⟩:=h.h;exact⟨_,oZ p,Lo hn a⟩
theorem aF{n:Nat}{d:lF}(h:qw X Y es n d)(hn:n<=sizeLine:=by decide):bz X Y (.List es pos) (Hw d):=by
 obtain⟨t,p,a⟩:=h.h;exact⟨_,zH p,Lp hn a⟩
theorem jH{n:Nat}{d:lF}(h:qw X Y es n d)(hn:n<=sizeLine:=by decide):bz X Y (.List es pos) (Bi d):=by
 obtain⟨t,p,a⟩:=h.h;exact⟨_,zH p,Hy hn a⟩
end
theorem kG{n:Nat}(h:n<=1000000):n<=sizeLine:=XT h (by decide)
section
variable {X:Cx} {Y:YK} {a b c e:Expr} {es:List Expr} {pos:Pos} {ea eb ec:DX} {K:aJ} {J:KF}
@[reducible] def EA(x y:DV)(st:aK)(Q:DC):Prop:=match x,y with
 | .dat (.int i),.dat (.int j)=>Q (.dat (.int (i + j))) st
 | .dat (.str i),.dat (.str j)=>i.length + j.length<=1000000/\Q (.dat (.str (i++j))) st
 | .dat (.tuple i),.dat (.tuple j)=>i.length + j.length<=1000000/\Q (.dat (.tuple (i++j))) st
 | x,y=>match iz st x,iz st y with
  | some i,some j=>i.length + j.length<=1000000/\Q (.dat (.list (i++j))) st
  | _,_=>False
@[reducible] def EC(K:aJ):R2:=λx y H Q=>Dt (λi j=>.int (i + j)) x y H Q∨((∃i j,x=.str i/\y=.str j/\i.length + j.length<=sizeLine/\Q (.str (i++j)) H)∨(J1 K x y H Q∨JW K x y H Q))
theorem Hz:gq X (binaryOp .Add) (EC X.K):=mI KQ (mI zx (mI He G6))
theorem cB.len{α:Type}{R:V->α->Prop}{ys:List V}{xs:List α}(h:cB R ys xs):ys.length=xs.length:=h.1
theorem Lq:AO J (EC J) EA:=λH0 A0 G al H st x y dx dy Q R I h1 h2 q k=>by
 have lists:(match iz st dx,iz st dy with
  | some i,some j=>i.length + j.length<=1000000/\Q (.dat (.list (i++j))) st
  | _,_=>False)->EC J x y H R:=λq=>by
  split at q
  ·rename_i i j e1 e2;obtain⟨a,ys,rfl,g1,g2⟩:=h1.J6 I e1;obtain⟨b,zs,rfl,g3,g4⟩:=h2.J6 I e2;exact .inr (.inr (.inr ⟨a,b,ys,zs,rfl,rfl,g1,g3,by rw[g2.len,g4.len];exact kG q.1,λp hp=>k.list I hp (g2.append g4) q.2⟩))
  ·exact q.elim
 unfold EA at q;split at q
 ·rw[aM.aV h1,aM.aV h2];exact .inl ⟨_,_,rfl,rfl,k.here I (.d (.int _)) q⟩
 ·rw[aM.cv h1,aM.cv h2];exact .inr (.inl ⟨_,_,rfl,rfl,kG q.1,k.here I (.d (.str _)) q.2⟩)
 ·obtain⟨a,ys,rfl,g1,_,g2⟩:=aM.dF h1;obtain⟨b,zs,rfl,g3,_,g4⟩:=aM.dF h2;refine .inr (.inr (.inl ⟨a,b,ys,zs,rfl,rfl,g1,g3,by rw[g2.len,g4.len];exact kG q.1,λp H' s hp=>k.laid I s (.d ?_) q.2⟩));have g:=(g2.append g4).imp λy x z=>z.same s
  exact cy.tup ((I.same s).Lm hp) g.1 g.2
 ·exact lists q
theorem ax(ha:bz X Y a ea)(hb:bz X Y b eb):bz X Y (.BinOp a .Add b pos) (pk EA ea eb):=qx Hz Lq ha hb
theorem dG(ha:bz X Y a ea)(hb:bz X Y b eb):bz X Y (.BinOp a .Sub b pos) (pk (Ht λi j=>.int (i - j)) ea eb):=qx KR (cL λ_ _ _=>.int _) ha hb
def MulOk(i j:Int):Prop:=KP i j∨DY i j
theorem HA:gq X (binaryOp .Mult) (rI MulOk λi j=>.int (i * j)):=OG λ_ _ _ _ _ _ _ hc q=>mul_int q (by rcases hc with h | h;exact h.ok;exact h.ok)
theorem fW(ha:bz X Y a ea)(hb:bz X Y b eb):bz X Y (.BinOp a .Mult b pos) (pk (oI MulOk λi j=>.int (i * j)) ea eb):=qx HA (Ew λ_ _ _=>.int _) ha hb
def ED(j:Int):Prop:=0 < j/\j < 18446744073709551616
theorem EE:gq X (binaryOp .FloorDiv) (rI (λ_ j=>ED j) λi j=>.int (i / j)):=OG λi j _ _ _ _ _ hc q=>by
 have h1:(0:Int) < j:=hc.1;have h2:j < 18446744073709551616:=hc.2;exact floordiv_int (by omega) (by rw[Int.fdiv_eq_ediv_of_nonneg i (by omega)];exact q) (.inl (Eh.ok (i:=i) ⟨by omega,by omega⟩))
theorem aL(ha:bz X Y a ea)(hb:bz X Y b eb):bz X Y (.BinOp a .FloorDiv b pos) (pk (oI (λ_ j=>ED j) λi j=>.int (i / j)) ea eb):=qx EE (Ew λ_ _ _=>.int _) ha hb
theorem ay(ha:bz X Y a ea)(hb:bz X Y b eb):bz X Y (.BinOp a .Mod b pos) (pk (oI (λ_ j=>0 < j) λi j=>.int (i % j)) ea eb):=qx KS (Ew λ_ _ _=>.int _) ha hb
theorem wc(ha:bz X Y a ea)(hb:bz X Y b eb):bz X Y (.BinOp a .Pow b pos) (pk (oI GK λi j=>.int (i ^ j.toNat)) ea eb):=qx KU (Ew λ_ _ _=>.int _) ha hb
theorem zU(ha:bz X Y a ea)(hb:bz X Y b eb):bz X Y (.BinOp a .LShift b pos) (pk (oI GK λi j=>.int (i * 2 ^ j.toNat)) ea eb):=qx KW (Ew λ_ _ _=>.int _) ha hb
@[reducible] def Lr(ea:DX)(env:bO)(st:aK)(Q:DC):Prop:=ea env st λx aD=>match x with
 | .dat (.int i)=>Q (.dat (.int (-i))) aD
 | _=>False
theorem b9(ha:bz X Y a ea):bz X Y (.UnaryOp .USub a pos) (Lr ea):=by
 obtain⟨ta,p1,a1⟩:=ha.h;refine⟨_,JQ Du p1,λH0 A0 G al H st s env Q R I E h k=>a1 H0 A0 G al H st s env _ _ I E h λx aD bq v H1 e1 I1 d1 q1=>?_⟩;split at q1
 ·rw[aM.aV d1];exact⟨_,rfl,(k.go I1 e1).here I1 (.d (.int _)) q1⟩
 ·exact q1.elim
theorem vd(ha:bz X Y a ea)(hb:bz X Y b eb):bz X Y (.Compare a [.Lt] [b] pos) (pk (Ht λi j=>.bool (decide (i < j))) ea eb):=rZ nR (cL λ_ _ _=>.bl _) ha hb (cN _)
theorem Pk(ha:bz X Y a ea)(hb:bz X Y b eb):bz X Y (.Compare a [.LtE] [b] pos) (pk (Ht λi j=>.bool (decide (i<=j))) ea eb):=rZ cR (cL λ_ _ _=>.bl _) ha hb (cN _)
@[reducible] def wd(n:Bool->Bool)(x y:DV)(st:aK)(Q:DC):Prop:=match x,y with
 | .dat (.int i),.dat (.int j)=>Q (.dat (.bool (n (decide (i=j))))) st
 | .dat (.str i),.dat (.str j)=>Q (.dat (.bool (n (decide (i=j))))) st
 | x,y=>match vc st x,vc st y with
  | some i,some j=>(PySem.SeqAt.shaped i=true/\PySem.SeqAt.shaped j=true)/\Q (.dat (.bool (n (PyData.eqv i j)))) st
  | _,_=>False
@[reducible] def Tv(K:aJ):R2:=λx y H Q=>SS x y H Q∨OV K x y H Q
@[reducible] def Tw(K:aJ):R2:=λx y H Q=>U8 x y H Q∨OW K x y H Q
theorem Pl{i j:Int}:decide (V.int i=V.int j)=decide (i=j):=Zp.mpr ⟨V.int.inj,λh=>by rw[h]⟩
theorem Pm{i j:Str}:decide (V.str i=V.str j)=decide (i=j):=Zp.mpr ⟨V.str.inj,λh=>by rw[h]⟩
theorem J7:AO J (Tv J) (wd id):=λH0 A0 G al H st x y dx dy Q R I h1 h2 q k=>by
 unfold wd at q;split at q
 ·rw[aM.aV h1,aM.aV h2];exact .inl ⟨rfl,k.here I (.d (.bl _)) (by rw[Pl];exact q)⟩
 ·rw[aM.cv h1,aM.cv h2];exact .inl ⟨rfl,k.here I (.d (.bl _)) (by rw[Pm];exact q)⟩
 ·split at q
  ·rename_i i j e1 e2;exact .inr ⟨i,j,h1.RL I e1,h2.RL I e2,q.1.1,q.1.2,k.here I (.d (.bl _)) q.2⟩
  ·exact q.elim
theorem Pn:AO J (Tw J) (wd not):=λH0 A0 G al H st x y dx dy Q R I h1 h2 q k=>by
 unfold wd at q;split at q
 ·rw[aM.aV h1,aM.aV h2];exact .inl ⟨rfl,k.here I (.d (.bl _)) (by rw[Pl];exact q)⟩
 ·rw[aM.cv h1,aM.cv h2];exact .inl ⟨rfl,k.here I (.d (.bl _)) (by rw[Pm];exact q)⟩
 ·split at q
  ·rename_i i j e1 e2;exact .inr ⟨i,j,h1.RL I e1,h2.RL I e2,q.1.1,q.1.2,k.here I (.d (.bl _)) q.2⟩
  ·exact q.elim
theorem Bj(hu:X.A.units + 64 < cLine)(ha:bz X Y a ea)(hb:bz X Y b eb):bz X Y (.Compare a [.Eq] [b] pos) (pk (wd id) ea eb):=rZ (mI AZ (DR hu)) J7 ha hb (cN _)
@[reducible] def Bk:DV->Bool
 | .dat .none=>true
 | _=>false
@[reducible] def we(n:Bool->Bool)(x y:DV)(st:aK)(Q:DC):Prop:=match y with
 | .dat .none=>Q (.dat (.bool (n (Bk x)))) st
 | _=>False
theorem sd{H:Hp}{P:Addr->Prop}{al:List (List Addr)}{v:V}{x:DV}(h:gP K P H al v x):decide (v=.non)=Bk x:=by
 cases x with
 | ref k=>obtain⟨a,r,_,rfl⟩:=h;rfl
 | dat d =>
  cases d with
  | none=>rw[aM.fc h];rfl
  | bool b=>rw[aM.gR h];rfl
  | int i=>rw[aM.aV h];rfl
  | str i=>rw[aM.cv h];rfl
  | list ds=>obtain⟨a,ys,rfl,_⟩:=aM.jG h;rfl
  | tuple ds=>obtain⟨a,ys,rfl,_⟩:=aM.dF h;rfl
  | dict kv=>have h:cy K (cutH P H) v (.dict kv):=h;cases h;rfl
theorem Ls(ha:bz X Y a ea)(hb:bz X Y b eb):bz X Y (.Compare a [.Is] [b] pos) (pk (we id) ea eb):=rZ Dw (λH0 A0 G al H st x y dx dy Q R I h1 h2 q k=>by
 unfold we at q;split at q
 ·exact⟨aM.fc h2,k.here I (.d (.bl _)) (by rw[sd h1];exact q)⟩
 ·exact q.elim) ha hb (cN _)
theorem HB(ha:bz X Y a ea)(hb:bz X Y b eb):bz X Y (.Compare a [.IsNot] [b] pos) (pk (we not) ea eb):=rZ vI (λH0 A0 G al H st x y dx dy Q R I h1 h2 q k=>by
 unfold we at q;split at q
 ·exact⟨aM.fc h2,k.here I (.d (.bl _)) (by rw[sd h1];exact q)⟩
 ·exact q.elim) ha hb (cN _)
end
section
variable {X:Cx} {Y:YK} {a b c e:Expr} {es:List Expr} {pos:Pos} {ea eb ec:DX} {K:aJ} {J:KF}
theorem cB.kz{α:Type}{R:V->α->Prop}{ys:List V}{xs:List α}(h:cB R ys xs){i:Int}{x:α}(hx:kz xs i=some x):∃y,L2.kz ys i=some y/\R y x:=by
 unfold L2.kz at hx ⊢;rw[h.1]
 cases q:GU xs.length i with
 | none=>rw[q]at hx;cases hx
 | some j =>
  rw[q]at hx;exact h.at hx
@[reducible] def n4(st:aK):DV->Option (List PyData)
 | .dat (.tuple ds)=>some ds
 | x=>iz st x
theorem gP.Po{H0:Hp}{A0:Addr->Prop}{G:Addr->Prop}{al:List (List Addr)}{H:Hp}{st:aK}(I:DI J H0 A0 G al H st){v:V}{x:DV}{ds:List PyData}(h:gP J (Fb G al st) H al v x)(e:n4 st x=some ds):∃(a:Addr) (ys:List V),v=.ref a/\(fV J H a ys∨e8 J H a ys)/\cB (aM J (Fb G al st) H) ys ds:=by
 unfold n4 at e;split at e
 ·cases e;obtain⟨a,ys,h1,h2,_,h3⟩:=aM.dF h;exact⟨a,ys,h1,.inr h2,h3⟩
 ·obtain⟨a,ys,h1,h2,h3⟩:=h.J6 I e;exact⟨a,ys,h1,.inl h2,h3⟩
@[reducible] def Pp(x y:DV)(st:aK)(Q:DC):Prop:=match x,y with
 | .dat (.str z),.dat (.int i)=>z.length<=1000000/\∃c,L2.kz z.cps.toList i=some c/\Q (.dat (.str ⟨#[c]⟩)) st
 | x,.dat (.int i)=>match n4 st x with
  | some ds=>∃d,L2.kz ds i=some d/\Q (.dat d) st
  | none=>False
 | _,_=>False
theorem Pq:AO J (Va J) Pp:=λH0 A0 G al H st x y dx dy Q R I h1 h2 q k=>by
 unfold Pp at q;split at q
 ·obtain⟨q1,c,q2,q3⟩:=q;rw[aM.cv h1,aM.aV h2];exact .inr (.inr ⟨_,_,c,rfl,rfl,kG q1,q2,k.here I (.d (.str _)) q3⟩)
 ·split at q
  ·rename_i ds e;obtain⟨d,q1,q2⟩:=q;rw[aM.aV h2];obtain⟨a,ys,rfl,g1,g2⟩:=h1.Po I e;obtain⟨z,g3,g4⟩:=g2.kz q1;rcases g1 with g1 | g1
   ·exact .inl ⟨a,ys,_,z,rfl,rfl,g1,g3,k.here I (.d g4) q2⟩
   ·exact .inr (.inl ⟨a,ys,_,z,rfl,rfl,g1,g3,k.here I (.d g4) q2⟩)
  ·exact q.elim
 ·exact q.elim
theorem aY(ha:bz X Y a ea)(hb:bz X Y b eb)(hs:vM b):bz X Y (.Subscript a b pos) (pk Pp ea eb):=by
 obtain⟨ta,p1,a1⟩:=ha.h;obtain⟨tb,p2,a2⟩:=hb.h;exact⟨_,kh DG p1 p2 hs,Bg Pq a1 a2⟩
@[reducible] def mr:PyData->Bool
 | .none=>true
 | .bool _=>true
 | .int _=>true
 | .str _=>true
 | _=>false
theorem Bl{P:Addr->Prop}{H:Hp}{v:V}{d:PyData}(h:aM K P H v d)(f:mr d=true):mj v=true/\∀H',cy K H' v d:=by
 cases d with
 | none=>rw[aM.fc h];exact⟨rfl,λ_=>.non⟩
 | bool b=>rw[aM.gR h];exact⟨rfl,λ_=>.bl b⟩
 | int i=>rw[aM.aV h];exact⟨rfl,λ_=>.int i⟩
 | str i=>rw[aM.cv h];exact⟨rfl,λ_=>.str i⟩
 | _=>cases f
theorem HC{P P':Addr->Prop}{H H':Hp}{v u:V}{d d':PyData}(h:aM K P H v d)(h':aM K P' H' u d')(f:mr d=true)(f':mr d'=true):Gu v u=PyData.eqv d d':=by
 cases d with
 | none=>rw[aM.fc h];cases d' with
  | none=>rw[aM.fc h'];rfl
  | bool b=>rw[aM.gR h'];rfl
  | int i=>rw[aM.aV h'];rfl
  | str i=>rw[aM.cv h'];rfl
  | _=>cases f'
 | bool b=>rw[aM.gR h];cases d' with
  | none=>rw[aM.fc h'];rfl
  | bool b=>rw[aM.gR h'];rfl
  | int i=>rw[aM.aV h'];rfl
  | str i=>rw[aM.cv h'];rfl
  | _=>cases f'
 | int i=>rw[aM.aV h];cases d' with
  | none=>rw[aM.fc h'];rfl
  | bool b=>rw[aM.gR h'];rfl
  | int i=>rw[aM.aV h'];rfl
  | str i=>rw[aM.cv h'];rfl
  | _=>cases f'
 | str i=>rw[aM.cv h];cases d' with
  | none=>rw[aM.fc h'];rfl
  | bool b=>rw[aM.gR h'];rfl
  | int i=>rw[aM.aV h'];rfl
  | str i=>rw[aM.cv h'];rfl
  | _=>cases f'
 | _=>cases f
def inD(x:PyData)(ds:List PyData):Bool:=ds.any λd=>PyData.eqv d x
theorem J8{P:Addr->Prop}{H:Hp}{v:V}{d:PyData}(h:aM K P H v d)(f:mr d=true):∀{ys:List V} {ds:List PyData},cB (aM K P H) ys ds->ds.all mr=true->ys.all mj=true/\NR v ys=inD d ds
 | [],[],_,_=>⟨rfl,rfl⟩
 | [],_::_,r,_=>by have:=r.1;simp at this
 | _::_,[],r,_=>by have:=r.1;simp at this
 | y::ys,x::ds,r,g=>by
  rw[List.all_cons,Bool.and_eq_true]at g;have r0:=r.2 0 y x rfl rfl;obtain⟨z1,z2⟩:=J8 h f (ys:=ys) (ds:=ds) ⟨by simpa using r.1,λi p q a b=>r.2 (i + 1) p q (by simpa using a) (by simpa using b)⟩ g.2;unfold NR inD at z2 ⊢;rw[List.all_cons,List.any_cons,List.any_cons,z1,z2,(Bl r0 g.1).1,HC r0 h g.1 f];exact⟨rfl,rfl⟩
@[reducible] def NU(n:Bool->Bool)(x y:DV)(st:aK)(Q:DC):Prop:=match x with
 | .dat d=>match n4 st y with
  | some ds=>(mr d=true/\ds.all mr=true)/\Q (.dat (.bool (n (inD d ds)))) st
  | none=>False
 | _=>False
theorem J9(neg:Bool):AO J (S0 J neg) (NU (if neg then not else id)):=λH0 A0 G al H st x y dx dy Q R I h1 h2 q k=>by
 unfold NU at q;split at q
 ·split at q
  ·rename_i ds e;obtain⟨a,ys,rfl,g1,g2⟩:=h2.Po I e;obtain⟨z1,z2⟩:=J8 h1 q.1.1 g2 q.1.2;refine⟨a,ys,rfl,g1,(Bl h1 q.1.1).1,z1,k.here I (.d (.bl _)) ?_⟩;rw[z2];cases neg<;>exact q.2
  ·exact q.elim
 ·exact q.elim
theorem fN{x:Str}{l:List Str}:inD (.str x) (l.map PyData.str)=decide (x∈l):=by
 unfold inD;rw[List.any_map,Bool.eq_iff_iff,List.any_eq_true,decide_eq_true_iff]
 constructor
 ·rintro⟨y,h1,h2⟩;have:(y == x)=true:=h2;rw[Ze]at this;exact this ▸ h1
 ·intro h;exact⟨x,h,show(x == x)=true from beq_self_eq_true x⟩
abbrev DO:=bO->aK->(Option Int->aK->Prop)->Prop
@[reducible] def EF(_:bO)(st:aK)(Q:Option Int->aK->Prop):Prop:=Q none st
@[reducible] def EG(e:DX)(env:bO)(st:aK)(Q:Option Int->aK->Prop):Prop:=e env st λx aD=>match x with
 | .dat (.int i)=>Q (some i) aD
 | _=>False
structure RM(X:Cx)(Y:YK)(e:Option Expr)(d:DO):Prop where
 h:∃t,PO X e t/\∀(H0:Hp) (A0:Addr->Prop) (G:Addr->Prop) (al:List (List Addr)) (H:Hp) (st:aK) (s:St) (env:bO) (Q:Option Int->aK->Prop) (R:Option Int->Hp->Prop),DI (kf X Y) H0 A0 G al H st->pj X.K (Fb G al st) H al s env->d env st Q ->
  (∀i st' al' H',Ext al H st al' H' st'->DI (kf X Y) H0 A0 G al' H' st'->Q i st'->R i H')->t s H R
theorem bo:RM X Y none EF:=⟨_,GQ,λH0 A0 G al H st s env Q R I E q k=>k none st al H .refl I q⟩
theorem bp(ha:bz X Y a ea):RM X Y (some a) (EG ea):=by
 obtain⟨ta,p1,a1⟩:=ha.h;refine⟨_,GR p1,λH0 A0 G al H st s env Q R I E q k=>a1 H0 A0 G al H st s env _ _ I E q λx aD bq v H1 e1 I1 d1 q1=>?_⟩;split at q1
 ·rw[aM.aV d1];exact⟨_,rfl,k _ _ _ _ e1 I1 q1⟩
 ·exact q1.elim
def cutD(xs:List PyData)(lo hi:Option Int):List PyData:=(xs.drop (HT.dD xs.length 0 lo)).take (HT.dD xs.length xs.length hi - HT.dD xs.length 0 lo)
theorem cB.cut{P:Addr->Prop}{H:Hp}{ys:List V}{ds:List PyData}(h:cB (aM K P H) ys ds)(lo hi:Option Int):cB (aM K P H) (rN ys lo hi) (cutD ds lo hi):=by
 unfold rN cutD;rw[h.1];exact(h.drop _).take _
@[reducible] def Tx(ea:DX)(lo hi:DO)(env:bO)(st:aK)(Q:DC):Prop:=ea env st λx aD=>lo env aD λl bu=>hi env bu λu jB=>match x with
 | .dat (.str z)=>z.length<=1000000/\Q (.dat (.str (Txt.slice z l u))) jB
 | .dat (.tuple ds)=>Q (.dat (.tuple (cutD ds l u))) jB
 | x=>match iz jB x with
  | some ds=>Q (.dat (.list (cutD ds l u))) jB
  | none=>False
theorem EH{r r':V->Option Int->Option Int->Hp->VK->Prop}(h:Gr X r)(h':Gr X r'):Gr X (λx l u H Q=>r x l u H Q∨r' x l u H Q):=by
 unfold Gr at h h' ⊢
 intros
 rename_i q;rcases q with q | q
 ·apply h<;>assumption
 ·apply h'<;>assumption
theorem Tz:Gr X (λx l u H Q=>J3 x l u H Q∨(O9 X.K x l u H Q∨OT X.K x l u H Q)):=EH Hk (EH Hd GY)
theorem cC{lo hi:Option Expr}{l u:DO}{p2:Pos}(ha:bz X Y a ea)(hl:RM X Y lo l)(hh:RM X Y hi u):bz X Y (.Subscript a (.Slice lo hi none p2) pos) (Tx ea l u):=by
 obtain⟨ta,p1,a1⟩:=ha.h;obtain⟨tl,p2,a2⟩:=hl.h;obtain⟨th,p3,a3⟩:=hh.h;refine⟨_,DF Tz p1 p2 p3,λH0 A0 G al H st s env Q R I E q k=>a1 H0 A0 G al H st s env _ _ I E q λx aD bq v H1 e1 I1 d1 q1=>?_⟩;refine a2 H0 A0 G bq H1 aD s env _ _ I1 (E.ext e1) q1 λi bu cu H2 e2 I2 q2=>?_
 have oU:=e1.trans I1 e2;refine a3 H0 A0 G cu H2 bu s env _ _ I2 (E.ext oU) q2 λj jB Lu H3 e3 I3 q3=>?_
 have k3:=k.go I3 (oU.trans I2 e3);have d3:=(d1.ext e2).ext e3;split at q3
 ·rw[aM.cv d3];exact .inl ⟨_,rfl,kG q3.1,k3.here I3 (.d (.str _)) q3.2⟩
 ·obtain⟨b,ys,rfl,g1,_,g2⟩:=aM.dF d3;refine .inr (.inl ⟨b,ys,rfl,g1,λp H' s hp=>k3.laid I3 s (.d ?_) q3⟩);have g:=(g2.cut i j).imp λy x z=>z.same s
  exact cy.tup ((I3.same s).Lm hp) g.1 g.2
 ·split at q3
  ·rename_i ds e;obtain⟨b,ys,rfl,g1,g2⟩:=d3.J6 I3 e;exact .inr (.inr ⟨b,ys,rfl,g1,λp hp=>k3.list I3 hp (g2.cut i j) q3⟩)
  ·exact q3.elim
@[reducible] def CC(ea:DX)(env:bO)(st:aK)(Q:Bool->aK->Prop):Prop:=ea env st λx aD=>match x with
 | .dat (.bool b)=>Q b aD
 | _=>False
@[reducible] def Bm(t u:DT)(env:bO)(st:aK)(Q:Bool->aK->Prop):Prop:=t env st λb aD=>if b=true then u env aD Q else Q false aD
@[reducible] def HD(t u:DT)(env:bO)(st:aK)(Q:Bool->aK->Prop):Prop:=t env st λb aD=>if b=true then Q true aD else u env aD Q
@[reducible] def EI(t:DT)(env:bO)(st:aK)(Q:Bool->aK->Prop):Prop:=t env st λb aD=>Q (!b) aD
theorem zV{t:TE}{e:DX}(h:AE J t e):AT J (Dx t) (CC e):=λH0 A0 G al H st s env Q R I E q k=>h H0 A0 G al H st s env _ _ I E q λx aD bq v H1 e1 I1 d1 q1=>by
 split at q1
 ·rw[aM.gR d1];exact⟨_,rfl,k _ _ _ _ e1 I1 q1⟩
 ·exact q1.elim
theorem mJ{op:CmpOp}{r:R2}{o:Gv}(ho:gq X (compareOp op) r)(ao:AO (kf X Y) r o)(ha:bz X Y a ea)(hb:bz X Y b eb)(hm:behindInMarks op b=false):wb X Y (.Compare a [op] [b] pos) (CC (pk o ea eb)):=by
 obtain⟨ta,p1,a1⟩:=ha.h;obtain⟨tb,p2,a2⟩:=hb.h;exact⟨_,tR ho p1 p2 hm,zV (Bg ao a1 a2)⟩
theorem xZ(ha:bz X Y a ea)(hb:bz X Y b eb):wb X Y (.Compare a [.Lt] [b] pos) (CC (pk (Ht λi j=>.bool (decide (i < j))) ea eb)):=mJ nR (cL λ_ _ _=>.bl _) ha hb (cN _)
theorem qy(ha:bz X Y a ea)(hb:bz X Y b eb):wb X Y (.Compare a [.Gt] [b] pos) (CC (pk (Ht λi j=>.bool (decide (j < i))) ea eb)):=mJ OJ (cL λ_ _ _=>.bl _) ha hb (cN _)
theorem br(hu:X.A.units + 64 < cLine)(ha:bz X Y a ea)(hb:bz X Y b eb):wb X Y (.Compare a [.Eq] [b] pos) (CC (pk (wd id) ea eb)):=mJ (mI AZ (DR hu)) J7 ha hb (cN _)
theorem Ka(hu:X.A.units + 64 < cLine)(ha:bz X Y a ea)(hb:bz X Y b eb):wb X Y (.Compare a [.NotEq] [b] pos) (CC (pk (wd not) ea eb)):=mJ (mI JR (DU hu)) Pn ha hb (cN _)
theorem ve(ha:bz X Y a ea)(hb:bz X Y b eb)(hm:behindInMarks .In b=false):wb X Y (.Compare a [.In] [b] pos) (CC (pk (NU id) ea eb)):=mJ pd (J9 false) ha hb hm
theorem se(ha:bz X Y a ea)(hb:bz X Y b eb)(hm:behindInMarks .NotIn b=false):wb X Y (.Compare a [.NotIn] [b] pos) (CC (pk (NU not) ea eb)):=mJ vO (J9 true) ha hb hm
theorem HE:AO J (λx y H Q=>y=.non/\Q (.bl (!decide (x=.non))) H) (we not):=λH0 A0 G al H st x y dx dy Q R I h1 h2 q k=>by
 unfold we at q;split at q
 ·exact⟨aM.fc h2,k.here I (.d (.bl _)) (by rw[sd h1];exact q)⟩
 ·exact q.elim
theorem rn(ha:bz X Y a ea)(hb:bz X Y b eb):wb X Y (.Compare a [.IsNot] [b] pos) (CC (pk (we not) ea eb)):=mJ vI HE ha hb (cN _)
theorem fX(ha:bz X Y a ea)(he:∀whole,isTrue a X.env whole=(do let v ← whole;standAt a.pos;holding [v] (truthy v)):=by intro _;rfl):wb X Y a (CC ea):=by
 obtain⟨ta,p1,a1⟩:=ha.h;exact⟨_,gM p1 he,zV a1⟩
variable {rest:List Expr} {ta tb:DT}
theorem cO(ha:wb X Y a ta):wb X Y (.UnaryOp .Not a pos) (EI ta):=by
 obtain⟨t,p1,a1⟩:=ha.h;exact⟨_,oX p1,λH0 A0 G al H st s env Q R I E q k=>a1 H0 A0 G al H st s env _ _ I E q λb aD bq H1 e1 I1 q1=>k _ _ _ _ e1 I1 q1⟩
theorem rq(ha:wb X Y a ta):t9 X Y (.BoolOp .And [a] pos) ta:=by
 obtain⟨t,p1,a1⟩:=ha.h;exact⟨_,pw_and1 p1,a1⟩
theorem iV(ha:wb X Y a ta):t9 X Y (.BoolOp .Or [a] pos) ta:=by
 obtain⟨t,p1,a1⟩:=ha.h;exact⟨_,pw_or1 p1,a1⟩
theorem Lw{t u:TT}(h1:AT J t ta)(h2:AT J u tb):AT J (Ou t u) (Bm ta tb):=λH0 A0 G al H st s env Q R I E q k=>h1 H0 A0 G al H st s env _ _ I E q λb aD bq H1 e1 I1 q1=>by
 cases b with
 | true=>exact cc (h2 H0 A0 G bq H1 aD s env _ _ I1 (E.ext e1) (by rw[XB rfl]at q1;exact q1) (k.go I1 e1))
 | false=>exact bZ (k _ _ _ _ e1 I1 (by rw[XA Xq]at q1;exact q1))
theorem EJ{t u:TT}(h1:AT J t ta)(h2:AT J u tb):AT J (U4 t u) (HD ta tb):=λH0 A0 G al H st s env Q R I E q k=>h1 H0 A0 G al H st s env _ _ I E q λb aD bq H1 e1 I1 q1=>by
 cases b with
 | false=>exact bZ (h2 H0 A0 G bq H1 aD s env _ _ I1 (E.ext e1) (by rw[XA Xq]at q1;exact q1) (k.go I1 e1))
 | true=>exact cc (k _ _ _ _ e1 I1 (by rw[XB rfl]at q1;exact q1))
theorem wg(ha:wb X Y a ta)(hb:t9 X Y (.BoolOp .And (b::rest) pos) tb):t9 X Y (.BoolOp .And (a::b::rest) pos) (Bm ta tb):=by
 obtain⟨t,p1,a1⟩:=ha.h;obtain⟨u,p2,a2⟩:=hb.h;exact⟨_,pw_and p1 p2,Lw a1 a2⟩
theorem kH(ha:wb X Y a ta)(hb:t9 X Y (.BoolOp .Or (b::rest) pos) tb):t9 X Y (.BoolOp .Or (a::b::rest) pos) (HD ta tb):=by
 obtain⟨t,p1,a1⟩:=ha.h;obtain⟨u,p2,a2⟩:=hb.h;exact⟨_,pw_or p1 p2,EJ a1 a2⟩
theorem t9.dt(h:t9 X Y a ta):wb X Y a ta:=by
 obtain⟨t,p1,a1⟩:=h.h;exact⟨_,p1.pt,a1⟩
@[reducible] def EK(ea eb:DX)(env:bO)(st:aK)(Q:DC):Prop:=ea env st λx aD=>match x with
 | .dat (.bool b)=>if b=true then eb env aD Q else Q (.dat (.bool false)) aD
 | _=>False
@[reducible] def Lx(ea eb:DX)(env:bO)(st:aK)(Q:DC):Prop:=ea env st λx aD=>match x with
 | .dat (.bool b)=>if b=true then Q (.dat (.bool true)) aD else eb env aD Q
 | _=>False
theorem wj{op}(h:bz X Y a ea):bz X Y (.BoolOp op [a] pos) ea:=by
 obtain⟨t,p1,a1⟩:=h.h;exact⟨_,vF p1,a1⟩
theorem Bo(ha:bz X Y a ea)(hb:bz X Y (.BoolOp .And (b::rest) pos) eb):bz X Y (.BoolOp .And (a::b::rest) pos) (EK ea eb):=by
 obtain⟨t,p1,a1⟩:=ha.h;obtain⟨u,p2,a2⟩:=hb.h;refine⟨_,zr p1 p2,λH0 A0 G al H st s env Q R I E q k=>a1 H0 A0 G al H st s env _ _ I E q λx aD bq v H1 e1 I1 d1 q1=>?_⟩;split at q1
 ·rename_i b;rw[aM.gR d1];refine⟨_,rfl,?_⟩
  cases b with
  | true=>exact cc (a2 H0 A0 G bq H1 aD s env _ _ I1 (E.ext e1) (by rw[XB rfl]at q1;exact q1) (k.go I1 e1))
  | false=>exact bZ ((k.go I1 e1).here I1 (.d (.bl _)) (by rw[XA Xq]at q1;exact q1))
 ·exact q1.elim
theorem EL(ha:bz X Y a ea)(hb:bz X Y (.BoolOp .Or (b::rest) pos) eb):bz X Y (.BoolOp .Or (a::b::rest) pos) (Lx ea eb):=by
 obtain⟨t,p1,a1⟩:=ha.h;obtain⟨u,p2,a2⟩:=hb.h;refine⟨_,JP p1 p2,λH0 A0 G al H st s env Q R I E q k=>a1 H0 A0 G al H st s env _ _ I E q λx aD bq v H1 e1 I1 d1 q1=>?_⟩;split at q1
 ·rename_i b;rw[aM.gR d1];refine⟨_,rfl,?_⟩
  cases b with
  | false=>exact bZ (a2 H0 A0 G bq H1 aD s env _ _ I1 (E.ext e1) (by rw[XA Xq]at q1;exact q1) (k.go I1 e1))
  | true=>exact cc ((k.go I1 e1).here I1 (.d (.bl _)) (by rw[XB rfl]at q1;exact q1))
 ·exact q1.elim
end
theorem pq{α:Type}{R:V->α->Prop}{vs:List V}{x:α}(h:cB R vs [x]):∃v,vs=[v]/\R v x:=by
 have:=h.1
 match vs,this,h with
 | [v],_,h=>exact⟨v,rfl,h.2 0 v x rfl rfl⟩
theorem zW{α:Type}{R:V->α->Prop}{vs:List V}{x y:α}(h:cB R vs [x,y]):∃v u,vs=[v,u]/\R v x/\R u y:=by
 have:=h.1
 match vs,this,h with
 | [v,u],_,h=>exact⟨v,u,rfl,h.2 0 v x rfl rfl,h.2 1 u y rfl rfl⟩
section
variable {X:Cx} {Y:YK} {a b c e:Expr} {es:List Expr} {pos p:Pos} {ea eb ec:DX} {K:aJ} {J:KF} {x:Str} {id:String} {n:Nat} {d:lF} {r r':List V->Hp->VK->Prop} {o:RK}
@[reducible] def xD(o:RK)(d:lF)(env:bO)(st:aK)(Q:DC):Prop:=d env st λxs aD=>o xs aD Q
theorem Kb{t:TA}(ho:AB J r o)(h:AA J t n d):AE J (SW r t) (xD o d):=λH0 A0 G al H st s env Q R I E q k=>h H0 A0 G al H st s env _ _ I E q λxs aD bq vs H1 e1 I1 d1 q1=>ho H0 A0 G bq H1 aD vs xs Q R I1 d1 q1.2 (k.go I1 e1)
theorem kI(hc:eY X (.builtin id) r)(ho:AB (kf X Y) r o)(hg:Gl X x)(hm:X.mg x=none)(hv:bootBuiltins x=some (.builtin id))(ha:qw X Y (e::es) n d)(hn:x≠"__name__":=by decide)(hdb:(x == ("__debug__" : Str))=false:=by decide)
  (he:starEach (e::es) X.env=(false,eval e X.env)::starEach es X.env:=by rfl) (hpl:(backTo pos (starEach es X.env)).any (·.1)=false:=by rfl):bz X Y (.Call (.Name x p) (e::es) [] pos) (xD o d):=by
 obtain⟨t,p1,a1⟩:=ha.h;exact⟨_,cV hc hg hm hv p1 hn hdb he hpl,Kb ho a1⟩
theorem vf{T:String}(hc:eY X (.type T) r)(ho:AB (kf X Y) r o)(hg:Gl X x)(hm:X.mg x=none)(hv:bootBuiltins x=some (.type T))(ha:qw X Y (e::es) n d)(hn:x≠"__name__":=by decide)(hdb:(x == ("__debug__" : Str))=false:=by decide)
  (he:starEach (e::es) X.env=(false,eval e X.env)::starEach es X.env:=by rfl) (hpl:(backTo pos (starEach es X.env)).any (·.1)=false:=by rfl):bz X Y (.Call (.Name x p) (e::es) [] pos) (xD o d):=by
 obtain⟨t,p1,a1⟩:=ha.h;exact⟨_,Cb hc hg hm hv p1 hn hdb he hpl,Kb ho a1⟩
theorem Kc{f:Value}(h:eY X f r)(h':eY X f r'):eY X f (λxs H Q=>r xs H Q∨r' xs H Q):=λpins s σ H xs us Q I rv q=>by
 rcases q with q | q
 ·exact h pins s σ H xs us Q I rv q
 ·exact h' pins s σ H xs us Q I rv q
@[reducible] def EM(xs:List DV)(st:aK)(Q:DC):Prop:=match xs with
 | [.dat (.str z)]=>z.length<=1000000/\Q (.dat (.int z.length)) st
 | [x]=>match n4 st x with
  | some ds=>Q (.dat (.int ds.length)) st
  | none=>False
 | _=>False
theorem Ly:AB J (λxs H Q=>(∃p ys,xs=[.ref p]/\(fV J H p ys∨e8 J H p ys)/\Q (.int ys.length) H)∨∃z,xs=[.str z]/\z.length<=sizeLine/\Q (.int z.length) H) EM:=λH0 A0 G al H st vs ds Q R I h q k=>by
 unfold EM at q;split at q
 ·obtain⟨v,rfl,h1⟩:=pq h;rw[aM.cv h1];exact .inr ⟨_,rfl,kG q.1,k.here I (.d (.int _)) q.2⟩
 ·split at q
  ·rename_i ds e;obtain⟨v,rfl,h1⟩:=pq h;obtain⟨p,ys,rfl,g1,g2⟩:=h1.Po I e;exact .inl ⟨p,ys,rfl,g1,k.here I (.d (.int _)) (by rw[g2.len];exact q)⟩
  ·exact q.elim
 ·exact q.elim
theorem aI(hg:Gl X "len")(hm:X.mg "len"=none)(ha:qw X Y [e] n d)(he:starEach [e] X.env=(false,eval e X.env)::starEach [] X.env:=by rfl):bz X Y (.Call (.Name "len" p) [e] [] pos) (xD EM d):=kI (Kc vP vQ) Ly hg hm K8 ha (by decide) (by decide) he rfl
@[reducible] def x5(xs:List DV)(st:aK)(Q:DC):Prop:=match xs with
 | [x]=>match n4 st x with
  | some ds=>Q (.dat (.list ds)) st
  | none=>False
 | _=>False
theorem HG:AB J (λxs H Q=>∃p ys,xs=[.ref p]/\(fV J H p ys∨e8 J H p ys)/\∀l,H l=none->Q (.ref l) (upd H l (.lst ys))) x5:=λH0 A0 G al H st vs ds Q R I h q k=>by
 unfold x5 at q;split at q
 ·split at q
  ·rename_i ds e;obtain⟨v,rfl,h1⟩:=pq h;obtain⟨p,ys,rfl,g1,g2⟩:=h1.Po I e;exact⟨p,ys,rfl,g1,λl hl=>k.list I hl g2 q⟩
  ·exact q.elim
 ·exact q.elim
theorem n5(hg:Gl X "list")(hm:X.mg "list"=none)(ha:qw X Y [e] n d)(he:starEach [e] X.env=(false,eval e X.env)::starEach [] X.env:=by rfl):bz X Y (.Call (.Name "list" p) [e] [] pos) (xD x5 d):=vf vR HG hg hm G2 ha (by decide) (by decide) he rfl
@[reducible] def EN(xs:List DV)(st:aK)(Q:DC):Prop:=match xs with
 | [.dat (.int i),.dat (.int j)]=>Q (.dat (.int (if j < i then j else i))) st
 | _=>False
@[reducible] def EO(xs:List DV)(st:aK)(Q:DC):Prop:=match xs with
 | [.dat (.int i),.dat (.int j)]=>Q (.dat (.int (if j > i then j else i))) st
 | [x]=>match iz st x with
  | some ds=>∃ns:List Int,ds=ns.map PyData.int/\0 < ns.length/\∀m,m∈ns->(∀a∈ns,a<=m)->Q (.dat (.int m)) st
  | none=>False
 | _=>False
theorem rz{P:Addr->Prop}{H:Hp}:∀{ys:List V} {ns:List Int},cB (aM K P H) ys (ns.map PyData.int)->ys=ns.map V.int
 | [],[],_=>rfl
 | [],_::_,h=>by have:=h.1;simp at this
 | _::_,[],h=>by have:=h.1;simp at this
 | y::ys,i::ns,h=>by
  have h0:=aM.aV (h.2 0 y (.int i) rfl rfl);have ht:=rz (ys:=ys) (ns:=ns) ⟨by simpa using h.1,λj p q a b=>h.2 (j + 1) p q (by simpa using a) (by simpa using b)⟩;rw[h0,ht];rfl
theorem Lz:AB J (λxs H Q=>∃i j,xs=[.int i,.int j]/\Q (.int (if j < i then j else i)) H) EN:=λH0 A0 G al H st vs ds Q R I h q k=>by
 unfold EN at q;split at q
 ·obtain⟨v,u,rfl,h1,h2⟩:=zW h;rw[aM.aV h1,aM.aV h2];exact⟨_,_,rfl,k.here I (.d (.int _)) q⟩
 ·exact q.elim
theorem LA:AB J (λxs H Q=>(∃i j,xs=[.int i,.int j]/\Q (.int (if j > i then j else i)) H)∨JX J xs H Q) EO:=λH0 A0 G al H st vs ds Q R I h q k=>by
 unfold EO at q;split at q
 ·obtain⟨v,u,rfl,h1,h2⟩:=zW h;rw[aM.aV h1,aM.aV h2];exact .inl ⟨_,_,rfl,k.here I (.d (.int _)) q⟩
 ·split at q
  ·rename_i ds e;obtain⟨ns,rfl,q1,q2⟩:=q;obtain⟨v,rfl,h1⟩:=pq h;obtain⟨p,ys,rfl,g1,g2⟩:=h1.J6 I e;rw[rz g2]at g1;exact .inr ⟨p,ns,rfl,g1,q1,λm hm ha=>k.here I (.d (.int _)) (q2 m hm ha)⟩
  ·exact q.elim
 ·exact q.elim
theorem LB(hc:X.calm=true)(hg:Gl X "min")(hm:X.mg "min"=none)(ha:qw X Y (e::es) n d)(he:starEach (e::es) X.env=(false,eval e X.env)::starEach es X.env:=by rfl)(hpl:(backTo pos (starEach es X.env)).any (·.1)=false:=by rfl):bz X Y (.Call (.Name "min" p) (e::es) [] pos) (xD EN d):=kI (B6 hc) Lz hg hm DM ha (by decide) (by decide) he hpl
theorem LC(hc:X.calm=true)(hg:Gl X "max")(hm:X.mg "max"=none)(ha:qw X Y (e::es) n d)(he:starEach (e::es) X.env=(false,eval e X.env)::starEach es X.env:=by rfl)(hpl:(backTo pos (starEach es X.env)).any (·.1)=false:=by rfl):bz X Y (.Call (.Name "max" p) (e::es) [] pos) (xD EO d):=kI (Kc (B5 hc) (Ck hc)) LA hg hm K9 ha (by decide) (by decide) he hpl
@[reducible] def ER(xs:List DV)(st:aK)(Q:DC):Prop:=match xs with
 | [.dat (.int i)]=>Q (.dat (.int i)) st
 | [.dat (.bool b)]=>Q (.dat (.int (if b then 1 else 0))) st
 | _=>False
theorem LD:AB J (λxs H Q=>(∃i,xs=[.int i]/\Q (.int i) H)∨∃k,xs=[.bl k]/\Q (.int (if k then 1 else 0)) H) ER:=λH0 A0 G al H st vs ds Q R I h q k=>by
 unfold ER at q;split at q
 ·obtain⟨v,rfl,h1⟩:=pq h;rw[aM.aV h1];exact .inl ⟨_,rfl,k.here I (.d (.int _)) q⟩
 ·obtain⟨v,rfl,h1⟩:=pq h;rw[aM.gR h1];exact .inr ⟨_,rfl,k.here I (.d (.int _)) q⟩
 ·exact q.elim
theorem fO(hg:Gl X "int")(hm:X.mg "int"=none)(ha:qw X Y [e] n d)(he:starEach [e] X.env=(false,eval e X.env)::starEach [] X.env:=by rfl):bz X Y (.Call (.Name "int" p) [e] [] pos) (xD ER d):=vf B7 LD hg hm zN ha (by decide) (by decide) he rfl
abbrev ES:=List PyData->(PyData->Prop)->Prop
def ko(K:aJ)(T:ES):Sp:=λvs H Q _=>∃(P:Addr->Prop) (ds:List PyData),(∀c,P c->∃o,H c=some o/\kE o)/\cB (aM K P H) vs ds/\T ds λd=>∀v H',bD H H'->aM K P H' v d->Q v H'
def jm(K:aJ)(sp:Sp)(T:ES):Prop:=∀(vs:List V) (H:Hp) (Q:VK) (P:Addr->Prop) (ds:List PyData),(∀c,P c->∃o,H c=some o/\kE o)->cB (aM K P H) vs ds->T ds (λd=>∀v H',bD H H'->aM K P H' v d->Q v H')->sp vs H Q E0
theorem bU{T:ES}:jm K (ko K T) T:=λvs H Q P ds h1 h2 h3=>⟨P,ds,h1,h2,h3⟩
def cz(T:ES):Prop:=∀ds (Q Q':PyData->Prop),(∀d,Q d->Q' d)->T ds Q->T ds Q'
@[reducible] def x6(T:ES)(xs:List DV)(st:aK)(Q:DC):Prop:=dn xs st λds aD=>T ds λd=>Q (.dat d) aD
theorem kJ{H:Hp}{v:V}{d:PyData}(h:cy K H v d):aM K (λ_=>False) H v d:=cy.same (λc o e=>cM.mpr ⟨λz=>z,e⟩) h
theorem Bp{sp:Sp}{T:ES}(h:jm J sp T)(m:cz T):AB J (λvs H Q=>sp (vs++[]) H Q E0) (x6 T):=λH0 A0 G al H st vs ds Q R I hp q k=>by
 obtain⟨es,aD,E1,I1,F1,q1⟩:=dY I hp q;rw[Ys];refine h vs H R (Fb G al aD) es (λc hc=>I1.rY hc) F1 (m _ _ _ (λd hd v H' s r=>?_) q1);exact(k.go I1 E1).laid I1 s (.d r) hd
theorem Bq{sp:Sp}{t:TA}(h:AB J (λvs H Q=>sp (vs++[]) H Q E0) o)(ha:AA J t n d):AE J (rL sp [] E0 t) (xD o d):=λH0 A0 G al H st s env Q R I E q k=>ha H0 A0 G al H st s env _ _ I E q λxs aD bq vs H1 e1 I1 d1 q1=>h H0 A0 G bq H1 aD vs xs Q R I1 d1 q1.2 (k.go I1 e1)
theorem aA{kk:Nat}{ps:List Str}{sp:Sp}{T:ES}(h:dj X.prog X.w X.K X.mg X.base bM x kk ps sp)(hs:jm X.K sp T)(m:cz T)(hr:cK kk X.A)(hg:Gl X x)(ha:qw X Y (e::es) n d)(hdb:(x == ("__debug__" : Str))=false:=by decide)
  (he:starEach (e::es) X.env=(false,eval e X.env)::starEach es X.env:=by rfl) (hpl:(backTo pos (starEach es X.env)).any (·.1)=false:=by rfl):bz X Y (.Call (.Name x p) (e::es) [] pos) (xD (x6 T) d):=by
 obtain⟨t,p1,a1⟩:=ha.h;exact⟨_,A5 h hr hg p1 hdb he hpl,Bq (Bp hs m) a1⟩
theorem ET{kk:Nat}{ps:List Str}{sp:Sp}{T:ES}(h:dj X.prog X.w X.K X.mg X.base bM x kk ps sp)(hs:jm X.K sp T)(m:cz T)(hr:cK kk X.A)(hg:Gl X x)(hdb:(x == ("__debug__" : Str))=false:=by decide):bz X Y (.Call (.Name x p) [] [] pos) (xD (x6 T) Ey):=⟨_,Lc h hr hg hdb,Bq (Bp hs m) Ez⟩
end
abbrev pA:=bO->aK->(List PyData->(aK->Prop)->aK->Prop)->Prop
def Vo(J:KF)(H0:Hp)(A0:Addr->Prop)(G:Addr->Prop)(al:List (List Addr))(H:Hp)(st:aK)(Jj:It)(xs:List PyData)(ok:aK->Prop):Prop:=∀(G1:Addr->Prop) (bq:List (List Addr)) (H1:Hp) (aD:aK) (i:Nat),(∀c,G1 c->G c∨H c=none)->Ext al H st bq H1 aD->DI J H0 A0 G1 bq H1 aD->ok aD ->
 (∀d,xs[i]?=some d->Jj.go i H1/\∀x H2,Jj.yld i H1 x H2->bD H1 H2/\aM J (Fb G1 bq aD) H2 x d)/\(xs.length<=i->i<=xs.length->Jj.stop i H1)
def AI(J:KF)(wi:TI)(di:pA):Prop:=∀(H0:Hp) (A0:Addr->Prop) (G:Addr->Prop) (al:List (List Addr)) (H:Hp) (st:aK) (s:St) (env:bO) (Q:List PyData->(aK->Prop)->aK->Prop) (R:It->Hp->Prop),DI J H0 A0 G al H st->pj J (Fb G al st) H al s env->di env st Q ->
 (∀Jj xs ok st' al' H',Ext al H st al' H' st'->DI J H0 A0 G al' H' st'->Vo J H0 A0 G al' H' st' Jj xs ok->Q xs ok st'->R Jj H')->wi s H R
structure EU(X:Cx)(Y:YK)(tg iter:Expr)(d:pA):Prop where
 h:∃wi,PI X tg iter wi/\AI (kf X Y) wi d
def Vp(K:aJ)(tl:TE):TI:=λσ H R=>tl σ H λx H1=>∃a,x=.ref a/\(((∃xs,fV K H1 a xs)/\R (KN K a) H1)∨((∃xs,e8 K H1 a xs)/\R (SO K a) H1))
theorem Pr{X:Cx}{tg l:Expr}{tl:TE}(hl:PE X l tl):PI X tg l (Vp X.K tl):=by
 intro pins s σ H R I h;refine ck (hl pins s σ H _ I h) λv s1 ⟨x,H1,I1,r1,q1⟩=>?_
 obtain⟨a,e,q⟩:=q1;subst e;cases r1
 have fin:∀b∈[s1.heap.objs.size],nP X pins H1 b:=λb hb=>by
  have e:b=s1.heap.objs.size:=by simpa using hb
  subst e;exact I1.B1 (Xu _) (I1.hok.fresh (Xu _))
 rcases q with⟨⟨xs,hq⟩,q⟩ | ⟨⟨xs,hq⟩,q⟩
 ·obtain⟨its,rv,p,hz⟩:=I1.list hq;refine ZO p.isList ?_;exact⟨s1.heap.objs.size,[s1.heap.objs.size],_,_,H1,rfl,I1.kept (t':=s1.toks) λb o e=>Xl _ e,uO a _,⟨_,Xz _ rfl,rfl,rfl⟩,fin,q⟩
 ·obtain⟨its,rv,p,hz⟩:=I1.tuple hq;refine ZG (show s1.heap.IsTuple a its.toArray from p) ?_;exact⟨s1.heap.objs.size,[s1.heap.objs.size],_,_,H1,rfl,I1.kept (t':=s1.toks) λb o e=>Xl _ e,zt a _,⟨_,Xz _ rfl,rfl,rfl⟩,fin,q⟩
def Pu(K:aJ)(ta:TA):TI:=λσ H R=>ta σ H λvs H1=>∃q1 q2 l1 l2 xs ys,vs=[.ref l1,.ref l2]/\uY q1 K H1 l1 xs/\uY q2 K H1 l2 ys/\R (Vh q1 q2 K l1 l2 xs ys) H1
theorem HH{X:Cx}{elts:List Expr}{kx}{tpos:Pos}{a b:Expr}{ta:TA}{p pos:Pos}(hg:Gl X "zip")(hm:X.mg "zip"=none)(ha:PA X [a,b] ta)(hs:starEach [a,b] X.env=[(false,eval a X.env),(false,eval b X.env)]:=by rfl)(GH:starEach [b] X.env=[(false,eval b X.env)]:=by rfl):
  PI X (.Tuple elts kx tpos) (.Call (.Name "zip" p) [a,b] [] pos) (Pu X.K ta):=by
 intro pins s σ H R I h;refine Call_ (ky I hg hm Lb (Yl (ck (ha pos pins s σ H _ I h) λus s1 ⟨vs,H1,I1,r1,q1⟩=>?_) (by rw[hs,GH]) (by rw[GH];rfl)));obtain⟨w1,w2,l1,l2,xs,ys,rfl,s1',s2',q⟩:=q1;obtain⟨u1,u2,rfl,O2,O3⟩:=vals2 r1;cases O2;cases O3;obtain⟨V8,r1,p1⟩:=s1'.heap I1;obtain⟨W5,r2,p2⟩:=s2'.heap I1;have n1:=p1.lt;have n2:=p2.lt;refine Co p1 p2 λh' hz hTI hTO h1 h2 kk=>?_
 refine wpAny_pyIter_zip hz ?_;refine⟨s1.heap.objs.size + 4,[s1.heap.objs.size + 4,s1.heap.objs.size + 2,s1.heap.objs.size + 3,s1.heap.objs.size,s1.heap.objs.size + 1],_,_,H1,rfl,I1.kept (t':=s1.toks) kk,Eb xs ys ⟨?_,?_,?_,?_,?_,?_,?_,?_,?_,?_,?_,?_,?_,?_,?_,?_,?_,?_⟩,⟨hz,hTI,⟨_,_,hTO⟩,h1,h2⟩,?_,q⟩
 all_goals first | exact Xv (Nat.add_lt_add_left (by decide) _) | exact Yr (Nat.add_lt_add_left (by decide) _) | exact Xv (Z3 (by decide)) | exact Yr (Z3 (by decide)) | exact Xv (Xs n1 (YG _ _)) | exact Xv (Xs n2 (YG _ _)) | exact Xv n1 | exact Xv n2 | skip
 intro c hb
 have hb':s1.heap.objs.size<=c:=by
  simp at hb;rcases hb with e | e | e | e | e<;>(rw[e];first | exact Nat.le_refl _ | exact Nat.le_add_right _ _)
 exact I1.B1 hb' (I1.hok.fresh hb')
section
variable {X:Cx} {Y:YK} {tg a b c e:Expr} {es:List Expr} {pos p:Pos} {ea eb ec:DX} {K:aJ} {J:KF} {n:Nat} {d:lF}
theorem aM.seq{P:Addr->Prop}{H:Hp}{v:V}{d:PyData}{ds:List PyData}(h:aM K P H v d)(e:d=.list ds∨d=.tuple ds):∃q a ys,v=.ref a/\uY q K (cutH P H) a ys/\uY q K H a ys/\cB (aM K P H) ys ds:=by
 rcases e with rfl | rfl
 ·obtain⟨a,ys,h1,h2,h3,h4⟩:=aM.jG h;exact⟨true,a,ys,h1,h3,h2,h4⟩
 ·obtain⟨a,ys,h1,h2,h3,h4⟩:=aM.dF h;exact⟨false,a,ys,h1,h3,h2,h4⟩
theorem uY.cut{P:Addr->Prop}{H:Hp}{q:Bool}{a:Addr}{ys:List V}(h:uY q K (cutH P H) a ys):uY q K H a ys:=by
 cases q with
 | true=>exact cf.seq h
 | false=>exact cf.tup h
theorem uY.same{H H':Hp}{q:Bool}{a:Addr}{ys:List V}(h:uY q K H a ys)(s:bD H H'):uY q K H' a ys:=by
 cases q with
 | true=>exact s.seq h
 | false=>exact s.tup h
@[reducible] def HI(ea:DX)(env:bO)(st:aK)(Q:List PyData->(aK->Prop)->aK->Prop):Prop:=ea env st λx aD=>mi x aD λd bu=>match d with
 | .list ds=>Q ds (λ_=>True) bu
 | .tuple ds=>Q ds (λ_=>True) bu
 | _=>False
theorem LF{t:TE}(h:AE J t ea):AI J (Vp J t) (HI ea):=λH0 A0 G al H st s env Q R I E q k=>h H0 A0 G al H st s env _ _ I E q λx aD bq v H1 e1 I1 d1 q1=>by
 obtain⟨d,bu,E2,I2,F2,q2⟩:=r8 I1 d1 q1
 obtain⟨ds,ed,q2⟩:∃ds,(d=.list ds∨d=.tuple ds)/\Q ds (λ_=>True) bu:=by
  split at q2
  ·exact⟨_,.inl rfl,q2⟩
  ·exact⟨_,.inr rfl,q2⟩
  ·exact q2.elim
 obtain⟨w,a,ys,rfl,g1,g2,g3⟩:=F2.seq ed;refine⟨a,rfl,?_⟩;have oU:=e1.trans I1 E2
 cases w with
 | true =>
  refine .inl ⟨⟨ys,g2⟩,k (KN J a) ds _ bu bq H1 oU I2 (λG1 Lu H3 jB i hG e3 I3 _=>⟨λd hd=>?_,λh1 _=>?_⟩) q2⟩
  ·have s3:=(cS hG e3).seq g1;obtain⟨y,hy,_⟩:=g3.at hd;refine⟨⟨ys,y,cf.seq s3,hy⟩,λx H4 ⟨e4,z⟩=>?_⟩;subst e4;have:=z ys (cf.seq s3);exact⟨.refl _,(g3.2 i x d this hd).iU hG e3⟩
  ·exact⟨ys,cf.seq ((cS hG e3).seq g1),by rw[g3.1];exact h1⟩
 | false =>
  refine .inr ⟨⟨ys,g2⟩,k (SO J a) ds _ bu bq H1 oU I2 (λG1 Lu H3 jB i hG e3 I3 _=>⟨λd hd=>?_,λh1 _=>?_⟩) q2⟩
  ·have s3:=(cS hG e3).tup g1;obtain⟨y,hy,_⟩:=g3.at hd;refine⟨⟨ys,y,cf.tup s3,hy⟩,λx H4 ⟨e4,z⟩=>?_⟩;subst e4;have:=z ys (cf.tup s3);exact⟨.refl _,(g3.2 i x d this hd).iU hG e3⟩
  ·exact⟨ys,cf.tup ((cS hG e3).tup g1),by rw[g3.1];exact h1⟩
theorem mK(h:bz X Y a ea):EU X Y tg a (HI ea):=by
 obtain⟨t,p1,a1⟩:=h.h;exact⟨_,Pr p1,LF a1⟩
def ug(lo:Int)(m:Nat):List PyData:=(List.range m).map λ(k:Nat)=>PyData.int (lo + (k:Int))
theorem bJ{lo:Int}{m:Nat}:(ug lo m).length=m:=by unfold ug;rw[List.length_map,List.length_range]
theorem cZ{lo:Int}{m i:Nat}{d:PyData}(h:(ug lo m)[i]?=some d):i < m/\d=.int (lo + (i:Int)):=by
 have hi:=(bX h).1;rw[bJ]at hi;unfold ug at h;rw[List.getElem?_map,List.getElem?_range hi]at h;cases h;exact⟨hi,rfl⟩
@[reducible] def wm(d:lF)(env:bO)(st:aK)(Q:List PyData->(aK->Prop)->aK->Prop):Prop:=d env st λxs aD=>match xs with
 | [.dat (.int j)]=>(-(2 ^ 62)<=j/\j < 2 ^ 62)/\Q (ug 0 j.toNat) (λ_=>True) aD
 | _=>False
@[reducible] def wo(d:lF)(env:bO)(st:aK)(Q:List PyData->(aK->Prop)->aK->Prop):Prop:=d env st λxs aD=>match xs with
 | [.dat (.int i),.dat (.int j)]=>(-(2 ^ 62)<=i/\i < 2 ^ 62/\-(2 ^ 62)<=j/\j < 2 ^ 62)/\Q (ug i (j - i).toNat) (λ_=>True) aD
 | _=>False
theorem Br{H0:Hp}{A0:Addr->Prop}{G:Addr->Prop}{al:List (List Addr)}{H:Hp}{st:aK}{lo:Int}{m:Nat}{ok:aK->Prop}:Vo J H0 A0 G al H st (OA lo m) (ug lo m) ok:=λG1 bq H1 aD i hG e1 I1 _=>by
 refine⟨λd hd=>?_,λh1 _=>by rw[bJ]at h1;exact h1⟩;obtain⟨hi,rfl⟩:=cZ hd;refine⟨hi,λx H2 ⟨e,z⟩=>?_⟩;subst e;subst z;exact⟨.refl _,.int _⟩
theorem cD(hg:Gl X "range")(hm:X.mg "range"=none)(ha:qw X Y [a] n d)(hs:starEach [a] X.env=[(false,eval a X.env)]:=by rfl):EU X Y tg (.Call (.Name "range" p) [a] [] pos) (wm d):=by
 obtain⟨t,p1,a1⟩:=ha.h;refine⟨_,B2 hg hm p1 hs,λH0 A0 G al H st s env Q R I E q k=>a1 H0 A0 G al H st s env _ _ I E q λxs aD bq vs H1 e1 I1 d1 q1=>?_⟩;have q1:=q1.2;split at q1
 ·obtain⟨v,rfl,h1⟩:=pq d1;rw[aM.aV h1];exact⟨_,rfl,q1.1.1,q1.1.2,k _ _ _ aD bq H1 e1 I1 Br q1.2⟩
 ·exact q1.elim
theorem vg(hg:Gl X "range")(hm:X.mg "range"=none)(ha:qw X Y [a,b] n d)(hs:starEach [a,b] X.env=[(false,eval a X.env),(false,eval b X.env)]:=by rfl)(GH:starEach [b] X.env=[(false,eval b X.env)]:=by rfl):EU X Y tg (.Call (.Name "range" p) [a,b] [] pos) (wo d):=by
 obtain⟨t,p1,a1⟩:=ha.h;refine⟨_,B3 hg hm p1 hs GH,λH0 A0 G al H st s env Q R I E q k=>a1 H0 A0 G al H st s env _ _ I E q λxs aD bq vs H1 e1 I1 d1 q1=>?_⟩;have q1:=q1.2;split at q1
 ·obtain⟨v,u,rfl,h1,h2⟩:=zW d1;rw[aM.aV h1,aM.aV h2];exact⟨_,_,rfl,q1.1,k _ _ _ aD bq H1 e1 I1 Br q1.2⟩
 ·exact q1.elim
def CD(xs ys:List PyData):List PyData:=(xs.zip ys).map λp=>PyData.tuple [p.1,p.2]
@[reducible] def EV:PyData->Option (List PyData)
 | .list ds=>some ds
 | .tuple ds=>some ds
 | _=>none
theorem Bs{d:PyData}{ds:List PyData}(h:EV d=some ds):d=.list ds∨d=.tuple ds:=by
 cases d with
 | list x=>cases h;exact .inl rfl
 | tuple x=>cases h;exact .inr rfl
 | _=>cases h
@[reducible] def EW(d:lF)(env:bO)(st:aK)(Q:List PyData->(aK->Prop)->aK->Prop):Prop:=d env st λxs aD=>dn xs aD λds bu=>match ds with
 | [x,y]=>match EV x,EV y with
  | some xs,some ys=>Q (CD xs ys) (λ_=>True) bu
  | _,_=>False
 | _=>False
theorem EX{elts:List Expr}{kx}{tpos:Pos}(hg:Gl X "zip")(hm:X.mg "zip"=none)(ha:qw X Y [a,b] n d)(hs:starEach [a,b] X.env=[(false,eval a X.env),(false,eval b X.env)]:=by rfl)(GH:starEach [b] X.env=[(false,eval b X.env)]:=by rfl):EU X Y (.Tuple elts kx tpos) (.Call (.Name "zip" p) [a,b] [] pos) (EW d):=by
 obtain⟨t,p1,a1⟩:=ha.h;refine⟨_,HH hg hm p1 hs GH,λH0 A0 G al H st s env Q R I E q k=>a1 H0 A0 G al H st s env _ _ I E q λxs aD bq vs H1 e1 I1 d1 q1=>?_⟩;obtain⟨ds,bu,E2,I2,F2,q2⟩:=dY I1 d1 q1.2;have oU:=e1.trans I1 E2;split at q2
 ·split at q2
  ·rename_i us ws c1 c2;obtain⟨v,u,rfl,h1,h2⟩:=zW F2;obtain⟨w1,l1,ys,rfl,f1,f2,f3⟩:=h1.seq (Bs c1);obtain⟨w2,l2,zs,rfl,g1,g2,g3⟩:=h2.seq (Bs c2);refine⟨w1,w2,l1,l2,ys,zs,rfl,f2,g2,k _ _ _ bu bq H1 oU I2 (λG1 Lu H3 jB i hG e3 I3 _=>⟨λd hd=>?_,λh1 _=>?_⟩) q2⟩
   ·have s1:=(uY.same f1 (cS hG e3)).cut;have s2:=(uY.same g1 (cS hG e3)).cut;unfold CD at hd;rw[List.getElem?_map]at hd
    cases q:(us.zip ws)[i]? with
    | none=>rw[q]at hd;cases hd
    | some pr =>
     rw[q]at hd;cases hd;rw[Yh]at q;have l1':=(bX q.1).1;have l2':=(bX q.2).1;refine⟨⟨by rw[f3.1];exact l1',by rw[g3.1];exact l2',s1,s2⟩,λx H4 ⟨T,y,z,nT,ex,eH,hy,hz⟩=>?_⟩;subst ex;subst eH;have sm:=iy (o:=.tup [y,z]) nT;refine⟨sm,aM.tup (I3.Hs nT) uS (.cons ?_ (.cons ?_ .nil))⟩
     ·exact((f3.2 i y _ hy q.1).iU hG e3).same sm
     ·exact((g3.2 i z _ hz q.2).iU hG e3).same sm
   ·unfold CD at h1;rw[List.length_map,List.length_zip]at h1;refine⟨?_,(uY.same f1 (cS hG e3)).cut,(uY.same g1 (cS hG e3)).cut⟩;rw[f3.1,g3.1];omega
  ·exact q2.elim
 ·exact q2.elim
@[reducible] def EY(d:lF)(env:bO)(st:aK)(Q:List PyData->(aK->Prop)->aK->Prop):Prop:=d env st λxs aD=>dn xs aD λds bu=>match ds with
 | [.list xs]=>Q xs.reverse (λ_=>True) bu
 | _=>False
theorem LG(hg:Gl X "reversed")(hm:X.mg "reversed"=none)(ha:qw X Y [a] n d)(hs:starEach [a] X.env=[(false,eval a X.env)]:=by rfl):EU X Y tg (.Call (.Name "reversed" p) [a] [] pos) (EY d):=by
 obtain⟨t,p1,a1⟩:=ha.h;refine⟨_,Lf hg hm p1 hs,λH0 A0 G al H st s env Q R I E q k=>a1 H0 A0 G al H st s env _ _ I E q λxs aD bq vs H1 e1 I1 d1 q1=>?_⟩;obtain⟨ds,bu,E2,I2,F2,q2⟩:=dY I1 d1 q1.2;have oU:=e1.trans I1 E2;split at q2
 ·rename_i us;obtain⟨v,rfl,h1⟩:=pq F2;obtain⟨l,ys,rfl,f2,f1,f3⟩:=aM.jG h1;refine⟨l,ys,rfl,f2,k _ _ _ bu bq H1 oU I2 (λG1 Lu H3 jB i hG e3 I3 _=>⟨λd hd=>?_,λh1 h2=>?_⟩) q2⟩
  ·have s1:=cf.seq ((cS hG e3).seq f1);have hi:=(bX hd).1;rw[ZC]at hi;refine⟨⟨by rw[f3.1];exact hi,s1⟩,λx H4 ⟨e4,z⟩=>?_⟩;subst e4;rw[List.getElem?_reverse hi]at hd;rw[f3.1]at z;exact⟨.refl _,(f3.2 _ x d z hd).iU hG e3⟩
  ·rw[ZC]at h1 h2;show i=ys.length;rw[f3.1];omega
 ·exact q2.elim
def x8(xs:List PyData):List PyData:=(List.range xs.length).zipWith (λ(i:Nat) x=>PyData.tuple [.int (i:Int),x]) xs
@[reducible] def zX(d:lF)(env:bO)(st:aK)(Q:List PyData->(aK->Prop)->aK->Prop):Prop:=d env st λxs aD=>dn xs aD λds bu=>match ds with
 | [.list xs]=>Q (x8 xs) (λ_=>True) bu
 | _=>False
theorem lG{xs:List PyData}:(x8 xs).length=xs.length:=by unfold x8;simp
theorem x9{xs:List PyData}{i:Nat}{d:PyData}(h:(x8 xs)[i]?=some d):∃x,xs[i]?=some x/\d=.tuple [.int (i:Int),x]:=by
 have hi:=(bX h).1;rw[lG]at hi;refine⟨xs[i],dC hi,?_⟩;unfold x8 at h;rw[List.getElem?_zipWith,List.getElem?_range hi,dC hi]at h;cases h;rfl
theorem HJ{elts:List Expr}{kx}{tpos:Pos}(hg:Gl X "enumerate")(hm:X.mg "enumerate"=none)(ha:qw X Y [a] n d)(hs:starEach [a] X.env=[(false,eval a X.env)]:=by rfl):EU X Y (.Tuple elts kx tpos) (.Call (.Name "enumerate" p) [a] [] pos) (zX d):=by
 obtain⟨t,p1,a1⟩:=ha.h;refine⟨_,Hh hg hm p1 hs,λH0 A0 G al H st s env Q R I E q k=>a1 H0 A0 G al H st s env _ _ I E q λxs aD bq vs H1 e1 I1 d1 q1=>?_⟩;obtain⟨ds,bu,E2,I2,F2,q2⟩:=dY I1 d1 q1.2;have oU:=e1.trans I1 E2;split at q2
 ·rename_i us;obtain⟨v,rfl,h1⟩:=pq F2;obtain⟨l,ys,rfl,f2,f1,f3⟩:=aM.jG h1;refine⟨l,ys,rfl,f2,k _ _ _ bu bq H1 oU I2 (λG1 Lu H3 jB i hG e3 I3 _=>⟨λd hd=>?_,λh1 h2=>?_⟩) q2⟩
  ·have s1:=cf.seq ((cS hG e3).seq f1);obtain⟨x,hx,rfl⟩:=x9 hd;have hi:=(bX hx).1;refine⟨⟨by rw[f3.1];exact hi,s1⟩,λw H4 ⟨T,y,nT,ex,eH,hy⟩=>?_⟩;subst ex;subst eH;have sm:=iy (o:=.tup [.int (i:Int),y]) nT;exact⟨sm,aM.tup (I3.Hs nT) uS (.cons (.int _) (.cons (((f3.2 i y _ hy hx).iU hG e3).same sm) .nil))⟩
  ·rw[lG]at h1;exact⟨by rw[f3.1];exact h1,cf.seq ((cS hG e3).seq f1)⟩
 ·exact q2.elim
abbrev qz:=DV->bO->aK->(bO->aK->Prop)->Prop
abbrev sf:=List PyData->bO->aK->(bO->aK->Prop)->Prop
def Ke(J:KF)(H0:Hp)(A0:Addr->Prop)(G:Addr->Prop)(al:List (List Addr))(H:Hp)(st:aK)(Q:bO->aK->Prop)(R:St->Hp->Prop):Prop:=∀env' st' al' s' H',Ext al H st al' H' st'->DI J H0 A0 G al' H' st'->pj J (Fb G al' st') H' al' s' env'->Q env' st'->R s' H'
theorem Ke.go{H0:Hp}{A0:Addr->Prop}{G:Addr->Prop}{al bq:List (List Addr)}{H H1:Hp}{st aD:aK}{Q:bO->aK->Prop}{R:St->Hp->Prop}(k:Ke J H0 A0 G al H st Q R)(I:DI J H0 A0 G bq H1 aD)(e:Ext al H st bq H1 aD):Ke J H0 A0 G bq H1 aD Q R:=λdv st' al' s' H' e' I' h q=>k dv st' al' s' H' (e.trans I e') I' h q
def AG(J:KF)(g:TG)(dg:qz):Prop:=∀(H0:Hp) (A0:Addr->Prop) (G:Addr->Prop) (al:List (List Addr)) (H:Hp) (st:aK) (s:St) (env:bO) (v:V) (dv:DV) (Q:bO->aK->Prop) (R:St->Hp->Prop),DI J H0 A0 G al H st->pj J (Fb G al st) H al s env->gP J (Fb G al st) H al v dv->dg dv env st Q->Ke J H0 A0 G al H st Q R->g v s H R
def NV(J:KF)(g:zp)(dg:sf):Prop:=∀(H0:Hp) (A0:Addr->Prop) (G:Addr->Prop) (al:List (List Addr)) (H:Hp) (st:aK) (s:St) (env:bO) (vs:List V) (ds:List PyData) (Q:bO->aK->Prop) (R:St->Hp->Prop),DI J H0 A0 G al H st->pj J (Fb G al st) H al s env->cB (aM J (Fb G al st) H) vs ds->dg ds env st Q->Ke J H0 A0 G al H st Q R->g vs s H R
structure NW(X:Cx)(Y:YK)(tg:Expr)(d:qz):Prop where
 h:∃g,PG X tg g/\AG (kf X Y) g d
structure EZ(X:Cx)(Y:YK)(tg:List Expr)(d:sf):Prop where
 h:∃g,NP X tg g/\NV (kf X Y) g d
@[reducible] def gN(i:Nat)(dv:DV)(env:bO)(st:aK)(Q:bO->aK->Prop):Prop:=Q (env.set i (some dv)) st
@[reducible] def vh(ds:List PyData)(env:bO)(st:aK)(Q:bO->aK->Prop):Prop:=match ds with
 | []=>Q env st
 | _=>False
@[reducible] def sg(g:qz)(r:sf)(ds:List PyData)(env:bO)(st:aK)(Q:bO->aK->Prop):Prop:=match ds with
 | d::ds=>g (.dat d) env st λenv' st'=>r ds env' st' Q
 | []=>False
@[reducible] def gT(n:Nat)(r:sf)(dv:DV)(env:bO)(st:aK)(Q:bO->aK->Prop):Prop:=match dv with
 | .dat (.tuple ds)=>ds.length=n/\r ds env st Q
 | _=>False
theorem js{i:Nat}:AG J (nO i) (gN i):=λH0 A0 G al H st s env v dv Q R I E h q k=>k _ _ al _ H .refl I (E.set h i) q
theorem aQ{i:Nat}{x:Str}(hN:X.N.Nodup)(hi:X.N[i]?=some x)(hx:Loc X.env.scope x)(hf:X.fn x=true∨X.env.scope.names.lookup x=some .local:=by first | exact .inl rfl | exact .inr rfl | assumption):NW X Y (.Name x pos) (gN i):=⟨_,bY hN hi hx hf,js⟩
theorem fv:EZ X Y [] vh:=⟨_,rj,λH0 A0 G al H st s env vs ds Q R I E h q k=>by
 unfold vh at q;split at q
 ·have:=h.1
  cases vs with
  | nil=>exact⟨rfl,k _ _ al _ H .refl I E q⟩
  | cons v r=>simp at this
 ·exact q.elim⟩
theorem kK{g:TG}{u:zp}{dg:qz}{r:sf}(a1:AG J g dg)(a2:NV J u r):NV J (Dp g u) (sg dg r):=λH0 A0 G al H st s env vs ds Q R I E h q k=>by
 unfold sg at q;split at q
 ·rename_i d ds';have:=h.1
  cases vs with
  | nil=>simp at this
  | cons v vs' =>
   have h':cB (aM J (Fb G al st) H) vs' ds':=⟨by simpa using this,λi p q a b=>h.2 (i + 1) p q (by simpa using a) (by simpa using b)⟩;refine⟨v,vs',rfl,a1 H0 A0 G al H st s env v (.dat d) _ _ I E (.d (h.2 0 v d rfl rfl)) q λenv' st' al' s' H' e' I' E' q'=>?_⟩;exact a2 H0 A0 G al' H' st' s' env' vs' ds' Q R I' E' (h'.imp λy x z=>z.ext e') q' (k.go I' e')
 ·exact q.elim
theorem aR{g:qz}{r:sf}(h1:NW X Y e g)(h2:EZ X Y es r)(hs:(assignEach (e::es) X.env).map (·.2)=assign e X.env::(assignEach es X.env).map (·.2):=by rfl):EZ X Y (e::es) (sg g r):=by
 obtain⟨t,p1,a1⟩:=h1.h;obtain⟨u,p2,a2⟩:=h2.h;exact⟨_,gO p1 p2 hs,kK a1 a2⟩
theorem LH{m:Nat}{u:zp}{r:sf}(a1:NV J u r):AG J (KH J m u) (gT m r):=λH0 A0 G al H st s env v dv Q R I E h q k=>by
 unfold gT at q;split at q
 ·obtain⟨a,ys,rfl,g1,_,g2⟩:=aM.dF h;exact⟨a,ys,rfl,g1,by rw[g2.1];exact q.1,a1 H0 A0 G al H st s env ys _ Q R I E g2 q.2 k⟩
 ·exact q.elim
theorem pB{kx m:Nat}{r:sf}(hc:X.calm=true)(h:EZ X Y es r)(hn:(assignEach es X.env).length=m:=by rfl)(hst:(assignEach es X.env).findIdx? (·.1)=none:=by rfl):NW X Y (.Tuple es kx pos) (gT m r):=by
 obtain⟨u,p1,a1⟩:=h.h;exact⟨_,vG hc p1 hn hst,LH a1⟩
end
def Pw(J:KF)(e:DX):TE:=λs H R=>∃(H0:Hp) (A0:Addr->Prop) (G:Addr->Prop) (al:List (List Addr)) (st:aK) (env:bO) (Q:DC),DI J H0 A0 G al H st/\pj J (Fb G al st) H al s env/\e env st Q/\Kn J H0 A0 G al H st Q R
def E8(J:KF)(e:DT):TT:=λs H R=>∃(H0:Hp) (A0:Addr->Prop) (G:Addr->Prop) (al:List (List Addr)) (st:aK) (env:bO) (Q:Bool->aK->Prop),DI J H0 A0 G al H st/\pj J (Fb G al st) H al s env/\e env st Q/\Pj J H0 A0 G al H st Q R
theorem bz.pe{X:Cx}{Y:YK}{e:Expr}{d:DX}(h:bz X Y e d):PE X e (Pw (kf X Y) d):=by
 obtain⟨t,p,a⟩:=h.h;intro pins s σ H Q I ⟨H0,A0,G,al,st,env,Q',I',E,q,k⟩;exact p pins s σ H Q I (a H0 A0 G al H st σ env Q' Q I' E q k)
structure Px(X:Cx)(Y:YK)(ifs:List Expr)(d:DT):Prop where
 h:OY X ifs (E8 (kf X Y) d)
@[reducible] def E9(_:bO)(st:aK)(Q:Bool->aK->Prop):Prop:=Q true st
theorem dZ{X:Cx}:Px X Y [] E9:=⟨λpins s σ H Q I ⟨H0,A0,G,al,st,env,Q',I',E,q,k⟩=>G5 pins s σ H Q I (k true st al H .refl I' q)⟩
def GB(own:Nat)(g:TG):Prop:=∀v s H R R',(∀(s2:St) (H2:Hp),s2.drop own=s.drop own->R s2 H2->R' s2 H2)->g v s H R->g v s H R'
def RN(own:Nat)(g:zp):Prop:=∀v s H R R',(∀(s2:St) (H2:Hp),s2.drop own=s.drop own->R s2 H2->R' s2 H2)->g v s H R->g v s H R'
theorem lU{own i:Nat}(h:i < own):GB own (nO i):=λv s H R R' f q=>f _ _ (by rw[List.drop_set_of_lt h]) q
theorem Bt{own:Nat}:RN own KG:=λv s H R R' f q=>⟨q.1,f _ _ rfl q.2⟩
theorem n6{own:Nat}{g:TG}{u:zp}(h1:GB own g)(h2:RN own u):RN own (Dp g u):=λv s H R R' f q=>by
 obtain⟨x,r,e,q⟩:=q;exact⟨x,r,e,h1 _ _ _ _ _ (λs2 H2 e2 q2=>h2 _ _ _ _ _ (λs3 H3 e3 q3=>f _ _ (e3.trans e2) q3) q2) q⟩
theorem Py{own m:Nat}{K:aJ}{u:zp}(h:RN own u):GB own (KH K m u):=λv s H R R' f q=>by
 obtain⟨a,xs,e1,e2,e3,q⟩:=q;exact⟨a,xs,e1,e2,e3,h _ _ _ _ _ f q⟩
@[reducible] def ya(own:Nat)(ix:List Nat)(env:bO):bO:=List.replicate own none++ix.map λi=>(env[i]?).getD none
def RO(fin:List PyData->aK->DC->Prop)(dg:qz)(dt:DT)(de:DX)(xs:List PyData)(ok:aK->Prop)(env:bO)(aD:aK)(Q:DC):Prop:=(ok aD/\xs.length<=1000000)/\∃I:Nat->List PyData->Prop,I 0 [] /\
 (∀i ys d,I i ys->xs[i]?=some d->dg (.dat d) env aD λgr bu=>bu=aD/\dt gr aD λb jB=>jB=aD/\if b=true then de gr aD λy qu=>mi y qu λdy zv=>zv=aD/\I (i + 1) (ys++[dy])else I (i + 1) ys)/\∀ys,I xs.length ys->fin ys aD Q
@[reducible] def CF(fin:List PyData->aK->DC->Prop)(own:Nat)(ix:List Nat)(di:pA)(dg:qz)(dt:DT)(de:DX)(env:bO)(st:aK)(Q:DC):Prop:=di env st λxs ok aD=>RO fin dg dt de xs ok (ya own ix env) aD Q
theorem Bu{fin:List PyData->aK->DC->Prop}{dg:qz}{dt:DT}{de:DX}{xs:List PyData}{env:bO}{aD:aK}{Q:DC}(I:Nat->List PyData->Prop)(hl:xs.length<=1000000)(h0:I 0 [])
  (hs:∀i ys d,xs[i]?=some d->I i ys->dg (.dat d) env aD λgr bu=>bu=aD/\dt gr aD λb jB=>jB=aD/\if b=true then de gr aD λy qu=>mi y qu λdy zv=>zv=aD/\I (i + 1) (ys++[dy])else I (i + 1) ys) (hd:∀ys,I xs.length ys->fin ys aD Q):RO fin dg dt de xs (λ_=>True) env aD Q:=⟨⟨trivial,hl⟩,I,h0,λi ys d a b=>hs i ys d b a,hd⟩
@[reducible] def HK:List PyData->aK->DC->Prop:=λys st Q=>Q (.dat (.list ys)) st
theorem pj.lT{K:aJ}{P:Addr->Prop}{H:Hp}{al:List (List Addr)}{s:St}{env:bO}(h:pj K P H al s env)(own:Nat)(ix:List Nat):pj K P H al (eZ own ix s) (ya own ix env):=by
 refine⟨by simp[eZ],λi dv hi=>?_⟩;by_cases l:i < own
 ·rw[List.getElem?_append_left (by simpa using l),List.getElem?_replicate,if_pos l]at hi;cases hi
 ·rw[List.getElem?_append_right (by simp;omega),List.length_replicate,List.getElem?_map]at hi
  cases q:ix[i - own]? with
  | none=>rw[q]at hi;cases hi
  | some j =>
   rw[q]at hi;have hi:some ((env[j]?).getD none)=some (some dv):=hi
   have e:env[j]?=some (some dv):=by
    cases w:env[j]? with
    | none=>rw[w]at hi;cases hi
    | some u=>rw[w]at hi;exact hi
   obtain⟨v,h1,h2⟩:=h.2 j dv e;refine⟨v,?_,h2⟩;unfold eZ;rw[List.getElem?_append_right (by simp;omega),List.length_replicate,List.getElem?_map,q];show some ((s[j]?).getD none)=_;rw[h1];rfl
theorem DI.Fc{J:KF}{H0:Hp}{A0:Addr->Prop}{G:Addr->Prop}{al:List (List Addr)}{H:Hp}{st:aK}(I:DI J H0 A0 G al H st){D:Addr}{ys:List V}(h:H D=none):Ext al H st al (upd H D (.lst ys)) st/\DI J H0 A0 (λc=>G c∨c=D) al (upd H D (.lst ys)) st:=by
 have E:Ext al H st al (upd H D (.lst ys)) st:=.new h
 have g:∀c,(G c∨c=D)->G c∨H c=none:=λc hc=>by
  rcases hc with z | z
  ·exact .inl z
  ·rw[z];exact .inr h
 have keep:∀c o,H c=some o->upd H D (.lst ys) c=some o:=λc o e=>by rw[uN (nN e h)];exact e
 have I1:=I.new (o:=.lst ys) h;refine⟨E,I.len,I.nd,I1.ok,λk a c h1 h2=>(I.cel k a c h1 h2).iU g E (λc hc=>I.rY hc) λ_ b _ o q=>keep _ _ q,I1.fr,I.nw,λa ha hc=>?_,λc hc=>?_,J.y.up _ _ _ _ (λc hc=>.inl hc) I.lk⟩
 ·rcases hc with z | z
  ·exact I.gd a ha z
  ·obtain⟨o,e⟩:=I.ok a ha;rw[z,h]at e;cases e
 ·rcases hc with z | z
  ·exact I1.gs c z
  ·rw[z];exact⟨_,uS,.inl ⟨_,rfl⟩⟩
theorem DI.grow{J:KF}{H0:Hp}{A0:Addr->Prop}{G:Addr->Prop}{al:List (List Addr)}{H:Hp}{st:aK}{D:Addr}{ys zs:List V}(I:DI J H0 A0 (λc=>G c∨c=D) al H st)(h:H D=some (.lst zs))(n0:A0 D∨H0 D=none):DI J H0 A0 (λc=>G c∨c=D) al (upd H D (.lst ys)) st/\∀v d,aM J (Fb (λc=>G c∨c=D) al st) H v d->aM J (Fb (λc=>G c∨c=D) al st) (upd H D (.lst ys)) v d:=by
 have sm:bD (cutH (Fb (λc=>G c∨c=D) al st) H) (cutH (Fb (λc=>G c∨c=D) al st) (upd H D (.lst ys))):=lE λc o n e=>⟨n,by rw[uN (λz=>n (.inl (.inr z)))];exact e⟩
 have rd:∀v d,aM J (Fb (λc=>G c∨c=D) al st) H v d->aM J (Fb (λc=>G c∨c=D) al st) (upd H D (.lst ys)) v d:=λv d z=>cy.same sm z
 have nD:∀a∈al.flatten,a≠D:=λa ha z=>I.gd a ha (.inr z)
 refine⟨⟨I.len,I.nd,λa ha=>?_,λk fp c h1 h2=>?_,λc o n e=>?_,I.nw,I.gd,λc hc=>?_,I.lk⟩,rd⟩
 ·rw[uN (nD a ha)];exact I.ok a ha
 ·have z:=I.cel k fp c h1 h2;have na:∀a∈fp,a≠D:=λa ha=>nD a (gQ h1 ha)
  cases c with
  | live xs =>
   obtain⟨a,ws,e0,g1,g2⟩:=z;exact⟨a,ws,e0,by rw[uN (na a (by rw[e0];exact Yc.mpr rfl))];exact g1,g2.imp λy x q=>rd y x q⟩
  | froz ds=>obtain⟨a,e0,g0⟩:=z;exact⟨a,e0,rd _ _ g0⟩
  | deep xs =>
   obtain⟨a,ws,e0,g1,g2⟩:=z;refine⟨a,ws,e0,by rw[uN (na a (by rw[e0];exact Yc.mpr rfl))];exact g1,g2.imp λy x q=>?_⟩
   cases x with
   | dat d=>exact rd _ _ q
   | ref j=>exact q
  | obj o=>exact⟨z.1,o.keep _ _ _ _ _ _ z.2 (λc hc=>I.rY hc) (λa ha o e=>by rw[uN (na a ha)];exact e) sm⟩
 ·by_cases w:c=D
  ·rw[w]at n e;rcases n0 with y | y
   ·exact absurd y n
   ·rw[y]at e;cases e
  ·rw[uN w];exact I.fr c o n e
 ·by_cases w:c=D
  ·rw[w];exact⟨_,uS,.inl ⟨_,rfl⟩⟩
  ·rw[uN w];exact I.gs c hc
section
variable {X:Cx} {Y:YK} {tg a b c e:Expr} {es:List Expr} {pos p:Pos} {ea eb ec:DX} {K:aJ} {J:KF} {n:Nat} {d:lF}
theorem Ext.Vq{al:List (List Addr)}{H:Hp}{st:aK}{D:Addr}{ys:List V}{bq:List (List Addr)}{H1:Hp}{aD:aK}(e:Ext al H st bq H1 aD)(hD:H D=none):Ext al H st bq (upd H1 D (.lst ys)) aD:=⟨λc o n q=>by rw[uN (λz=>by rw[z,hD]at q;cases q)];exact e.keep c o n q,e.pre,e.nws,e.lv⟩
def HL(J:KF)(fin:List PyData->aK->DC->Prop):Prop:=∀(H0:Hp) (A0:Addr->Prop) (G:Addr->Prop) (al:List (List Addr)) (H:Hp) (st:aK) (Q:DC) (R:VK) (D:Addr) (cu:List (List Addr)) (H2:Hp) (vs:List V) (ys:List PyData),DI J H0 A0 G al H st->H D=none->Kn J H0 A0 G al H st Q R->fin ys st Q->DI J H0 A0 (λc=>G c∨c=D) cu H2 st->Ext al H st cu H2 st->H2 D=some (.lst vs)->cB (aM J (Fb (λc=>G c∨c=D) cu st) H2) vs ys->R (.ref D) H2
theorem Kf{fin:List PyData->aK->DC->Prop}(hf:HL J fin)
  {own:Nat} {ix:List Nat} {wi:TI} {g:TG} {di:pA} {dg:qz} {dt:DT} {de:DX} (hi:AI J wi di) (hg:AG J g dg) (gb:GB own g):AE J (RF own ix wi g (E8 J dt) (Pw J de)) (CF fin own ix di dg dt de):=λH0 A0 G al H st s env Q R I E q k=>by
 refine hi H0 A0 G al H st s env _ _ I E q λJj xs ok aD bq H1 e1 I1 ir q1=>?_
 intro D hD;obtain⟨⟨hok,hlen⟩,Iv,i0,istep,ifin⟩:=q1;have k1:=k.go I1 e1;have E1:=E.ext e1
 have gG:∀c,(G c∨c=D)->G c∨H1 c=none:=λc hc=>by
  rcases hc with z | z
  ·exact .inl z
  ·rw[z];exact .inr hD
 have n0:=I1.n0 hD;obtain⟨EB,IB⟩:=I1.Fc (ys:=[]) hD;refine⟨λi m ys H2=>(m=xs.length - i/\i<=xs.length/\ys.length<=i)/\∃ds cu,Iv i ds/\H2 D=some (.lst ys)/\cB (aM J (Fb (λc=>G c∨c=D) cu aD) H2) ys ds/\DI J H0 A0 (λc=>G c∨c=D) cu H2 aD/\Ext bq H1 aD cu H2 aD,⟨_,⟨rfl,X3 _,X3 _⟩,[],bq,i0,uS,.nil,IB,EB⟩,?_⟩;rintro i m ys H2 ⟨⟨em,hil,hyl⟩,ds,cu,hI,gD,hP,I2,E2⟩;refine⟨gD,?_⟩;have IR:=ir (λc=>G c∨c=D) cu H2 aD i gG E2 I2 hok;by_cases hx:i < xs.length
 ·right
  obtain⟨d0,Kg⟩:∃d0,xs[i]?=some d0:=⟨xs[i],dC hx⟩;obtain⟨go,yl⟩:=IR.1 d0 Kg;refine⟨go,YR (XT hyl hil) (YR hlen (by decide)),λys' H'=>∃m',m' < m/\(m'=xs.length - (i + 1)/\i + 1<=xs.length/\ys'.length<=i + 1)/\∃ds cu,Iv (i + 1) ds/\H' D=some (.lst ys')/\cB (aM J (Fb (λc=>G c∨c=D) cu aD) H') ys' ds/\DI J H0 A0 (λc=>G c∨c=D) cu H' aD/\Ext bq H1 aD cu H' aD,λys' H' ⟨m',lt,w⟩=>⟨m',lt,w⟩,λx H3 hy=>?_⟩;obtain⟨s3,r3⟩:=yl x H3 hy;have I3:=I2.same s3;have E3:Ext bq H1 aD cu H3 aD:=E2.trans I2 (.same s3);have P3:=hP.imp λy x z=>z.same s3
  have g3:=s3 _ _ gD;have TB:=(E1.iU gG E3).lT own ix;refine gb x _ H3 _ _ ?_ (hg H0 A0 (λc=>G c∨c=D) cu H3 aD _ _ x (.dat d0) _ (λσ2 H4=>E8 J dt σ2 H4 λb H5=>if b=true then Pw J de σ2 H5 λv H6=>H6 D=some (.lst ys)/\∃m',m' < m/\(m'=xs.length - (i + 1)/\i + 1<=xs.length/\(ys++[v]).length<=i + 1)/\∃ds cu,Iv (i + 1) ds/\upd H6 D (.lst (ys++[v])) D=some (.lst (ys++[v]))/\cB (aM J (Fb (λc=>G c∨c=D) cu aD) (upd H6 D (.lst (ys++[v])))) (ys++[v]) ds/\DI J H0 A0 (λc=>G c∨c=D) cu (upd H6 D (.lst (ys++[v]))) aD/\Ext bq H1 aD cu (upd H6 D (.lst (ys++[v]))) aD else ∃m',m' < m/\(m'=xs.length - (i + 1)/\i + 1<=xs.length/\ys.length<=i + 1)/\∃ds cu,Iv (i + 1) ds/\H5 D=some (.lst ys)/\cB (aM J (Fb (λc=>G c∨c=D) cu aD) H5) ys ds/\DI J H0 A0 (λc=>G c∨c=D) cu H5 aD/\Ext bq H1 aD cu H5 aD) I3 TB (.d r3) (istep i ds d0 hI Kg) λgr bu LI s2 H4 e4 I4 Pz q4=>?_)
  ·intro s2 H4 ed q4;refine⟨?_,q4⟩;rw[ed];unfold eZ;rw[List.drop_left' (by simp)]
  ·obtain⟨rfl,q4⟩:=q4;refine⟨H0,A0,_,LI,bu,gr,_,I4,Pz,q4,λb jB PB H5 e5 I5 q5=>?_⟩;obtain⟨rfl,q5⟩:=q5;have LJ:=e4.trans I4 e5;have E5:=E3.trans I3 LJ;have nL:∀(al':List (List Addr)) (H':Hp),DI J H0 A0 (λc=>G c∨c=D) al' H' jB->¬ Lv al' jB D:=λal' H' I' z=>I'.gd D z.mem (.inr rfl)
   have g5:=LJ.keep D _ (nL _ _ I3) g3;have P5:=P3.imp λy x z=>aM.ext z LJ
   cases b with
   | false =>
    rw[XA Xq]at q5;exact bZ ⟨xs.length - (i + 1),by omega,⟨rfl,hx,by omega⟩,ds,PB,q5,g5,P5,I5,E5⟩
   | true =>
    rw[XB rfl]at q5;refine cc ⟨H0,A0,_,PB,jB,gr,_,I5,Pz.ext e5,q5,λy qu LK v H6 e6 I6 d6 q6=>?_⟩;obtain⟨dy,zv,E7,I7,F7,rfl,q7⟩:=r8 I6 d6 q6;have TC:=e6.trans I6 E7;have E6:=E5.trans I5 TC;have g6:=TC.keep D _ (nL _ _ I5) g5;have P6:=P5.imp λy x z=>aM.ext z TC
    obtain⟨I8,RP⟩:=I7.grow (ys:=ys++[v]) g6 n0;refine⟨g6,xs.length - (i + 1),by omega,⟨rfl,hx,by simp;omega⟩,ds++[dy],LK,q7,uS,?_,I8,E6.Vq hD⟩;exact(P6.imp λy x z=>RP y x z).append (.cons (RP _ _ F7) .nil)
 ·left
  have ei:i=xs.length:=by omega
  subst ei;exact⟨IR.2 (Xu _) (Xu _),hf H0 A0 G bq H1 aD Q R D cu H2 ys ds I1 hD k1 (ifin ds hI) I2 E2 gD hP⟩
end
section
variable {X:Cx} {Y:YK} {tg a b c e:Expr} {es:List Expr} {pos p:Pos} {ea eb ec:DX} {K:aJ} {J:KF} {n:Nat} {d:lF} {scope:Scope}
theorem DI.less{H0:Hp}{A0:Addr->Prop}{G G':Addr->Prop}{al:List (List Addr)}{H:Hp}{st:aK}(I:DI J H0 A0 G' al H st)(s:∀c,G c->G' c)(y:J.y.Y H0 A0 G):DI J H0 A0 G al H st:=by
 have sub:∀c,Fb G al st c->Fb G' al st c:=λc z=>by
  rcases z with z | z
  ·exact .inl (s c z)
  ·exact .inr z
 have sm:bD (cutH (Fb G' al st) H) (cutH (Fb G al st) H):=lE λc o n e=>⟨λz=>n (sub c z),e⟩
 refine⟨I.len,I.nd,I.ok,λk fp c h1 h2=>?_,I.fr,I.nw,λa ha z=>I.gd a ha (s a z),λc hc=>I.gs c (s c hc),y⟩;have z:=I.cel k fp c h1 h2
 cases c with
 | live xs=>obtain⟨a,ws,e0,g1,g2⟩:=z;exact⟨a,ws,e0,g1,g2.imp λy x q=>cy.same sm q⟩
 | froz ds=>obtain⟨a,e0,g0⟩:=z;exact⟨a,e0,cy.same sm g0⟩
 | deep xs =>
  obtain⟨a,ws,e0,g1,g2⟩:=z;refine⟨a,ws,e0,g1,g2.imp λy x q=>?_⟩
  cases x with
  | dat d=>exact cy.same sm q
  | ref j=>exact q
 | obj o=>exact⟨z.1,o.keep _ _ _ _ _ _ z.2 (λc hc=>I.rY hc) (λ_ _ _ e=>e) sm⟩
theorem Bv:HL J HK:=λH0 A0 G al H st Q R D cu H2 vs ys I hD k q I2 E2 g P=>by
 have sub:∀c,Fb G cu st c->Fb (λc=>G c∨c=D) cu st c:=λc z=>by
  rcases z with z | z
  ·exact .inl (.inl z)
  ·exact .inr z
 have nD:¬ Fb G cu st D:=λz=>by
  rcases z with z | z
  ·exact I.Hs hD (.inl z)
  ·exact I2.gd D z.mem (.inr rfl)
 exact k (.dat (.list ys)) st cu _ H2 E2 (I2.less (λc z=>.inl z) I.lk) (.d (aM.lst nD g (P.imp λy x z=>aM.sub z sub))) q
@[reducible] def TH:Nat->List Nat->pA->qz->DT->DX->DX:=CF HK
theorem LL{fin:List PyData->aK->DC->Prop}(hf:HL (kf X Y) fin)
  {elt iter:Expr} {ifs:List Expr} {g:TG} {di:pA} {dg:qz} {dt:DT} {de:DX} (own:Nat) (N:List Str) (ix:List Nat) (B:mq X own N ix scope) (hi:EU X Y tg iter di)
  (hg:∀(C:Addr) (fp:List Addr) (s:Shared) (H:Hp),PG (X.lT N scope C fp s H) tg g) (ag:AG (kf X Y) g dg) (gb:GB own g)
  (hin:∀(C:Addr) (fp:List Addr) (s:Shared) (H:Hp),Px (X.lT N scope C fp s H) Y ifs dt/\bz (X.lT N scope C fp s H) Y elt de)
  (hs:∀x,foldedSetIterable iter X.env x=pure x:=by intro _;rfl):bz X Y (.ListComp elt [⟨tg,iter,ifs,0⟩] scope pos) (CF fin own ix di dg dt de):=by
 obtain⟨wi,p1,a1⟩:=hi.h;exact⟨_,OZ own N ix B p1 (λC fp s H=>⟨hg C fp s H,(hin C fp s H).1.h,(hin C fp s H).2.pe⟩) hs,Kf hf a1 ag gb⟩
theorem mv{elt iter:Expr}{ifs:List Expr}{g:TG}{di:pA}{dg:qz}{dt:DT}{de:DX}(own:Nat)(N:List Str)(ix:List Nat)(B:mq X own N ix scope)(hi:EU X Y tg iter di)
  (hg:∀(C:Addr) (fp:List Addr) (s:Shared) (H:Hp),PG (X.lT N scope C fp s H) tg g) (ag:AG (kf X Y) g dg) (gb:GB own g)
  (hin:∀(C:Addr) (fp:List Addr) (s:Shared) (H:Hp),Px (X.lT N scope C fp s H) Y ifs dt/\bz (X.lT N scope C fp s H) Y elt de)
  (hs:∀x,foldedSetIterable iter X.env x=pure x:=by intro _;rfl):bz X Y (.ListComp elt [⟨tg,iter,ifs,0⟩] scope pos) (TH own ix di dg dt de):=LL Bv own N ix B hi hg ag gb hin hs
@[reducible] def NX(st:aK)(k:Nat):Bool:=match st[k]? with
 | some (.live _)=>true
 | some (.froz _)=>true
 | some (.deep _)=>true
 | _=>false
@[reducible] def wq(eo:DX)(dx:lF)(env:bO)(st:aK)(Q:DC):Prop:=eo env st λo aD=>match o with
 | .ref k=>NX aD k=true/\dx env aD λxs bu=>match xs with
  | [x]=>match bu[k]? with
   | some (.deep ys)=>ys.length < 1000000/\Q (.dat .none) (bu.set k (.deep (ys++[x])))
   | _=>mi x bu λd jB=>match jB[k]? with
    | some (.live ds)=>ds.length < 1000000/\Q (.dat .none) (jB.set k (.live (ds++[d])))
    | _=>False
  | _=>False
 | _=>False
theorem Bw{H0:Hp}{A0:Addr->Prop}{G:Addr->Prop}{al:List (List Addr)}{H:Hp}{st:aK}(I:DI J H0 A0 G al H st){v:V}{k:Nat}(h:gP J (Fb G al st) H al v (.ref k))(hl:NX st k=true):∃a ys,v=.ref a/\fV J H a ys:=by
 obtain⟨a,r,h1,rfl⟩:=h;have hk:k < st.length:=by rw[← I.len];exact(bX h1).1
 have hs:=dC hk;have z:=I.cel k _ _ h1 hs;refine⟨a,?_⟩
 cases q:st[k]with
 | live ds=>rw[q]at z;obtain⟨a',ys,e0,g,_⟩:=z;cases e0;exact⟨ys,rfl,fV.of g⟩
 | deep ds=>rw[q]at z;obtain⟨a',ys,e0,g,_⟩:=z;cases e0;exact⟨ys,rfl,fV.of g⟩
 | froz ds =>
  rw[q]at z;obtain⟨a',e0,g0⟩:=z;cases e0;obtain⟨b,ys,g1,g2,_⟩:=aM.jG g0;cases g1;exact⟨ys,rfl,g2⟩
 | obj o =>
  unfold NX at hl;rw[hs,q]at hl;cases hl
theorem Fd{H:Hp}{v:V}(h:∃a ys,v=.ref a/\fV K H a ys):S1 K "list" v H:=by
 obtain⟨a,ys,rfl,g⟩:=h;exact .inl ⟨rfl,ys,g⟩
theorem fe{apos cpos:Pos}{o:Expr}{eo:DX}(ho:bz X Y o eo)(ha:qw X Y (e::es) n d)(hbase:attributeBase o "append" X.env (eval o X.env)=eval o X.env:=by rfl)
  (hfew:((backTo cpos (starEach (e::es) X.env)).all (λx=>!x.1)&&(backToKw cpos (keywordEach [] X.env)).all (λx=>x.1.isSome)
   && decide ((e::es).length + ([]:List Keyword).length + (if ([]:List Keyword).isEmpty then 0 else 1) < 30))=true:=by rfl)
  (hline:(apos.endLine == cpos.line)=true:=by rfl) (hs:starEach (e::es) X.env=(false,eval e X.env)::starEach es X.env:=by rfl) (hplain:(backTo cpos (starEach es X.env)).any (·.1)=false:=by rfl) :
  bz X Y (.Call (.Attribute o "append" apos) (e::es) [] cpos) (wq eo d):=by
 obtain⟨t,p1,a1⟩:=ho.h;obtain⟨u,p2,a2⟩:=ha.h;refine⟨_,JU PySem.F.plainAttrs_list PySem.F.slot_list_append PySem.F.type_list_append uU p1 p2 hbase hfew hline hs hplain,λH0 A0 G al H st s env Q R I E q k=>a1 H0 A0 G al H st s env _ _ I E q λx aD bq v H1 e1 I1 d1 q1=>?_⟩;split at q1
 ·rename_i kk;refine⟨Fd (Bw I1 d1 q1.1),a2 H0 A0 G bq H1 aD s env _ _ I1 (E.ext e1) q1.2 λxs bu cu vs H2 e2 I2 d2 q2=>?_⟩;have q2:=q2.2;split at q2
  ·obtain⟨w,rfl,hw⟩:=pq d2;have oU:=e1.trans I1 e2;split at q2
   ·rename_i zs hs;obtain⟨a,r0,ha,rfl⟩:=d1.ext e2;obtain⟨a',ys,e0,g1,g2⟩:=I2.cel kk _ _ ha hs;cases e0;obtain⟨E4,I4⟩:=I2.putD ha hs (g2.append (.cons hw .nil));exact⟨a,ys,w,rfl,rfl,g1,by rw[g2.1];exact Xs q2.1 (by decide),(k.go I2 oU) _ _ _ _ _ E4 I4 (.d .non) q2.2⟩
   ·obtain⟨dd,jB,E3,I3,F3,q3⟩:=r8 I2 hw q2;split at q3
    ·rename_i ds hs;have PC:=oU.trans I2 E3;obtain⟨a,r0,ha,rfl⟩:=(d1.ext e2).ext E3;obtain⟨a',ys,e0,g1,g2⟩:=I3.cel kk _ _ ha hs;cases e0;obtain⟨E4,I4⟩:=I3.put ha hs (g2.append (.cons F3 .nil));exact⟨a,ys,w,rfl,rfl,g1,by rw[g2.1];exact Xs q3.1 (by decide),(k.go I3 PC) _ _ _ _ _ E4 I4 (.d .non) q3.2⟩
    ·exact q3.elim
  ·exact q2.elim
 ·exact q1.elim
structure dr where
 nx:bO->aK->Prop
 rt:DC
 bk:bO->aK->Prop:=λ_ _=>False
 ct:bO->aK->Prop:=λ_ _=>False
abbrev DS:=dr->bO->aK->Prop
structure HM(J:KF)(H0:Hp)(A0:Addr->Prop)(G:Addr->Prop)(al:List (List Addr))(H:Hp)(st:aK)(DD:dr)(D:Ends):Prop where
 nx:Ke J H0 A0 G al H st DD.nx D.nx
 rt:Kn J H0 A0 G al H st DD.rt D.rt
 bk:Ke J H0 A0 G al H st DD.bk D.bk
 ct:Ke J H0 A0 G al H st DD.ct D.ct
theorem HM.go{H0:Hp}{A0:Addr->Prop}{G:Addr->Prop}{al bq:List (List Addr)}{H H1:Hp}{st aD:aK}{DD:dr}{D:Ends}(k:HM J H0 A0 G al H st DD D)(I:DI J H0 A0 G bq H1 aD)(e:Ext al H st bq H1 aD):HM J H0 A0 G bq H1 aD DD D:=⟨k.nx.go I e,k.rt.go I e,k.bk.go I e,k.ct.go I e⟩
def AS(J:KF)(t:TS)(s:DS):Prop:=∀(H0:Hp) (A0:Addr->Prop) (G:Addr->Prop) (al:List (List Addr)) (H:Hp) (st:aK) (σ:St) (env:bO) (DD:dr) (D:Ends),DI J H0 A0 G al H st->pj J (Fb G al st) H al σ env->s DD env st->HM J H0 A0 G al H st DD D->t D σ H
structure Bx(X:Cx)(Y:YK)(stm:Stmt)(s:DS):Prop where
 h:∃t,PS X stm t/\AS (kf X Y) t s
structure wt(X:Cx)(Y:YK)(stms:List Stmt)(s:DS):Prop where
 h:∃t,ud X stms t/\AS (kf X Y) t s
@[reducible] def By(DD:dr)(env:bO)(st:aK):Prop:=DD.nx env st
@[reducible] def yb(s u:DS)(DD:dr)(env:bO)(st:aK):Prop:=s {DD with nx:=u DD} env st
@[reducible] def Fe(e:DX)(DD:dr)(env:bO)(st:aK):Prop:=e env st λ_ aD=>DD.nx env aD
@[reducible] def LM(e:DX)(DD:dr)(env:bO)(st:aK):Prop:=e env st DD.rt
@[reducible] def TJ(c:DT)(s u:DS)(DD:dr)(env:bO)(st:aK):Prop:=c env st λb aD=>if b=true then s DD env aD else u DD env aD
@[reducible] def zY(e:DX)(g:qz)(DD:dr)(env:bO)(st:aK):Prop:=e env st λdv aD=>g dv env aD DD.nx
@[reducible] def Ff(c:DT)(s:DS)(DD:dr)(env:bO)(st:aK):Prop:=∃W:Nat->bO->aK->Prop,(∃m,W m env st)/\∀m env st,W m env st->c env st λb aD=>if b=true then s {DD with nx:=λenv' st'=>∃m',m' < m/\W m' env' st',ct:=λenv' st'=>∃m',m' < m/\W m' env' st',bk:=DD.nx} env aD else DD.nx env aD
def Kh(g:qz)(s:DS)(DD:dr)(xs:List PyData)(ok:aK->Prop)(env:bO)(st:aK):Prop:=∃W:Nat->bO->aK->Prop,W 0 env st/\∀i env st,i<=xs.length->W i env st->ok st/\(i=xs.length->DD.nx env st)/\∀d,xs[i]?=some d->g (.dat d) env st λenv' st'=>s {DD with nx:=W (i + 1),ct:=W (i + 1),bk:=DD.nx} env' st'
@[reducible] def LN(di:pA)(g:qz)(s:DS)(DD:dr)(env:bO)(st:aK):Prop:=di env st λxs ok aD=>Kh g s DD xs ok env aD
theorem ee{g:qz}{s:DS}{DD:dr}{xs:List PyData}{ok:aK->Prop}{env:bO}{st:aK}(W:Nat->bO->aK->Prop)(h0:W 0 env st)(hok:∀i env st,W i env st->ok st)
  (hs:∀i env st d,xs[i]?=some d->W i env st->g (.dat d) env st λenv' st'=>s {DD with nx:=W (i + 1),ct:=W (i + 1),bk:=DD.nx} env' st') (hd:∀env st,W xs.length env st->DD.nx env st):Kh g s DD xs ok env st :=
 ⟨W,h0,λi env st _ w=>⟨hok i env st w,λe=>hd env st (e ▸ w),λd h=>hs i env st d h w⟩⟩
theorem Bz{c:DT}{s:DS}{DD:dr}{env:bO}{st:aK}(W:Nat->bO->aK->Prop)(h0:∃m,W m env st)
  (hs:∀m env st,W m env st->c env st λb aD=>if b=true then s {DD with nx:=λenv' st'=>∃m',m' < m/\W m' env' st',ct:=λenv' st'=>∃m',m' < m/\W m' env' st',bk:=DD.nx} env aD else DD.nx env aD):Ff c s DD env st:=⟨W,h0,hs⟩
variable {stm:Stmt} {stms rest:List Stmt} {s u:DS}
theorem HN:AS J rF By:=λH0 A0 G al H st σ env DD D I E h k=>k.nx env st al σ H .refl I E h
theorem Fg{t r:TS}(h1:AS J t s)(h2:AS J r u):AS J (KC t r) (yb s u):=λH0 A0 G al H st σ env DD D I E h k=>h1 H0 A0 G al H st σ env _ _ I E h ⟨λenv' st' al' σ' H' e' I' E' q'=>h2 H0 A0 G al' H' st' σ' env' DD D I' E' q' (k.go I' e'),k.rt,k.bk,k.ct⟩
theorem aw:wt X Y [] By:=⟨_,iv,HN⟩
theorem aZ(h1:Bx X Y stm s)(h2:wt X Y rest u):wt X Y (stm::rest) (yb s u):=by
 obtain⟨t,p1,a1⟩:=h1.h;obtain⟨r,p2,a2⟩:=h2.h;exact⟨_,qK p1 p2,Fg a1 a2⟩
theorem aq(h1:Bx X Y stm s):wt X Y [stm] s:=by
 obtain⟨t,p1,a1⟩:=h1.h;exact⟨_,qO p1,a1⟩
theorem iA(he:bz X Y e ea)(hs:swapsWith e none pos.line X.env=pure false:=by rfl):Bx X Y (.Expr e pos) (Fe ea):=by
 obtain⟨t,p1,a1⟩:=he.h;exact⟨_,GD p1 hs,λH0 A0 G al H st σ env DD D I E h k=>a1 H0 A0 G al H st σ env _ _ I E h λdv aD bq v H1 e1 I1 d1 q1=>k.nx env aD bq σ H1 e1 I1 (E.ext e1) q1⟩
theorem ar(he:bz X Y e ea):Bx X Y (.Return (some e) pos) (LM ea):=by
 obtain⟨t,p1,a1⟩:=he.h;exact⟨_,dX p1,λH0 A0 G al H st σ env DD D I E h k=>a1 H0 A0 G al H st σ env _ _ I E h k.rt⟩
theorem aO{c:Expr}{tc:DT}{x y:List Stmt}(hc:wb X Y c tc)(ha:wt X Y x s)(hb:wt X Y y u):Bx X Y (.If c x y pos) (TJ tc s u):=by
 obtain⟨t,p1,a1⟩:=hc.h;obtain⟨r,p2,a2⟩:=ha.h;obtain⟨w,p3,a3⟩:=hb.h;refine⟨_,qp p1 p2 p3,λH0 A0 G al H st σ env DD D I E h k=>a1 H0 A0 G al H st σ env _ _ I E h λb aD bq H1 e1 I1 q1=>?_⟩
 cases b with
 | true=>exact cc (a2 H0 A0 G bq H1 aD σ env DD D I1 (E.ext e1) (by rw[XB rfl]at q1;exact q1) (k.go I1 e1))
 | false=>exact bZ (a3 H0 A0 G bq H1 aD σ env DD D I1 (E.ext e1) (by rw[XA Xq]at q1;exact q1) (k.go I1 e1))
theorem wu{t:TE}{g:TG}{dg:qz}(h1:AE J t ea)(h2:AG J g dg):AS J (GF t g) (zY ea dg):=λH0 A0 G al H st σ env DD D I E h k=>h1 H0 A0 G al H st σ env _ _ I E h λdv aD bq v H1 e1 I1 d1 q1=>h2 H0 A0 G bq H1 aD σ env v dv _ _ I1 (E.ext e1) d1 q1 (k.nx.go I1 e1)
theorem az{i:Nat}{x:Str}{pos':Pos}(hN:X.N.Nodup)(hi:X.N[i]?=some x)(hx:Loc X.env.scope x)(he:bz X Y e ea)(hs:swapsWith e (some (.Name x pos')) pos.line X.env=pure false:=by rfl)(hf:X.fn x=true∨X.env.scope.names.lookup x=some .local:=by first | exact .inl rfl | exact .inr rfl | assumption):Bx X Y (.Assign [.Name x pos'] e pos) (zY ea (gN i)):=by
 obtain⟨t,p1,a1⟩:=he.h;exact⟨_,vH hN hi hx p1 hs hf,wu a1 js⟩
theorem mL{g:qz}(he:bz X Y e ea)(hg:NW X Y tg g)(hs:swapsWithSole [tg] e pos.line X.env=pure false:=by rfl)(hw:swappedStores [tg] e X.env=pure none:=by rfl)(h1:(assignEach [tg] X.env).map (·.2)=[assign tg X.env]:=by rfl):Bx X Y (.Assign [tg] e pos) (zY ea g):=by
 obtain⟨t,p1,a1⟩:=he.h;obtain⟨gg,p2,a2⟩:=hg.h;exact⟨_,KJ p1 p2 hs hw h1,wu a1 a2⟩
theorem pC{fin:List PyData->aK->DC->Prop}(hf:HL (kf X Y) fin)
  {i:Nat} {x:Str} {pos' spos:Pos} (hN:X.N.Nodup) (hxi:X.N[i]?=some x) (hx:Loc X.env.scope x) {elt iter:Expr} {ifs:List Expr} {g:TG} {di:pA} {dg:qz} {dt:DT} {de:DX} (own:Nat) (N:List Str) (ix:List Nat) (B:mq X own N ix scope) (hi:EU X Y tg iter di)
  (hg:∀(C:Addr) (fp:List Addr) (s:Shared) (H:Hp),PG (X.lT N scope C fp s H) tg g) (ag:AG (kf X Y) g dg) (gb:GB own g)
  (hin:∀(C:Addr) (fp:List Addr) (s:Shared) (H:Hp),Px (X.lT N scope C fp s H) Y ifs dt/\bz (X.lT N scope C fp s H) Y elt de)
  (hsw:swapsWith (.ListComp elt [⟨tg,iter,ifs,0⟩] scope pos) (some (.Name x pos')) spos.line X.env=pure true:=by rfl) (hs:∀x,foldedSetIterable iter X.env x=pure x:=by intro _;rfl)
  (hfn:X.fn x=true∨X.env.scope.names.lookup x=some .local:=by first | exact .inl rfl | exact .inr rfl):Bx X Y (.Assign [.Name x pos'] (.ListComp elt [⟨tg,iter,ifs,0⟩] scope pos) spos) (zY (CF fin own ix di dg dt de) (gN i)):=by
 obtain⟨wi,p1,a1⟩:=hi.h;exact⟨_,xQ hN hxi hx own N ix B p1 (λC fp s H=>⟨hg C fp s H,(hin C fp s H).1.h,(hin C fp s H).2.pe⟩) hsw hs hfn,wu (Kf hf a1 ag gb) js⟩
theorem yc{c:Expr}{tc:DT}{body:List Stmt}(hp:PassesOwn (model X.prog X.w) X.A X.env X.xe)(hc:wb X Y c tc)(hb:wt X Y body s):Bx X Y (.While c body [] pos) (Ff tc s):=by
 obtain⟨t,p1,a1⟩:=hc.h;obtain⟨r,p2,a2⟩:=hb.h;refine⟨_,Dq hp p1 p2,λH0 A0 G al H st σ env DD D I E h k=>?_⟩;obtain⟨W,⟨m0,w0⟩,step⟩:=h;refine⟨λm σ' H'=>∃env' st' al',Ext al H st al' H' st'/\DI (kf X Y) H0 A0 G al' H' st'/\pj X.K (Fb G al' st') H' al' σ' env'/\W m env' st',⟨m0,env,st,al,.refl,I,E,w0⟩,?_⟩;rintro m σ1 H1 ⟨HP,aD,bq,e1,I1,E1,w1⟩;refine a1 H0 A0 G bq H1 aD σ1 HP _ _ I1 E1 (step m HP aD w1) λb bu cu H2 e2 I2 q2=>?_
 have oU:=e1.trans I1 e2
 cases b with
 | false=>exact bZ (k.nx HP bu cu σ1 H2 oU I2 (E1.ext e2) (by rw[XA Xq]at q2;exact q2))
 | true =>
  rw[XB rfl]at q2;refine cc ⟨_,λσ' H' z=>z,a2 H0 A0 G cu H2 bu σ1 HP _ _ I2 (E1.ext e2) q2 ⟨?_,k.rt.go I2 oU,k.nx.go I2 oU,?_⟩⟩
  ·rintro env' st' al' σ' H' e' I' E' ⟨m',lt,w'⟩;exact⟨m',lt,env',st',al',oU.trans I2 e',I',E',w'⟩
  ·rintro env' st' al' σ' H' e' I' E' ⟨m',lt,w'⟩;exact⟨m',lt,env',st',al',oU.trans I2 e',I',E',w'⟩
theorem iW{iter:Expr}{body:List Stmt}{di:pA}{g:qz}(hp:PassesOwn (model X.prog X.w) X.A X.env X.xe)(hc:X.calm=true)(hi:EU X Y tg iter di)(hg:NW X Y tg g)(hb:wt X Y body s)(hs:∀x,foldedSetIterable iter X.env x=pure x:=by intro _;rfl):Bx X Y (.For tg iter body [] pos) (LN di g s):=by
 obtain⟨t,p1,a1⟩:=hi.h;obtain⟨gg,p2,a2⟩:=hg.h;obtain⟨r,p3,a3⟩:=hb.h;refine⟨_,Dr hp hc p1 p2 p3 hs,λH0 A0 G al H st σ env DD D I E h k=>a1 H0 A0 G al H st σ env _ _ I E h λJj xs ok aD bq H1 e1 I1 ir q1=>?_⟩;obtain⟨W,w0,step⟩:=q1;refine⟨λi m σ' H'=>(m=xs.length - i/\i<=xs.length)/\∃env' st' al',Ext bq H1 aD al' H' st'/\DI (kf X Y) H0 A0 G al' H' st'/\pj X.K (Fb G al' st') H' al' σ' env'/\W i env' st',⟨_,⟨rfl,X3 _⟩,env,aD,bq,.refl,I1,E.ext e1,w0⟩,?_⟩;rintro i m σ2 H2 ⟨⟨em,hil⟩,gr,bu,cu,e2,I2,E2,w2⟩;obtain⟨hok,hnx,hst⟩:=step i gr bu hil w2;have IR:=ir G cu H2 bu i (λc z=>.inl z) e2 I2 hok;have oU:=e1.trans I1 e2;by_cases hx:i < xs.length
 ·obtain⟨d0,Kg⟩:∃d0,xs[i]?=some d0:=⟨xs[i],dC hx⟩;obtain⟨go,yl⟩:=IR.1 d0 Kg;refine .inr ⟨go,λσ' H'=>∃m',m' < m/\(m'=xs.length - (i + 1)/\i + 1<=xs.length)/\∃env' st' al',Ext bq H1 aD al' H' st'/\DI (kf X Y) H0 A0 G al' H' st'/\pj X.K (Fb G al' st') H' al' σ' env'/\W (i + 1) env' st',λσ' H' z=>z,λx H3 hy=>?_⟩;obtain⟨s3,r3⟩:=yl x H3 hy;have I3:=I2.same s3;have Vr:Ext cu H2 bu cu H3 bu:=.same s3;refine a2 H0 A0 G cu H3 bu σ2 gr x (.dat d0) _ _ I3 (E2.ext Vr) (.d r3) (hst d0 Kg) λTK qu LI σ4 H4 e4 I4 E4 q4=>?_
  have TL:=Vr.trans I3 e4;have Vs:=e2.trans I2 TL;refine a3 H0 A0 G LI H4 qu σ4 TK _ _ I4 E4 q4 ⟨?_,k.rt.go I4 (oU.trans I2 TL),k.nx.go I4 (oU.trans I2 TL),?_⟩
  ·intro env' st' al' σ' H' e' I' E' w';exact⟨xs.length - (i + 1),by omega,⟨rfl,hx⟩,env',st',al',Vs.trans I4 e',I',E',w'⟩
  ·intro env' st' al' σ' H' e' I' E' w';exact⟨xs.length - (i + 1),by omega,⟨rfl,hx⟩,env',st',al',Vs.trans I4 e',I',E',w'⟩
 ·have ei:i=xs.length:=by omega
  exact .inl ⟨IR.2 (by omega) (by omega),k.nx gr bu cu σ2 H2 oU I2 E2 (hnx ei)⟩
def iu(X:Cx)(Y:YK)(body:List Stmt)(DD:dr)(env:bO)(st:aK):Prop:=∃s,wt X Y body s/\s DD env st
theorem ai{DD:dr}{env:bO}{st:aK}(h:Bx X Y stm s)(k:∀R:bO->aK->Prop,(∀env' st',iu X Y rest DD env' st'->R env' st')->s {DD with nx:=R} env st):iu X Y (stm::rest) DD env st:=by
 obtain⟨t,p1,a1⟩:=h.h;refine⟨yb s (λDD env st=>iu X Y rest DD env st),⟨KC t (λD σ H=>∃r,ud X rest r/\r D σ H),qK p1 (λpins s σ H D I ⟨_,hu,q⟩=>hu pins s σ H D I q),Fg a1 λH0 A0 G al H st σ env DD D I E h k=>?_⟩,k _ λ_ _ z=>z⟩;obtain⟨s2,⟨r,p2,a2⟩,q⟩:=h;exact⟨r,p2,a2 H0 A0 G al H st σ env DD D I E q k⟩
theorem aS{DD:dr}{env:bO}{st:aK}(h:Bx X Y stm s)(k:s DD env st):iu X Y [stm] DD env st:=⟨s,aq h,k⟩
theorem vi{N:List Str}{body:List Stmt}{vs:List V}{ds:List PyData}{H:Hp}{Q:VK}{P:Addr->Prop}(hP:∀c,P c->∃o,H c=some o/\kE o)(hv:cB (aM X.K P H) vs ds)(hy:Y.Y H (λ_=>False) P)
  (h:iu X Y body {nx:=λ_ _=>∀v H',bD H H'->aM X.K P H' v .none->Q v H',rt:=λdv st=>mi dv st λd _=>∀v H',bD H H'->aM X.K P H' v d->Q v H'} (ds.map (λd=>some (DV.dat d))++List.replicate (N.length - ds.length) none) []) :
  ∃t,ud X body t/\t {nx:=λ_ H'=>Q .non H',rt:=Q} (start N vs) H:=by
 obtain⟨s,⟨t,p1,a1⟩,q⟩:=h;have lv:∀c,¬ Lv [] [] c:=λc ⟨k,xs,ce,h,_⟩=>by simp at h
 have I:DI (kf X Y) H (λ_=>False) P [] H []:=⟨rfl,List.nodup_nil,λ_ h=>by simp at h,λk a c h=>by simp at h,λc o _ e=>e,λ_ h=>by simp at h,λ_ h=>by simp at h,hP,hy⟩
 have fb:∀c,Fb P [] [] c->P c:=λc z=>by
  rcases z with z | z
  ·exact z
  ·exact absurd z (lv c)
 refine⟨t,p1,a1 H (λ_=>False) P [] H [] _ _ _ _ I ⟨by unfold start;simp[hv.1],λi dv hi=>?_⟩ q ⟨λenv' st' al' σ' H' e' I' E' q'=>?_,λdv st' al' v H' e' I' d' q'=>?_,λenv' st' al' σ' H' e' I' E' q'=>q'.elim,λenv' st' al' σ' H' e' I' E' q'=>q'.elim⟩⟩
 ·by_cases l:i < ds.length
  ·rw[List.getElem?_append_left (by simpa using l),List.getElem?_map,dC l]at hi;cases hi;obtain⟨y,hy,hr⟩:=hv.at (dC l);refine⟨y,?_,.d (aM.sub hr fb)⟩;unfold start;rw[List.getElem?_append_left (by rw[List.length_map,hv.1];exact l),List.getElem?_map,hy];rfl
  ·rw[List.getElem?_append_right (by simp;omega)]at hi;rw[List.getElem?_replicate]at hi;split at hi
   ·cases hi
   ·cases hi
 ·exact q' .non H' (λc o e=>I'.fr c o id e) .non
 ·obtain⟨d,bu,_,I2,F,q2⟩:=r8 I' d' q';exact q2 v H' (λc o e=>I'.fr c o id e) (aM.sub F λc z=>.inl z)
theorem yd{N:List Str}{body:List Stmt}{vs:List V}{ds:List PyData}{H:Hp}{Q:VK}{P:Addr->Prop}(hP:∀c,P c->∃o,H c=some o/\kE o)(hv:cB (aM X.K P H) vs ds)
  (h:iu X y0 body {nx:=λ_ _=>∀v H',bD H H'->aM X.K P H' v .none->Q v H',rt:=λdv st=>mi dv st λd _=>∀v H',bD H H'->aM X.K P H' v d->Q v H'} (ds.map (λd=>some (DV.dat d))++List.replicate (N.length - ds.length) none) []) :
  ∃t,ud X body t/\t {nx:=λ_ H'=>Q .non H',rt:=Q} (start N vs) H:=vi hP hv trivial h
end
@[reducible] def PD:DV->String
 | .dat .none=>"NoneType"
 | .dat (.bool _)=>"bool"
 | .dat (.int _)=>"int"
 | .dat (.str _)=>"str"
 | .dat (.list _)=>"list"
 | .dat (.tuple _)=>"tuple"
 | .dat (.dict _)=>"dict"
 | .ref _=>"list"
def IsT(K:aJ)(n:String)(f:String->Bool):Prop:=∀t∈(["NoneType","bool","int","str","list","tuple"]:List String),PySem.W.kitOne K (.type t) (.type n)=some (f t)
@[reducible] def vj(n:String):String->Bool:=λt=>t == n
@[reducible] def LO(f:String->Bool)(ea:DX)(env:bO)(st:aK)(Q:DC):Prop:=ea env st λx aD=>match x with
 | .dat (.dict _)=>False
 | .dat d=>Q (.dat (.bool (f (PD (.dat d))))) aD
 | .ref k=>NX aD k=true/\Q (.dat (.bool (f "list"))) aD
theorem gP.ty{K:aJ}{P:Addr->Prop}{al:List (List Addr)}{H:Hp}{v:V}{d:PyData}(h:gP K P H al v (.dat d))(nd:∀kv,d=.dict kv->False):DW K H v (PD (.dat d))/\PD (.dat d)∈(["NoneType","bool","int","str","list","tuple"]:List String):=by
 cases d with
 | none=>rw[aM.fc h];exact⟨.non,by simp⟩
 | bool b=>rw[aM.gR h];exact⟨.bl _,by simp⟩
 | int b=>rw[aM.aV h];exact⟨.int _,by simp⟩
 | str b=>rw[aM.cv h];exact⟨.str _,by simp⟩
 | list ds=>obtain⟨b,ys,rfl,g2,_⟩:=aM.jG h;exact⟨.lst g2,by simp⟩
 | tuple ds=>obtain⟨b,ys,rfl,g2,_⟩:=aM.dF h;exact⟨.tup g2,by simp⟩
 | dict kv=>exact(nd kv rfl).elim
theorem zZ{X:Cx}{Y:YK}{a:Expr}{ea:DX}{pos p p2:Pos}{T:Str}{n:String}{f:String->Bool}(hf:IsT X.K n f)(hg:Gl X "isinstance")(hm:X.mg "isinstance"=none)(Wm:Gl X T)(Wn:X.mg T=none)(hb:bootBuiltins T=some (.type n))(ha:bz X Y a ea)(hn:T≠"__name__":=by decide)(hd:(T == ("__debug__" : Str))=false:=by decide)
  (h1:starEach [a,.Name T p2] X.env=(false,eval a X.env)::starEach [.Name T p2] X.env:=by rfl):bz X Y (.Call (.Name "isinstance" p) [a,.Name T p2] [] pos) (LO f ea):=by
 obtain⟨t,p1,a1⟩:=ha.h;refine⟨_,cV kB hg hm bF (pK p1 (pK (lD (v:=.ty n) Wm Wn hb rfl hn hd) pN rfl) h1) (by decide) (by decide) h1 rfl,λH0 A0 G al H st s env Q R I E q k=>a1 H0 A0 G al H st s env _ _ I E q λx aD bq v H1 e1 I1 d1 q1=>?_⟩;split at q1
 ·exact q1.elim
 ·rename_i nd;obtain⟨ty,mem⟩:=d1.ty nd;exact⟨v,n,_,_,rfl,ty,hf _ mem,(k.go I1 e1).here I1 (.d (.bl _)) q1⟩
 ·obtain⟨b,ys,rfl,g⟩:=Bw I1 d1 q1.1;exact⟨_,n,"list",_,rfl,.lst g,hf _ (by simp),(k.go I1 e1).here I1 (.d (.bl _)) q1.2⟩
theorem LP{K:aJ}{n:String}{f:String->Bool}(h1:PySem.W.kitOne K (.type "NoneType") (.type n)=some (f "NoneType"))(h2:PySem.W.kitOne K (.type "bool") (.type n)=some (f "bool"))(h3:PySem.W.kitOne K (.type "int") (.type n)=some (f "int"))(h4:PySem.W.kitOne K (.type "str") (.type n)=some (f "str"))(h5:PySem.W.kitOne K (.type "list") (.type n)=some (f "list"))(h6:PySem.W.kitOne K (.type "tuple") (.type n)=some (f "tuple")):IsT K n f:=λt ht=>by
 simp only[List.mem_cons,List.not_mem_nil,or_false]at ht;rcases ht with rfl | rfl | rfl | rfl | rfl | rfl<;>assumption
@[reducible] def sj(o1 o2:Gv)(ea eb ec:DX)(env:bO)(st:aK)(Q:DC):Prop:=ea env st λx aD=>eb env aD λy bu=>o1 x y bu λz jB=>match z with
 | .dat (.bool b)=>if b=true then ec env jB λw qu=>o2 y w qu Q else Q (.dat (.bool false)) jB
 | _=>False
theorem ye{J:KF}{r r':R2}{o1 o2:Gv}{ta tb tc:TE}{ea eb ec:DX}(h1:AO J r o1)(h2:AO J r' o2)(ha:AE J ta ea)(hb:AE J tb eb)(hc:AE J tc ec):AE J (zw r r' ta tb tc) (sj o1 o2 ea eb ec):=λH0 A0 G al H st s env Q R I E q k=>by
 refine ha H0 A0 G al H st s env _ _ I E q λx aD bq v H1 e1 I1 d1 q1=>?_
 refine hb H0 A0 G bq H1 aD s env _ _ I1 (E.ext e1) q1 λy bu cu u H2 e2 I2 d2 q2=>?_
 have oU:=e1.trans I1 e2;refine h1 H0 A0 G cu H2 bu v u x y _ _ I2 (d1.ext e2) d2 q2 λz jB Lu w H3 e3 I3 d3 q3=>?_
 have PC:=oU.trans I2 e3;split at q3
 ·rename_i b;rw[aM.gR d3];refine⟨_,rfl,?_⟩
  cases b with
  | false=>exact bZ ((k.go I3 PC).here I3 (.d (.bl _)) (by rw[XA Xq]at q3;exact q3))
  | true =>
   rw[XB rfl]at q3;refine cc (hc H0 A0 G Lu H3 jB s env _ _ I3 (E.ext PC) q3 λw qu LI u4 H4 e4 I4 d4 q4=>?_);exact h2 H0 A0 G LI H4 qu u u4 y w Q R I4 ((d2.ext e3).ext e4) d4 q4 (k.go I4 (PC.trans I3 e4))
 ·exact q3.elim
theorem n8{X:Cx}{Y:YK}{a b c:Expr}{ea eb ec:DX}{pos:Pos}{op op':CmpOp}{r r':R2}{o1 o2:Gv}(ho:gq X (compareOp op) r)(ho':gq X (compareOp op') r')(h1:AO (kf X Y) r o1)(h2:AO (kf X Y) r' o2)(ha:bz X Y a ea)(hb:bz X Y b eb)(hc:bz X Y c ec)
  (hm:lastMarks [op,op'] [b,c]=false:=by with_unfolding_all rfl):bz X Y (.Compare a [op,op'] [b,c] pos) (sj o1 o2 ea eb ec):=by
 obtain⟨ta,p1,a1⟩:=ha.h;obtain⟨tb,p2,a2⟩:=hb.h;obtain⟨tc,p3,a3⟩:=hc.h;exact⟨_,nU ho ho' p1 p2 p3 hm,ye h1 h2 a1 a2 a3⟩
theorem jt{X:Cx}{Y:YK}{a b c:Expr}{ea eb ec:DX}{pos:Pos}{op op':CmpOp}{r r':R2}{o1 o2:Gv}(ho:gq X (compareOp op) r)(ho':gq X (compareOp op') r')(h1:AO (kf X Y) r o1)(h2:AO (kf X Y) r' o2)(ha:bz X Y a ea)(hb:bz X Y b eb)(hc:bz X Y c ec)
  (hm:lastMarks [op,op'] [b,c]=false:=by with_unfolding_all rfl):wb X Y (.Compare a [op,op'] [b,c] pos) (CC (sj o1 o2 ea eb ec)):=by
 obtain⟨ta,p1,a1⟩:=ha.h;obtain⟨tb,p2,a2⟩:=hb.h;obtain⟨tc,p3,a3⟩:=hc.h;exact⟨_,Dy ho ho' p1 p2 p3 hm,zV (ye h1 h2 a1 a2 a3)⟩
theorem bg{j:Int}(h:0 < j)(h':j < 18446744073709551616):ED j:=⟨h,h'⟩
theorem aB{c:Prop}[Decidable c]{A B:Prop}(h1:c->A)(h2:¬ c->B):if decide c=true then A else B:=by
 by_cases e:c
 ·rw[XB (Xm e)];exact h1 e
 ·rw[XA (λz=>e (XI z))];exact h2 e
theorem iB{c:Prop}[Decidable c]{A B:Prop}(h1:¬ c->A)(h2:c->B):if (!decide c)=true then A else B:=by
 by_cases e:c
 ·rw[Xm e];exact bZ (h2 e)
 ·rw[Xp e];exact cc (h1 e)
theorem Fi{α:Type}{xs:List α}{j:Nat}{x:α}(h:xs[j]?=some x):kz xs (j:Int)=some x:=by
 have hl:=(bX h).1;unfold kz GU;rw[if_pos (by omega),if_pos (by omega)];show xs[((j:Nat):Int).toNat]?=some x;rw[Int.toNat_natCast];exact h
theorem Fj{K:aJ}{P:Addr->Prop}{H:Hp}{ns:List Int}:cB (aM K P H) (ns.map V.int) (ns.map PyData.int):=⟨by simp,λi y x hy hx=>by
 rw[XJ]at hy hx
 cases q:ns[i]? with
 | none=>rw[q]at hy;cases hy
 | some n=>rw[q]at hy hx;cases hy;cases hx;exact .int _⟩
theorem sk{α β:Type}{f:α->β}{l:List α}{i:Nat}{d:β}(h:(l.map f)[i]?=some d):∃a,l[i]?=some a/\d=f a:=by
 rw[XJ]at h
 cases q:l[i]? with
 | none=>rw[q]at h;cases h
 | some a=>rw[q]at h;cases h;exact⟨a,rfl,rfl⟩
theorem bP{α β:Type}{f:α->β}{l:List α}{j:Nat}{a:α}(h:l[j]?=some a):kz (l.map f) (j:Int)=some (f a):=Fi (by rw[XJ,h];rfl)
@[reducible] def LQ(n:Nat)(ea:DX)(env:bO)(st:aK)(Q:DC):Prop:=ea env st λx aD=>match n4 aD x with
 | some ds=>match ds[n]? with
  | some d=>Q (.dat d) aD
  | none=>False
 | none=>False
theorem aE{X:Cx}{Y:YK}{a:Expr}{ea:DX}{pos p:Pos}{n:Nat}{j}(ha:bz X Y a ea)(hs:vM (.Constant (.int (n:Int)) j p):=by exact λ_ _=>rfl):bz X Y (.Subscript a (.Constant (.int (n:Int)) j p) pos) (LQ n ea):=by
 obtain⟨ta,p1,a1⟩:=ha.h;refine⟨_,kh DG p1 pI hs,λH0 A0 G al H st s env Q R I E q k=>a1 H0 A0 G al H st s env _ _ I E q λx aD bq v H1 e1 I1 d1 q1=>?_⟩;split at q1
 ·rename_i ds e;split at q1
  ·rename_i d hd;obtain⟨b,ys,rfl,g1,g2⟩:=d1.Po I1 e;obtain⟨z,g3,g4⟩:=g2.kz (Fi hd);have kk:=(k.go I1 e1).here I1 (.d g4) q1;rcases g1 with g1 | g1
   ·exact .inl ⟨b,ys,_,z,rfl,rfl,g1,g3,kk⟩
   ·exact .inr (.inl ⟨b,ys,_,z,rfl,rfl,g1,g3,kk⟩)
  ·exact q1.elim
 ·exact q1.elim
structure Sh(n:Nat)(d:PyData):Prop where
 cl:d.canLay0=true
 dp:d.depth<=n
theorem LR{n:Nat}:Sh n .none:=⟨rfl,X3 _⟩
theorem wx{n:Nat}{i:Int}:Sh n (.int i):=⟨rfl,X3 _⟩
theorem wy{n:Nat}{x:Str}(h:PyData.canLay0 (.str x)=true:=by decide +kernel):Sh n (.str x):=⟨h,X3 _⟩
theorem sq{n:Nat}:∀{ds:List PyData},(∀d∈ds,Sh n d)->PyData.canLayAll0 ds=true/\PyData.depthAll ds<=n
 | [],_=>⟨rfl,X3 _⟩
 | d::r,h=>by
  obtain⟨h1,h2⟩:=sq (ds:=r) λx hx=>h x (X2 _ hx)
  have hd:=h d XZ;refine⟨?_,?_⟩
  ·show(PyData.canLay0 d&&PyData.canLayAll0 r)=true;rw[hd.cl,h1];rfl
  ·show max (PyData.depth d) (PyData.depthAll r)<=n;exact Nat.max_le.mpr ⟨hd.dp,h2⟩
theorem HQ{n:Nat}{ds:List PyData}(h:∀d∈ds,Sh n d):Sh (n + 1) (.list ds):=⟨(sq h).1,Nat.succ_le_succ (sq h).2⟩
theorem su{n:Nat}{ds:List PyData}(h:∀d∈ds,Sh n d):Sh (n + 1) (.tuple ds):=⟨(sq h).1,Nat.succ_le_succ (sq h).2⟩
theorem sv{n:Nat}:∀d∈([]:List PyData),Sh n d:=λ_ h=>nomatch h
theorem gu{n:Nat}{x:PyData}{ds:List PyData}(h:Sh n x)(r:∀d∈ds,Sh n d):∀d∈x::ds,Sh n d:=λd hd=>by
 rcases X4.mp hd with z | z
 ·rw[z];exact h
 ·exact r d z
theorem LS{α:Type}{n:Nat}{f:α->PyData}{l:List α}(h:∀a∈l,Sh n (f a)):∀d∈l.map f,Sh n d:=λd hd=>by
 obtain⟨a,ha,rfl⟩:=YH.mp hd;exact h a ha
theorem Sh.ok{n:Nat}{d:PyData}(h:Sh n d)(l:n<=64:=by decide):PySem.SeqAt.shaped d=true:=by
 show(d.canLay0&&decide (d.depth<=64))=true;rw[h.cl,Xm (XT h.dp l)];rfl
def sub{α:Type}:List Nat->List α->List α
 | [],_=>[]
 | k::ks,xs=>match xs[k]? with
  | some x=>x::sub ks xs
  | none=>sub ks xs
def Ce.nd:Ce->Prop
 | .deep _=>False
 | _=>True
section
variable {K:aJ} {J:KF} {H0 H H1:Hp} {A0 G:Addr->Prop} {al bq:List (List Addr)} {st aD:aK} {ks:List Nat}
end
theorem n9{s u:DS}{DD:dr}{env:bO}{st:aK}(k:∀R:bO->aK->Prop,(∀env' st',u DD env' st'->R env' st')->s {DD with nx:=R} env st):yb s u DD env st:=k (u DD) (λ_ _ h=>h)
theorem Fl{s u v:DS}{DD:dr}{env:bO}{st:aK}(k:∀R:bO->aK->Prop,(∀env' st',v DD env' st'->R env' st')->yb s u {DD with nx:=R} env st):yb s (yb u v) DD env st:=k (v DD) (λ_ _ h=>h)
abbrev Gw:=List (Str×PyData)
def Ki(K:aJ)(P:Addr->Prop)(H:Hp)(dd:Option Addr)(fs:Gw):Prop:=fs=[]∨∃dx vs,dd=some dx/\H dx=some (.ext (XD dx vs))/\¬ P dx/\vs.map (·.1)=fs.map (·.1)/\cB (aM K P H) (vs.map (·.2)) (fs.map (·.2))
theorem Ki.sub{K:aJ}{P P':Addr->Prop}{H:Hp}{dd:Option Addr}{fs:Gw}(h:Ki K P H dd fs)(s:∀c,P' c->P c):Ki K P' H dd fs:=by
 rcases h with h | ⟨dx,vs,h1,h2,h3,h4,h5⟩
 ·exact .inl h
 ·exact .inr ⟨dx,vs,h1,h2,λz=>h3 (s _ z),h4,h5.imp λy x z=>z.sub s⟩
def yx(K:aJ)(E:XK)(P0:Addr->Prop)(Ex:Addr->Gw->Prop):YK:=⟨λH0 A0 G=>(∀c,P0 c->G c)/\∀C fs dd H',Ex C fs->jr A0 H0 H'->Ki K P0 H' dd fs->E (.ref C) dd H',λ_ _ _ _ s h=>⟨λc z=>s c (h.1 c z),h.2⟩⟩
abbrev De:=List PyData->(PyData->Prop)->(Addr->Gw->Prop)->Prop
def RQ(K:aJ)(T:De):Sp:=λvs H Q E=>∃(P:Addr->Prop) (ds:List PyData),(∀c,P c->∃o,H c=some o/\kE o)/\cB (aM K P H) vs ds/\T ds (λd=>∀v H',bD H H'->aM K P H' v d->Q v H') (λC fs=>∀dd H',bD H H'->Ki K P H' dd fs->E (.ref C) dd H')
def z7(K:aJ)(sp:Sp)(T:De):Prop:=∀(vs:List V) (H:Hp) (Q:VK) (E:XK) (P:Addr->Prop) (ds:List PyData),(∀c,P c->∃o,H c=some o/\kE o)->cB (aM K P H) vs ds->T ds (λd=>∀v H',bD H H'->aM K P H' v d->Q v H') (λC fs=>∀dd H',bD H H'->Ki K P H' dd fs->E (.ref C) dd H')->sp vs H Q E
theorem Fm{K:aJ}{T:De}:z7 K (RQ K T) T:=λvs H Q E P ds h1 h2 h3=>⟨P,ds,h1,h2,h3⟩
def vk(T:De):Prop:=∀ds (Q Q':PyData->Prop) (X X':Addr->Gw->Prop),(∀d,Q d->Q' d)->(∀C fs,X C fs->X' C fs)->T ds Q X->T ds Q' X'
@[reducible] def pD(T:De)(Ex:Addr->Gw->Prop)(xs:List DV)(st:aK)(Q:DC):Prop:=dn xs st λds aD=>T ds (λd=>Q (.dat d) aD) Ex
section
variable {K:aJ} {E:XK} {P0:Addr->Prop} {Ex:Addr->Gw->Prop}
theorem Fo{sp:Sp}{T:De}(h:z7 K sp T)(m:vk T):AB ⟨K,yx K E P0 Ex⟩ (λvs H Q=>sp (vs++[]) H Q E) (pD T Ex):=λH0 A0 G al H st vs ds Q R I hp q k=>by
 obtain⟨es,aD,E1,I1,F1,q1⟩:=dY I hp q;rw[Ys];refine h vs H R E (Fb G al aD) es (λc hc=>I1.rY hc) F1 (m _ _ _ _ _ (λd hd v H' s r=>(k.go I1 E1).laid I1 s (.d r) hd) (λC fs hx dd H' s x=>?_) q1);have lk:=I1.lk;exact lk.2 C fs dd H' hx (I1.fr.trans (jr.of s)) (x.sub λc z=>.inl (lk.1 c z))
end
section
variable {X:Cx} {a b c e:Expr} {es:List Expr} {pos p:Pos} {n:Nat} {d:lF} {x:Str} {E:XK} {P0:Addr->Prop} {Ex:Addr->Gw->Prop}
theorem yf{J:KF}{t:TA}{sp:Sp}{o:RK}(h:AB J (λvs H Q=>sp (vs++[]) H Q E) o)(ha:AA J t n d):AE J (rL sp [] E t) (xD o d):=λH0 A0 G al H st s env Q R I En q k=>by
 refine ha H0 A0 G al H st s env _ _ I En q λxs aD bq vs H1 e1 I1 d1 q1=>?_
 exact h H0 A0 G bq H1 aD vs xs Q R I1 d1 q1.2 (k.go I1 e1)
theorem Fp{kk:Nat}{ps:List Str}{sp:Sp}{T:De}(h:dj X.prog X.w X.K X.mg X.base (t8 X.prog X.w) x kk ps sp)(hx:Passes (t8 X.prog X.w) X E)(hs:z7 X.K sp T)(m:vk T)(hr:cK kk X.A)(hg:Gl X x)(ha:qw X (yx X.K E P0 Ex) (e::es) n d)(hdb:(x == ("__debug__" : Str))=false:=by decide)
  (he:starEach (e::es) X.env=(false,eval e X.env)::starEach es X.env:=by rfl) (hpl:(backTo pos (starEach es X.env)).any (·.1)=false:=by rfl):bz X (yx X.K E P0 Ex) (.Call (.Name x p) (e::es) [] pos) (xD (pD T Ex) d):=by
 obtain⟨t,p1,a1⟩:=ha.h;exact⟨_,Ep h hx hr hg p1 hdb he hpl,yf (Fo hs m) a1⟩
@[reducible] def wz(C:Addr)(fs:List Str)(Ex:Addr->Gw->Prop)(d:lF)(_:dr)(env:bO)(st:aK):Prop:=d env st λxs aD=>xs.length=fs.length/\dn xs aD λds _=>Ex C (fs.zip ds)
theorem lH{C:Addr}{fs:List Str}{np cpos:Pos}(hz:Tq X E)(M:Ek X.prog X.w X.K X.mg X.base C fs)(hr:cK 2 X.A)(hg:Gl X x)(hm:X.mg x=some (.ref C))(hc:X.calm=true)(ha:qw X (yx X.K E P0 Ex) (e::es) n d)(hdb:(x == ("__debug__" : Str))=false:=by decide)
  (he:starEach (e::es) X.env=(false,eval e X.env)::starEach es X.env:=by rfl) (hpl:(backTo cpos (starEach es X.env)).any (·.1)=false:=by rfl):Bx X (yx X.K E P0 Ex) (.Raise (some (.Call (.Name x np) (e::es) [] cpos)) none pos) (wz C fs Ex d):=by
 obtain⟨t,p1,a1⟩:=ha.h;refine⟨_,Cz hz M hr hg hm hc p1 hdb he hpl,λH0 A0 G al H st σ env DD D I En q k=>?_⟩;refine a1 H0 A0 G al H st σ env _ _ I En q λxs aD bq vs H1 e1 I1 d1 q1=>?_
 obtain⟨_,hl,q1⟩:=q1;obtain⟨ds,bu,E2,I2,F2,q2⟩:=dY I1 d1 q1;refine⟨d1.1.trans hl,λdx H2 nd s g=>?_⟩;have lk:=I2.lk
 have np':¬ P0 dx:=λz=>by
  obtain⟨o,e',_⟩:=I2.gs dx (lk.1 dx z);rw[nd]at e';cases e'
 have lv:vs.length=fs.length:=d1.1.trans hl;have ld:ds.length=fs.length:=by rw[← F2.1];exact lv
 refine lk.2 C _ (some dx) H2 q2 (I2.fr.trans (jr.of s)) (.inr ⟨dx,_,rfl,g,np',?_,?_⟩)
 ·rw[List.map_fst_zip (by omega),List.map_fst_zip (by omega)]
 ·rw[List.map_snd_zip (by omega),List.map_snd_zip (by omega)];exact F2.imp λy x z=>(z.sub λc w=>.inl (lk.1 c w)).same s
theorem CG{N:List Str}{body:List Stmt}{vs:List V}{ds:List PyData}{H:Hp}{Q:VK}{P:Addr->Prop}(hP:∀c,P c->∃o,H c=some o/\kE o)(hv:cB (aM X.K P H) vs ds)(hE:∀C fs,Ex C fs->∀dd H',bD H H'->Ki X.K P H' dd fs->E (.ref C) dd H')
  (h:iu X (yx X.K E P Ex) body {nx:=λ_ _=>∀v H',bD H H'->aM X.K P H' v .none->Q v H',rt:=λdv st=>mi dv st λd _=>∀v H',bD H H'->aM X.K P H' v d->Q v H'} (ds.map (λd=>some (DV.dat d))++List.replicate (N.length - ds.length) none) []) :
  ∃t,ud X body t/\t {nx:=λ_ H'=>Q .non H',rt:=Q} (start N vs) H :=
 vi (Y:=yx X.K E P Ex) hP hv ⟨λ_ z=>z,λC fs dd H' e k x=>hE C fs e dd H' (λc o q=>k c o id q) x⟩ h
end
section
variable {X:Cx} {CW:Addr} {cx n:Str} {i:Nat} {b₀:Stmt} {suite:List Stmt} {np hpos pos:Pos} {tb:TS}
end
section
variable {J:KF} {H0:Hp} {A0:Addr->Prop} {G:Addr->Prop} {al bq:List (List Addr)} {H H1:Hp} {st aD:aK}
end
section
variable {X:Cx} {Y:YK} {CW:Addr} {cx n x:Str} {i:Nat} {b₀:Stmt} {suite:List Stmt} {np hpos pos:Pos} {s:DS} {nn:Nat} {d:lF} {e:Expr} {es:List Expr}
theorem Fq{J:KF}{sp:Sp}{T:De}(h:z7 J.K sp T)(m:vk T):AB J (λvs H Q=>sp (vs++[]) H Q E0) (pD T λ_ _=>False):=λH0 A0 G al H st vs ds Q R I hp q k=>by
 obtain⟨es,aD,E1,I1,F1,q1⟩:=dY I hp q;rw[Ys];exact h vs H R E0 (Fb G al aD) es (λc hc=>I1.rY hc) F1 (m _ _ _ _ _ (λd hd v H' s r=>(k.go I1 E1).laid I1 s (.d r) hd) (λC fs hx=>hx.elim) q1)
theorem yg{kk:Nat}{ps:List Str}{sp:Sp}{T:De}{p:Pos}(h:dj X.prog X.w X.K X.mg X.base (t8 X.prog X.w) x kk ps sp)(hs:z7 X.K sp T)(m:vk T)(hr:cK kk X.A)(hg:Gl X x)(ha:qw X Y (e::es) nn d)(hdb:(x == ("__debug__" : Str))=false:=by decide)
  (he:starEach (e::es) X.env=(false,eval e X.env)::starEach es X.env:=by rfl) (hpl:(backTo pos (starEach es X.env)).any (·.1)=false:=by rfl):bz X Y (.Call (.Name x p) (e::es) [] pos) (xD (pD T λ_ _=>False) d):=by
 obtain⟨t,p1,a1⟩:=ha.h;exact⟨_,Ep h Lk hr hg p1 hdb he hpl,yf (Fq hs m) a1⟩
end
section
variable {X:Cx} {Y:YK} {a b c e:Expr} {es:List Expr} {pos p:Pos} {ea eb ec:DX} {K:aJ} {J:KF} {n:Nat} {d:lF}
theorem BA:NV J KG vh:=λH0 A0 G al H st s env vs ds Q R I E h q k=>by
 unfold vh at q;split at q
 ·have:=h.1
  cases vs with
  | nil=>exact⟨rfl,k _ _ al _ H .refl I E q⟩
  | cons v r=>simp at this
 ·exact q.elim
def Kj(K:aJ):R2:=λx y H Q=>∃l k xs,x=.ref l/\y=.int k/\fV K H l xs/\-(2 ^ 63)<=k/\k < 2 ^ 63/\xs.length * k.toNat<=sizeLine /\
 ∀p,H p=none->Q (.ref p) (upd H p (.lst (List.replicate k.toNat xs).flatten))
theorem CH(l:Addr)(items:Array Value)(n:Nat)(x:Int)(u:Tok)(sl:Array (Option Value))(W6:¬(!Builtin.List.listFitsIndex x)=true)(PF:¬items.size * x.toNat > (2 ^ 63 - 1) / 8)(Cd:¬Builtin.List.listTooLong (items.size * x.toNat)=true):
  Meets (Builtin.«list.__mul__» ⟨[.ref l,.int x u],[]⟩) (λ_ R s=>s.heap.get? l=some {cls:=.type "list",dict:=none,data:=.seq items n,slots:=sl}/\R (.ok (.ret (Value.ref s.heap.objs.size))) {s with heap:=s.heap.push {cls:=Value.type "list",data:=Data.seq (List.foldl (λx1 x2=>x1++x2) #[] (List.replicate (if items.isEmpty=true then 0 else x.toNat) items))},toks:=s.toks}) :=
 .of_wp λprog w A R s h=>by
  obtain⟨hp,g,d,tk,os⟩:=s;obtain⟨hl,h⟩:=h;have hsz:=AutoListH.joined_fits Cd
  wp_walk;refine Zu (Xp (Nat.not_lt.mpr hsz)) ?_;wp_walk;exact⟨_,rfl,h⟩
theorem CI(a:Int)(t:Tok)(l:Addr)(items:Array Value)(n:Nat)(sl:Array (Option Value)):
  Meets (Builtin.«int.__rmul__» ⟨[.int a t,.ref l],[]⟩) (λ_ R s=>s.heap.get? l=some {cls:=.type "list",dict:=none,data:=.seq items n,slots:=sl}/\R (.ok (.ret Value.notImplemented)) s) :=
 .of_wp λprog w A R s h=>by obtain⟨hp,g,dd,tk,os⟩:=s;obtain⟨hl,h⟩:=h;wp_walk;exact⟨_,rfl,h⟩
theorem HR:gq X (binaryOp .Mult) (Kj X.K):=by
 intro pins s σ H x y v u Q I rx ry h;obtain⟨l,k,xs,rfl,rfl,hH,h1,h2,hz,q⟩:=h;cases rx;obtain⟨t,rfl⟩:=ry;obtain⟨its,r,⟨⟨c1,d1,a1,D1⟩,n,e,rfl,rfl,rfl⟩,z⟩:=I.list hH;have hl:=r.length;have hlen:its.toArray.size * k.toNat<=sizeLine:=by rw[Yk,← hl];exact hz
 have hcap:¬ its.toArray.size * k.toNat > (2 ^ 63 - 1) / 8:=by
  have:(sizeLine:Nat)<=(2 ^ 63 - 1) / 8:=by decide
  omega
 have hfit:¬ (!Builtin.List.listFitsIndex k)=true:=by
  rw[fitsIndex_both h1 h2];exact Xq
 have hlong:¬ Builtin.List.listTooLong (its.toArray.size * k.toNat)=true:=by
  rw[DJ hlen];exact Xq
 have hnew:List.foldl (λx1 x2=>x1++x2) #[] (List.replicate (if its.toArray.isEmpty=true then 0 else k.toNat) its.toArray)=(List.replicate k.toNat its).flatten.toArray:=by
  have f0:∀m:Nat,List.foldl (λx1 x2=>x1++x2) #[] (List.replicate m its.toArray)=(List.replicate m its).flatten.toArray:=λm=>by
   have:=foldl_rep its m [];rw[List.nil_append]at this;exact this
  rw[f0]
  cases its with
  | nil=>simp
  | cons a r'=>rw[if_neg (by simp)]
 refine ZQ (T:="list") (U:="int") (by decide) ⟨_,e,rfl⟩ (λs'=>ZP s' k t) noFill_list_mul F.fills_int_mul Zv repeat_list F.slot_int_index.lookup
  (Zd Zv (ZP s k t) F.entry_int_rmul (F.args_int_rmul_2 _ _) (CI k t l its.toArray n D1)
   ⟨e,rfl,⟨_,e,rfl⟩,Zd F.slot_list_mul ⟨_,e,rfl⟩ F.entry_list_mul (F.args_list_mul_2 _ _) (CH l its.toArray n k t D1 hfit hcap hlong) ⟨e,?_⟩⟩)
 rw[hnew];exact⟨.ref _,_,I.K5 (t':=s.toks) (r.rep k.toNat) (by rw[len_rep,Nat.mul_comm];exact hz),rfl,q _ I.fresh⟩
theorem cB.rep{α:Type}{R:V->α->Prop}{ys:List V}{xs:List α}(h:cB R ys xs):∀k:Nat,cB R (List.replicate k ys).flatten (List.replicate k xs).flatten
 | 0=>.nil
 | k + 1=>by
  rw[X9,X9,Ye,Ye];exact h.append (cB.rep h k)
@[reducible] def Fs(x y:DV)(st:aK)(Q:DC):Prop:=match y with
 | .dat (.int k)=>match x with
  | .dat (.tuple i)=>i≠[]/\i.length * k.toNat<=1000000/\k < 9223372036854775808/\-9223372036854775808<=k/\Q (.dat (.tuple (List.replicate k.toNat i).flatten)) st
  | x=>match iz st x with
   | some i=>i.length * k.toNat<=1000000/\k < 9223372036854775808/\-9223372036854775808<=k/\Q (.dat (.list (List.replicate k.toNat i).flatten)) st
   | none=>False
 | _=>False
theorem LU:AO J (λx y H Q=>Kj J x y H Q∨J2 J x y H Q) Fs:=λH0 A0 G al H st x y dx dy Q R I h1 h2 q k=>by
 unfold Fs at q;split at q
 ·rename_i j;rw[aM.aV h2];split at q
  ·obtain⟨a,ys,rfl,g1,_,g2⟩:=aM.dF h1;refine .inr ⟨a,ys,j,rfl,rfl,g1,λz=>q.1 ?_,q.2.2.2.1,q.2.2.1,by rw[g2.len];exact kG q.2.1,λp H' s hp=>k.laid I s (.d ?_) q.2.2.2.2⟩
   ·have:=g2.len;rw[z]at this;exact YN.mp this.symm
   ·have g:=(g2.rep j.toNat).imp λy x z=>z.same s
    exact cy.tup ((I.same s).Lm hp) g.1 g.2
  ·split at q
   ·rename_i i e1;obtain⟨a,ys,rfl,g1,g2⟩:=h1.J6 I e1;exact .inl ⟨a,j,ys,rfl,rfl,g1,q.2.2.1,q.2.1,by rw[g2.len];exact kG q.1,λp hp=>k.list I hp (g2.rep _) q.2.2.2⟩
   ·exact q.elim
 ·exact q.elim
theorem iC(ha:bz X Y a ea)(hb:bz X Y b eb):bz X Y (.BinOp a .Mult b pos) (pk Fs ea eb):=qx (mI HR Hi) LU ha hb
end
abbrev yh:=bO->aK->(List DV->(aK->Prop)->aK->Prop)->Prop
def Wo(J:KF)(H0:Hp)(A0:Addr->Prop)(G:Addr->Prop)(al:List (List Addr))(H:Hp)(st:aK)(Jj:It)(xs:List DV)(ok:aK->Prop):Prop:=∀(G1:Addr->Prop) (bq:List (List Addr)) (H1:Hp) (aD:aK) (i:Nat),(∀c,G1 c->G c∨H c=none)->Ext al H st bq H1 aD->DI J H0 A0 G1 bq H1 aD->ok aD ->
 (∀d,xs[i]?=some d->Jj.go i H1/\∀x H2,Jj.yld i H1 x H2->bD H1 H2/\gP J (Fb G1 bq aD) H2 bq x d)/\(xs.length<=i->i<=xs.length->Jj.stop i H1)
def TM(J:KF)(wi:TI)(di:yh):Prop:=∀(H0:Hp) (A0:Addr->Prop) (G:Addr->Prop) (al:List (List Addr)) (H:Hp) (st:aK) (s:St) (env:bO) (Q:List DV->(aK->Prop)->aK->Prop) (R:It->Hp->Prop),DI J H0 A0 G al H st->pj J (Fb G al st) H al s env->di env st Q ->
 (∀Jj xs ok st' al' H',Ext al H st al' H' st'->DI J H0 A0 G al' H' st'->Wo J H0 A0 G al' H' st' Jj xs ok->Q xs ok st'->R Jj H')->wi s H R
structure PH(X:Cx)(Y:YK)(tg iter:Expr)(d:yh):Prop where
 h:∃wi,PI X tg iter wi/\TM (kf X Y) wi d
section
variable {X:Cx} {Y:YK} {tg a b c e:Expr} {es:List Expr} {pos p:Pos} {ea eb ec:DX} {K:aJ} {J:KF} {n:Nat} {d:lF} {scope:Scope}
@[reducible] def HS(di:pA)(env:bO)(st:aK)(Q:List DV->(aK->Prop)->aK->Prop):Prop:=di env st λxs ok aD=>Q (xs.map DV.dat) ok aD
theorem LV{wi:TI}{di:pA}(h:AI J wi di):TM J wi (HS di):=λH0 A0 G al H st s env Q R I E q k=>h H0 A0 G al H st s env _ _ I E q λJj xs ok st' al' H' e1 I1 ir q1=>k Jj _ ok st' al' H' e1 I1 (λG1 bq H1 aD i hG e2 I2 o2=>by
 obtain⟨z1,z2⟩:=ir G1 bq H1 aD i hG e2 I2 o2;refine⟨λd hd=>?_,by rw[Xk];exact z2⟩;rw[XJ]at hd
 cases w:xs[i]? with
 | none=>rw[w]at hd;cases hd
 | some y =>
  rw[w]at hd;cases hd;exact z1 y w) q1
theorem LW{di:pA}(h:EU X Y tg a di):PH X Y tg a (HS di):=by
 obtain⟨w,p1,a1⟩:=h.h;exact⟨_,p1,LV a1⟩
def Wq(fin:List DV->aK->DC->Prop)(dg:qz)(dt:DT)(de:DX)(xs:List DV)(ok:aK->Prop)(env:bO)(aD:aK)(Q:DC):Prop:=xs.length<=1000000/\∃I:Nat->List DV->aK->Prop,I 0 [] aD/\(∀i ys st,I i ys st->ok st) /\
 (∀i ys st d,I i ys st->xs[i]?=some d->dg d env st λgr bu=>dt gr bu λb jB=>if b=true then de gr jB λy qu=>I (i + 1) (ys++[y]) qu else I (i + 1) ys jB)/\∀ys st,I xs.length ys st->fin ys st Q
@[reducible] def HU(fin:List DV->aK->DC->Prop)(own:Nat)(ix:List Nat)(di:yh)(dg:qz)(dt:DT)(de:DX)(env:bO)(st:aK)(Q:DC):Prop:=di env st λxs ok aD=>Wq fin dg dt de xs ok (ya own ix env) aD Q
@[reducible] def Ft:List DV->aK->DC->Prop:=λys st Q=>∃ds:List PyData,ys=ds.map DV.dat/\Q (.dat (.list ds)) st
def LX(J:KF)(fin:List DV->aK->DC->Prop):Prop:=∀(H0:Hp) (A0:Addr->Prop) (G:Addr->Prop) (al:List (List Addr)) (H:Hp) (st:aK) (Q:DC) (R:VK) (D:Addr) (cu:List (List Addr)) (H2:Hp) (bu:aK) (vs:List V) (ys:List DV),DI J H0 A0 G al H st->H D=none->Kn J H0 A0 G al H st Q R->fin ys bu Q->DI J H0 A0 (λc=>G c∨c=D) cu H2 bu->Ext al H st cu H2 bu->H2 D=some (.lst vs)->cB (gP J (Fb (λc=>G c∨c=D) cu bu) H2 cu) vs ys->R (.ref D) H2
theorem LY:LX J Ft:=λH0 A0 G al H st Q R D cu H2 bu vs ys I hD k q I2 E2 g P=>by
 obtain⟨ds,rfl,q⟩:=q
 have sub:∀c,Fb G cu bu c->Fb (λc=>G c∨c=D) cu bu c:=λc z=>by
  rcases z with z | z
  ·exact .inl (.inl z)
  ·exact .inr z
 have nD:¬ Fb G cu bu D:=λz=>by
  rcases z with z | z
  ·exact I.Hs hD (.inl z)
  ·exact I2.gd D z.mem (.inr rfl)
 exact k (.dat (.list ds)) bu cu _ H2 E2 (I2.less (λc z=>.inl z) I.lk) (.d (aM.lst nD g ((cB.Ph P).imp λy x z=>aM.sub z sub))) q
theorem gP.PJ{P:Addr->Prop}{H H':Hp}{al:List (List Addr)}{v:V}{dv:DV}(h:gP J P H al v dv)(s:bD H H'):gP J P H' al v dv:=by
 cases dv with
 | dat d=>exact aM.same h s
 | ref k=>exact h
theorem LZ{fin:List DV->aK->DC->Prop}(hf:LX J fin)
  {own:Nat} {ix:List Nat} {wi:TI} {g:TG} {di:yh} {dg:qz} {dt:DT} {de:DX} (hi:TM J wi di) (hg:AG J g dg) (gb:GB own g):AE J (RF own ix wi g (E8 J dt) (Pw J de)) (HU fin own ix di dg dt de):=λH0 A0 G al H st s env Q R I E q k=>by
 refine hi H0 A0 G al H st s env _ _ I E q λJj xs ok aD bq H1 e1 I1 ir q1=>?_
 intro D hD;obtain⟨hlen,Iv,i0,hok,istep,ifin⟩:=q1;have k1:=k.go I1 e1;have E1:=E.ext e1
 have gG:∀c,(G c∨c=D)->G c∨H1 c=none:=λc hc=>by
  rcases hc with z | z
  ·exact .inl z
  ·rw[z];exact .inr hD
 have n0:=I1.n0 hD;obtain⟨EB,IB⟩:=I1.Fc (ys:=[]) hD;refine⟨λi m ys H2=>(m=xs.length - i/\i<=xs.length/\ys.length<=i)/\∃ds cu bu,Iv i ds bu/\H2 D=some (.lst ys)/\cB (gP J (Fb (λc=>G c∨c=D) cu bu) H2 cu) ys ds/\DI J H0 A0 (λc=>G c∨c=D) cu H2 bu/\Ext bq H1 aD cu H2 bu,⟨_,⟨rfl,X3 _,X3 _⟩,[],bq,aD,i0,uS,.nil,IB,EB⟩,?_⟩;rintro i m ys H2 ⟨⟨em,hil,hyl⟩,ds,cu,sx,hI,gD,hP,I2,E2⟩;refine⟨gD,?_⟩;have IR:=ir (λc=>G c∨c=D) cu H2 sx i gG E2 I2 (hok _ _ _ hI);by_cases hx:i < xs.length
 ·right
  obtain⟨d0,Kg⟩:∃d0,xs[i]?=some d0:=⟨xs[i],dC hx⟩;obtain⟨go,yl⟩:=IR.1 d0 Kg;refine⟨go,YR (XT hyl hil) (YR hlen (by decide)),λys' H'=>∃m',m' < m/\(m'=xs.length - (i + 1)/\i + 1<=xs.length/\ys'.length<=i + 1)/\∃ds cu bu,Iv (i + 1) ds bu/\H' D=some (.lst ys')/\cB (gP J (Fb (λc=>G c∨c=D) cu bu) H' cu) ys' ds/\DI J H0 A0 (λc=>G c∨c=D) cu H' bu/\Ext bq H1 aD cu H' bu,λys' H' ⟨m',lt,w⟩=>⟨m',lt,w⟩,λx H3 hy=>?_⟩;obtain⟨s3,r3⟩:=yl x H3 hy;have I3:=I2.same s3;have E3:Ext bq H1 aD cu H3 sx:=E2.trans I2 (.same s3);have P3:=hP.imp λy x z=>z.PJ s3
  have g3:=s3 _ _ gD;have TB:=(E1.iU gG E3).lT own ix;refine gb x _ H3 _ _ ?_ (hg H0 A0 (λc=>G c∨c=D) cu H3 sx _ _ x d0 _ (λσ2 H4=>E8 J dt σ2 H4 λb H5=>if b=true then Pw J de σ2 H5 λv H6=>H6 D=some (.lst ys)/\∃m',m' < m/\(m'=xs.length - (i + 1)/\i + 1<=xs.length/\(ys++[v]).length<=i + 1)/\∃ds cu bu,Iv (i + 1) ds bu/\upd H6 D (.lst (ys++[v])) D=some (.lst (ys++[v]))/\cB (gP J (Fb (λc=>G c∨c=D) cu bu) (upd H6 D (.lst (ys++[v]))) cu) (ys++[v]) ds/\DI J H0 A0 (λc=>G c∨c=D) cu (upd H6 D (.lst (ys++[v]))) bu/\Ext bq H1 aD cu (upd H6 D (.lst (ys++[v]))) bu else ∃m',m' < m/\(m'=xs.length - (i + 1)/\i + 1<=xs.length/\ys.length<=i + 1)/\∃ds cu bu,Iv (i + 1) ds bu/\H5 D=some (.lst ys)/\cB (gP J (Fb (λc=>G c∨c=D) cu bu) H5 cu) ys ds/\DI J H0 A0 (λc=>G c∨c=D) cu H5 bu/\Ext bq H1 aD cu H5 bu) I3 TB r3 (istep i ds sx d0 hI Kg) λgr bu LI s2 H4 e4 I4 Pz q4=>?_)
  ·intro s2 H4 ed q4;refine⟨?_,q4⟩;rw[ed];unfold eZ;rw[List.drop_left' (by simp)]
  ·refine⟨H0,A0,_,LI,bu,gr,_,I4,Pz,q4,λb jB PB H5 e5 I5 q5=>?_⟩;have LJ:=e4.trans I4 e5;have E5:=E3.trans I3 LJ;have nL:∀(al':List (List Addr)) (H':Hp) (st':aK),DI J H0 A0 (λc=>G c∨c=D) al' H' st'->¬ Lv al' st' D:=λal' H' st' I' z=>I'.gd D z.mem (.inr rfl)
   have g5:=LJ.keep D _ (nL _ _ _ I3) g3;have P5:=P3.imp λy x z=>gP.ext z LJ
   cases b with
   | false =>
    rw[XA Xq]at q5;exact bZ ⟨xs.length - (i + 1),by omega,⟨rfl,hx,by omega⟩,ds,PB,jB,q5,g5,P5,I5,E5⟩
   | true =>
    rw[XB rfl]at q5;refine cc ⟨H0,A0,_,PB,jB,gr,_,I5,Pz.ext e5,q5,λy qu LK v H6 e6 I6 d6 q6=>?_⟩;have E6:=E5.trans I5 e6;have g6:=e6.keep D _ (nL _ _ _ I5) g5;have P6:=P5.imp λy x z=>gP.ext z e6
    obtain⟨I8,RP⟩:=I6.grow (ys:=ys++[v]) g6 n0
    have rv':∀w dv,gP J (Fb (λc=>G c∨c=D) LK qu) H6 LK w dv->gP J (Fb (λc=>G c∨c=D) LK qu) (upd H6 D (.lst (ys++[v]))) LK w dv:=λw dv z=>by
     cases dv with
     | dat d=>exact RP _ _ z
     | ref k=>exact z
    refine⟨g6,xs.length - (i + 1),by omega,⟨rfl,hx,by simp;omega⟩,ds++[y],LK,qu,q6,uS,?_,I8,E6.Vq hD⟩;exact(P6.imp λy x z=>rv' y x z).append (.cons (rv' _ _ d6) .nil)
 ·left
  have ei:i=xs.length:=by omega
  subst ei;exact⟨IR.2 (Xu _) (Xu _),hf H0 A0 G bq H1 aD Q R D cu H2 sx ys ds I1 hD k1 (ifin ds sx hI) I2 E2 gD hP⟩
theorem CJ{fin:List DV->aK->DC->Prop}(hf:LX (kf X Y) fin)
  {i:Nat} {x:Str} {pos' spos:Pos} (hN:X.N.Nodup) (hxi:X.N[i]?=some x) (hx:Loc X.env.scope x) {elt iter:Expr} {ifs:List Expr} {g:TG} {di:yh} {dg:qz} {dt:DT} {de:DX} (own:Nat) (N:List Str) (ix:List Nat) (B:mq X own N ix scope) (hi:PH X Y tg iter di)
  (hg:∀(C:Addr) (fp:List Addr) (s:Shared) (H:Hp),PG (X.lT N scope C fp s H) tg g) (ag:AG (kf X Y) g dg) (gb:GB own g)
  (hin:∀(C:Addr) (fp:List Addr) (s:Shared) (H:Hp),Px (X.lT N scope C fp s H) Y ifs dt/\bz (X.lT N scope C fp s H) Y elt de)
  (hsw:swapsWith (.ListComp elt [⟨tg,iter,ifs,0⟩] scope pos) (some (.Name x pos')) spos.line X.env=pure true:=by rfl) (hs:∀x,foldedSetIterable iter X.env x=pure x:=by intro _;rfl)
  (hfn:X.fn x=true∨X.env.scope.names.lookup x=some .local:=by first | exact .inl rfl | exact .inr rfl):Bx X Y (.Assign [.Name x pos'] (.ListComp elt [⟨tg,iter,ifs,0⟩] scope pos) spos) (zY (HU fin own ix di dg dt de) (gN i)):=by
 obtain⟨wi,p1,a1⟩:=hi.h;exact⟨_,xQ hN hxi hx own N ix B p1 (λC fp s H=>⟨hg C fp s H,(hin C fp s H).1.h,(hin C fp s H).2.pe⟩) hsw hs hfn,wu (LZ hf a1 ag gb) js⟩
end
section
variable {prog:Program} {w:World} {A:Around} {E:Value->Shared->Prop} {s:Shared}
theorem BB{h h':Heap}{it l:Addr}{items:Array Value}(x:h.IsList l items)(k:Heap.ExtBut it h h')(n:l≠it):h'.IsList l items:=by
 obtain⟨o,e,r⟩:=x;exact⟨o,k l o n e,r⟩
theorem vm{it l:Addr}{items:Array Value}(hne:l≠it):∀(n i:Nat) (s:Shared) (Q:List Value->Shared->Prop),s.heap.IsListIter it l i->s.heap.IsList l items->i + n<=items.size ->
  (∀h',h'.IsListIter it l (i + n)->Heap.SameBut it s.heap h'->Q ((items.toList.drop i).take n) {s with heap:=h'})->wpAny (model prog w) A (draw (.ref it) n) Q E s
 | 0,i,s,Q,hit,_,_,hQ=>by
  show wpAny _ _ (pure []) Q E s;exact wpAny_pure (by simpa using hQ s.heap hit (Heap.SameBut.refl ..))
 | n + 1,i,s,Q,hit,ht,hle,hQ=>by
  have hlt:i < items.size:=by omega
  show wpAny _ _ (pyNext (.ref it) >>= _) Q E s;refine wpAny_bind (wpAny_pyNext_list_item hit ht (x:=items[i]) (by simp[hlt]) λh₁ hit₁ hs₁=>?_);refine wpAny_bind (wpAny_holding (vm hne n (i + 1) _ _ hit₁ (BB ht hs₁.extBut hne) (by omega) λh₂ hit₂ hs₂=>wpAny_pure ?_));have hd:items.toList.drop i=items[i]::items.toList.drop (i + 1):=by simp[List.drop_eq_getElem_cons,hlt]
  have:=hQ h₂ (by rw[show i + (n + 1)=i + 1 + n by omega];exact hit₂) (hs₁.trans hs₂);rw[hd,List.take_succ_cons]at this;exact this
theorem pE{l:Addr}{items:Array Value}{Q:List Value->Shared->Prop}(hh:A.handled=none)(ht:s.heap.IsList l items)
  (hQ:∀h',Heap.ExtBut s.heap.objs.size s.heap h'->Q items.toList {s with heap:=h'}):wpAny (model prog w) A (unpackItems (.ref l) items.size none) Q E s:=by
 have hlt:l≠s.heap.objs.size:=by obtain⟨o,ho,_⟩:=ht;exact Xv (Xr ho)
 have push:∀ob,(s.heap.push ob).IsList l items:=λob=>by obtain⟨o,e,r⟩:=ht;exact⟨o,Xl _ e,r⟩
 unfold unpackItems;refine wpAny_bind ?_
 ·unfold notIterableAtAll;refine wpAny_bind (wpAny_specialOf ht.typeIs PySem.F.slot_list_iter.lookup ?_);refine wpAny_pure ?_;simp only[Bool.false_eq_true,if_false];refine wpAny_bind (wpAny_holding (wpAny_pyIter_list ht ?_));refine wpAny_bind (wpAny_holding (vm hlt items.size 0 _ _ ⟨_,Heap.get?_push_size _ rfl,rfl,rfl⟩ (push _) (by omega) λh₁ hit₁ hs₁=>?_))
  have hall:List.take items.size (List.drop 0 items.toList)=items.toList:=by
   rw[List.drop_zero];exact List.take_of_length_le (by simp)
  rw[hall];rw[if_neg (by simp)];have ht₁:h₁.IsList l items:=BB (push _) hs₁.extBut hlt;refine wpAny_bind (wpAny_holding (wpAny_pyNext_list_end hh hit₁ ht₁ (by simp) λh₂ he₂=>?_));simp only[Option.isSome_none,Bool.false_eq_true,if_false];refine wpAny_pure (hQ h₂ λb o hb e=>he₂ b o hb (hs₁.extBut b o hb (Heap.get?_push_of_some _ e)))
theorem oa{env:Env}{elts:List Expr}{x1}{pos:Pos}{l:Addr}{items:Array Value}{Q:Unit->Shared->Prop}(hh:A.handled=none)(ht:s.heap.IsList l items)
  (hn:(assignEach elts env).length=items.size) (hstar:(assignEach elts env).findIdx? (·.1)=none)
  (h:∀h',Heap.ExtBut s.heap.objs.size s.heap h'->wpAny (model prog w) A (assignInOrder ((assignEach elts env).map (·.2)) items.toList) Q E {s with heap:=h'}) :
  wpAny (model prog w) A (assign (.Tuple elts x1 pos) env (.ref l)) Q E s:=by
 rw[assign_Tuple];refine wpAny_bind (wpAny_standAt ?_);unfold unpack;rw[hn,hstar];exact wpAny_bind (wpAny_holding (pE hh ht h))
end
section
variable {X:Cx} {pos:Pos}
def PK(K:aJ)(n:Nat)(t:zp):TG:=λv σ H Q=>∃a xs,v=.ref a/\fV K H a xs/\xs.length=n/\t xs σ H Q
theorem L3{es:List Expr}{k:Nat}{t:zp}{n:Nat}(hc:X.calm=true)(h:NP X es t)
  (hn:(assignEach es X.env).length=n:=by rfl) (hst:(assignEach es X.env).findIdx? (·.1)=none:=by rfl):PG X (.Tuple es k pos) (PK X.K n t):=by
 intro pins s σ H v u Q I r hw;obtain⟨a,xs,e1,hq,hl,hw⟩:=hw;subst e1;cases r;obtain⟨its,rv,ht,hz⟩:=I.list hq;refine oa (I.ok.hd hc) ht.isList (by simp[hn,← hl,rv.length]) hst λh' hx=>?_
 have I1:Inv X pins σ H {s with heap:=h'}:=I.kept (t':=s.toks) λb o e=>hx b o (Xv (Xr e)) e
 exact h pins _ σ H xs _ Q I1 (by simpa using rv) hw
end
namespace FP
end FP
set_option maxHeartbeats 4000000 in
section
variable {prog:Program} {w:World} {K:Type} [DecidableEq K] {knd:KeyKind prog w K} {A:Around} {E:Value->Shared->Prop} {R:Result->Shared->Prop} {d it l:Addr} {xs:Array Value}
variable {s:Shared}
end
section
variable {X:Cx} {a:Expr} {ta:TA} {p pos:Pos}
end
section
variable {X:Cx} {Y:YK} {e:Expr} {pos p:Pos} {J:KF} {n:Nat} {d:lF}
@[reducible] def wA(xs:List DV)(st:aK)(Q:DC):Prop:=match xs with
 | [x]=>match iz st x with
  | some ds=>∃bs:List Bool,ds=bs.map PyData.bool/\Q (.dat (.bool (bs.all id))) st
  | none=>False
 | _=>False
theorem Fu{K:aJ}{P:Addr->Prop}{H:Hp}{ys:List V}{bs:List Bool}(h:cB (cy K H) ys (bs.map PyData.bool)):ys=bs.map V.bl:=by
 apply YW;intro i;have hl:=h.1;rw[Xk]at hl;by_cases hi:i < ys.length
 ·have:=h.2 i ys[i] (.bool (bs[i]'(by omega))) (dC hi) (by rw[XJ,dC (by omega)];rfl);rw[dC hi,XJ,dC (by omega)];generalize ys[i]=y at this ⊢;cases this;rfl
 ·rw[aai (by omega),aai (by rw[Xk];omega)]
theorem L4:AB J (O0 J) wA:=λH0 A0 G al H st vs ds Q R I h q k=>by
 unfold wA at q;split at q
 ·split at q
  ·rename_i ds e;obtain⟨bs,rfl,q1⟩:=q;obtain⟨v,rfl,h1⟩:=pq h;obtain⟨p,ys,rfl,g1,g2⟩:=h1.J6 I e;rw[Fu (P:=λ_=>False) (g2.imp λ_ _ z=>z.now)]at g1;exact⟨p,bs,rfl,g1,k.here I (.d (.bl _)) q1⟩
  ·exact q.elim
 ·exact q.elim
theorem pF(hc:X.calm=true)(hg:Gl X "all")(hm:X.mg "all"=none)(ha:qw X Y [e] n d)(he:starEach [e] X.env=(false,eval e X.env)::starEach [] X.env:=by rfl):bz X Y (.Call (.Name "all" p) [e] [] pos) (xD wA d):=kI (DZ hc) L4 hg hm La ha (by decide) (by decide) he rfl
end
section
variable {X:Cx} {Y:YK} {e:Expr} {es:List Expr} {n:Nat} {d:lF}
@[reducible] def Fv(eo:DX)(dx:lF)(env:bO)(st:aK)(Q:DC):Prop:=eo env st λo aD=>match o with
 | .dat (.str x)=>dx env aD λxs bu=>match xs with
  | [.dat (.str y)]=>((y.length == 0)=false/\x.length<=sizeLine/\(Builtin.Str.partsBetween x (Builtin.Str.occurrences x y 0 x.length (x.length + 1)) y.length).length<=sizeLine/\(Txt.split x y).length<=sizeLine)/\Q (.dat (.list ((Txt.split x y).map PyData.str))) bu
  | _=>False
 | _=>False
theorem Fw{K:aJ}{P:Addr->Prop}{H:Hp}{ns:List Str}:cB (aM K P H) (ns.map V.str) (ns.map PyData.str):=⟨by simp,λi y x hy hx=>by
 rw[XJ]at hy hx
 cases q:ns[i]? with
 | none=>rw[q]at hy;cases hy
 | some n=>rw[q]at hy hx;cases hy;cases hx;exact .str _⟩
theorem Fx{apos cpos:Pos}{o:Expr}{eo:DX}(ho:bz X Y o eo)(ha:qw X Y (e::es) n d)(hbase:attributeBase o "split" X.env (eval o X.env)=eval o X.env:=by rfl)
  (hfew:((backTo cpos (starEach (e::es) X.env)).all (λx=>!x.1)&&(backToKw cpos (keywordEach [] X.env)).all (λx=>x.1.isSome)
   && decide ((e::es).length + ([]:List Keyword).length + (if ([]:List Keyword).isEmpty then 0 else 1) < 30))=true:=by rfl)
  (hline:(apos.endLine == cpos.line)=true:=by rfl) (hs:starEach (e::es) X.env=(false,eval e X.env)::starEach es X.env:=by rfl) (hplain:(backTo cpos (starEach es X.env)).any (·.1)=false:=by rfl) :
  bz X Y (.Call (.Attribute o "split" apos) (e::es) [] cpos) (Fv eo d):=by
 obtain⟨t,p1,a1⟩:=ho.h;obtain⟨u,p2,a2⟩:=ha.h;refine⟨_,JU PySem.F.plainAttrs_str YU PySem.F.type_str_split Ei p1 p2 hbase hfew hline hs hplain,λH0 A0 G al H st s env Q R I E q k=>a1 H0 A0 G al H st s env _ _ I E q λx aD bq v H1 e1 I1 d1 q1=>?_⟩;split at q1
 ·rw[aM.cv d1];refine⟨rfl,a2 H0 A0 G bq H1 aD s env _ _ I1 (E.ext e1) q1 λxs bu cu vs H2 e2 I2 d2 q2=>?_⟩;have q2:=q2.2;have oU:=e1.trans I1 e2;split at q2
  ·obtain⟨w,rfl,hw⟩:=pq d2;rw[aM.cv hw];obtain⟨⟨b1,b2,b3,b4⟩,q3⟩:=q2;exact⟨_,_,rfl,rfl,b1,b2,b3,b4,λp hp=>(k.go I2 oU).list I2 hp Fw q3⟩
  ·exact q2.elim
 ·exact q1.elim
end
def HV:Option Obj->Bool
 | some ⟨.type t,none,.seq its n,sl⟩=>t == "tuple"&&n == 0&&sl.size == 0&&decide (its.size<=sizeLine)
 | _=>false
def pG:Option Obj->List Value
 | some ⟨_,_,.seq its _,_⟩=>its.toList
 | _=>[]
def Kk(K:aJ):Nat->Value->PyData->Bool
 | n + 1,.ref r,.tuple ds=>HV (K.lookup r)&&((pG (K.lookup r)).length == ds.length&&((pG (K.lookup r)).zip ds).all λx=>Kk K n x.1 x.2)
 | _,.str x _,.str y=>decide (x=y)
 | _,.int i _,.int j=>decide (i=j)
 | _,.none,.none=>true
 | _,.bool a,.bool b=>a == b
 | _,_,_=>false
theorem BC{o:Option Obj}(h:HV o=true):o=some {cls:=.type "tuple",data:=.seq (pG o).toArray 0}/\(pG o).length<=sizeLine:=by
 unfold HV at h;split at h
 ·rename_i t its n sl;simp only[Bool.and_eq_true,beq_iff_eq,decide_eq_true_eq]at h;obtain⟨⟨⟨rfl,rfl⟩,h3⟩,h4⟩:=h;have:sl=#[]:=Array.size_eq_zero_iff.mp h3;subst this;exact⟨by simp[pG],by simpa [pG]using h4⟩
 ·cases h
theorem mM{α β:Type}{F:α->β->Prop}{p:α×β->Bool}(f:∀a b,p (a,b)=true->F a b):∀{xs:List α} {ys:List β},xs.length=ys.length->(xs.zip ys).all p=true->Paired F xs ys
 | [],[],_,_=>.nil
 | [],_::_,h,_=>nomatch h
 | _::_,[],h,_=>nomatch h
 | x::xs,y::ys,h,q=>by
  rw[ZI,ZL,XN]at q;exact .cons (f x y q.1) (mM f (YZ h) q.2)
theorem Aa{K:aJ}:∀(n:Nat) (v:Value) (d:PyData),Kk K n v d=true->∃u,RelV u v/\∀H:Hp,cy K H u d:=by
 intro n
 induction n with
 | zero =>
  intro v d h;unfold Kk at h;split at h
  ·contradiction
  ·cases XI h;exact A8
  ·cases XI h;exact A9
  ·exact⟨.non,rfl,λ_=>.non⟩
  ·cases eq_of_beq h;exact⟨.bl _,rfl,λ_=>.bl _⟩
  ·cases h
 | succ n ih =>
  intro v d h;unfold Kk at h;split at h
  ·rename_i m r ds e;cases e;rw[XN,XN,Ze]at h;obtain⟨lk,hz⟩:=BC h.1;exact G7 lk hz (mM (λa b=>ih a b) h.2.1 h.2.2)
  ·cases XI h;exact A8
  ·cases XI h;exact A9
  ·exact⟨.non,rfl,λ_=>.non⟩
  ·cases eq_of_beq h;exact⟨.bl _,rfl,λ_=>.bl _⟩
  ·cases h
theorem BD{K:aJ}{n:Nat}{r:Addr}{ds:List PyData}(h:Kk K (n + 1) (.ref r) (.tuple ds)=true):∃o,K.lookup r=some o/\o.cls=.type "tuple"/\o.dict=none:=by
 have h:(HV (K.lookup r)&&_)=true:=h;exact⟨_,(BC (Bool.and_eq_true_iff.mp h).1).1,rfl,rfl⟩
def TN(e:DictEntry):Str×Tok×Value:=match e.key with
 | .str x t=>(x,t,e.val)
 | _=>(Str.empty,0,e.val)
def vn:Option Obj->List (Str×Tok×Value)
 | some ⟨_,_,.dict es _,_⟩=>es.toList.map TN
 | _=>[]
def TQ:Option Obj->Nat
 | some ⟨_,_,.dict _ n,_⟩=>n
 | _=>0
def BE(K:aJ)(es:List (Str×Tok×Value))(kds:List (Str×PyData)):Bool:=es.length == kds.length&&(es.zip kds).all λx=>decide (x.1.1=x.2.1)&&Kk K 9 x.1.2.2 x.2.2
theorem sy{α β γ:Type}{F:γ×α->γ×β->Prop}(f:∀a b,F a b->a.1=b.1):∀{xs:List (γ×α)} {ys:List (γ×β)},Paired F xs ys->xs.map (·.1)=ys.map (·.1)
 | _,_,.nil=>rfl
 | _,_,.cons h r=>by rw[Yj,Yj,f _ _ h,sy f r]
theorem yi{K:aJ}{w:World}{d:Addr}{kds:List (Str×PyData)}(hd:(d == sysModules)=false)(lk:K.lookup d=some {cls:=.type "dict",data:=.dict ((vn (K.lookup d)).map (D4 w)).toArray (TQ (K.lookup d))})(h:BE K (vn (K.lookup d)) kds=true)(nd:(kds.map (·.1)).Nodup):JY K w d kds:=by
 unfold BE at h;rw[Bool.and_eq_true,beq_iff_eq]at h
 have P:=mM (F:=λ(e:Str×Tok×Value) (kd:Str×PyData)=>e.1=kd.1/\∃v,RelV v e.2.2/\∀H:Hp,cy K H v kd.2) (λa b q=>by
  rw[XN]at q;exact⟨XI q.1,Aa _ _ _ q.2⟩) h.1 h.2
 exact Lg hd lk (by rw[sy (λa b q=>q.1) P];exact nd) P
def cw(K:aJ)(n:Str)(s:Stmt):Prop:=∃f fd,PySem.W.nsIn K mainGlobals n=some (some (.ref f))/\eW K n n s f fd
structure Zk(P:Program)(w:World)(K:aJ)(h:Heap)(mg:Str->Option Value)(base:Heap):Prop where
 X:K.In h
 G:h.Ns mainGlobals mg
theorem aW{P:Program}{w:World}{K:aJ}{h:Heap}{mg:Str->Option Value}{base:Heap}(z:Zk P w K h mg base){CX:zI}{x:Str}{st:Stmt}{k:Nat}{ps:List Str}{sp:Sp}(d:cw K x st)(ok:∀{f:Addr} {fd:FuncData},eW K x x st f fd->bE P w K mg base CX k f fd ps sp)
  (b:∀(kV doc pm:Value) (an:Option Addr) (cdv ct:Value) (us:List Value),us.length=ps.length->bindArgs (PySem.W.fnOf x x (dA st) (dB st) (dS st) .none kV doc pm an cdv ct) ⟨us,[]⟩=pure (ps.zip us)):dj P w K mg base CX x k ps sp:=by
 obtain⟨f,fd,a,F⟩:=d;exact⟨_,_,ok F,F.binds b,F.kp,XW z.X z.G a⟩
section
variable {P:Program} {w:World} {K:aJ} {mg:Str->Option Value} {base:Heap} {x qual:Str} {S:Stmt} {f:Addr} {fd:FuncData} {N ps:List Str} {k:Nat}
theorem eW.lI{T:ES}(F:eW K x qual S f fd)(sc:aG N ps (dS S))(len:∀ds Q,T ds Q->ds.length=ps.length)
  (hb:∀(cdv:Value) (A:Around) (outer:List Env) (s:Shared) (H:Hp) (E:XK) (ds:List PyData) (Q:PyData->Prop),cK k (A.deeper (envOfC qual (dS S) s.heap.objs.size f cdv))->T ds Q ->
   iu (pb bM P w K mg base N qual (dS S) f cdv A outer s H E).Oy y0 (dB S) {nx:=λ_ _=>Q .none,rt:=λdv st=>mi dv st λd _=>Q d} (ds.map (λd=>some (DV.dat d))++List.replicate (N.length - ds.length) none) []):bE P w K mg base bM (k + 1) f fd ps (ko K T) :=
 F.ok sc (λ_ _ _ _ ⟨_,ds,_,hv,t⟩=>hv.1.trans (len ds _ t)) λcdv A outer s H _ _ E hr ⟨_,ds,hP,hv,t⟩=>yd hP hv (hb cdv A outer s H E ds _ hr t)
theorem eW.PL{T:De}(F:eW K x qual S f fd)(sc:aG N ps (dS S))(len:∀ds Q Ex,T ds Q Ex->ds.length=ps.length)
  (hb:∀(cdv:Value) (A:Around) (outer:List Env) (s:Shared) (H:Hp) (E:XK) (PP:Addr->Prop) (ds:List PyData) (Q:PyData->Prop) (Ex:Addr->Gw->Prop),cK k (A.deeper (envOfC qual (dS S) s.heap.objs.size f cdv))->T ds Q Ex ->
   iu (pb (t8 P w) P w K mg base N qual (dS S) f cdv A outer s H E) (yx K E PP Ex) (dB S) {nx:=λ_ _=>Q .none,rt:=λdv st=>mi dv st λd _=>Q d} (ds.map (λd=>some (DV.dat d))++List.replicate (N.length - ds.length) none) []):bE P w K mg base (t8 P w) (k + 1) f fd ps (RQ K T) :=
 F.Wd sc (λ_ _ _ _ ⟨_,ds,_,hv,t⟩=>hv.1.trans (len ds _ _ t)) λcdv A outer s H _ _ E hr ⟨PP,ds,hP,hv,t⟩=>CG hP hv (λ_ _ z=>z) (hb cdv A outer s H E PP ds _ _ hr t)
end
section
variable {X:Cx} {Y:YK} {J:KF} {es:List Expr} {pos:Pos}
@[reducible] def gL(n:Nat)(r:sf)(dv:DV)(env:bO)(st:aK)(Q:bO->aK->Prop):Prop:=match dv with
 | .dat (.list ds)=>ds.length=n/\r ds env st Q
 | _=>False
theorem TR{m:Nat}{u:zp}{r:sf}(a1:NV J u r):AG J (PK J m u) (gL m r):=λH0 A0 G al H st s env v dv Q R I E h q k=>by
 unfold gL at q;split at q
 ·obtain⟨a,ys,rfl,g1,_,g2⟩:=aM.jG h;exact⟨a,ys,rfl,g1,by rw[g2.1];exact q.1,a1 H0 A0 G al H st s env ys _ Q R I E g2 q.2 k⟩
 ·exact q.elim
theorem wB{kx m:Nat}{r:sf}(hc:X.calm=true)(h:EZ X Y es r)(hn:(assignEach es X.env).length=m:=by rfl)(hst:(assignEach es X.env).findIdx? (·.1)=none:=by rfl):NW X Y (.Tuple es kx pos) (gL m r):=by
 obtain⟨u,p1,a1⟩:=h.h;exact⟨_,L3 hc p1 hn hst,TR a1⟩
end
open PySem PySem.Spec PyProof.Rows PySem.MeetsSeq
abbrev P4:=Int×Tok×Int×Tok
def TU(p:P4):Value×Value:=(.int p.1 p.2.1,.int p.2.2.1 p.2.2.2)
def Kl:List P4->Bool->Bool
 | [],d=>d
 | p::r,d=>if p.1=p.2.2.1 then Kl r d else decide (p.1 < p.2.2.1)
set_option maxHeartbeats 4000000 in
theorem Ab(l b:Addr)(items gS:Array Value)(n n2:Nat)(dd NQ:Option Addr)(sl DB:Array (Option Value))(ps:List P4)(hz:items.toList.zip gS.toList=ps.map TU):
  Meets (Builtin.«tuple.__lt__» ⟨[.ref l,.ref b],[]⟩)
   (λA R s=>s.heap.get? l=some {cls:=.type "tuple",dict:=dd,data:=.seq items n,slots:=sl}/\s.heap.get? b=some {cls:=.type "tuple",dict:=NQ,data:=.seq gS n2,slots:=DB} /\
    R (.ok (.ret (.bool (Kl ps (decide (items.size < gS.size)))))) s) :=
 .of_wp λprog w A R s h=>by
  obtain⟨hp,g,d,tk,os⟩:=s;obtain⟨hl,hb,h⟩:=h;have f2:=AutoSeq1.sub_tuple_tuple
  wp_walk using wpAny_loadPart' hl,wpAny_loadPart' hb,wpAny_forIn_list _ (λrest b s'=>b.1=none/\s'=⟨hp,g,d,tk,os⟩/\∃qs:List P4,rest=qs.map TU /\
   R (.ok (.ret (.bool (Kl qs (decide (items.size < gS.size)))))) ⟨hp,g,d,tk,os⟩) _
  case turn =>
   rintro⟨y,x⟩ rest b s' ⟨hb',rfl,qs,hz,hR⟩
   cases qs with
   | nil=>cases hz
   | cons p qs =>
    rw[Yj]at hz
    injection hz with hyx hrest
    obtain⟨rfl,rfl⟩:=Prod.mk.inj hyx;refine wpAny_bind ((EqGives.int p.1 p.2.2.1 p.2.1 p.2.2.2).at _ _ prog w _ _ ?_);unfold Kl at hR;by_cases e:p.1=p.2.2.1
    ·rw[XB e]at hR;rw[show(p.1 == p.2.2.1)=true from Ze.mpr e]
     wp_walk
     exact⟨rfl,rfl,qs,hrest,hR⟩
    ·rw[XA e]at hR;rw[show(p.1 == p.2.2.1)=false from aam.mpr e];show wpAny _ _ (rule "tuple.compare.by-the-first-pair-that-differs" >>= λ_=>richCompare .Lt (Value.int p.1 p.2.1) (Value.int p.2.2.1 p.2.2.2) >>= λv=>ret v >>= λw=>pure (ForInStep.done (some w,()))) _ _ _;refine Xn (wpAny_rule ?_)
     refine Xn ((CmpOf.ints_lt (P:=λi v=>v=if i=0 then Value.int p.1 p.2.1 else Value.int p.2.2.1 p.2.2.2) (λi=>if i=0 then p.1 else p.2.2.1) λi v hv=>by
      rw[hv];by_cases z:i=0
      ·rw[XB z,XB z];exact⟨_,rfl⟩
      ·rw[XA z,XA z];exact⟨_,rfl⟩) 0 1 _ _ _ _ _ rfl rfl ?_)
     wp_walk
     exact⟨_,rfl,hR⟩
  case fin =>
   rintro⟨b1,b2⟩ s' ⟨hb',rfl,qs,hz,hR⟩;simp only at hb';subst hb'
   cases qs with
   | cons p qs=>cases hz
   | nil =>
    wp_walk
    exact⟨_,rfl,by simpa [Builtin.Tuple.tupleCompareSizes,Kl]using hR⟩
  case h =>
   exact⟨rfl,rfl,ps,hz,h⟩
section
variable {A:Around} {s:Shared}
theorem yj{l b:Addr}{items gS:Array Value}{ps:List P4}(hl:s.heap.IsTuple l items)(hb:s.heap.IsTuple b gS)(hz:items.toList.zip gS.toList=ps.map TU)(hu:A.units < cLine)
  {prog:Program} {w:World} {E Q:Value->Shared->Prop} (h:Q (.bool (Kl ps (decide (items.size < gS.size)))) s):wpAny (model prog w) A (richCompare .Lt (.ref l) (.ref b)) Q E s:=by
 obtain⟨⟨cls,dd,data,sl⟩,ho,hc,n,hd⟩:=id hl;obtain⟨⟨SX,NQ,data2,DB⟩,Cc,Cd,n2,hd2⟩:=id hb;simp only at hc hd Cd hd2;subst hc hd Cd hd2;exact richCompare_meets_room (op:=.Lt) ⟨_,ho,rfl⟩ ⟨_,Cc,rfl⟩ PySem.F.slot_tuple_lt PySem.F.entry_tuple_lt (PySem.F.args_tuple_lt_2 _ _) (Ab l b items gS n n2 dd NQ sl DB ps hz)
  ⟨ho,Cc,show Value.bool (Kl ps (decide (items.size < gS.size)))≠Value.notImplemented/\Q (.bool (Kl ps (decide (items.size < gS.size)))) s from ⟨(λx=>nomatch x),h⟩⟩ hu
end
section
variable {prog:Program} {w:World} {A:Around} {R:Result->Shared->Prop} {I S T:Addr} {x y:Value}
theorem Fy(hh:A.handled=none)(hIS:S≠I){s:Shared}{c:Nat}{v:Value}{items:Array Value}{i:Nat}(hi:s.heap.IsTupleIter I T i)(hT:s.heap.IsTuple T items)(hge:items[i]?=none)
  (hS:s.heap.get? S=some {cls:=.type "list",dict:=none,data:=.seq #[v,v] c,slots:=#[]})
  (hR:∀h' tk,(∀b o,b≠I->b≠S->s.heap.get? b=some o->h'.get? b=some o)->R (.ok (.ret v)) {s with heap:=h',toks:=tk}) :
  codeAny (model prog w) A (.builtin "min.loop" ⟨[.ref I,.none,.ref S],[]⟩) R s:=by
 refine Z5 Zj ?_;rw[Zw Yn _];show wpAny _ A.in1 (seqItems? (.ref S) >>= _) _ _ s;refine Xn (Zc hS rfl ?_);show wpAny _ A.in1 (tryCatch (pyNext (.ref I)) _ >>= _) _ _ s;refine Xn (ZD (wpAny_pyNext_tuple_end (A:=A.in1) hh hi hT hge λh' eb=>?_));have hS':=eb S _ hIS hS;show wpAny _ A.in1 (updateSeq S (λ_=>#[]) >>= _) _ _ _;refine Xn (wpAny_updateSeq hS' rfl (Xn (aab (Xx ?_))));exact hR _ s.toks λb o hb hbS e=>(YT _ _ (Y4 hbS)).trans (eb b o hb e)
theorem HW(hh:A.handled=none)(hIS:S≠I)(hTS:T≠S)(hTI:T≠I){s:Shared}{c:Nat}{v x:Value}{items:Array Value}{i:Nat}{r:Bool}(hi:s.heap.IsTupleIter I T i)(hT:s.heap.IsTuple T items)(hx:items[i]?=some x)(hge:items[i + 1]?=none)
  (hS:s.heap.get? S=some {cls:=.type "list",dict:=none,data:=.seq #[v,v] c,slots:=#[]})
  (hcmp:∀(s':Shared) (Q E:Value->Shared->Prop),(∀b o,b≠I->b≠S->s.heap.get? b=some o->s'.heap.get? b=some o)->Q (.bool r) s'->wpAny (model prog w) A.in1 (richCompare .Lt x v) Q E s')
  (hR:∀h' tk,(∀b o,b≠I->b≠S->s.heap.get? b=some o->h'.get? b=some o)->R (.ok (.ret (if r then x else v))) {s with heap:=h',toks:=tk}) :
  codeAny (model prog w) A (.builtin "min.loop" ⟨[.ref I,.none,.ref S],[]⟩) R s:=by
 have hname:(toString "min"++toString ".loop" : String)="min.loop":=by decide
 refine Z5 Zj ?_;rw[Zw Yn _];show wpAny _ A.in1 (seqItems? (.ref S) >>= _) _ _ s;refine Xn (Zc hS rfl ?_);show wpAny _ A.in1 (tryCatch (pyNext (.ref I)) _ >>= _) _ _ s;refine Xn (ZD (Z4 (A:=A.in1) hi hT hx λh' hi' hs'=>?_));have kp:∀b o,b≠I->s.heap.get? b=some o->h'.get? b=some o:=λb o hb e=>hs'.extBut b o hb e
 have hS':=kp S _ hIS hS;have hT':h'.IsTuple T items:=hT.at λo e=>kp T o hTI e
 show wpAny _ A.in1 (tryCatch (holding [x,x] (richCompare .Lt x v >>= _)) _ >>= _) _ _ _;refine Xn (ZD (Zn (Xn (hcmp _ _ _ (λb o hb _ e=>kp b o hb e) ?_))));refine Xn (Zn (X0 ?_));refine Xn (aab (Xx ?_))
 cases r with
 | true =>
  simp only[if_true];refine wpAny_bind (wpAny_updateSeq hS' rfl (wpAny_bind (wpAny_letGo ?_)));rw[hname];have up:∀b o,b≠S->h'.get? b=some o->(h'.update S (Obj.mapSeq λ_=>#[x,x])).get? b=some o:=λb o hb e=>(Heap.get?_update_other _ _ (Ne.symm hb)).trans e
  refine Xx ⟨plainId_quiet Yn _,Fy hh hIS (hi'.at λo e=>up I o (Y4 hIS) e) (hT'.at λo e=>up T o hTS e) hge (YY _ hS' rfl) λh'' tk'' hk=>?_⟩;exact hR h'' tk'' λb o hb hbS e=>hk b o hb hbS (up b o hbS (kp b o hb e))
 | false =>
  simp only[Bool.false_eq_true,if_false];refine wpAny_bind (wpAny_letGo ?_);rw[hname];refine wpAny_pure ⟨plainId_quiet PySem.F.plain_min_loop _,Fy hh hIS hi' hT' hge hS' λh'' tk'' hk=>?_⟩;exact hR h'' tk'' λb o hb hbS e=>hk b o hb hbS (kp b o hb e)
theorem Fz(hh:A.handled=none)(hIS:S≠I)(hTS:T≠S)(hTI:T≠I){s:Shared}{c:Nat}{x y:Value}{r:Bool}(hi:s.heap.IsTupleIter I T 0)(hT:s.heap.IsTuple T #[x,y])
  (hS:s.heap.get? S=some {cls:=.type "list",dict:=none,data:=.seq #[] c,slots:=#[]})
  (hcmp:∀(s':Shared) (Q E:Value->Shared->Prop),(∀b o,b≠I->b≠S->s.heap.get? b=some o->s'.heap.get? b=some o)->Q (.bool r) s'->wpAny (model prog w) A.in1 (richCompare .Lt y x) Q E s')
  (hR:∀h' tk,(∀b o,b≠I->b≠S->s.heap.get? b=some o->h'.get? b=some o)->R (.ok (.ret (if r then y else x))) {s with heap:=h',toks:=tk}) :
  codeAny (model prog w) A (.builtin "min.loop" ⟨[.ref I,.none,.ref S],[]⟩) R s:=by
 have hname:(toString "min"++toString ".loop" : String)="min.loop":=by decide
 refine Z5 Zj ?_;rw[Zw Yn _];show wpAny _ A.in1 (seqItems? (.ref S) >>= _) _ _ s;refine Xn (Zc hS rfl ?_);show wpAny _ A.in1 (tryCatch (pyNext (.ref I)) _ >>= _) _ _ s;refine Xn (ZD (Z4 (A:=A.in1) (x:=x) hi hT rfl λh' hi' hs'=>?_));have kp:∀b o,b≠I->s.heap.get? b=some o->h'.get? b=some o:=λb o hb e=>hs'.extBut b o hb e
 have hS':=kp S _ hIS hS;have hT':h'.IsTuple T #[x,y]:=hT.at λo e=>kp T o hTI e
 show wpAny _ A.in1 (updateSeq S (λ_=>#[x,x]) >>= _) _ _ _;refine Xn (wpAny_updateSeq hS' rfl ?_);rw[hname];have up:∀b o,b≠S->h'.get? b=some o->(h'.update S (Obj.mapSeq λ_=>#[x,x])).get? b=some o:=λb o hb e=>(YT _ _ (Y4 hb)).trans e
 refine Xx ⟨plainId_quiet Yn _,HW hh hIS hTS hTI (hi'.at λo e=>up I o (Y4 hIS) e) (hT'.at λo e=>up T o hTS e) (x:=y) rfl rfl (YY _ hS' rfl) (λs' Q E k q=>hcmp s' Q E (λb o hb hbS e=>k b o hb hbS (up b o hbS (kp b o hb e))) q) λh'' tk'' hk=>?_⟩;exact hR h'' tk'' λb o hb hbS e=>hk b o hb hbS (up b o hbS (kp b o hb e))
theorem L5(hh:A.handled=none){s:Shared}{x y:Value}{r:Bool}{Q E:Value->Shared->Prop}
  (hcmp:∀(s':Shared) (Q E:Value->Shared->Prop),(∀b o,s.heap.get? b=some o->s'.heap.get? b=some o)->Q (.bool r) s'->wpAny (model prog w) A.in1 (richCompare .Lt y x) Q E s')
  (hQ:∀h' tk,(∀b o,s.heap.get? b=some o->h'.get? b=some o)->Q (if r then y else x) {s with heap:=h',toks:=tk}) :
  wpAny (model prog w) A (call (.builtin "min") [x,y]) Q E s:=by
 have hname:(toString "min"++toString ".loop" : String)="min.loop":=by decide
 refine call_function_tree PySem.F.kind_min PySem.F.plain_min PySem.F.entry_min (PySem.F.args_min2 _ _) ?_;show wpAny _ A.in1 (Builtin.Builtins.bindParams "min" ["key","default"] 0 ⟨[],[]⟩ >>= _) _ _ s;refine Xn (wpAny_of_eq (show Builtin.Builtins.bindParams "min" ["key","default"] 0 ⟨[],[]⟩=pure [none,none]from rfl) ?_);show wpAny _ A.in1 (newTuple [x,y] >>= _) _ _ s;refine Xn (Yv ?_);have hT:(s.heap.push {cls:=.type "tuple",data:=.seq #[x,y]}).IsTuple s.heap.objs.size #[x,y]:=⟨_,Xz _ rfl,rfl,0,rfl⟩;have z1:(s.heap.push {cls:=.type "tuple",data:=.seq #[x,y]}).objs.size=s.heap.objs.size + 1:=Zb ..;generalize Wr:s.heap.push {cls:=.type "tuple",data:=.seq #[x,y]}=H1 at hT z1 ⊢;have k1:∀b o,s.heap.get? b=some o->H1.get? b=some o:=λb o e=>by rw[← Wr];exact Xl _ e
 refine Xn (ZG hT ?_);have z2:(H1.push {cls:=.type "tuple_iterator",data:=.fields #[.ref s.heap.objs.size,.int 0 0]}).objs.size=H1.objs.size + 1:=Zb ..;have hI:(H1.push {cls:=.type "tuple_iterator",data:=.fields #[.ref s.heap.objs.size,.int 0 0]}).IsTupleIter H1.objs.size s.heap.objs.size 0:=⟨_,Xz _ rfl,rfl,rfl⟩;have k2:∀b o,H1.get? b=some o->(H1.push {cls:=.type "tuple_iterator",data:=.fields #[.ref s.heap.objs.size,.int 0 0]}).get? b=some o:=λb o e=>Xl _ e
 generalize H1.push {cls:=.type "tuple_iterator",data:=.fields #[.ref s.heap.objs.size,.int 0 0]}=H2 at z2 hI k2 ⊢;refine Xn (Yv ?_);rw[hname];have k3:∀b o,H2.get? b=some o->(H2.push {cls:=.type "list",data:=.seq #[]}).get? b=some o:=λb o e=>Xl _ e
 have n1:H2.objs.size≠H1.objs.size:=Yr (by omega);have n2:s.heap.objs.size≠H2.objs.size:=Xv (by omega);have n3:s.heap.objs.size≠H1.objs.size:=Xv (by omega);have m1:∀b o,s.heap.get? b=some o->b≠H1.objs.size:=λb o e=>Xv (Xs (Xr e) (by omega))
 have m2:∀b o,s.heap.get? b=some o->b≠H2.objs.size:=λb o e=>Xv (Xs (Xr e) (by omega))
 refine Xx ⟨plainId_quiet Yn _,Fz (T:=s.heap.objs.size) hh n1 n2 n3 (hI.at λo e=>k3 _ o e) (hT.at λo e=>k3 _ o (k2 _ o e)) (Xz _ rfl) (λs' Q E k q=>hcmp s' Q E (λb o e=>k b o (m1 b o e) (m2 b o e) (k3 b o (k2 b o (k1 b o e)))) q) λh' tk hk=>?_⟩;exact hQ h' tk λb o e=>hk b o (m1 b o e) (m2 b o e) (k3 b o (k2 b o (k1 b o e)))
end
section
variable {X:Cx}
abbrev Tr:=Int×Int×Int
@[reducible] def RS(p:Tr):List V:=[.int p.1,.int p.2.1,.int p.2.2]
@[reducible] def Vt(p:Tr):PyData:=.tuple [.int p.1,.int p.2.1,.int p.2.2]
def Km(p q:Tr):Bool:=if p.1=q.1 then(if p.2.1=q.2.1 then(if p.2.2=q.2.2 then false else decide (p.2.2 < q.2.2))else decide (p.2.1 < q.2.1))else decide (p.1 < q.1)
theorem CK(hc:X.calm=true)(hu:X.A.units + 64 < cLine):eY X (.builtin "min") (λxs H Q=>∃a b p q,xs=[.ref a,.ref b]/\e8 X.K H a (RS p)/\e8 X.K H b (RS q)/\Q (if Km q p then .ref b else .ref a) H):=by
 intro pins s σ H xs us Q I r h;obtain⟨a,b,p,q,rfl,ha,hb,hq⟩:=h;obtain⟨u,v,rfl,ra,rb⟩:=vals2 r;cases ra;cases rb;obtain⟨ia,va,ta,_⟩:=I.tuple ha;obtain⟨ib,vb,tb,_⟩:=I.tuple hb
 obtain⟨x1,x2,x3,rfl,⟨t1,rfl⟩,⟨t2,rfl⟩,⟨t3,rfl⟩⟩:∃x1 x2 x3,ia=[x1,x2,x3]/\RelV (.int p.1) x1/\RelV (.int p.2.1) x2/\RelV (.int p.2.2) x3:=by
  cases va with
  | cons r1 va=>cases va with
   | cons r2 va=>cases va with
    | cons r3 va=>cases va;exact⟨_,_,_,rfl,r1,r2,r3⟩
 obtain⟨y1,y2,y3,rfl,⟨v1,rfl⟩,⟨v2,rfl⟩,⟨v3,rfl⟩⟩:∃x1 x2 x3,ib=[x1,x2,x3]/\RelV (.int q.1) x1/\RelV (.int q.2.1) x2/\RelV (.int q.2.2) x3:=by
  cases vb with
  | cons r1 vb=>cases vb with
   | cons r2 vb=>cases vb with
    | cons r3 vb=>cases vb;exact⟨_,_,_,rfl,r1,r2,r3⟩
 refine L5 (I.ok.hd hc) (r:=Km q p) (λs' Q E k hq=>?_) λh' tk k=>⟨_,H,I.kept k,?_,hq⟩
 ·refine yj (ps:=[(q.1,v1,p.1,t1),(q.2.1,v2,p.2.1,t2),(q.2.2,v3,p.2.2,t3)]) ((show s.heap.IsTuple b _ from tb).at λo e=>k _ o e) ((show s.heap.IsTuple a _ from ta).at λo e=>k _ o e) rfl (by show X.A.units + 1 < cLine;omega) hq
 ·cases Km q p<;>rfl
@[reducible] def BG(xs:List DV)(st:aK)(Q:DC):Prop:=match xs with
 | [.dat (.tuple [.int x,.int s,.int a]),.dat (.tuple [.int y,.int t,.int c])]=>Q (.dat (if Km (y,t,c) (x,s,a)then Vt (y,t,c)else Vt (x,s,a))) st
 | _=>False
theorem HY{J:KF}:AB J (λxs H Q=>∃a b p q,xs=[.ref a,.ref b]/\e8 J H a (RS p)/\e8 J H b (RS q)/\Q (if Km q p then .ref b else .ref a) H) BG:=λH0 A0 G al H st vs ds Q R I h q k=>by
 unfold BG at q;split at q
 ·rename_i x s a y t c;obtain⟨v,u,rfl,h1,h2⟩:=zW h;obtain⟨v1,ys,rfl,f1,_,f2⟩:=aM.dF h1;obtain⟨u1,zs,rfl,g1,_,g2⟩:=aM.dF h2;have e1:=rz (ns:=[x,s,a]) f2;have e2:=rz (ns:=[y,t,c]) g2;subst e1;subst e2;refine⟨v1,u1,(x,s,a),(y,t,c),rfl,f1,g1,?_⟩
  cases z:Km (y,t,c) (x,s,a)with
  | true=>rw[z]at q;exact k.here I (.d h2) q
  | false=>rw[z]at q;exact k.here I (.d h1) q
 ·exact q.elim
theorem HZ{Y:YK}{e:Expr}{es:List Expr}{n:Nat}{d:lF}{p pos:Pos}(hc:X.calm=true)(hu:X.A.units + 64 < cLine)(hg:Gl X "min")(hm:X.mg "min"=none)(ha:qw X Y (e::es) n d)(he:starEach (e::es) X.env=(false,eval e X.env)::starEach es X.env:=by rfl)(hpl:(backTo pos (starEach es X.env)).any (·.1)=false:=by rfl):bz X Y (.Call (.Name "min" p) (e::es) [] pos) (xD BG d):=kI (CK hc hu) HY hg hm DM ha (by decide) (by decide) he hpl
end
end L2
local macro_rules | `(tactic| walk_at "cond")=>`(tactic| first | rfl | decide | omega | (show (0:Int) < _; decide) | (show (0:Int) < _; omega) | exact ⟨by decide,by decide⟩ | exact ⟨by omega,by omega⟩ | exact Or.inl ⟨by decide,by decide⟩ | exact Or.inr ⟨by decide,by decide⟩ | exact Or.inl ⟨by omega,by omega⟩ | exact Or.inr ⟨by omega,by omega⟩ | assumption)
local macro_rules | `(tactic| walk_at "rd1")=>`(tactic| first
 | refine⟨_,rfl,?_⟩
 | refine⟨_,_,rfl,rfl,?_⟩
 | (refine And.intro ?_ ?_;walk_at "cond"))
local macro_rules | `(tactic| walk_at "vc")=>`(tactic| try dsimp only [L2.By,L2.yb,L2.Fe,L2.LM,L2.TJ,L2.zY,L2.Es,L2.eC,L2.pk,L2.oI,L2.Ht,L2.EA,L2.Lr,L2.wd,L2.Bk,L2.we,L2.n4,L2.iz,L2.vc,L2.Pp,L2.LQ,L2.mr,L2.NU,L2.EF,L2.EG,L2.Tx,L2.CC,L2.Bm,L2.HD,L2.EI,L2.EK,L2.Lx,L2.xD,L2.EM,L2.x5,L2.EN,L2.EO,L2.ER,L2.Fs,L2.HS,L2.HU,L2.Ft,L2.x6,L2.pD,L2.wz,List.zip_cons_cons,List.zip_nil_left,List.zip_nil_right,L2.sub,List.take_succ_cons,List.take_zero,L2.mi,L2.dn,L2.Ey,L2.Bh,L2.Hv,L2.Hw,L2.Bi,L2.HI,L2.wm,L2.wo,L2.EW,L2.EY,L2.zX,L2.EV,L2.gN,L2.vh,L2.sg,L2.gT,L2.NX,L2.wq,L2.TH,L2.CF,L2.LN,L2.HK,L2.LO,L2.PD,L2.vj,L2.sj,L2.ya,L2.E9,id_eq,List.map_cons,List.map_nil,List.replicate,List.getElem?_cons_zero,List.getElem?_cons_succ,List.set_cons_zero,List.set_cons_succ,List.nil_append,List.cons_append,List.length_cons,List.length_nil,Nat.zero_add,Nat.reduceAdd,Option.getD_some,Option.getD_none,List.getElem?_nil])
local macro_rules | `(tactic| walk_at "vs")=>`(tactic| try dsimp only [L2.By,L2.Fe,L2.LM,L2.TJ,L2.zY,L2.Es,L2.eC,L2.pk,L2.oI,L2.Ht,L2.EA,L2.Lr,L2.wd,L2.Bk,L2.we,L2.n4,L2.iz,L2.vc,L2.Pp,L2.LQ,L2.mr,L2.NU,L2.EF,L2.EG,L2.Tx,L2.CC,L2.Bm,L2.HD,L2.EI,L2.EK,L2.Lx,L2.xD,L2.EM,L2.x5,L2.EN,L2.EO,L2.ER,L2.Fs,L2.HS,L2.HU,L2.Ft,L2.x6,L2.pD,L2.wz,List.zip_cons_cons,List.zip_nil_left,List.zip_nil_right,L2.sub,List.take_succ_cons,List.take_zero,L2.mi,L2.dn,L2.Ey,L2.Bh,L2.Hv,L2.Hw,L2.Bi,L2.HI,L2.wm,L2.wo,L2.EW,L2.EY,L2.zX,L2.EV,L2.gN,L2.vh,L2.sg,L2.gT,L2.NX,L2.wq,L2.TH,L2.CF,L2.LN,L2.HK,L2.LO,L2.PD,L2.vj,L2.sj,L2.ya,L2.E9,id_eq,List.map_cons,List.map_nil,List.replicate,List.getElem?_cons_zero,List.getElem?_cons_succ,List.set_cons_zero,List.set_cons_succ,List.nil_append,List.cons_append,List.length_cons,List.length_nil,Nat.zero_add,Nat.reduceAdd,Option.getD_some,Option.getD_none,List.getElem?_nil])
local macro_rules | `(tactic| walk_at "rd")=>`(tactic| repeat walk_at "rd1")
set_option maxHeartbeats 4000000
local macro_rules | `(tactic| walk_at "sc")=>`(tactic| exact ⟨rfl,rfl,rfl,by decide +kernel,rfl,by decide +kernel,by decide +kernel⟩)
namespace Mine
open PySem L2
theorem Vu{α:Type}{P:List α->Prop}(h:P []):∀us:List α,us.length=0->P us:=λus hl=>by
 cases us with
 | nil=>exact h
 | cons a r=>exact absurd hl (YI _)
theorem Gx{α:Type}{P:List α->Prop}(h:∀a0:α,P [a0]):∀us:List α,us.length=1->P us:=λus hl=>by
 cases us with
 | nil=>exact absurd hl.symm (YI _)
 | cons a r=>exact Vu (P:=λr=>P (a::r)) (h a) r (YZ hl)
theorem ln2{α:Type}{P:List α->Prop}(h:∀a0 a1:α,P [a0,a1]):∀us:List α,us.length=2->P us:=λus hl=>by
 cases us with
 | nil=>exact absurd hl.symm (YI _)
 | cons a r=>exact Gx (P:=λr=>P (a::r)) (λa1=>h a a1) r (YZ hl)
theorem Ko{α:Type}{P:List α->Prop}(h:∀a0 a1 a2:α,P [a0,a1,a2]):∀us:List α,us.length=3->P us:=λus hl=>by
 cases us with
 | nil=>exact absurd hl.symm (YI _)
 | cons a r=>exact ln2 (P:=λr=>P (a::r)) (λa1 a2=>h a a1 a2) r (YZ hl)
theorem PM{α:Type}{P:List α->Prop}(h:∀a0 a1 a2 a3:α,P [a0,a1,a2,a3]):∀us:List α,us.length=4->P us:=λus hl=>by
 cases us with
 | nil=>exact absurd hl.symm (YI _)
 | cons a r=>exact Ko (P:=λr=>P (a::r)) (λa1 a2 a3=>h a a1 a2 a3) r (YZ hl)
theorem Vv{α:Type}{P:List α->Prop}(h:∀a0 a1 a2 a3 a4:α,P [a0,a1,a2,a3,a4]):∀us:List α,us.length=5->P us:=λus hl=>by
 cases us with
 | nil=>exact absurd hl.symm (YI _)
 | cons a r=>exact PM (P:=λr=>P (a::r)) (λa1 a2 a3 a4=>h a a1 a2 a3 a4) r (YZ hl)
theorem TV{α:Type}{xs:List α}(h:xs.length=2):∃a0 a1,xs=[a0,a1]:=ln2 (P:=λxs=>∃a0 a1,xs=[a0,a1]) (λa0 a1=>⟨a0,a1,rfl⟩) xs h
theorem Vw{α:Type}{xs:List α}(h:xs.length=3):∃a0 a1 a2,xs=[a0,a1,a2]:=Ko (P:=λxs=>∃a0 a1 a2,xs=[a0,a1,a2]) (λa0 a1 a2=>⟨a0,a1,a2,rfl⟩) xs h
def tf(p:Program)(i:Nat):Stmt:=p.main.body.getD i (.Pass ⟨0,0,0,0⟩)
def top(i:Nat):Stmt:=tf PySem.Challenge.pw_stackwarden_k29_wrong_books i
abbrev mO:Stmt:=top 43
abbrev jI:Stmt:=top 46
abbrev jJ:Stmt:=top 47
abbrev mP:Stmt:=top 44
abbrev kL:Stmt:=top 45
abbrev mQ:Stmt:=top 52
abbrev kM:Stmt:=top 50
abbrev pH:Stmt:=top 51
abbrev iX:Stmt:=top 53
abbrev mR:Stmt:=top 54
abbrev mS:Stmt:=top 55
abbrev mT:Stmt:=top 48
abbrev jK:Stmt:=top 49
abbrev kN:Stmt:=top 7
abbrev kO:Stmt:=top 8
abbrev kP:Stmt:=top 9
abbrev pJ:Stmt:=top 10
abbrev fY:Stmt:=top 34
abbrev dH:Stmt:=top 38
abbrev cP:Stmt:=top 39
abbrev mU:Stmt:=top 21
abbrev pL:Stmt:=top 13
abbrev Ac:Stmt:=top 22
abbrev wC:Stmt:=top 20
abbrev sA:Stmt:=top 23
abbrev mV:Stmt:=top 35
abbrev gU:Stmt:=top 36
abbrev iY:Stmt:=top 37
abbrev jL:Stmt:=top 40
abbrev ff:Stmt:=top 31
abbrev dI:Stmt:=top 32
abbrev eg:Stmt:=top 33
abbrev jM:Stmt:=top 41
abbrev iZ:Stmt:=top 63
abbrev i4:Stmt:=top 56
abbrev gW:Stmt:=top 57
abbrev i6:Stmt:=top 60
abbrev jN:Stmt:=top 58
abbrev fg:Stmt:=top 59
abbrev i7:Stmt:=top 61
abbrev i8:Stmt:=top 62
abbrev kQ:Stmt:=top 64
abbrev og:Stmt:=top 65
def pM:PyData:=.tuple [.str "jump",.str "toss",.str "give"]
def iD:List (Str×PyData):=[("box",.int 7),("make",.int 7),("field",.int 7),("part",.int 7),("place",.int 99)]
def sC:PyData:=.tuple [.str "push",.str "load",.str "store",.str "dup",.str "swap",.str "drop",.str "add",.str "sub",.str "mul",.str "div",.str "rem",.str "less",.str "same",.str "jump",.str "zero",.str "kin",.str "make",.str "fill",.str "begin",.str "get",.str "put",.str "call",.str "toss",.str "say",.str "give"]
def cg:List (Str×PyData):=[("push",.tuple [.str "word"]),("load",.tuple [.str "box"]),("store",.tuple [.str "box"]),("jump",.tuple [.str "place"]),("zero",.tuple [.str "place"]),("kin",.tuple [.str "make",.str "place"]),("make",.tuple [.str "make"]),("fill",.tuple [.str "make",.str "field"]),("begin",.tuple [.str "make"]),("get",.tuple [.str "make",.str "field"]),("put",.tuple [.str "make",.str "field"]),("call",.tuple [.str "part"])]
abbrev ju:Stmt:=inner (top 4)
inductive Kd where
 | any | num | whole (c:Nat) | raw (c m:Nat)
 deriving DecidableEq
def Df:Kd->List PyData
 | .any=>[.str "any"]
 | .num=>[.str "number"]
 | .whole c=>[.str "whole",.int c]
 | .raw c m=>[.str "raw",.int c,.int m]
abbrev cW:=List (Option Nat×List Kd)
def xE:Option Nat->PyData
 | none=>.none
 | some n=>.int n
def NY(m:Option Nat×List Kd):PyData:=.tuple [xE m.1,.list (m.2.map λk=>.tuple (Df k))]
def jv(ms:cW):PyData:=.list (ms.map NY)
structure Wf(ms:cW):Prop where
 ne:0 < ms.length
 few:ms.length<=8
 first:∀m,ms[0]?=some m->m.1=none
 ahead:∀(i:Nat) m,ms[i]?=some m->0 < i->∃j,m.1=some j/\j < i
def oh(ms:cW)(c:Nat):Option Nat:=(ms[c]?).bind (·.1)
theorem Wf.el{ms:cW}(w:Wf ms){c:Nat}(hc:c < ms.length):∃m,ms[c]?=some m/\oh ms c=m.1/\∀j,m.1=some j->j < c:=by
 refine⟨ms[c],dC hc,by unfold oh;rw[dC hc];rfl,λj hj=>?_⟩;rcases Nat.eq_zero_or_pos c with z | z
 ·subst z;have:=w.first _ (dC hc);rw[hj]at this;cases this
 ·obtain⟨j',h1,h2⟩:=w.ahead c _ (dC hc) z;rw[hj]at h1;cases h1;exact h2
def sD(ms:cW):Nat->Nat->List Nat
 | 0,_=>[]
 | n + 1,c=>c::(match oh ms c with | none=>[] | some j=>sD ms n j)
def bH(ms:cW)(c:Nat):List Nat:=sD ms (c + 1) c
theorem Ia{ms:cW}(w:Wf ms):∀c:Nat,c < ms.length->∀n,c + 1<=n->sD ms n c=sD ms (c + 1) c:=by
 intro c
 induction c using Nat.strongRecOn with
 | ind c ih =>
  intro hc n hn;obtain⟨n',rfl⟩:∃n',n=n' + 1:=⟨n - 1,by omega⟩;show(c::(match oh ms c with | none=>[] | some j=>sD ms n' j))=c::(match oh ms c with | none=>[] | some j=>sD ms c j);obtain⟨m,_,e,hj⟩:=w.el hc
  cases q:oh ms c with
  | none=>rfl
  | some j =>
   have hlt:j < c:=hj j (by rw[← e,q]);show c::sD ms n' j=c::sD ms c j;rw[ih j hlt (by omega) n' (by omega),ih j hlt (by omega) c (by omega)]
def rest(ms:cW):Option Nat->List Nat
 | none=>[]
 | some j=>bH ms j
theorem fP{ms:cW}(w:Wf ms){c:Nat}(hc:c < ms.length):bH ms c=c::rest ms (oh ms c):=by
 show(c::(match oh ms c with | none=>[] | some j=>sD ms c j))=_;obtain⟨m,_,e,hj⟩:=w.el hc
 cases q:oh ms c with
 | none=>rfl
 | some j =>
  have hlt:j < c:=hj j (by rw[← e,q]);show c::sD ms c j=c::sD ms (j + 1) j;rw[Ia w j (by omega) c (by omega)]
theorem dR{ms:cW}(w:Wf ms):∀c:Nat,c < ms.length->(bH ms c).length<=c + 1/\∀x∈bH ms c,x<=c:=by
 intro c
 induction c using Nat.strongRecOn with
 | ind c ih =>
  intro hc;rw[fP w hc];obtain⟨m,_,e,hj⟩:=w.el hc
  cases q:oh ms c with
  | none=>exact⟨by simp[rest],λx hx=>by simp[rest]at hx;omega⟩
  | some j =>
   have hlt:j < c:=hj j (by rw[← e,q]);obtain⟨h1,h2⟩:=ih j hlt (by omega);refine⟨by simp only[rest,List.length_cons];omega,λx hx=>?_⟩;rcases List.mem_cons.mp hx with z | z
   ·omega
   ·have:=h2 x z;omega
def uh(zs:List Nat):Kd->Prop
 | .any=>True
 | .num=>True
 | .whole c=>c < zs.length
 | .raw c m=>∃z,zs[c]?=some z/\m < 2 ^ z
theorem sN{H:Hp}{p:Addr}(h:H p=none)(o:HO):bD H (upd H p o):=λb u q=>by rw[uN (nN q h)];exact q
structure ui(sh:List (Option Nat×Nat))(zs:List Nat):Prop where
 len:sh.length=zs.length
 ne:0 < sh.length
 s0:sh[0]?=some (none,0)
 z0:zs[0]?=some 0
 six:∀z∈zs,z<=6
 go:∀(i:Nat) (s:Option Nat×Nat),0 < i->sh[i]?=some s->∃j z,s.1=some j/\j < i/\zs[j]?=some z/\zs[i]?=some (z + s.2)
theorem ui.snoc{sh:List (Option Nat×Nat)}{zs:List Nat}(h:ui sh zs){j n z:Nat}(hj:j < sh.length)(hz:zs[j]?=some z)(h6:z + n<=6):ui (sh++[(some j,n)]) (zs++[z + n]) where
 len:=by simp[h.len]
 ne:=by simp
 s0:=by rw[XE h.ne];exact h.s0
 z0:=by rw[XE (by rw[← h.len];exact h.ne)];exact h.z0
 six:=λx hx=>by
  rcases Yg.mp hx with q | q
  ·exact h.six x q
  ·simp at q;omega
 go:=λi s h0 hs=>by
  by_cases hi:i < sh.length
  ·rw[XE hi]at hs;obtain⟨j',z',e1,e2,e3,e4⟩:=h.go i s h0 hs;exact⟨j',z',e1,e2,by rw[XE (by rw[← h.len];omega)];exact e3,by rw[XE (by rw[← h.len];exact hi)];exact e4⟩
  ·have hl:i < (sh++[(some j,n)]).length:=(bX hs).1;have e:i=sh.length:=by simp at hl;omega
   subst e;rw[List.getElem?_append_right (Nat.le_refl _)]at hs;simp at hs;subst hs;refine⟨j,z,rfl,hj,by rw[List.getElem?_append_left (by rw[← h.len];exact hj)];exact hz,?_⟩;rw[h.len,List.getElem?_append_right (Nat.le_refl _)];simp
structure Good(ms:cW)(zs:List Nat):Prop where
 wf:Wf ms
 len:ms.length=zs.length
 CL:∀m,ms[0]?=some m->m.2=[]
 z0:zs[0]?=some 0
 six:∀z∈zs,z<=6
 go:∀(i:Nat) m,0 < i->ms[i]?=some m->∃j z,m.1=some j/\j < i/\zs[j]?=some z/\zs[i]?=some (z + m.2.length)
 kds:∀(i:Nat) m,ms[i]?=some m->∀k∈m.2,uh zs k
def ownOf(ms:cW)(c:Nat):List Kd:=match ms[c]? with | some m=>m.2 | none=>[]
def jw(ms:cW):List Nat->List Kd
 | []=>[]
 | e::r=>jw ms r++ownOf ms e
def fields(ms:cW)(c:Nat):List Kd:=jw ms (bH ms c)
theorem yk{ms:cW}(w:Wf ms){c:Nat}(hc:c < ms.length):fields ms c=jw ms (rest ms (oh ms c))++ownOf ms c:=by
 unfold fields;rw[fP w hc];rfl
theorem Good.mW{ms:cW}{zs:List Nat}(g:Good ms zs):∀c:Nat,c < ms.length->∃z,zs[c]?=some z/\(fields ms c).length=z:=by
 intro c
 induction c using Nat.strongRecOn with
 | ind c ih =>
  intro hc;have hm:=dC hc;rw[yk g.wf hc];have own:ownOf ms c=(ms[c]).2:=by unfold ownOf;rw[hm]
  have el:oh ms c=(ms[c]).1:=by unfold oh;rw[hm];rfl
  rcases ZJ c with z | z
  ·subst z;refine⟨0,g.z0,?_⟩;rw[own,g.CL _ hm,el,g.wf.first _ hm];rfl
  ·obtain⟨j,y,e1,e2,e3,e4⟩:=g.go c _ z hm;obtain⟨z',f1,f2⟩:=ih j e2 (by omega);rw[e3]at f1;cases f1;refine⟨_,e4,?_⟩;rw[own,el,e1,Xw];show(fields ms j).length + _=_;rw[f2]
abbrev CM(ks:List Kd):List PyData:=ks.map λk=>PyData.tuple (Df k)
def below(ms:cW):Kd->Kd->Bool
 | _,.any=>true
 | .num,.num=>true
 | .whole c,.whole d=>decide (d∈bH ms c)
 | .raw c m,.raw d n=>decide (c=d)&&decide (m&&&n=n)
 | _,_=>false
theorem FA{P:Kd->Prop}{ks:List Kd}{k:Kd}(h:∀x∈ks,P x)(hk:P k):∀x∈ks++[k],P x:=λx hx=>by
 rcases Yg.mp hx with z | z
 ·exact h x z
 ·simp at z;rw[z];exact hk
theorem cy.dF{K:aJ}{H:Hp}{v:V}{ds:List PyData}(h:cy K H v (.tuple ds)):∃(a:Addr) (xs:List V),v=.ref a/\e8 K H a xs/\kj K H xs ds:=by
 cases h with
 | tup h hl hi=>exact⟨_,_,rfl,h,hl,hi⟩
def Ws(ms:cW):Prop:=∀(i:Nat) m,ms[i]?=some m->m.2.length<=50
theorem Good.TX{ms:cW}{zs:List Nat}(g:Good ms zs):Ws ms:=λi m hm=>by
 rcases ZJ i with z | z
 ·subst z;rw[g.CL m hm]
  decide
 ·obtain⟨j,y,_,_,_,e4⟩:=g.go i m z hm;have:=g.six _ (Xy e4);omega
def bt:List Str:=["push","load","store","dup","swap","drop","add","sub","mul","div","rem","less","same","jump","zero","kin","make","fill","begin","get","put","call","toss","say","give"]
theorem Ib{K:aJ}{H:Hp}{ss:List Str}{xs:List V}(h:kj K H xs (ss.map PyData.str)):xs=ss.map V.str:=by
 have hl:=h.1;rw[Xk]at hl;apply YW;intro i;by_cases hi:i < xs.length
 ·have z:=h.2 i xs[i] (.str (ss[i]'(by omega))) (dC hi) (by rw[XJ,dC (by omega)];rfl)
  have e:xs[i]=.str (ss[i]'(by omega)):=by
   generalize xs[i]=y at z ⊢;cases z;rfl
  rw[dC hi,e,XJ,dC (by omega)];rfl
 ·rw[List.getElem?_eq_none (by omega),List.getElem?_eq_none (by simp;omega)]
def gX(n:Int):Bool:=decide (-2147483648<=n)&&decide (n < 2147483648)
def en(x:Str):Option Int:=(iS iD x).bind λd=>match d with | .int i=>some i | _=>none
def PN(want:Str):V->Bool
 | .int i=>if want="word" then gX i else match en want with | some m=>decide (0<=i)&&decide (i<=m) | none=>false
 | _=>false
def isInt:V->Bool
 | .int _=>true
 | _=>false
def ym:PyData->List Str
 | .tuple ds=>ds.map λd=>match d with | .str s=>s | _=>""
 | _=>[]
def aP(x:Str):List Str:=((iS cg x).map ym).getD []
theorem Ad{x:Str}{dt:PyData}(h:iS cg x=some dt):dt=.tuple ((aP x).map PyData.str):=by
 have e:aP x=ym dt:=by unfold aP;rw[h];rfl
 rw[e]
 have all:∀p∈cg,p.2=.tuple ((ym p.2).map PyData.str):=by
  intro p hp;simp only[cg,List.mem_cons,List.not_mem_nil,or_false]at hp
  repeat' (rcases hp with rfl | hp)
  all_goals first | rfl | (subst hp;rfl)
 unfold iS at h
 cases q:cg.find? λkv=>decide (kv.1=x)with
 | none=>rw[q]at h;cases h
 | some kv =>
  rw[q]at h;cases h;exact all kv (ZR q)
theorem Ae{x:Str}(h:iS cg x=none):aP x=[]:=by unfold aP;rw[h];rfl
theorem yn:∀s:Str,∀x∈aP s,x="word"∨∃m:Int,iS iD x=some (.int m):=by
 intro s x hx;have all:∀p∈cg,∀y∈ym p.2,y="word"∨y="box"∨y="make"∨y="field"∨y="part"∨y="place":=by decide +kernel
 have h:x="word"∨x="box"∨x="make"∨x="field"∨x="part"∨x="place":=by
  unfold aP at hx
  cases q:iS cg s with
  | none=>rw[q]at hx;simp at hx
  | some d =>
   rw[q]at hx;have hx:x∈ym d:=hx;unfold iS at q
   cases z:cg.find? λkv=>decide (kv.1=s)with
   | none=>rw[z]at q;cases q
   | some kv =>
    rw[z]at q;cases q;exact all kv (ZR z) x hx
 rcases h with h | h | h | h | h | h
 ·exact .inl h
 all_goals (subst h;exact .inr ⟨_,rfl⟩)
theorem bI(v:Int){m:Int}{n:Nat}(e:m=(n:Int))(h:0 < n):∃c:Nat,v % m=(c:Int)/\c < n:=by
 subst e;have a:=YB v (show(n:Int)≠0 by omega);have b:=YS v (show(0:Int) < (n:Int)by omega);exact⟨(v % (n:Int)).toNat,by omega,by omega⟩
theorem BH{α:Type}{fin:List PyData->aK->DC->Prop}{dg:qz}{dt:DT}{de:DX}{xs:List PyData}{env:bO}{aD:aK}{Q:DC}(P:α->Prop)(f:α->PyData)(hl:xs.length<=1000000)
  (hs:∀(i:Nat) d,xs[i]?=some d->∀(W:PyData->Prop) (N:Prop),(∀a,P a->W (f a))->dg (.dat d) env aD λgr bu=>bu=aD/\dt gr aD λb jB=>jB=aD/\if b=true then de gr aD λy qu=>mi y qu λdy zv=>zv=aD/\W dy else N)
  (hd:∀as:List α,as.length=xs.length->(∀a∈as,P a)->fin (as.map f) aD Q):RO fin dg dt de xs (λ_=>True) env aD Q:=by
 refine Bu (λi ys=>∃as:List α,ys=as.map f/\as.length=i/\∀a∈as,P a) hl ⟨[],rfl,rfl,(λ_ h=>nomatch h)⟩ (λi ys d hd' hy=>?_) (λys hy=>?_)
 ·obtain⟨as,rfl,ha,hp⟩:=hy;refine hs i d hd' (λdy=>∃bs:List α,as.map f++[dy]=bs.map f/\bs.length=i + 1/\∀a∈bs,P a) _ λa h=>⟨as++[a],by rw[List.map_append];rfl,by simp[ha],λb hb=>?_⟩
  rcases Yg.mp hb with z | z
  ·exact hp b z
  ·rw[xF z];exact h
 ·obtain⟨as,rfl,ha,hp⟩:=hy;exact hd as ha hp
theorem sE{α:Type}{fin:List PyData->aK->DC->Prop}{dg:qz}{dt:DT}{de:DX}{xs:List PyData}{env:bO}{aD:aK}{Q:DC}(as:List α)(g f:α->PyData)(hx:xs=as.map g)(hl:as.length<=1000000)
  (hs:∀(i:Nat) a,as[i]?=some a->∀(P:PyData->Prop) (N:Prop),P (f a)->dg (.dat (g a)) env aD λgr bu=>bu=aD/\dt gr aD λb jB=>jB=aD/\if b=true then de gr aD λy qu=>mi y qu λdy zv=>zv=aD/\P dy else N)
  (hd:fin (as.map f) aD Q):RO fin dg dt de xs (λ_=>True) env aD Q:=by
 subst hx;refine Bu (λi ys=>ys=(as.take i).map f) (by rw[List.length_map];exact hl) (by simp) (λi ys d hd' hy=>?_) (λys hy=>?_)
 ·rw[XJ]at hd'
  cases w:as[i]? with
  | none=>rw[w]at hd';cases hd'
  | some a =>
   rw[w]at hd';cases hd';refine hs i a w (λdy=>ys++[dy]=(as.take (i + 1)).map f) (ys=(as.take (i + 1)).map f) ?_;rw[hy,List.take_add_one,w,Yb];rfl
 ·rw[Xk,Z0]at hy;rw[hy];exact hd
theorem RT{b:Bool}{A B:Prop}(h:b=true)(a:A):if b=true then A else B:=by rw[XB h];exact a
theorem RU{b:Bool}{A B:Prop}(h:b=false)(a:B):if b=true then A else B:=by rw[h];exact a
theorem jx{b:Bool}{A B:Prop}(h:b=false)(a:A):if (!b)=true then A else B:=by rw[h];exact a
theorem kR{b:Bool}{A B:Prop}(h:b=true)(a:B):if (!b)=true then A else B:=by rw[h];exact a
def bc(l:List Nat):List PyData:=l.map λ(n:Nat)=>PyData.int (n:Int)
theorem bV(l:List Nat):(bc l).length=l.length:=Xk _
theorem vo(l:List Nat)(x:Nat):bc l++[.int (x:Int)]=bc (l++[x]):=by unfold bc;rw[List.map_append];rfl
theorem oi{α:Type}{f:α->PyData}(xs:List α)(n:Nat):cutD (xs.map f) none (some (n:Int))=(xs.take n).map f:=by
 unfold cutD;rw[HT.nV,HT.vJ,List.drop_zero,Nat.sub_zero,← List.map_take,List.length_map]
 congr 1
 exact List.take_eq_take_iff.mpr (by omega)
theorem vp{α:Type}{f:α->PyData}(xs:List α)(n:Nat):cutD (xs.map f) (some (n:Int)) none=(xs.drop n).map f:=by
 unfold cutD;rw[HT.nV,HT.vJ,List.length_map,List.map_drop,List.take_of_length_le (by rw[List.length_drop,List.length_map];omega)];by_cases h:n<=xs.length
 ·rw[Nat.min_eq_left h]
 ·rw[Nat.min_eq_right (by omega),List.drop_eq_nil_of_le (by simp),List.drop_eq_nil_of_le (by simp;omega)]
theorem EJ{α:Type}{xs:List α}{x y:α}{j:Nat}(h:(xs++[x])[j]?=some y):(j < xs.length/\xs[j]?=some y)∨(j=xs.length/\x=y):=by
 rcases Zx j xs.length with z | z
 ·rw[XE z]at h;exact .inl ⟨z,h⟩
 ·rw[XO z]at h
  match j - xs.length,(show xs.length + (j - xs.length)=j by omega),h with
  | 0,e,h=>cases h;exact .inr ⟨by omega,rfl⟩
inductive Rw where
 | push (w:Int) | load (b:Nat) | store (b:Nat) | bare (s:Str) | jump (t:Nat) | zero (t:Nat) | kin (c t:Nat) | make (c:Nat) | beg (c:Nat) | fill (c f:Nat) | get (c f:Nat) | put (c f:Nat) | call (p:Nat)
def Kp:Rw->Str
 | .push _=>"push" | .load _=>"load" | .store _=>"store" | .bare s=>s | .jump _=>"jump" | .zero _=>"zero" | .kin _ _=>"kin" | .make _=>"make" | .beg _=>"begin" | .fill _ _=>"fill" | .get _ _=>"get" | .put _ _=>"put" | .call _=>"call"
def L6:Rw->List Int
 | .push w=>[w] | .load b=>[b] | .store b=>[b] | .bare _=>[] | .jump t=>[t] | .zero t=>[t] | .kin c t=>[c,t] | .make c=>[c] | .beg c=>[c] | .fill c f=>[c,f] | .get c f=>[c,f] | .put c f=>[c,f] | .call p=>[p]
def yo(r:Rw):PyData:=.tuple (.str (Kp r)::(L6 r).map PyData.int)
def sF:List Str:=["dup","swap","drop","add","sub","mul","div","rem","less","same","toss","say","give"]
def Rw.Ok(zs:List Nat)(np nb nr:Nat):Rw->Prop
 | .push w=>-2147483648<=w/\w < 2147483648
 | .load b=>b < nb
 | .store b=>b < nb
 | .bare s=>s∈sF
 | .jump t=>t < nr
 | .zero t=>t < nr
 | .kin c t=>c < zs.length/\t < nr
 | .make c=>c < zs.length
 | .beg c=>c < zs.length
 | .fill c f=>∃z,zs[c]?=some z/\f < z
 | .get c f=>∃z,zs[c]?=some z/\f < z
 | .put c f=>∃z,zs[c]?=some z/\f < z
 | .call p=>p < np
structure Pt where
 takes:List Kd
 gives:Kd
 boxes:Nat
 height:Nat
 rows:List Rw
 spans:List (Nat×Nat×Nat)
def RV(s:Nat×Nat×Nat):PyData:=.tuple [.int (s.1:Int),.int (s.2.1:Int),.int (s.2.2:Int)]
def L7(p:Pt):PyData:=.tuple [.list (CM p.takes),.tuple (Df p.gives),.int (p.boxes:Int),.int (p.height:Int),.list (p.rows.map yo),.list (p.spans.map RV)]
def RW(ms:cW)(ps:List Pt):PyData:=.tuple [jv ms,.list (ps.map L7)]
structure CN(zs:List Nat)(np:Nat)(p:Pt):Prop where
 tk:∀k∈p.takes,uh zs k
 gv:uh zs p.gives
 bx:p.boxes<=8
 tb:p.takes.length<=p.boxes
 h1:1<=p.height
 h8:p.height<=8
 r1:1<=p.rows.length
 r2:p.rows.length<=100
 ro:∀r∈p.rows,r.Ok zs np p.boxes p.rows.length
 la:∃l r,p.rows=l++[r]/\(r=.bare "toss"∨r=.bare "give"∨∃t,r=.jump t)
 s8:p.spans.length<=8
 so:∀s∈p.spans,s.1 < s.2.1/\s.2.1<=p.rows.length/\s.2.2 < p.rows.length
inductive KI where
 | any | num | whole (x:Int) | raw (c m:Int)
def NZ:KI->List PyData
 | .any=>[.str "any"]
 | .num=>[.str "number"]
 | .whole x=>[.str "whole",.int x]
 | .raw c m=>[.str "raw",.int c,.int m]
@[reducible] def cG(k:KI):PyData:=.tuple (NZ k)
def Kd.ki:Kd->KI
 | .any=>.any
 | .num=>.num
 | .whole c=>.whole (c:Int)
 | .raw c m=>.raw (c:Int) (m:Int)
theorem FC(k:Kd):NZ k.ki=Df k:=by cases k<;>rfl
abbrev ku:=List (Option Nat×List KI)
def qL(m:Option Nat×List KI):PyData:=.tuple [xE m.1,.list (m.2.map cG)]
def fh(L:ku):PyData:=.list (L.map qL)
def loose(ms:cW):ku:=ms.map λm=>(m.1,m.2.map Kd.ki)
theorem jO(ms:cW):jv ms=fh (loose ms):=by
 unfold jv fh loose;rw[List.map_map]
 congr 1
 refine Yw λm _=>?_
 show PyData.tuple [xE m.1,.list (m.2.map λk=>.tuple (Df k))]=.tuple [xE m.1,.list ((m.2.map Kd.ki).map cG)];rw[YE]
 congr 4
 exact Yw λk _=>by rw[← FC];rfl
def dJ(L:ku)(ms:cW):Prop:=L.map (·.1)=ms.map (·.1)
theorem er(ms:cW):dJ (loose ms) ms:=by
 unfold dJ loose;rw[List.map_map];rfl
theorem dJ.len{L:ku}{ms:cW}(h:dJ L ms):L.length=ms.length:=by
 have:=X7 List.length h
 rwa [Xk,Xk]at this
theorem dJ.at{L:ku}{ms:cW}(h:dJ L ms){j:Nat}{m}(hm:ms[j]?=some m):∃l,L[j]?=some (m.1,l):=by
 have e:=congrArg (·[j]?) h;simp only[List.getElem?_map,hm,Option.map_some]at e;obtain⟨⟨a,l⟩,h1,h2⟩:=Option.map_eq_some_iff.mp e;exact⟨l,by rw[h1];exact congrArg (λa=>some (a,l)) h2⟩
def cX(L:ku)(c:Nat):List KI:=match L[c]? with | some m=>m.2 | none=>[]
def aU(L:ku):List Nat->List KI
 | []=>[]
 | e::r=>aU L r++cX L e
theorem fw(L:ku):∀l:List Nat,aU L l=(l.reverse.map (cX L)).flatten
 | []=>rfl
 | e::r=>by
  show aU L r++cX L e=_;rw[fw L r];simp
theorem sG(ms:cW)(c:Nat):cX (loose ms) c=(ownOf ms c).map Kd.ki:=by
 unfold cX ownOf loose;rw[List.getElem?_map];cases ms[c]?<;>rfl
theorem i9(ms:cW):∀l,aU (loose ms) l=(jw ms l).map Kd.ki
 | []=>rfl
 | e::r=>by
  show aU (loose ms) r++cX (loose ms) e=(jw ms r++ownOf ms e).map Kd.ki;rw[i9 ms r,sG,Yb]
def uj(L:ku)(ms:cW)(c:Nat):Nat:=(aU L (bH ms c)).length
structure mX(L:ku)(ms:cW):Prop where
 el:dJ L ms
 wf:Wf ms
 few:∀m∈L,m.2.length<=50
 sz:∀c,c < ms.length->uj L ms c<=400
theorem PQ{L:ku}(few:∀m∈L,m.2.length<=50):∀l:List Nat,(aU L l).length<=50 * l.length
 | []=>Xu _
 | e::r=>by
  have ih:=PQ few r;show(aU L r++cX L e).length<=_;rw[Xw,XR]
  have:(cX L e).length<=50:=by
   unfold cX
   cases q:L[e]? with
   | none=>exact X3 _
   | some m=>exact few m (Xy q)
  omega
theorem mX.of{L:ku}{ms:cW}(el:dJ L ms)(wf:Wf ms)(few:∀m∈L,m.2.length<=50):mX L ms:=⟨el,wf,few,λc hc=>by
 have h1:=PQ few (bH ms c);have h2:=(dR wf c hc).1;have h3:=wf.few;show(aU L (bH ms c)).length<=400;omega⟩
theorem jy{ms:cW}{zs:List Nat}(g:Good ms zs){c z:Nat}(h:zs[c]?=some z):uj (loose ms) ms c=z:=by
 obtain⟨z',h1,h2⟩:=g.mW c (by rw[g.len];exact(bX h).1);rw[h]at h1;cases h1;unfold uj;rw[i9,List.length_map];exact h2
theorem mX.loose{ms:cW}{zs:List Nat}(g:Good ms zs):mX (loose ms) ms:=.of (er ms) g.wf λm hm=>by
 obtain⟨k,h,rfl⟩:=YH.mp hm;obtain⟨i,hi⟩:=Yu h;have:=g.TX i k hi;show(k.2.map Kd.ki).length<=50;rw[Xk];omega
def BI(L:ku)(ms:cW):KI->Bool
 | .any=>true
 | .num=>true
 | .whole x=>decide (0<=x/\x < (L.length:Int))
 | .raw x m=>decide (0<=x/\x < (L.length:Int))&&decide (0<=m/\m < ((2 ^ uj L ms x.toNat:Nat):Int))
def Af(zs:List Nat):KI->Bool
 | .any=>true
 | .num=>true
 | .whole x=>decide (0<=x/\x < (zs.length:Int))
 | .raw x m=>decide (0<=x/\x < (zs.length:Int))&&decide (0<=m/\m < ((2 ^ ((zs[x.toNat]?).getD 0):Nat):Int))
theorem pO{ms:cW}{zs:List Nat}(g:Good ms zs)(k:KI):BI (loose ms) ms k=Af zs k:=by
 have l:(loose ms).length=zs.length:=by rw[(er ms).len,g.len]
 cases k with
 | any=>rfl
 | num=>rfl
 | whole x=>show decide _=decide _;rw[l]
 | raw x m =>
  show(decide _&&decide _)=(decide _&&decide _);rw[l];by_cases h:0<=x/\x < (zs.length:Int)
  ·have hz:=dC (l:=zs) (i:=x.toNat) (by omega);rw[jy g hz,hz];rfl
  ·rw[Xp h,XH,XH]
theorem Ag{zs:List Nat}{k:Kd}(h:uh zs k):Af zs k.ki=true:=by
 cases k with
 | any=>rfl
 | num=>rfl
 | whole c=>exact Xm (by have h:c < zs.length:=h;omega)
 | raw c m =>
  obtain⟨z,h1,h2⟩:∃z,zs[c]?=some z/\m < 2 ^ z:=h;have hc:=(bX h1).1;show(decide _&&decide _)=true;rw[X1,h1,Xm (by omega),Xm (by show(0:Int)<=(m:Int)/\(m:Int) < ((2 ^ z:Nat):Int);omega)];rfl
theorem Ic{K:aJ}{P:Addr->Prop}{H H':Hp}(hP:∀c,P c->∃o,H c=some o/\kE o)(s:bD H H'){t:Addr}{xs:List V}(h:e8 K H' t xs):e8 K (cutH P H') t xs:=by
 have n:∀o,H' t=some o->¬ kE o->¬ P t:=λo e m z=>by
  obtain⟨o',e',m'⟩:=hP t z;have:=s t _ e';rw[e]at this;cases this;exact m m'
 rcases h with(h | ⟨o,h⟩) | h
 ·exact .inl (.inl (cM.mpr ⟨n _ h (λm=>by rcases m with⟨ys,m⟩ | ⟨C,dx,fs,m⟩ | ⟨φ,m⟩<;>cases m),h⟩))
 ·exact .inl (.inr ⟨o,cM.mpr ⟨n _ h (λm=>by rcases m with⟨ys,m⟩ | ⟨C,dx,fs,m⟩ | ⟨φ,m⟩<;>cases m),h⟩⟩)
 ·exact .inr h
theorem BJ{K:aJ}{H:Hp}:∀l:List Str,kj K H (l.map V.str) (l.map PyData.str)
 | []=>.nil
 | x::r=>.cons (.str x) (BJ r)
def TY(d:PyData):Prop:=(∃n:Int,d=.int n)∨∃b:Bool,d=.bool b
def cU(w:Str):PyData->Bool
 | .int n=>if w="word" then gX n else match en w with | some m=>decide (0<=n)&&decide (n<=m) | none=>false
 | _=>false
def df:PyData->Bool
 | .tuple (.str s::xs)=>decide (s∈bt)&&(decide (xs.length=(aP s).length)&&((aP s).zip xs).all λp=>cU p.1 p.2)
 | _=>false
theorem fQ{α:Type}{f:α->PyData}{n:Nat}:∀(l:List α) (_:∀x∈l,PyData.canLay0 (f x)=true/\PyData.depth (f x)<=n),PyData.canLayAll0 (l.map f)=true/\PyData.depthAll (l.map f)<=n
 | [],_=>⟨rfl,X3 _⟩
 | x::r,hf=>by
  obtain⟨h1,h2⟩:=fQ r (λy hy=>hf y (X2 _ hy));have hx:=hf x XZ;refine⟨?_,?_⟩
  ·show(PyData.canLay0 (f x)&&PyData.canLayAll0 (r.map f))=true;rw[hx.1,h1];rfl
  ·exact Nat.max_le.mpr ⟨hx.2,h2⟩
inductive e7:PyData->Prop where
 | str (x:Str) (h:PyData.canLay0 (.str x)=true):e7 (.str x)
 | non:e7 .none
 | int (n:Int):e7 (.int n)
 | lst (xs:List PyData) (h:PyData.canLayAll0 xs=true) (h2:PyData.depthAll xs=0):e7 (.list xs)
 | nil:e7 (.tuple [])
 | num (n:Int):e7 (.tuple [.int n])
 | row (s:Str) {xs:List PyData} (h:∀x∈xs,TY x) (l:xs.length<=10) (c:PyData.canLay0 (.str s)=true):e7 (.tuple (.str s::xs))
theorem fN(x:Str)(l:List Str):inD (.str x) (l.map PyData.str)=decide (x∈l):=by
 unfold inD;rw[List.any_map];by_cases h:x∈l
 ·rw[Xm h,List.any_eq_true];exact⟨x,h,Xm rfl⟩
 ·rw[Xp h,List.any_eq_false];intro y hy e;have e:decide (y=x)=true:=e;exact h (XI e ▸ hy)
theorem sH(l:List Str):(l.map PyData.str).all mr=true:=by
 rw[List.all_map,X8];exact λ_ _=>rfl
theorem sI:∀(ws:List Str) (xs:List PyData),CD (ws.map PyData.str) xs=(ws.zip xs).map λp=>.tuple [.str p.1,p.2]
 | [],_=>rfl
 | _::_,[]=>rfl
 | w::ws,x::xs=>by
  rw[Yj,ZI,Yj,← sI ws xs];rfl
theorem Ah(a:PyData)(l:List PyData):cutD (a::l) (some 1) none=l:=by
 unfold cutD;rw[HT.nV,show(some (1:Int))=some ((1:Nat):Int)from rfl,HT.vJ,List.take_of_length_le (by simp),List.length_cons,Nat.min_eq_left (by omega)];rfl
structure PX where
 tk:List KI
 gv:KI
 bx:Int
 ht:Int
 rows:List PyData
 ss:List (Int×Int×Int)
def mY(s:Int×Int×Int):PyData:=.tuple [.int s.1,.int s.2.1,.int s.2.2]
def fU(p:PX):PyData:=.tuple [.list (p.tk.map cG),cG p.gv,.int p.bx,.int p.ht,.list p.rows,.list (p.ss.map mY)]
structure N0(p:PX):Prop where
 tk:p.tk.length<=40
 rows:p.rows.length<=200
 sh:∀d∈p.rows,e7 d
 ss:p.ss.length<=40
def rowOf:PyData->Option (Str×List Int)
 | .tuple (.str s::xs)=>some (s,xs.map λd=>match d with | .int n=>n | _=>0)
 | _=>none
def aT(zs:List Nat)(np:Nat)(bx:Int)(nr:Nat)(c:Int)(w:Str)(n:Int):Bool :=
 if w="box" then decide (n < bx)else if w="make" then decide (n < (zs.length:Int))else if w="field" then decide (n < (((zs[c.toNat]?).getD 0:Nat):Int))else if w="part" then decide (n < (np:Int))else if w="place" then decide (n < (nr:Int))else true
def cE(zs:List Nat)(np:Nat)(bx:Int)(nr:Nat)(d:PyData):Bool:=df d&&match rowOf d with
 | some (s,ns)=>((aP s).zip ns).all λq=>aT zs np bx nr (ns.headD 0) q.1 q.2
 | none=>false
def yp:List Str:=["jump","toss","give"]
def pP(d:PyData):Bool:=match rowOf d with
 | some (s,_)=>decide (s∈yp)
 | none=>false
def cb(zs:List Nat)(np:Nat)(p:PX):Option Nat:=match p.rows.findIdx? λd=>!cE zs np p.bx p.rows.length d with
 | some i=>some i
 | none=>if (p.rows.getLast?).any pP then none else some (p.rows.length - 1)
def dU(zs:List Nat)(p:PX):Bool:=(p.tk++[p.gv]).all (Af zs)&&(decide (0<=p.bx)&&decide (p.bx<=8))&&(decide (1<=p.ht)&&decide (p.ht<=8))&&(decide ((p.tk.length:Int)<=p.bx)&&(decide (1<=p.rows.length)&&decide (p.rows.length<=100)))
def qM(n:Nat)(s:Int×Int×Int):Bool:=(decide (0<=s.1)&&decide (s.1 < s.2.1)&&decide (s.2.1<=(n:Int)))&&(decide (0<=s.2.2)&&decide (s.2.2 < (n:Int)))
def ey(p:PX):Bool:=decide (p.ss.length<=8)&&p.ss.all (qM p.rows.length)
def pQ(zs:List Nat)(np:Nat)(p:PX):Option (Option Nat):=if dU zs p then(match cb zs np p with
 | some a=>some (some a)
 | none=>if ey p then none else some none)else some none
theorem yq{d:PyData}(sh:e7 d)(h:df d=true):∃(s:Str) (ns:List Int),d=.tuple (.str s::ns.map PyData.int)/\s∈bt/\ns.length=(aP s).length/\ns.length<=10/\((aP s).zip (ns.map PyData.int)).all (λp=>cU p.1 p.2)=true:=by
 cases sh with
 | str x=>cases h
 | non=>cases h
 | int n=>cases h
 | lst xs=>cases h
 | nil=>cases h
 | num n=>cases h
 | @row s xs hx l =>
  have h:(decide (s∈bt)&&(decide (xs.length=(aP s).length)&&((aP s).zip xs).all λp=>cU p.1 p.2))=true:=h;rw[XN,XN,Yd,Yd]at h;obtain⟨h1,h2,h3⟩:=h
  have e:∃ns:List Int,xs=ns.map PyData.int:=by
   have:∀(ws:List Str) (xs:List PyData),xs.length=ws.length->(∀x∈xs,TY x)->(ws.zip xs).all (λp=>cU p.1 p.2)=true->∃ns:List Int,xs=ns.map PyData.int:=by
    intro ws
    induction ws with
    | nil=>intro xs hl _ _;exact⟨[],YN.mp hl⟩
    | cons w ws ih =>
     intro xs hl hx ha
     cases xs with
     | nil=>cases hl
     | cons x xs =>
      rw[ZI,ZL,XN]at ha;obtain⟨ns,rfl⟩:=ih xs (YZ hl) (λy hy=>hx y (X2 _ hy)) ha.2;rcases hx x XZ with⟨n,rfl⟩ | ⟨b,rfl⟩
      ·exact⟨n::ns,rfl⟩
      ·cases ha.1
   exact this _ xs h2 hx h3
  obtain⟨ns,rfl⟩:=e;rw[Xk]at h2 l;exact⟨s,ns,rfl,h1,h2,l,h3⟩
theorem BL(s:Str)(ns:List Int):rowOf (.tuple (.str s::ns.map PyData.int))=some (s,ns):=by
 show some (s,(ns.map PyData.int).map _)=_;rw[YE]
 congr 2
 exact(Yw λ_ _=>rfl).trans (Zl ns)
theorem sJ{zs:List Nat}{np:Nat}{bx:Int}{nr:Nat}{s:Str}{ns:List Int}(h:df (.tuple (.str s::ns.map PyData.int))=true):cE zs np bx nr (.tuple (.str s::ns.map PyData.int))=((aP s).zip ns).all λq=>aT zs np bx nr (ns.headD 0) q.1 q.2:=by
 unfold cE;rw[h,Bool.true_and,BL]
theorem yr:∀s∈bt,∀i,(aP s)[i]?=some ("field" : Str)->i=1/\(aP s)[0]?=some ("make" : Str):=by
 have all:∀s∈bt,∀i < 3,(aP s)[i]?=some ("field" : Str)->i=1/\(aP s)[0]?=some ("make" : Str):=by decide +kernel
 have few:∀s∈bt,(aP s).length<=2:=by decide +kernel
 intro s hs i h;exact all s hs i (by have:=(bX h).1;have:=few s hs;omega) h
theorem FD{n:Int}(h:cU "make" (.int n)=true):0<=n:=by
 have h:(if ("make" : Str)="word" then gX n else match en "make" with | some m=>decide (0<=n)&&decide (n<=m) | none=>false)=true:=h;rw[XA (by decide +kernel),show en "make"=some 7 from rfl,XN]at h;exact XI h.1
theorem Ai{zs:List Nat}{np:Nat}{bx:Int}{nr:Nat}{c n:Int}(h:aT zs np bx nr c "make" n=true):n < (zs.length:Int):=by
 unfold aT at h;rw[if_neg (by decide +kernel),if_pos rfl]at h;exact of_decide_eq_true h
def optN:Option Nat->PyData
 | none=>.none
 | some a=>.int (a:Int)
theorem Ie{α:Type}(lo:List α)(a:α):kz (lo++[a]) (-1)=some a:=by
 unfold kz GU;rw[if_neg (by omega),if_pos (by simp;omega)];have:((-1:Int) + (((lo++[a]).length:Nat):Int)).toNat=lo.length:=by simp;omega
 show((lo++[a])[((-1:Int) + (((lo++[a]).length:Nat):Int)).toNat]?)=some a;rw[this];simp
theorem wD(s:Str)(ns:List Int):pP (.tuple (.str s::ns.map PyData.int))=decide (s∈yp):=by
 unfold pP;rw[BL]
abbrev kS:=List (Option Int×List KI)
def Dg:Option Int->PyData
 | none=>.none
 | some x=>.int x
def c9(m:Option Int×List KI):PyData:=.tuple [Dg m.1,.list (m.2.map cG)]
def eX(l:kS):PyData:=.list (l.map c9)
def dm(L:ku):kS:=L.map λm=>(m.1.map λ(n:Nat)=>(n:Int),m.2)
theorem FE(L:ku):eX (dm L)=fh L:=by
 unfold eX fh dm;rw[List.map_map]
 congr 1
 refine Yw λm _=>?_
 obtain⟨e,l⟩:=m;cases e<;>rfl
def Dh(c:Nat):Option Int->Bool
 | none=>false
 | some x=>decide (0<=x/\x < (c:Int))
def yt(r:kS):Bool:=(r.zipIdx 1).all λp=>Dh p.2 p.1.1
inductive ua:kS->Bool->Prop where
 | nil:ua [] false
 | many {l:kS} (h:8 < l.length):ua l false
 | first {m:Option Int×List KI} {r:kS} (h8:(m::r).length<=8) (h:m.1≠none∨∃k ks,m.2=k::ks):ua (m::r) false
 | elder {r:kS} (h8:r.length + 1<=8) (no:yt r=false):ua ((none,[])::r) false
 | field {L:ku} {ms:cW} (ok:mX L ms) (h0:∃r,dm L=(none,[])::r) {c:Nat} (hc:c < ms.length) (no:6 < uj L ms c∨∃k∈cX L c,BI L ms k=false):ua (dm L) false
 | right {ms:cW} {zs:List Nat} (g:Good ms zs):ua (dm (loose ms)) true
def wF(L:ku)(ms:cW)(c:Nat):Bool:=decide (uj L ms c<=6)&&(cX L c).all (BI L ms)
theorem Ig(r:kS):ug 1 r.length=(r.zipIdx 1).map λp=>.int (p.2:Int):=by
 refine YW λi=>?_
 unfold ug;rw[List.getElem?_map,List.getElem?_map,List.getElem?_zipIdx];by_cases h:i < r.length
 ·rw[aao h,dC h];show some (PyData.int (1 + (i:Int)))=some (PyData.int ((1 + i:Nat):Int))
  congr 2
 ·rw[List.getElem?_eq_none (by simp;omega),List.getElem?_eq_none (by omega)];rfl
theorem FF{j c:Nat}(h:j < c):Dh c (some (j:Int))=true:=Xm (by omega)
theorem FG{L:ku}{ms:cW}(e:dJ L ms)(w:Wf ms){r:kS}(h:dm L=(none,[])::r):yt r=true:=by
 refine X8.mpr λp hp=>?_
 obtain⟨i,hi⟩:=Yu hp;rw[aak]at hi;obtain⟨m,hm,rfl⟩:=aad.mp hi;have h2:(dm L)[i + 1]?=some m:=by rw[h];exact hm
 unfold dm at h2;rw[List.getElem?_map]at h2;obtain⟨l,hl,rfl⟩:=Option.map_eq_some_iff.mp h2;have hlt:i + 1 < ms.length:=by rw[← e.len];exact(bX hl).1
 obtain⟨j,h3,h4⟩:=w.ahead (i + 1) _ (dC hlt) (aau _);obtain⟨lk,h5⟩:=e.at (dC hlt);rw[hl]at h5;cases h5;show Dh (1 + i) (Option.map _ (ms[i + 1]).1)=true;rw[h3];exact FF (by omega)
theorem PR(k:KI):Sh 1 (cG k):=by
 cases k with
 | any=>exact su (gu wy sv)
 | num=>exact su (gu wy sv)
 | whole x=>exact su (gu wy (gu wx sv))
 | raw c m=>exact su (gu wy (gu wx (gu wx sv)))
theorem PU(m:Option Int×List KI):Sh 3 (c9 m):=su (gu (by cases m.1 with | none=>exact LR | some x=>exact wx) (gu (HQ (LS λk _=>PR k)) sv))
theorem FH{m:Option Int×List KI}(h:m.1≠none∨∃k ks,m.2=k::ks):PyData.eqv (c9 m) (.tuple [.none,.list []])=false:=by
 obtain⟨e,l⟩:=m
 cases e with
 | some x=>rfl
 | none =>
  rcases h with h | ⟨k,ks,h⟩
  ·exact absurd rfl h
  ·have h:l=k::ks:=h;subst h;rfl
theorem iE{ms:cW}{zs:List Nat}(g:Good ms zs):∃r,dm (loose ms)=(none,[])::r:=by
 cases ms with
 | nil=>exact absurd g.wf.ne (by decide)
 | cons m r =>
  obtain⟨e,l⟩:=m;have h1:e=none:=g.wf.first _ rfl;have h2:l=[]:=g.CL _ rfl;subst h1;subst h2;exact⟨_,rfl⟩
theorem wG{ms:cW}{zs:List Nat}(g:Good ms zs):(List.range ms.length).all (wF (loose ms) ms)=true:=by
 refine X8.mpr λc hc=>?_
 have hc:=List.mem_range.mp hc;obtain⟨z,h1,_⟩:=g.mW c hc;unfold wF;rw[jy g h1,decide_eq_true (g.six z (List.mem_of_getElem? h1)),Bool.true_and,sG];refine List.all_eq_true.mpr λk hk=>?_
 obtain⟨k',hk',rfl⟩:=List.mem_map.mp hk;rw[pO g];refine Ag (g.kds c ms[c] (dC hc) k' ?_);unfold ownOf at hk';rw[dC hc]at hk';exact hk'
def pR(ld:kS)(ps:List PX):PyData:=.tuple [eX ld,.list (ps.map fU)]
def mw(zs:List Nat)(np:Nat):Nat->List PX->Option (Option Nat×Option Nat)
 | _,[]=>none
 | i,p::r=>match pQ zs np p with
  | some a=>some (some i,a)
  | none=>mw zs np (i + 1) r
def qA(b:Bool)(zs:List Nat)(ps:List PX):Option (Option Nat×Option Nat) :=
 if b&&(decide (1<=ps.length)&&decide (ps.length<=8))then mw zs ps.length 0 ps else some (none,none)
theorem yu{zs:List Nat}{np:Nat}:∀{ps:List PX} {i j:Nat} {p:PX} {a:Option Nat},ps[j]?=some p->pQ zs np p=some a->(∀k q,k < j->ps[k]?=some q->pQ zs np q=none)->mw zs np i ps=some (some (i + j),a)
 | p::r,i,0,_,a,h,e,_=>by
  cases h;unfold mw;rw[e];rfl
 | p::r,i,j + 1,q,a,h,e,all=>by
  unfold mw;rw[all 0 p (Nat.succ_pos _) rfl];show mw zs np (i + 1) r=_;rw[yu (j:=j) h e λk y hk hy=>all (k + 1) y (by omega) hy,Nat.add_assoc,Nat.add_comm 1 j]
 | [],i,j,p,a,h,_,_=>by cases j<;>cases h
theorem sL{zs:List Nat}{np:Nat}:∀{ps:List PX} {i:Nat},(∀q∈ps,pQ zs np q=none)->mw zs np i ps=none
 | [],_,_=>rfl
 | p::r,i,all=>by
  unfold mw;rw[all p List.mem_cons_self];exact sL λq hq=>all q (List.mem_cons_of_mem _ hq)
theorem yv(zs:List Nat)(np:Nat)(ps:List PX):(∀q∈ps,pQ zs np q=none)∨∃(j:Nat) (p:PX) (a:Option Nat),ps[j]?=some p/\pQ zs np p=some a/\∀k q,k < j->ps[k]?=some q->pQ zs np q=none:=by
 induction ps with
 | nil=>exact .inl λ_ h=>nomatch h
 | cons p r ih =>
  cases e:pQ zs np p with
  | some a=>exact .inr ⟨0,p,a,rfl,e,λk _ h=>by omega⟩
  | none =>
   rcases ih with h | ⟨j,q,a,h1,h2,h3⟩
   ·exact .inl λq hq=>by
     rcases X4.mp hq with rfl | hq
     ·exact e
     ·exact h q hq
   ·refine .inr ⟨j + 1,q,a,h1,h2,λk y hk hy=>?_⟩
    cases k with
    | zero=>cases hy;exact e
    | succ k=>exact h3 k y (by omega) hy
theorem yw{ns:List Int}{i:Int}(h:0 < ns.length):∃v:Int,kz (ns.map PyData.int) (i % (ns.length:Int))=some (.int v):=by
 have h0:0<=i % (ns.length:Int):=YB i (by omega);have h1:i % (ns.length:Int) < (ns.length:Int):=YS i (by omega);obtain⟨j,hj⟩:∃j:Nat,i % (ns.length:Int)=(j:Int):=⟨(i % (ns.length:Int)).toNat,by omega⟩;rw[hj]at h1 ⊢;have hl:j < ns.length:=by omega
 exact⟨ns[j],bP (f:=PyData.int) (dC hl)⟩
theorem pS(l r:List Nat):bc (l++r)=bc l++bc r:=Yb
def Aj(s:Option Nat×Nat):PyData:=.tuple [xE s.1,.int (s.2:Int)]
theorem Good.TZ{sh:List (Option Nat×Nat)}{zs:List Nat}{ms:cW}(hO:ui sh zs)(h8:sh.length<=8)(hlen:ms.length=sh.length)(get:∀(i:Nat) m,ms[i]?=some m->∃s,sh[i]?=some s/\m.1=s.1/\m.2.length=s.2/\∀k∈m.2,uh zs k):Good ms zs:=by
 have hl:=hO.len;refine⟨⟨by rw[hlen];exact hO.ne,by omega,λm hm=>?_,λi m hm hi=>?_⟩,by omega,λm hm=>?_,hO.z0,hO.six,λi m hi hm=>?_,λi m hm=>(get i m hm).choose_spec.2.2.2⟩
 ·obtain⟨s,e1,e2,_⟩:=get 0 m hm;rw[hO.s0]at e1;cases e1;exact e2
 ·obtain⟨s,e1,e2,_⟩:=get i m hm;obtain⟨j,z,f1,f2,_⟩:=hO.go i s hi e1;exact⟨j,by rw[e2];exact f1,f2⟩
 ·obtain⟨s,e1,_,e3,_⟩:=get 0 m hm;rw[hO.s0]at e1;cases e1;exact YN.mp e3
 ·obtain⟨s,e1,e2,e3,_⟩:=get i m hm;obtain⟨j,z,f1,f2,f3,f4⟩:=hO.go i s hi e1;exact⟨j,z,by rw[e2];exact f1,f2,f3,by rw[e3];exact f4⟩
theorem ui.one:ui [(none,0)] [0]:=⟨rfl,by decide,rfl,rfl,λz hz=>by simp at hz;omega,λi s hi hs=>by
 have:i < 1:=(bX hs).1;omega⟩
theorem ui.T5{sh:List (Option Nat×Nat)}{zs:List Nat}(h:ui sh zs){i:Nat}{s:Option Nat×Nat}(hs:sh[i]?=some s):s.2<=6:=by
 rcases ZJ i with z | z
 ·subst z;rw[h.s0]at hs;cases hs;exact X3 _
 ·obtain⟨j,y,_,_,_,h4⟩:=h.go i s z hs;have:=h.six _ (Xy h4);omega
theorem CO:Txt.split ("push load store dup swap drop add sub mul div rem less same jump zero kin make fill begin get put call"++" toss say give") " "=bt:=by decide +kernel
theorem CP:∀x∈bt,x="push"∨x∈(["load","store"]:List Str)∨x∈(["jump","zero"]:List Str)∨x="kin"∨x="call"∨x∈(["fill","get","put"]:List Str)∨x∈(["make","fill","begin","get","put"]:List Str)∨x∈sF:=by decide +kernel
theorem vq{zs:List Nat}{x:Int}(h:x < 0∨(zs.length:Int)<=x):Af zs (.whole x)=false:=Xp (by omega)
theorem rA{zs:List Nat}{x m:Int}(h:(x < 0∨(zs.length:Int)<=x)∨m < 0∨∃(c z:Nat),x=(c:Int)/\zs[c]?=some z/\((2 ^ z:Nat):Int)<=m):Af zs (.raw x m)=false:=by
 show(decide _&&decide _)=false;rcases h with h | h | ⟨c,z,rfl,hz,h⟩
 ·rw[Xp (by omega),XH]
 ·rw[Yi];exact .inr (Xp (by omega))
 ·rw[X1,hz,Yi];exact .inr (Xp (by show ¬ (0<=m/\m < ((2 ^ z:Nat):Int));omega))
theorem wH(L:ku):(dm L).length=L.length:=Xk _
theorem yy{L:ku}{c:Nat}{e:Option Nat}{l:List KI}(hc:c < L.length):(dm L).take c++(e.map λ(n:Nat)=>(n:Int),l)::(dm L).drop (c + 1)=dm (L.set c (e,l)):=by
 unfold dm;rw[List.map_set,List.set_eq_take_append_cons_drop,if_pos (by rw[List.length_map];exact hc)]
theorem dJ.put{L:ku}{ms:cW}(h:dJ L ms){c:Nat}{m}(hm:ms[c]?=some m)(l:List KI):dJ (L.set c (m.1,l)) ms:=by
 unfold dJ;rw[List.map_set,h];refine List.ext_getElem? λi=>?_
 by_cases e:c=i
 ·subst e;rw[XF (by rw[Xk];exact(bX hm).1),XJ,hm];rfl
 ·rw[XM e]
theorem sM{L:ku}{c:Nat}(hc:c < L.length)(m:Option Nat×List KI):cX (L.set c m) c=m.2:=by
 unfold cX;rw[List.getElem?_set_self hc]
theorem vt{L:ku}{c d:Nat}(m:Option Nat×List KI)(ne:c≠d):cX (L.set c m) d=cX L d:=by
 unfold cX;rw[List.getElem?_set_ne ne]
theorem yz{L:ku}{c:Nat}(m:Option Nat×List KI):∀l:List Nat,(∀d∈l,d < c)->aU (L.set c m) l=aU L l
 | [],_=>rfl
 | e::r,h=>by
  show aU _ r++cX _ e=aU L r++cX L e;rw[yz m r λd hd=>h d (X2 _ hd),vt m (Yr (h e XZ))]
theorem Ih{ms:cW}(w:Wf ms){c:Nat}(hc:c < ms.length):∀d∈rest ms (oh ms c),d < c:=by
 obtain⟨m,_,hel,hlt⟩:=w.el hc;rw[hel]
 cases e:m.1 with
 | none=>exact λ_ h=>nomatch h
 | some j =>
  intro d hd;have hj:=hlt j e;have:=(dR w j (Nat.lt_trans hj hc)).2 d hd;omega
theorem BM{L:ku}{ms:cW}(w:Wf ms)(hL:L.length=ms.length){c:Nat}(hc:c < ms.length)(m:Option Nat×List KI):uj (L.set c m) ms c + (cX L c).length=uj L ms c + m.2.length:=by
 unfold uj;rw[fP w hc];show(aU _ _++cX _ c).length + _=(aU L _++cX L c).length + _;rw[List.length_append,List.length_append,yz m _ (Ih w hc),sM (by omega)];omega
theorem FI{L:ku}{ms:cW}{c:Nat}(hc:c < L.length){m:Option Nat×List KI}(h:m.2.length=(cX L c).length)(d:Nat):uj (L.set c m) ms d=uj L ms d:=by
 unfold uj
 have all:∀l:List Nat,(aU (L.set c m) l).length=(aU L l).length:=by
  intro l
  induction l with
  | nil=>rfl
  | cons e r ih =>
   show(aU _ r++cX _ e).length=(aU L r++cX L e).length;rw[Xw,Xw,ih];by_cases q:c=e
   ·subst q;rw[sM hc,h]
   ·rw[vt m q]
 exact all _
theorem FJ{L L':ku}{ms:cW}(hl:L'.length=L.length)(hs:∀d,uj L' ms d=uj L ms d)(k:KI):BI L' ms k=BI L ms k:=by
 cases k with
 | any=>rfl
 | num=>rfl
 | whole x=>show decide _=decide _;rw[hl]
 | raw x m=>show(decide _&&decide _)=(decide _&&decide _);rw[hl,hs]
theorem CQ{L:ku}{ms:cW}{x:Int}(h:x < 0∨(L.length:Int)<=x):BI L ms (.whole x)=false:=Xp (by omega)
theorem FK{r:kS}{c:Nat}{m}(hm:r[c]?=some m)(h:Dh (c + 1) m.1=false):yt r=false:=by
 unfold yt;rw[List.all_eq_false];refine⟨(m,c + 1),?_,by rw[h];decide⟩;refine List.mem_of_getElem? (i:=c) ?_;rw[List.getElem?_zipIdx,hm,Nat.add_comm];rfl
theorem yA{ms:cW}{zs:List Nat}(g:Good ms zs){c:Nat}(h0:0 < c)(hc:c < ms.length){e:Option Int}{l:List KI}(he:Dh c e=false):ua ((dm (loose ms)).take c++(e,l)::(dm (loose ms)).drop (c + 1)) false:=by
 obtain⟨r,hr⟩:=iE g;have hl:(dm (loose ms)).length=ms.length:=by rw[wH,(er ms).len]
 have h8:=g.wf.few;rw[hr]at hl ⊢;obtain⟨c,rfl⟩:∃c',c=c' + 1:=⟨c - 1,by omega⟩;rw[XR]at hl;show ua ((none,[])::(r.take c++(e,l)::r.drop (c + 1))) false;refine .elder (by rw[Xw,XR,XC,Yx];omega) (FK (c:=c) (m:=(e,l)) ?_ he);rw[XO (by rw[XC];omega),XC,show c - min c r.length=0 by omega];rfl
theorem vv{ms:cW}{zs:List Nat}(g:Good ms zs){c:Nat}(h0:0 < c){m}(hm:ms[c]?=some m){l:List KI}(hl:l.length<=50)(no:6 < uj ((loose ms).set c (m.1,l)) ms c∨∃k∈l,BI ((loose ms).set c (m.1,l)) ms k=false):ua ((dm (loose ms)).take c++(m.1.map λ(n:Nat)=>(n:Int),l)::(dm (loose ms)).drop (c + 1)) false:=by
 have hc:=(bX hm).1;have hL:=(er ms).len;rw[yy (by omega)];refine .field (.of ((er ms).put hm l) g.wf λx hx=>?_) ?_ hc (by rw[sM (by omega)];exact no)
 ·rcases Y5 hx with h | h
  ·exact(mX.loose g).few x h
  ·rw[h];exact hl
 ·obtain⟨r,hr⟩:=iE g;obtain⟨c,rfl⟩:∃c',c=c' + 1:=⟨c - 1,by omega⟩;rw[← yy (by omega),hr];exact⟨_,rfl⟩
theorem sO{α:Type}(n:Nat)(x:α):(List.replicate n [x]).flatten=List.replicate n x:=by
 induction n with
 | zero=>rfl
 | succ n ih=>rw[X9,Ye,ih];rfl
theorem Ak{c:Nat}{x:Int}(h:¬ (0<=x/\x < (c:Int))):Dh c (some x)=false:=Xp h
theorem lJ{α:Type}{f:α->PyData}(l:List α)(c:Nat)(x:α):(cutD (l.map f) none (some (c:Int))).length<=l.length/\(cutD (l.map f) (some ((c:Int) + 1)) none).length<=l.length/\cutD (l.map f) none (some (c:Int))++[f x]++cutD (l.map f) (some ((c:Int) + 1)) none=(l.take c++x::l.drop (c + 1)).map f:=by
 rw[show(c:Int) + 1=((c + 1:Nat):Int)from rfl,oi,vp];exact⟨by rw[List.length_map,List.length_take];omega,by rw[List.length_map,List.length_drop];omega,by simp⟩
theorem oj{α:Type}(l:List α)(c:Nat)(x:α)(h:c < l.length):(l.take c++x::l.drop (c + 1)).length=l.length:=by
 rw[Xw,XR,XC,Yx];omega
theorem wI{α:Type}(l:List α)(c:Nat)(x:α):x∈l.take c++x::l.drop (c + 1):=XU _ XZ
theorem Ii{zs:List Nat}{np:Nat}{bx:Int}{nr:Nat}{s:Str}{ns:List Int}(i:Nat){w:Str}{v:Int}(hw:(aP s)[i]?=some w)(hv:ns[i]?=some v)(h:cU w (.int v)=false∨aT zs np bx nr (ns.headD 0) w v=false):cE zs np bx nr (.tuple (.str s::ns.map PyData.int))=false:=by
 by_cases r:df (.tuple (.str s::ns.map PyData.int))=true
 ·rw[sJ r,Zh];refine⟨(w,v),Xy (i:=i) (by rw[Yh];exact⟨hw,hv⟩),?_⟩;rcases h with h | h
  ·have r:(decide (s∈bt)&&(decide ((ns.map PyData.int).length=(aP s).length)&&((aP s).zip (ns.map PyData.int)).all λp=>cU p.1 p.2))=true:=r;rw[XN,XN]at r;have:=X8.mp r.2.2 (w,.int v) (Xy (i:=i) (by rw[Yh];exact⟨hw,by rw[XJ,hv];rfl⟩));rw[h]at this;cases this
  ·rw[h];decide
 ·unfold cE;rw[Bool.not_eq_true]at r;rw[r,Bool.false_and]
theorem FL{zs:List Nat}{np:Nat}{bx:Int}{nr:Nat}{d:PyData}(h:df d=false):cE zs np bx nr d=false:=by
 unfold cE;rw[h,Bool.false_and]
theorem CS{w:Str}{v:Int}(h:(en w).isSome=true)(nw:(w == "word")=false)(hv:v < 0):cU w (.int v)=false:=by
 have nw:¬ w="word":=λe=>by rw[e]at nw;exact absurd nw (by decide +kernel)
 show(if w=("word" : Str)then gX v else match en w with | some m=>decide (0<=v)&&decide (v<=m) | none=>false)=false;rw[XA nw];obtain⟨m,hm⟩:=ZU.mp h;rw[hm];show(decide (0<=v)&&decide (v<=m))=false;rw[Xp (by omega),XH]
theorem CT{zs:List Nat}{np:Nat}{bx:Int}{nr:Nat}{c v:Int}(h:¬ v < bx):aT zs np bx nr c "box" v=false:=by
 unfold aT;rw[if_pos rfl];exact decide_eq_false h
theorem yB{zs:List Nat}{np:Nat}{bx:Int}{nr:Nat}{c v:Int}(h:¬ v < (nr:Int)):aT zs np bx nr c "place" v=false:=by
 unfold aT;rw[if_neg (by decide +kernel),if_neg (by decide +kernel),if_neg (by decide +kernel),if_neg (by decide +kernel),if_pos rfl];exact decide_eq_false h
theorem FN{zs:List Nat}{np:Nat}{bx:Int}{nr:Nat}{c v:Int}(h:¬ v < (zs.length:Int)):aT zs np bx nr c "make" v=false:=by
 unfold aT;rw[if_neg (by decide +kernel),if_pos rfl];exact decide_eq_false h
theorem yC{zs:List Nat}{np:Nat}{bx:Int}{nr:Nat}{c:Nat}{z:Nat}{v:Int}(hz:zs[c]?=some z)(h:¬ v < (z:Int)):aT zs np bx nr (c:Int) "field" v=false:=by
 unfold aT;rw[if_neg (by decide +kernel),if_neg (by decide +kernel),if_pos rfl,Int.toNat_natCast,hz];exact decide_eq_false h
theorem Al{zs:List Nat}{np:Nat}{bx:Int}{nr:Nat}{c v:Int}(h:¬ v < (np:Int)):aT zs np bx nr c "part" v=false:=by
 unfold aT;rw[if_neg (by decide +kernel),if_neg (by decide +kernel),if_neg (by decide +kernel),if_pos rfl];exact decide_eq_false h
theorem pT(b:Bool)(X:Int):∃v:Int,kz [PyData.int X,.int (-1)] (if b=true then 1 else 0)=some (.int v)/\(v=X∨v=-1):=by
 cases b
 ·exact⟨X,rfl,.inl rfl⟩
 ·exact⟨-1,rfl,.inr rfl⟩
theorem gY(s:Str)(ns:List Int)(h:ns.length<=10)(c:PyData.canLay0 (.str s)=true):e7 (.tuple (.str s::ns.map PyData.int)):=.row s (λx hx=>by
 obtain⟨n,_,rfl⟩:=YH.mp hx;exact .inl ⟨n,rfl⟩) (by rw[Xk];exact h) c
theorem L8{s:Str}(h:s∈bt):PyData.canLay0 (.str s)=true:=by
 have all:∀s∈bt,PyData.canLay0 (.str s)=true:=by decide +kernel
 exact all s h
theorem CU{s w:Str}{i:Nat}(h:(aP s)[i]?=some w):PyData.canLay0 (.str s)=true:=by
 unfold aP iS at h
 cases e:cg.find? λkv=>decide (kv.1=s)with
 | none=>rw[e]at h;cases h
 | some p =>
  have all:∀p∈cg,PyData.canLay0 (.str p.1)=true:=by decide +kernel
  have:=all p (List.mem_of_find?_eq_some e);have e2:=List.find?_some e;simp only[decide_eq_true_eq]at e2;rw[← e2];exact this
theorem Ij{d:PyData}(h:e7 d):PyData.canLay0 d=true/\PyData.depth d<=1:=by
 cases h with
 | str x h=>exact⟨h,X3 _⟩
 | non=>exact⟨rfl,X3 _⟩
 | int n=>exact⟨rfl,X3 _⟩
 | lst xs h h2=>exact⟨h,by show PyData.depthAll xs + 1<=1;omega⟩
 | nil=>exact⟨rfl,Xu _⟩
 | num n=>exact⟨rfl,Xu _⟩
 | row s h l c =>
  rename_i xs
  have a:=fQ (f:=id) (n:=0) xs λx hx=>by
   rcases h x hx with⟨n,rfl⟩ | ⟨b,rfl⟩
   ·exact⟨rfl,Xu _⟩
   ·exact⟨rfl,Xu _⟩
  rw[Zl]at a;have e1:PyData.depth (.str s)=0:=rfl;have a2:=a.2;refine⟨?_,?_⟩
  ·show(PyData.canLay0 (.str s)&&PyData.canLayAll0 xs)=true;rw[c,a.1];rfl
  ·show max (PyData.depth (.str s)) (PyData.depthAll xs) + 1<=1;omega
theorem om{w:Str}{v X:Int}(h:(en w).isSome=true)(nw:(w == "word")=false)(hv:v=X∨v=-1){zs:List Nat}{np:Nat}{bx:Int}{nr:Nat}{c:Int}(t:aT zs np bx nr c w X=false):cU w (.int v)=false∨aT zs np bx nr c w v=false:=by
 rcases hv with rfl | rfl
 ·exact .inr t
 ·exact .inl (CS h nw (by decide))
def pU:List PyData:=[.tuple [.str "push",.int 2147483648],.tuple [.str "push",.int (-2147483649)],.tuple [.str "push",.bool true],.tuple [.str "push"],.tuple [.str "push",.int 1,.int 2],.tuple [.str "halt"],.str "dup",.none,.int 7,.list [.str "dup"],.tuple [],.tuple [.str "dup",.int 0],.tuple [.int 0],.tuple [.str "kin",.int 0]]
theorem yD:∀d∈pU,df d=false:=by
 have h:(pU.all λd=>!df d)=true:=by decide +kernel
 intro d hd;have:=X8.mp h d hd
 revert this
 cases df d
 ·exact λ_=>rfl
 ·exact λh=>nomatch h
theorem CV:∀d∈pU,e7 d:=by
 intro d hd;simp only[pU,List.mem_cons,List.not_mem_nil,or_false]at hd;rcases hd with rfl | rfl | rfl | rfl | rfl | rfl | rfl | rfl | rfl | rfl | rfl | rfl | rfl | rfl
 ·exact gY _ [2147483648] (by decide) (by decide +kernel)
 ·exact gY _ [-2147483649] (by decide) (by decide +kernel)
 ·exact .row _ (λx hx=>by rw[xF hx];exact .inr ⟨_,rfl⟩) (by decide) (by decide +kernel)
 ·exact gY _ [] (by decide) (by decide +kernel)
 ·exact gY _ [1,2] (by decide) (by decide +kernel)
 ·exact gY _ [] (by decide) (by decide +kernel)
 ·exact .str _ (by decide +kernel)
 ·exact .non
 ·exact .int _
 ·exact .lst _ (by decide +kernel) rfl
 ·exact .nil
 ·exact gY _ [0] (by decide) (by decide +kernel)
 ·exact .num _
 ·exact gY _ [0] (by decide) (by decide +kernel)
section
variable {zs:List Nat} {np:Nat} {bx:Int} {nr:Nat} {c v:Int}
theorem BN(h:v=bx∨v=-1):cU "box" (.int v)=false∨aT zs np bx nr c "box" v=false:=om (by decide +kernel) (by decide +kernel) h (CT (Y3 _))
theorem pV(h:v=(nr:Int)∨v=-1):cU "place" (.int v)=false∨aT zs np bx nr c "place" v=false:=om (by decide +kernel) (by decide +kernel) h (yB (Y3 _))
theorem jz(h:v=(zs.length:Int)∨v=-1):cU "make" (.int v)=false∨aT zs np bx nr c "make" v=false:=om (by decide +kernel) (by decide +kernel) h (FN (Y3 _))
theorem FO(h:v=(np:Int)∨v=-1):cU "part" (.int v)=false∨aT zs np bx nr c "part" v=false:=om (by decide +kernel) (by decide +kernel) h (Al (Y3 _))
theorem pW{c z:Nat}(hz:zs[c]?=some z)(h:v=(z:Int)∨v=-1):cU "field" (.int v)=false∨aT zs np bx nr (c:Int) "field" v=false:=om (by decide +kernel) (by decide +kernel) h (yC hz (Y3 _))
end
theorem oo{n:Nat}{a b c:Int}(h:a < 0∨b<=a∨(n:Int) < b∨c < 0∨(n:Int)<=c):qM n (a,b,c)=false:=by
 unfold qM;by_cases x:0<=a/\a < b/\b<=(n:Int)
 ·rw[Yi];refine .inr ?_;rw[Yi];by_cases y:0<=c
  ·exact .inr (Xp (by show ¬ c < (n:Int);omega))
  ·exact .inl (Xp y)
 ·rw[Yi];refine .inl ?_;rw[Yi,Yi,Zg,Zg,Zg];show(¬ 0<=a∨¬ a < b)∨¬ b<=(n:Int);omega
section
variable {zs:List Nat} {p:PX}
theorem vw{k:KI}(h:k∈p.tk++[p.gv])(no:Af zs k=false):dU zs p=false:=by
 unfold dU;have:(p.tk++[p.gv]).all (Af zs)=false:=List.all_eq_false.mpr ⟨k,h,by rw[no];decide⟩;rw[this,Bool.false_and,Bool.false_and,Bool.false_and]
theorem eA(h:p.bx < 0∨8 < p.bx∨p.ht < 1∨8 < p.ht∨p.bx < (p.tk.length:Int)∨p.rows.length < 1∨100 < p.rows.length):dU zs p=false:=by
 rw[← Bool.not_eq_true];intro e;unfold dU at e;simp only[Bool.and_eq_true,decide_eq_true_iff]at e;omega
end
def cQ(zs:List Nat)(np:Nat)(p:PX):Option (Nat×Nat):=if dU zs p then(match cb zs np p with
 | some a=>some (2,a)
 | none=>if ey p then none else some (4,0))else some (0,0)
def sP(k:Nat×Nat):Option Nat:=if k.1=2 then some k.2 else none
theorem FQ(zs:List Nat)(np:Nat)(p:PX):pQ zs np p=(cQ zs np p).map sP:=by
 unfold pQ cQ;split
 ·cases cb zs np p with
  | some a=>rfl
  | none=>cases ey p<;>rfl
 ·rfl
def fZ:Option (Nat×Nat)->Nat×Nat->Nat×Nat
 | none,y=>y
 | some x,y=>if y.1 < x.1∨(y.1=x.1/\y.2 < x.2)then y else x
theorem FR(zs:List Nat)(np:Nat)(p:PX):cQ zs np p=none∨cQ zs np p=some (0,0)∨(∃a,cQ zs np p=some (2,a))∨cQ zs np p=some (4,0):=by
 unfold cQ;split
 ·cases cb zs np p with
  | some a=>exact .inr (.inr (.inl ⟨a,rfl⟩))
  | none =>
   cases ey p
   ·exact .inr (.inr (.inr rfl))
   ·exact .inl rfl
 ·exact .inr (.inl rfl)
theorem yE{zs:List Nat}{np:Nat}{p p':PX}(h:dU zs p'=false):cQ zs np p'=some (fZ (cQ zs np p) (0,0)):=by
 have e:cQ zs np p'=some (0,0):=by unfold cQ;rw[h];rfl
 rw[e];rcases FR zs np p with k | k | ⟨a,k⟩ | k<;>rw[k]<;>rfl
theorem L9{zs:List Nat}{np:Nat}{p:PX}{ss:List (Int×Int×Int)}(h:ey {p with ss:=ss}=false):cQ zs np {p with ss:=ss}=some (fZ (cQ zs np p) (4,0)):=by
 unfold cQ;rw[h];show(if dU zs p then(match cb zs np p with | some a=>some (2,a) | none=>some (4,0))else some (0,0))=_
 cases dU zs p with
 | false=>rfl
 | true =>
  cases cb zs np p with
  | some a=>rfl
  | none=>cases ey p<;>rfl
theorem sQ{zs:List Nat}{np:Nat}{p:PX}{a:Nat}(h:(p.rows.take a).findIdx? (λd=>!cE zs np p.bx p.rows.length d)=none)(ha:a < p.rows.length):cb zs np p=none∨∃c,cb zs np p=some c/\a<=c:=by
 unfold cb
 rw[show p.rows.findIdx? (λd=>!cE zs np p.bx p.rows.length d)=((p.rows.drop a).findIdx? (λd=>!cE zs np p.bx p.rows.length d)).map λi=>i + (p.rows.take a).length from by
  conv=>lhs;rw[← YC a p.rows,List.findIdx?_append]
  rw[YC,h];rfl]
 cases (p.rows.drop a).findIdx? (λd=>!cE zs np p.bx p.rows.length d)with
 | some i=>exact .inr ⟨_,rfl,by show a<=i + (p.rows.take a).length;rw[XC];omega⟩
 | none =>
  show(if (p.rows.getLast?).any pP then none else some (p.rows.length - 1))=none∨_;split
  ·exact .inl rfl
  ·exact .inr ⟨p.rows.length - 1,rfl,by omega⟩
theorem qB{zs:List Nat}{np:Nat}{p:PX}{a b:Nat}(h:(p.rows.take a).findIdx? (λd=>!cE zs np p.bx p.rows.length d)=some b):cb zs np p=some b:=by
 unfold cb
 rw[show p.rows.findIdx? (λd=>!cE zs np p.bx p.rows.length d)=some b from by
  conv=>lhs;rw[← YC a p.rows,List.findIdx?_append]
  rw[YC,h];rfl]
theorem BO{zs:List Nat}{np:Nat}{p:PX}{rows:List PyData}{a:Nat}(hl:rows.length=p.rows.length)(ha:a < p.rows.length)(hb:rows.take a=p.rows.take a)(bad:(∃d,rows[a]?=some d/\cE zs np p.bx p.rows.length d=false)∨(a + 1=p.rows.length/\(rows.getLast?).any pP=false)):cQ zs np {p with rows:=rows}=some (fZ (cQ zs np p) (2,a)):=by
 have hh:dU zs {p with rows:=rows}=dU zs p:=by
  show((p.tk++[p.gv]).all (Af zs)&&(decide (0<=p.bx)&&decide (p.bx<=8))&&(decide (1<=p.ht)&&decide (p.ht<=8))&&(decide ((p.tk.length:Int)<=p.bx)&&(decide (1<=rows.length)&&decide (rows.length<=100))))=_;rw[hl];rfl
 cases h:dU zs p with
 | false =>
  unfold cQ;rw[hh,h];rfl
 | true =>
  have k0:cQ zs np p=match cb zs np p with | some a=>some (2,a) | none=>if ey p then none else some (4,0):=by unfold cQ;rw[h];rfl
  have k1:∀c,cb zs np {p with rows:=rows}=some c->cQ zs np {p with rows:=rows}=some (2,c):=λc hc=>by unfold cQ;rw[hh,h,hc];rfl
  cases f:(p.rows.take a).findIdx? (λd=>!cE zs np p.bx p.rows.length d)with
  | some b =>
   have b1:=qB f
   have hba:b < a:=by
    obtain⟨z,_⟩:=Yo.mp f;rw[XC]at z;omega
   rw[k1 b (qB (p:={p with rows:=rows}) (a:=a) (by show(rows.take a).findIdx? (λd=>!cE zs np p.bx rows.length d)=_;rw[hb,hl];exact f)),k0,b1];show _=some (if 2 < 2∨(2=2/\a < b)then(2,a)else(2,b));rw[XA (by omega)]
  | none =>
   have w1:cb zs np {p with rows:=rows}=some a:=by
    have f':(({p with rows:=rows}:PX).rows.take a).findIdx? (λd=>!cE zs np ({p with rows:=rows}:PX).bx ({p with rows:=rows}:PX).rows.length d)=none:=by
     show(rows.take a).findIdx? (λd=>!cE zs np p.bx rows.length d)=none;rw[hb,hl];exact f
    rcases bad with⟨d,hd,hr⟩ | ⟨hla,hnot⟩
    ·unfold cb;show(match rows.findIdx? (λd=>!cE zs np p.bx rows.length d)with | some i=>some i | none=>_)=_
     rw[show rows.findIdx? (λd=>!cE zs np p.bx rows.length d)=some a from by
      rw[hl,Yo];obtain⟨z1,z2⟩:=bX hd;refine⟨z1,by rw[z2,hr];rfl,λj hj=>?_⟩;have all:=Y6.mp f' (rows[j]) (Xy (i:=j) (by show(rows.take a)[j]?=_;rw[Y7 hj];exact dC (by omega)));have all:(!cE zs np p.bx rows.length rows[j])=false:=all;intro q;rw[← hl,all]at q;cases q]
    ·rcases sQ f' (by show a < rows.length;omega)with w | ⟨c,w,hc⟩
     ·exfalso
      unfold cb at w;have w:(match rows.findIdx? (λd=>!cE zs np p.bx rows.length d)with | some i=>some i | none=>if (rows.getLast?).any pP then none else some (rows.length - 1))=none:=w;split at w
      ·cases w
      ·rw[hnot]at w;cases w
     ·rw[w]
      have:c < p.rows.length:=by
       unfold cb at w;have w:(match rows.findIdx? (λd=>!cE zs np p.bx rows.length d)with | some i=>some i | none=>if (rows.getLast?).any pP then none else some (rows.length - 1))=some c:=w;split at w
       ·rename_i i hi;cases w;obtain⟨z,_⟩:=Yo.mp hi;omega
       ·split at w
        ·cases w
        ·cases w;omega
      congr 1
      omega
   rw[k1 a w1,k0];rcases sQ f ha with w | ⟨c,w,hc⟩
   ·rw[w];cases ey p<;>rfl
   ·rw[w];show _=some (if 2 < 2∨(2=2/\a < c)then(2,a)else(2,c));by_cases e:a < c
    ·rw[XB (.inr ⟨rfl,e⟩)]
    ·rw[XA (by omega),show c=a by omega]
structure Ma(p:PX):Prop where
 i:N0 p
 bx:-1<=p.bx
def RX(st a:Nat):Nat×Nat:=if st<=1 then(0,0)else if st<=3 then(2,a)else(4,0)
structure Due(zs:List Nat)(np:Nat)(p p':PX)(st a:Nat):Prop where
 key:cQ zs np p'=some (fZ (cQ zs np p) (RX st a))
 qu:st<=4
 at2:st=2->a < p'.rows.length
 Vx:st=3->a + 1=p'.rows.length
 len:st≠1->p'.rows.length=p.rows.length
 ss:p'.ss.length<=p.ss.length + 9
def uk(k:Int)(st a:Nat):PyData:=.tuple [.int k,.int (st:Int),.int (a:Int)]
theorem FT(l:List PyData)(c:Nat)(x:PyData):(cutD l none (some (c:Int))).length<=l.length/\(cutD l (some ((c:Int) + 1)) none).length<=l.length/\cutD l none (some (c:Int))++[x]++cutD l (some ((c:Int) + 1)) none=l.take c++x::l.drop (c + 1):=by
 have h:=lJ (f:=id) l c x;simpa only[List.map_id,id]using h
theorem BP{α:Type}{P:α->Prop}{l:List α}{c:Nat}{x:α}(h:∀y∈l,P y)(hx:P x):∀y∈l.take c++x::l.drop (c + 1),P y:=λy hy=>by
 rcases Yg.mp hy with z | z
 ·exact h y (Y2 z)
 ·rcases X4.mp z with rfl | z
  ·exact hx
  ·exact h y (List.mem_of_mem_drop z)
theorem BQ{α:Type}(l:List α)(n:Nat):(List.replicate n l).flatten.length=n * l.length:=by
 induction n with
 | zero=>simp
 | succ n ih=>rw[X9,Ye,Xw,ih,Nat.succ_mul,ZW]
theorem CY(l:List PyData):(((List.replicate 101 l).flatten.take 101).length < 1∨100 < ((List.replicate 101 l).flatten.take 101).length)/\((List.replicate 101 l).flatten.take 101).length<=200/\∀d∈(List.replicate 101 l).flatten.take 101,d∈l:=by
 rw[XC,BQ];refine⟨by omega,by omega,λd hd=>?_⟩;obtain⟨x,hx,hd⟩:=YF.mp (Y2 hd);rw[(List.mem_replicate.mp hx).2]at hd;exact hd
theorem FU{α:Type}(l:List α)(c:Nat)(x:α)(h:c < l.length):(l.take c++x::l.drop (c + 1)).take c=l.take c:=by
 rw[Zy (by rw[XC];omega),List.take_take,Nat.min_self]
theorem FV{α:Type}(l:List α)(c:Nat)(x:α)(h:c < l.length):(l.take c++x::l.drop (c + 1))[c]?=some x:=by
 rw[XO (by rw[XC];omega),XC,show c - min c l.length=0 by omega];rfl
theorem FW{xs:List PyData}:cutD xs none (some (-1))=xs.take (xs.length - 1):=by
 unfold cutD;rw[HT.nV,List.drop_zero,Nat.sub_zero]
 have e:HT.dD xs.length xs.length (some (-1))=xs.length - 1:=by
  show(if (-1:Int) < 0 then((-1:Int) + (xs.length:Int)).toNat else min (-1:Int).toNat xs.length)=_;rw[XB (by decide)];omega
 rw[e]
theorem FX{zs:List Nat}{np:Nat}{p:PX}{d:PyData}(h:0 < p.rows.length)(no:pP d=false):cQ zs np {p with rows:=p.rows.take (p.rows.length - 1)++[d]}=some (fZ (cQ zs np p) (2,p.rows.length - 1)):=by
 refine BO (by rw[Xw,XC];show _ + 1=_;omega) (by omega) ?_ (.inr ⟨by omega,?_⟩)
 ·rw[Zy (by rw[XC];omega),List.take_take,Nat.min_self]
 ·rw[List.getLast?_concat];exact no
theorem FY{p:PX}{s:Int×Int×Int}(h:s∈p.ss)(no:qM p.rows.length s=false):ey p=false:=by
 unfold ey;rw[show p.ss.all (qM p.rows.length)=false from List.all_eq_false.mpr ⟨s,h,by rw[no];decide⟩,Bool.and_false]
theorem CZ{p:PX}(h:8 < p.ss.length):ey p=false:=by
 unfold ey;rw[decide_eq_false (by omega),Bool.false_and]
abbrev BK:=Int×Nat×Nat
def bK(zs:List Nat)(np:Nat):Nat->List PX->Option BK
 | _,[]=>none
 | i,p::r=>match cQ zs np p with
  | some k=>some ((i:Int),k)
  | none=>bK zs np (i + 1) r
def um(b:Bool)(zs:List Nat)(ps:List PX):Option BK:=if b then(if decide (1<=ps.length)&&decide (ps.length<=8)then bK zs ps.length 0 ps else some (-1,1,0))else some (-1,0,0)
def kT(x:BK):Option Nat×Option Nat:=(if x.1 < 0 then none else some x.1.toNat,sP x.2)
theorem oq(zs:List Nat)(np:Nat):∀(i:Nat) (ps:List PX),mw zs np i ps=(bK zs np i ps).map kT
 | _,[]=>rfl
 | i,p::r=>by
  unfold mw bK;rw[FQ]
  cases cQ zs np p with
  | some k =>
   show some (some i,sP k)=some (if ((i:Nat):Int) < 0 then none else some ((i:Nat):Int).toNat,sP k);rw[XA (by omega),X1]
  | none=>exact oq zs np (i + 1) r
theorem vx(b:Bool)(zs:List Nat)(ps:List PX):qA b zs ps=(um b zs ps).map kT:=by
 unfold qA um
 cases b with
 | false=>rfl
 | true =>
  rw[X5];split
  ·exact oq zs _ 0 ps
  ·rfl
def fi:Option BK->BK->BK
 | none,y=>y
 | some x,y=>if y.1 < x.1 then y else if x.1 < y.1 then x else(x.1,fZ (some x.2) y.2)
def BR(x:Int)(st a:Nat):BK:=if x < 0 then(x,st,0)else(x,RX st a)
theorem lK{x y:BK}(h:y.1 < x.1):fi (some x) y=y:=XB h
theorem pX{x y:BK}(h:x.1 < y.1):fi (some x) y=x:=by
 show(if y.1 < x.1 then y else if x.1 < y.1 then x else(x.1,fZ (some x.2) y.2))=x;rw[XA (by omega),XB h]
theorem vy{i:Int}{a y:Nat×Nat}:fi (some (i,a)) (i,y)=(i,fZ (some a) y):=by
 show(if i < i then(i,y)else if i < i then(i,a)else(i,fZ (some a) y))=_;rw[XA (by omega),XA (by omega)]
theorem fR(zs:List Nat)(np i:Nat)(p:PX)(r:List PX):bK zs np i (p::r)=match cQ zs np p with
  | some k=>some ((i:Int),k)
  | none=>bK zs np (i + 1) r:=rfl
theorem mZ(zs:List Nat)(np:Nat)(m:List PX):∀(i:Nat) (l:List PX),bK zs np i (l++m)=(bK zs np i l).or (bK zs np (i + l.length) m)
 | i,[]=>rfl
 | i,p::r=>by
  rw[List.cons_append,fR,fR]
  cases cQ zs np p with
  | some k=>rfl
  | none =>
   show bK zs np (i + 1) (r++m)=(bK zs np (i + 1) r).or _;rw[mZ zs np m (i + 1) r,XR,Nat.add_assoc,ZW 1]
theorem wJ{zs:List Nat}{np:Nat}{ps:List PX}{k:Nat}{p:PX}(hp:ps[k]?=some p):bK zs np 0 ps=(bK zs np 0 (ps.take k)).or (bK zs np k (p::ps.drop (k + 1))):=by
 obtain⟨hk,hpk⟩:=bX hp;have e:ps=ps.take k++p::ps.drop (k + 1):=by rw[← hpk,← List.drop_eq_getElem_cons hk,YC]
 have lt:(ps.take k).length=k:=by rw[XC];omega
 exact(X7 (bK zs np 0) e).trans (by rw[mZ,lt,aav])
theorem jA{zs:List Nat}{np:Nat}:∀{i:Nat} {l:List PX} {x:BK},bK zs np i l=some x->(i:Int)<=x.1/\x.1 < ((i + l.length:Nat):Int)
 | i,p::r,x,h=>by
  unfold bK at h
  cases e:cQ zs np p with
  | some k =>
   rw[e]at h;cases h;exact⟨Int.le_refl _,by rw[XR];show(i:Int) < _;omega⟩
  | none =>
   rw[e]at h;have:=jA h;rw[XR];omega
theorem Ik{b:Bool}{zs:List Nat}{ps:List PX}{k:Nat}{p p':PX}{y:Nat×Nat}(h1:1<=ps.length)(h8:ps.length<=8)(hp:ps[k]?=some p)(e:cQ zs ps.length p'=some (fZ (cQ zs ps.length p) y)):um b zs (ps.take k++p'::ps.drop (k + 1))=some (fi (um b zs ps) ((k:Int),y)):=by
 obtain⟨hk,hpk⟩:=bX hp;unfold um
 cases b with
 | false=>exact X7 some (pX (x:=(-1,0,0)) (y:=((k:Int),y)) (by show(-1:Int) < (k:Int);omega)).symm
 | true =>
  rw[XB rfl,XB rfl,oj _ _ _ hk,Xm h1,Xm h8];show bK zs ps.length 0 _=some (fi (bK zs ps.length 0 ps) _);have lt:(ps.take k).length=k:=by rw[XC];omega
  rw[mZ,lt,aav,fR,e,wJ hp]
  cases f:bK zs ps.length 0 (ps.take k)with
  | some x =>
   have hx:=jA f;rw[lt]at hx;exact X7 some (pX (y:=((k:Int),y)) (by show x.1 < (k:Int);omega)).symm
  | none =>
   show some ((k:Int),fZ (cQ zs ps.length p) y)=some (fi (bK zs ps.length k (p::ps.drop (k + 1))) _);rw[fR]
   cases cQ zs ps.length p with
   | some κ=>exact X7 some vy.symm
   | none =>
    show some ((k:Int),y)=some (fi (bK zs ps.length (k + 1) (ps.drop (k + 1))) _)
    cases g:bK zs ps.length (k + 1) (ps.drop (k + 1))with
    | none=>rfl
    | some x =>
     have hx:=jA g;exact X7 some (lK (by show(k:Int) < x.1;omega)).symm
theorem yF{b:Bool}{zs:List Nat}{ps ps':List PX}(h:ps'.length < 1∨8 < ps'.length):um b zs ps'=some (fi (um b zs ps) (-1,1,0)):=by
 unfold um
 cases b with
 | false=>rfl
 | true =>
  rw[XB rfl,XB rfl,XA (by rw[XN,Yd,Yd];omega)];split
  ·cases g:bK zs ps.length 0 ps with
   | none=>rfl
   | some x =>
    have hx:=jA g;exact X7 some (lK (by show(-1:Int) < x.1;omega)).symm
  ·rfl
theorem C0{b:Bool}{zs:List Nat}{ps ps':List PX}:um false zs ps'=some (fi (um b zs ps) (-1,0,0)):=by
 show some (-1,0,0)=_;unfold um
 cases b with
 | false=>rfl
 | true =>
  rw[XB rfl];split
  ·cases g:bK zs ps.length 0 ps with
   | none=>rfl
   | some x =>
    have hx:=jA g;exact X7 some (lK (by show(-1:Int) < x.1;omega)).symm
  ·rfl
def zy(m:Nat)(ps:List PX):Prop:=∀p∈ps,Ma p/\p.ss.length<=m
structure FZ(b b':Bool)(zs:List Nat)(ps ps':List PX)(x:Int)(st a:Nat):Prop where
 key:um b' zs ps'=some (fi (um b zs ps) (BR x st a))
 sort:(x=-1/\st<=1/\a=0)∨∃(k:Nat) (p p':PX),x=(k:Int)/\ps[k]?=some p/\ps'[k]?=some p'/\Due zs ps.length p p' st a
def T6(ld:kS)(b:Bool)(zs:List Nat)(m:Nat)(ps:List PX)(ld':kS)(b':Bool)(ps':List PX)(x:Int)(st a:Nat):Prop :=
 (ua ld' b'/\ld'.length<=1000)/\((ld'=ld/\b'=b/\¬ (x=-1/\st=0))∨(b'=false/\x=-1/\st=0))/\(zy (m + 9) ps'/\ps'.length<=12)/\FZ b b' zs ps ps' x st a
theorem Mb{zs:List Nat}{np nb nr:Nat}{r:Rw}(h:r.Ok zs np nb nr):PyData.canLay0 (.str (Kp r))=true:=by
 have all:∀s∈sF,PyData.canLay0 (.str s)=true:=by decide +kernel
 have sgn:∀s∈(["push","load","store","jump","zero","kin","make","begin","fill","get","put","call"]:List Str),PyData.canLay0 (.str s)=true:=by decide +kernel
 cases r with
 | bare s=>exact all s h
 | _=>exact sgn _ (by simp[Kp])
theorem Am(k:KI):PyData.canLay0 (cG k)=true/\PyData.depth (cG k)<=1:=by
 cases k<;>exact⟨by simp only[NZ,PyData.canLay0,PyData.canLayAll0];decide +kernel,by simp[NZ,PyData.depth,PyData.depthAll]⟩
theorem Mc(m:Option Int×List KI):PyData.canLay0 (c9 m)=true/\PyData.depth (c9 m)<=3:=by
 obtain⟨o,ks⟩:=m;have h:=fQ ks λk _=>Am k
 have e:PyData.canLay0 (Dg o)=true/\PyData.depth (Dg o)=0:=by cases o<;>exact⟨rfl,rfl⟩
 refine⟨?_,?_⟩
 ·show(PyData.canLay0 (Dg o)&&(PyData.canLayAll0 (ks.map cG)&&true))=true;rw[e.1,h.1];rfl
 ·show max (PyData.depth (Dg o)) (max (PyData.depthAll (ks.map cG) + 1) 0) + 1<=3;have h2:=h.2;have e2:=e.2;omega
theorem Md{p:PX}(sh:∀d∈p.rows,e7 d):PyData.canLay0 (fU p)=true/\PyData.depth (fU p)<=3:=by
 have h:=fQ p.tk λk _=>Am k
 have g:=Am p.gv;have r:=fQ (f:=id) p.rows λd hd=>Ij (sh d hd)
 rw[Zl]at r;have s:=fQ (f:=mY) (n:=1) p.ss λs _=>⟨rfl,Xu _⟩
 refine⟨?_,?_⟩
 ·show(PyData.canLayAll0 (p.tk.map cG)&&(PyData.canLay0 (cG p.gv)&&(PyData.canLay0 (.int p.bx)&&(PyData.canLay0 (.int p.ht)&&(PyData.canLayAll0 p.rows&&(PyData.canLayAll0 (p.ss.map mY)&&true))))))=true;rw[h.1,g.1,r.1,s.1];rfl
 ·show max (PyData.depthAll (p.tk.map cG) + 1) (max (PyData.depth (cG p.gv)) (max (PyData.depth (.int p.bx)) (max (PyData.depth (.int p.ht)) (max (PyData.depthAll p.rows + 1) (max (PyData.depthAll (p.ss.map mY) + 1) 0))))) + 1<=3;have e1:PyData.depth (.int p.bx)=0:=rfl;have e2:PyData.depth (.int p.ht)=0:=rfl;have h2:=h.2;have g2:=g.2;have r2:=r.2;have s2:=s.2;omega
theorem Kq{ld:kS}{ps:List PX}{m:Nat}(h:zy m ps):PySem.SeqAt.shaped (pR ld ps)=true:=by
 have am:=fQ ld λm _=>Mc m
 have ap:=fQ (f:=fU) ps λp hp=>Md (h p hp).1.i.sh
 show((PyData.canLayAll0 (ld.map c9)&&(PyData.canLayAll0 (ps.map fU)&&true))&&decide (max (PyData.depthAll (ld.map c9) + 1) (max (PyData.depthAll (ps.map fU) + 1) 0) + 1<=64))=true;rw[am.1,ap.1];have h1:=am.2;have h2:=ap.2;simp only[Bool.true_and,decide_eq_true_eq];omega
theorem Il{ld:kS}{ps:List PX}{m:Nat}(h:zy m ps):PyData.eqv (pR ld ps) (pR ld ps)=true:=PySem.SeqAt.eqv_refl _ (PySem.SeqAt.canLay_of_shaped (Kq h))
theorem Im{K:aJ}{T:ES}(mo:cz T){vs:List V}{ds:List PyData}{H:Hp}{Q:VK}(h:cB (cy K H) vs ds)(t:T ds λd=>∀v H',bD H H'->cy K H' v d->Q v H'):ko K T vs H Q E0:=⟨λ_=>False,ds,(λ_ h=>h.elim),h.imp λ_ _ z=>kJ z,mo _ _ _ (λd f v H' s r=>f v H' s r.now) t⟩
theorem Io{K:aJ}{H:Hp}{dd:Option Addr}{n1 n2:Str}{d1 d2:PyData}(h:Ki K (λ_=>False) H dd [(n1,d1),(n2,d2)]):∃(dx:Addr) (v1 v2:V),dd=some dx/\H dx=some (.ext (XD dx [(n1,v1),(n2,v2)]))/\cy K H v1 d1/\cy K H v2 d2:=by
 rcases h with h | ⟨dx,vs,h1,h2,_,h4,h5⟩
 ·cases h
 obtain⟨p,q,rfl⟩:=TV (show vs.length=2 by have:=congrArg List.length h4;simpa using this);obtain⟨m1,v1⟩:=p;obtain⟨m2,v2⟩:=q;cases h4;exact⟨dx,v1,v2,h1,h2,(h5.2 0 _ _ rfl rfl).now,(h5.2 1 _ _ rfl rfl).now⟩
theorem ou(k st a:Nat):BR (k:Int) st a=((k:Int),RX st a):=by
 unfold BR;rw[if_neg (by omega)]
theorem An{ps:List PX}{i:Nat}(hi:i=0∨i=9∨i=12):(((List.replicate 12 ps).flatten.take i).length < 1∨8 < ((List.replicate 12 ps).flatten.take i).length)/\((List.replicate 12 ps).flatten.take i).length<=12/\∀p∈(List.replicate 12 ps).flatten.take i,p∈ps:=by
 rw[XC,BQ];refine⟨by omega,by omega,λd hd=>?_⟩;obtain⟨x,hx,hd⟩:=YF.mp (Y2 hd);rw[(List.mem_replicate.mp hx).2]at hd;exact hd
theorem Ip{ps:List PX}(i:Nat):cutD (List.replicate (Int.toNat 12) (ps.map fU)).flatten none (some (i:Int))=((List.replicate 12 ps).flatten.take i).map fU:=by
 rw[← oi,List.map_flatten,Y9];rfl
theorem zy.put{m:Nat}{ps:List PX}{k:Nat}{p':PX}(h:zy m ps)(h':Ma p'/\p'.ss.length<=m + 9):zy (m + 9) (ps.take k++p'::ps.drop (k + 1)):=BP (P:=λp=>Ma p/\p.ss.length<=m + 9) (λp hp=>⟨(h p hp).1,Zm (h p hp).2⟩) h'
theorem yG{ld:kS}{b:Bool}{zs:List Nat}{m:Nat}{ps:List PX}{k:Nat}{p p':PX}{st a:Nat}(hld:ua ld b/\ld.length<=1000)(hcl:zy m ps)(h1:1<=ps.length)(h8:ps.length<=8)(hp:ps[k]?=some p)(hJ:Ma p')(hD:Due zs ps.length p p' st a):T6 ld b zs m ps ld b (ps.take k++p'::ps.drop (k + 1)) (k:Int) st a:=by
 obtain⟨hk,_⟩:=bX hp;have hs:=(hcl p (Xy hp)).2;refine⟨hld,.inl ⟨rfl,rfl,λh=>by omega⟩,⟨hcl.put ⟨hJ,XT hD.ss (by omega)⟩,by rw[oj _ _ _ hk];omega⟩,⟨?_,.inr ⟨k,p,p',rfl,hp,FV _ _ _ hk,hD⟩⟩⟩;rw[ou];exact Ik h1 h8 hp hD.key
theorem BS(x:Int)(st a:Nat):PyData.eqv (.tuple [.int x,.int (st:Int),.int (a:Int)]) (.tuple [.int (-1),.int 0,.int 0])=true↔(x=-1/\st=0/\a=0):=by
 show((x == -1)&&(((st:Int) == 0)&&(((a:Int) == 0)&&true)))=true↔_;rw[Bool.and_true,XN,XN,Ze,Ze,Ze];omega
theorem F4(x y z:Int):PySem.SeqAt.shaped (.tuple [.int x,.int y,.int z])=true:=rfl
def Pt.px(p:Pt):PX:=⟨p.takes.map Kd.ki,p.gives.ki,(p.boxes:Int),(p.height:Int),p.rows.map yo,p.spans.map λs=>((s.1:Int),(s.2.1:Int),(s.2.2:Int))⟩
theorem T7(p:Pt):fU p.px=L7 p:=by
 show PyData.tuple [.list ((p.takes.map Kd.ki).map cG),cG p.gives.ki,.int p.boxes,.int p.height,.list (p.rows.map yo),.list ((p.spans.map _).map mY)]=.tuple [.list (CM p.takes),.tuple (Df p.gives),.int p.boxes,.int p.height,.list (p.rows.map yo),.list (p.spans.map RV)];rw[YE,YE];have e1:p.takes.map (cG ∘ Kd.ki)=CM p.takes:=Yw λk _=>by show PyData.tuple (NZ k.ki)=_;rw[FC]
 have e2:cG p.gives.ki=.tuple (Df p.gives):=by show PyData.tuple (NZ p.gives.ki)=_;rw[FC]
 rw[e1,e2];rfl
theorem sR{w:Str}{v m:Int}(hm:en w=some m)(nw:(w == "word")=false)(h0:0<=v)(h1:v<=m):cU w (.int v)=true:=by
 have nw:¬ w="word":=λe=>by rw[e]at nw;exact absurd nw (by decide +kernel)
 show(if w=("word" : Str)then gX v else match en w with | some m=>decide (0<=v)&&decide (v<=m) | none=>false)=true;rw[XA nw,hm];show(decide (0<=v)&&decide (v<=m))=true;rw[Xm h0,Xm h1];rfl
section
variable {zs:List Nat} {np:Nat} {bx:Int} {nr:Nat} {s w w2:Str} {v v2:Int}
theorem Iq(hs:s∈bt)(hw:aP s=[]):cE zs np bx nr (.tuple (.str s::([]:List Int).map PyData.int))=true:=by
 have r:df (.tuple (.str s::([]:List Int).map PyData.int))=true:=by
  show(decide (s∈bt)&&(decide (0=(aP s).length)&&((aP s).zip ([]:List PyData)).all λp=>cU p.1 p.2))=true;rw[hw,Xm hs];rfl
 rw[sJ r,hw];rfl
theorem iF(hs:s∈bt)(hw:aP s=[w])(f:cU w (.int v)=true)(t:aT zs np bx nr v w v=true):cE zs np bx nr (.tuple (.str s::[v].map PyData.int))=true:=by
 have r:df (.tuple (.str s::[v].map PyData.int))=true:=by
  show(decide (s∈bt)&&(decide (1=(aP s).length)&&((aP s).zip [PyData.int v]).all λp=>cU p.1 p.2))=true;rw[hw,Xm hs];show(cU w (.int v)&&true)=true;rw[f];rfl
 rw[sJ r,hw];show(aT zs np bx nr v w v&&true)=true;rw[t];rfl
theorem BU(hs:s∈bt)(hw:aP s=[w,w2])(f:cU w (.int v)=true)(f2:cU w2 (.int v2)=true)(t:aT zs np bx nr v w v=true)(t2:aT zs np bx nr v w2 v2=true):cE zs np bx nr (.tuple (.str s::[v,v2].map PyData.int))=true:=by
 have r:df (.tuple (.str s::[v,v2].map PyData.int))=true:=by
  show(decide (s∈bt)&&(decide (2=(aP s).length)&&((aP s).zip [PyData.int v,PyData.int v2]).all λp=>cU p.1 p.2))=true;rw[hw,Xm hs];show(cU w (.int v)&&(cU w2 (.int v2)&&true))=true;rw[f,f2];rfl
 rw[sJ r,hw];show(aT zs np bx nr v w v&&(aT zs np bx nr v w2 v2&&true))=true;rw[t,t2];rfl
theorem Kr(h:v < bx):aT zs np bx nr v2 "box" v=true:=by
 unfold aT;rw[if_pos rfl];exact decide_eq_true h
theorem isPlace(h:v < (nr:Int)):aT zs np bx nr v2 "place" v=true:=by
 unfold aT;rw[if_neg (by decide +kernel),if_neg (by decide +kernel),if_neg (by decide +kernel),if_neg (by decide +kernel),if_pos rfl];exact decide_eq_true h
theorem wK(h:v < (zs.length:Int)):aT zs np bx nr v2 "make" v=true:=by
 unfold aT;rw[if_neg (by decide +kernel),if_pos rfl];exact decide_eq_true h
theorem isField{c z:Nat}(hz:zs[c]?=some z)(h:v < (z:Int)):aT zs np bx nr (c:Int) "field" v=true:=by
 unfold aT;rw[if_neg (by decide +kernel),if_neg (by decide +kernel),if_pos rfl,Int.toNat_natCast,hz];exact decide_eq_true h
theorem Me(h:v < (np:Int)):aT zs np bx nr v2 "part" v=true:=by
 unfold aT;rw[if_neg (by decide +kernel),if_neg (by decide +kernel),if_neg (by decide +kernel),if_pos rfl];exact decide_eq_true h
theorem isWord:aT zs np bx nr v2 "word" v=true:=by
 unfold aT;rw[if_neg (by decide +kernel),if_neg (by decide +kernel),if_neg (by decide +kernel),if_neg (by decide +kernel),if_neg (by decide +kernel)]
end
theorem C1:∀s∈sF,s∈bt/\aP s=[]:=by decide +kernel
theorem C2{zs:List Nat}{np nb nr:Nat}(hz:zs.length<=8)(h6:∀z∈zs,z<=6)(hp:np<=8)(hb:nb<=8)(hn:nr<=100){r:Rw}(h:r.Ok zs np nb nr):cE zs np (nb:Int) nr (yo r)=true:=by
 have mb:∀{v:Int},0<=v->v<=7->cU "box" (.int v)=true:=λa b=>sR (m:=7) rfl (by decide +kernel) a b
 have mm:∀{v:Int},0<=v->v<=7->cU "make" (.int v)=true:=λa b=>sR (m:=7) rfl (by decide +kernel) a b
 have mf:∀{v:Int},0<=v->v<=7->cU "field" (.int v)=true:=λa b=>sR (m:=7) rfl (by decide +kernel) a b
 have mp:∀{v:Int},0<=v->v<=7->cU "part" (.int v)=true:=λa b=>sR (m:=7) rfl (by decide +kernel) a b
 have ml:∀{v:Int},0<=v->v<=99->cU "place" (.int v)=true:=λa b=>sR (m:=99) rfl (by decide +kernel) a b
 have fld:∀{s:Str} {c f:Nat},s∈bt->aP s=(["make","field"]:List Str)->(∃z,zs[c]?=some z/\f < z)->cE zs np (nb:Int) nr (.tuple (.str s::[(c:Int),(f:Int)].map PyData.int))=true:=λhs hw ⟨z,hzc,hf⟩=>by
  have:=h6 z (Xy hzc);have:=(bX hzc).1;exact BU hs hw (mm (by omega) (by omega)) (mf (by omega) (by omega)) (wK (by omega)) (isField hzc (by omega))
 cases r with
 | push w =>
  obtain⟨h0,h1⟩:-2147483648<=w/\w < 2147483648:=h
  exact iF (s:="push") (w:="word") (by decide +kernel) (by decide +kernel) (by
   show(if ("word" : Str)="word" then gX w else match en "word" with | some m=>decide (0<=w)&&decide (w<=m) | none=>false)=true;rw[XB rfl];show(decide (-2147483648<=w)&&decide (w < 2147483648))=true;rw[Xm h0,Xm h1];rfl) isWord
 | load b=>have h:b < nb:=h;exact iF (s:="load") (w:="box") (by decide +kernel) (by decide +kernel) (mb (by omega) (by omega)) (Kr (by omega))
 | store b=>have h:b < nb:=h;exact iF (s:="store") (w:="box") (by decide +kernel) (by decide +kernel) (mb (by omega) (by omega)) (Kr (by omega))
 | bare s=>obtain⟨h1,h2⟩:=C1 s h;exact Iq h1 h2
 | jump t=>have h:t < nr:=h;exact iF (s:="jump") (w:="place") (by decide +kernel) (by decide +kernel) (ml (by omega) (by omega)) (isPlace (by omega))
 | zero t=>have h:t < nr:=h;exact iF (s:="zero") (w:="place") (by decide +kernel) (by decide +kernel) (ml (by omega) (by omega)) (isPlace (by omega))
 | kin c t=>obtain⟨h1,h2⟩:c < zs.length/\t < nr:=h;exact BU (s:="kin") (w:="make") (w2:="place") (by decide +kernel) (by decide +kernel) (mm (by omega) (by omega)) (ml (by omega) (by omega)) (wK (by omega)) (isPlace (by omega))
 | make c=>have h:c < zs.length:=h;exact iF (s:="make") (w:="make") (by decide +kernel) (by decide +kernel) (mm (by omega) (by omega)) (wK (by omega))
 | beg c=>have h:c < zs.length:=h;exact iF (s:="begin") (w:="make") (by decide +kernel) (by decide +kernel) (mm (by omega) (by omega)) (wK (by omega))
 | fill c f=>exact fld (s:="fill") (by decide +kernel) (by decide +kernel) h
 | get c f=>exact fld (s:="get") (by decide +kernel) (by decide +kernel) h
 | put c f=>exact fld (s:="put") (by decide +kernel) (by decide +kernel) h
 | call p=>have h:p < np:=h;exact iF (s:="call") (w:="part") (by decide +kernel) (by decide +kernel) (mp (by omega) (by omega)) (Me (by omega))
theorem PV(r:Rw)(h:PyData.canLay0 (.str (Kp r))=true):e7 (yo r):=gY _ _ (by cases r<;>simp[L6]) h
theorem F5{ms:cW}{zs:List Nat}(g:Good ms zs){np:Nat}(hp:np<=8){p:Pt}(h:CN zs np p):cQ zs np p.px=none:=by
 have Hc:zs.length<=8:=by have:=g.wf.few;have:=g.len;omega
 have hl:p.px.rows.length=p.rows.length:=Xk _;have tl:p.px.tk.length=p.takes.length:=Xk _;have sl:p.px.ss.length=p.spans.length:=Xk _
 have hh:dU zs p.px=true:=by
  unfold dU
  have k:(p.px.tk++[p.px.gv]).all (Af zs)=true:=X8.mpr λk hk=>by
   rcases Yg.mp hk with z | z
   ·obtain⟨k',hk',rfl⟩:=YH.mp z;exact Ag (h.tk k' hk')
   ·rw[xF z];exact Ag h.gv
  have:=h.bx;have:=h.h1;have:=h.h8;have:=h.tb;have:=h.r1;have:=h.r2;have bx:p.px.bx=(p.boxes:Int):=rfl;have ht:p.px.ht=(p.height:Int):=rfl;rw[k,hl,tl,bx,ht,Xm (by omega),Xm (by omega),Xm (by omega),Xm (by omega),Xm (by omega),Xm (by omega),Xm (by omega)];rfl
 have all:p.px.rows.findIdx? (λd=>!cE zs np p.px.bx p.px.rows.length d)=none:=by
  rw[Y6];intro d hd;obtain⟨r,hr,rfl⟩:=YH.mp hd;rw[hl];have:=C2 Hc g.six hp h.bx h.r2 (h.ro r hr);show(!cE zs np (p.boxes:Int) p.rows.length (yo r))=false;rw[this];rfl
 have wr:cb zs np p.px=none:=by
  unfold cb;rw[all]
  have e:(p.px.rows.getLast?).any pP=true:=by
   obtain⟨l,r,e,hr⟩:=h.la;show((p.rows.map yo).getLast?).any pP=true;rw[e,Yb,List.map_singleton,List.getLast?_concat];show pP (.tuple (.str (Kp r)::(L6 r).map PyData.int))=true;rw[wD];rcases hr with rfl | rfl | ⟨t,rfl⟩
   ·exact Xm (show("toss" : Str)∈yp by decide +kernel)
   ·exact Xm (show("give" : Str)∈yp by decide +kernel)
   ·exact Xm (show("jump" : Str)∈yp by decide +kernel)
  show(if (p.px.rows.getLast?).any pP then none else some (p.px.rows.length - 1))=none;rw[XB e]
 have st:ey p.px=true:=by
  unfold ey;rw[sl,decide_eq_true h.s8,Bool.true_and,hl];refine List.all_eq_true.mpr λs hs=>?_
  obtain⟨t,ht,rfl⟩:=List.mem_map.mp hs;obtain⟨h1,h2,h3⟩:=h.so t ht;unfold qM;rw[decide_eq_true (by show(0:Int)<=(t.1:Int);omega),decide_eq_true (by show(t.1:Int) < (t.2.1:Int);omega),decide_eq_true (by show(t.2.1:Int)<=(p.rows.length:Int);omega),decide_eq_true (by show(0:Int)<=(t.2.2:Int);omega),decide_eq_true (by show(t.2.2:Int) < (p.rows.length:Int);omega)];rfl
 unfold cQ;rw[hh,wr,st];rfl
theorem Mf{zs:List Nat}{np:Nat}{ps:List Pt}(h:∀p∈ps,CN zs np p):zy 8 (ps.map Pt.px):=λp hp=>by
 obtain⟨p,hq,rfl⟩:=YH.mp hp;have hk:=h p hq;have tl:p.px.tk.length=p.takes.length:=Xk _;have hl:p.px.rows.length=p.rows.length:=Xk _;have sl:p.px.ss.length=p.spans.length:=Xk _;have:=hk.bx;have:=hk.tb;have:=hk.r2;have:=hk.s8;refine⟨⟨⟨by omega,by omega,λd hd=>?_,by omega⟩,by show(-1:Int)<=(p.boxes:Int);omega⟩,by omega⟩;obtain⟨r,hr,rfl⟩:=YH.mp hd;exact PV r (Mb (hk.ro r hr))
theorem Mg(ms:cW)(ps:List Pt):RW ms ps=pR (dm (loose ms)) (ps.map Pt.px):=by
 show PyData.tuple [jv ms,.list (ps.map L7)]=.tuple [eX (dm (loose ms)),.list ((ps.map Pt.px).map fU)];rw[FE,← jO,YE]
 congr 4
 exact Yw λp _=>(T7 p).symm
theorem qC{zs:List Nat}{np:Nat}:∀{i:Nat} {ps:List PX},(∀q∈ps,cQ zs np q=none)->bK zs np i ps=none
 | _,[],_=>rfl
 | i,p::r,h=>by
  rw[fR,h p XZ];exact qC λq hq=>h q (X2 _ hq)
theorem Ao{ms:cW}{zs:List Nat}(g:Good ms zs){ps:List Pt}(h1:0 < ps.length)(h8:ps.length<=8)(h:∀p∈ps,CN zs ps.length p):um true zs (ps.map Pt.px)=none:=by
 unfold um;rw[if_pos rfl,List.length_map,decide_eq_true (by omega),decide_eq_true h8];show bK zs ps.length 0 (ps.map Pt.px)=none;refine qC λq hq=>?_
 obtain⟨p,hp,rfl⟩:=YH.mp hq;exact F5 g h8 (h p hp)
def sS(d:BK):Option Nat×Option Nat:=(if d.1 < 0 then none else some d.1.toNat,if d.2.1=2∨d.2.1=3 then some d.2.2 else none)
def N3(d e:BK):Prop:=d.1 < e.1∨(d.1=e.1/\(d.2.1 < e.2.1∨(d.2.1=e.2.1/\d.2.2 < e.2.2)))
def RY(x:Int)(st a:Nat):Prop:=(x=-1/\st<=1/\a=0)∨(0<=x/\st<=4)
theorem vz(k:Nat)(z:Nat×Nat):kT ((k:Int),z)=(some k,sP z):=by
 show((if ((k:Nat):Int) < 0 then none else some ((k:Nat):Int).toNat),sP z)=_;rw[XA (by omega),X1]
theorem sT(k u v:Nat):sS ((k:Int),u,v)=(some k,if u=2∨u=3 then some v else none):=by
 show((if ((k:Nat):Int) < 0 then none else some ((k:Nat):Int).toNat),_)=_;rw[XA (by omega),X1]
theorem sU{x:Int}{st a:Nat}(h:RY x st a):kT (BR x st a)=sS (x,st,a):=by
 rcases h with⟨rfl,h,rfl⟩ | ⟨h,h4⟩
 ·have s2:st=0∨st=1:=by omega
  rcases s2 with rfl | rfl<;>rfl
 ·obtain⟨k,rfl⟩:∃k:Nat,x=(k:Int):=⟨x.toNat,by omega⟩;rw[ou,vz,sT];have s5:st=0∨st=1∨st=2∨st=3∨st=4:=by omega
  rcases s5 with rfl | rfl | rfl | rfl | rfl<;>rfl
theorem F6{x y:Int}{s t a c:Nat}(h1:RY x s a)(h2:RY y t c)(h:x=y->0<=x->(s=2->t=3->a<=c)/\(s=3->t=2->c<=a)):(N3 (y,t,c) (x,s,a)->kT (fi (some (BR x s a)) (BR y t c))=sS (y,t,c))/\(¬ N3 (y,t,c) (x,s,a)->kT (fi (some (BR x s a)) (BR y t c))=sS (x,s,a)):=by
 have f1:(BR x s a).1=x:=by unfold BR;split<;>rfl
 have f2:(BR y t c).1=y:=by unfold BR;split<;>rfl
 rcases Int.lt_trichotomy y x with l | e | l
 ·rw[lK (by rw[f1,f2];exact l),sU h2];exact⟨λ_=>rfl,λn=>absurd (.inl l) n⟩
 ·subst e;rcases h1 with⟨rfl,hs,rfl⟩ | ⟨hx,hs⟩
  ·obtain⟨ht,rfl⟩:t<=1/\c=0:=by
    rcases h2 with⟨_,z,w⟩ | ⟨z,_⟩
    ·exact⟨z,w⟩
    ·exact absurd z (by decide)
   have s2:s=0∨s=1:=by omega
   have t2:t=0∨t=1:=by omega
   have n:∀u:Nat,u=0∨u=1->sS (-1,u,0)=(none,none):=λu hu=>by rcases hu with rfl | rfl<;>rfl
   rw[n s s2,n t t2];have k:kT (fi (some (BR (-1) s 0)) (BR (-1) t 0))=(none,none):=by rcases s2 with rfl | rfl<;>rcases t2 with rfl | rfl<;>rfl
   exact⟨λ_=>k,λ_=>k⟩
  ·have ht:t<=4:=by
    rcases h2 with⟨z,_⟩ | ⟨_,z⟩
    ·omega
    ·exact z
   obtain⟨k,rfl⟩:∃k:Nat,y=(k:Int):=⟨y.toNat,by omega⟩;obtain⟨W7,W8⟩:=h rfl hx;rw[ou,ou,vy];have lt:N3 ((k:Int),t,c) ((k:Int),s,a)↔(t < s∨(t=s/\c < a)):=⟨λz=>z.elim (λz=>absurd z (Y3 _)) (·.2),λz=>.inr ⟨rfl,z⟩⟩;rw[vz,sT,sT,lt];have s5:s=0∨s=1∨s=2∨s=3∨s=4:=by omega
   have t5:t=0∨t=1∨t=2∨t=3∨t=4:=by omega
   rcases s5 with rfl | rfl | rfl | rfl | rfl<;>rcases t5 with rfl | rfl | rfl | rfl | rfl<;>simp[fZ,RX,sP]<;>(try split)<;>(try simp)<;>(try omega)
 ·rw[pX (by rw[f1,f2];exact l),sU h1];refine⟨λz=>?_,λ_=>rfl⟩;rcases z with z | ⟨z,_⟩
  ·exact absurd z (by show ¬ y < x;omega)
  ·exact absurd z (by show ¬ y=x;omega)
theorem Ks(x y:Int)(s t a c:Nat):L2.Km (y,(t:Int),(c:Int)) (x,(s:Int),(a:Int))=true↔N3 (y,t,c) (x,s,a):=by
 show(if y=x then(if (t:Int)=(s:Int)then(if (c:Int)=(a:Int)then false else decide ((c:Int) < (a:Int)))else decide ((t:Int) < (s:Int)))else decide (y < x))=true↔(y < x∨(y=x/\(t < s∨(t=s/\c < a))));split
 ·split
  ·split
   ·constructor
    ·intro h;cases h
    ·intro h;omega
   ·rw[Yd];omega
  ·rw[Yd];omega
 ·rw[Yd];omega
theorem F8{b1 b2 b3:Bool}{zs:List Nat}{ps ps' ps'':List PX}{x y:Int}{s t a c:Nat}(r:um b1 zs ps=none)(h1:FZ b1 b2 zs ps ps' x s a)(h2:FZ b2 b3 zs ps' ps'' y t c):
  (N3 (y,t,c) (x,s,a)->(um b3 zs ps'').map kT=some (sS (y,t,c)))/\(¬ N3 (y,t,c) (x,s,a)->(um b3 zs ps'').map kT=some (sS (x,s,a))):=by
 have k1:=h1.key;rw[r]at k1;have k2:=h2.key;rw[k1]at k2
 have sr:∀{b b':Bool} {qs qs':List PX} {x:Int} {s a:Nat},FZ b b' zs qs qs' x s a->RY x s a:=λh=>by
  rcases h.sort with z | ⟨k,p,p',rfl,_,_,hD⟩
  ·exact .inl z
  ·exact .inr ⟨by omega,hD.qu⟩
 obtain⟨g1,g2⟩:=F6 (sr h1) (sr h2) λe h0=>by
  rcases h1.sort with⟨z,_⟩ | ⟨k,p,p',rfl,_,hp',hD⟩
  ·omega
  rcases h2.sort with⟨z,_⟩ | ⟨k2,q,q',e2,hq,_,RZ⟩
  ·omega
  have ek:k=k2:=by omega
  subst ek;rw[hp']at hq;cases hq;refine⟨λe1 e2=>?_,λe1 e2=>?_⟩
  ·have:=hD.at2 e1;have:=RZ.Vx e2;have:=RZ.len (by omega);omega
  ·have:=hD.Vx e1;have:=RZ.at2 e2;have:=RZ.len (by omega);omega
 rw[k2];exact⟨λz=>X7 some (g1 z),λz=>X7 some (g2 z)⟩
theorem Ir{b1 b2:Bool}{zs:List Nat}{ps ps':List PX}{x:Int}{s a:Nat}(r:um b1 zs ps=none)(h:FZ b1 b2 zs ps ps' x s a):(um b2 zs ps').map kT=some (sS (x,s,a)):=by
 have k:=h.key;rw[r]at k;rw[k];refine X7 some (sU ?_);rcases h.sort with z | ⟨k,p,p',rfl,_,_,hD⟩
 ·exact .inl z
 ·exact .inr ⟨by omega,hD.qu⟩
inductive jP (ds:List PyData)(Q:PyData->Prop):Prop where
 | mk (ns:List Int) (k:Int) (ja:ds=[.list (ns.map PyData.int),.int k]) (jb:ns.length<=63) (kl:0<=k) (pY:k<=1000000) (C3:∀v:Int,0<=v->v < 2305843009213693952->Q (.int v)):jP  ds Q
def dW(K:aJ):Sp:=ko K jP
theorem bh:cz jP:=by
 rintro ds Q Q' f ⟨ns,k,z2,hl,h0,h1,q⟩;exact⟨ns,k,z2,hl,h0,h1,by intros;apply f;apply q<;>assumption⟩
theorem bj{K:aJ}:jm K (dW K) jP:=bU
inductive gw (ds:List PyData)(Q:PyData->Prop):Prop where
 | mk (L:ku) (ms:cW) (c:Nat) (ja:ds=[fh L,.int (c:Int)]) (jb:dJ L ms) (kl:Wf ms) (pY:c < ms.length) (C3:Q (.list (bc (bH ms c)))):gw  ds Q
def jc(K:aJ):Sp:=ko K gw
theorem uo:cz gw:=by
 rintro ds Q Q' f ⟨L,ms,c,z3,hL,hw,hc,q⟩;exact⟨L,ms,c,z3,hL,hw,hc,by intros;apply f;apply q<;>assumption⟩
theorem uq{K:aJ}:jm K (jc K) gw:=bU
inductive gx (ds:List PyData)(Q:PyData->Prop):Prop where
 | mk (L:ku) (ms:cW) (c:Nat) (ja:ds=[fh L,.int (c:Int)]) (jb:mX L ms) (kl:c < ms.length) (pY:Q (.list ((aU L (bH ms c)).map cG))):gx  ds Q
def fz(K:aJ):Sp:=ko K gx
theorem my:cz gx:=by
 rintro ds Q Q' f ⟨L,ms,c,z3,ok,hc,q⟩;exact⟨L,ms,c,z3,ok,hc,by intros;apply f;apply q<;>assumption⟩
theorem mz{K:aJ}:jm K (fz K) gx:=bU
inductive jQ (ds:List PyData)(Q:PyData->Prop):Prop where
 | mk (n:Int) (zs:List Nat) (ja:ds=[.int n,.list (bc zs)]) (jb:0 < zs.length) (kl:zs.length<=100) (pY:(∀z∈zs,z<=6)) (C3:∀k:Kd,uh zs k->Q (.tuple (Df k))):jQ  ds Q
def iG(K:aJ):Sp:=ko K jQ
theorem kU:cz jQ:=by
 rintro ds Q Q' f ⟨n,zs,z2,hz,iT,h6,q⟩;exact⟨n,zs,z2,hz,iT,h6,by intros;apply f;apply q<;>assumption⟩
theorem kW{K:aJ}:jm K (iG K) jQ:=bU
inductive iH (ds:List PyData)(Q:PyData->Prop):Prop where
 | mk (ns:List Int) (at':Nat) (ja:ds=[.list (ns.map PyData.int),.int (at':Int)]) (jb:ns.length<=63) (kl:at'<=1000) (pY:∀(ms:cW) (zs:List Nat),Good ms zs->Q (jv ms)):iH  ds Q
def jR(K:aJ):Sp:=ko K iH
theorem wL:cz iH:=by
 rintro ds Q Q' f ⟨ns,at',z2,hn,hat,q⟩;exact⟨ns,at',z2,hn,hat,by intros;apply f;apply q<;>assumption⟩
theorem wM{K:aJ}:jm K (jR K) iH:=bU
inductive jS (ds:List PyData)(Q:PyData->Prop):Prop where
 | mk (n:Int) (nr:Nat) (ja:ds=[.int n,.int (nr:Int)]) (jb:0 < nr) (kl:∀r:Rw,(r=.bare "toss"∨r=.bare "give"∨∃t,r=.jump t/\t < nr)->Q (yo r)):jS  ds Q
def kX(K:aJ):Sp:=ko K jS
theorem yH:cz jS:=by
 rintro ds Q Q' f ⟨n,nr,z2,hn,q⟩;exact⟨n,nr,z2,hn,by intros;apply f;apply q<;>assumption⟩
theorem yI{K:aJ}:jm K (kX K) jS:=bU
def kY:ES:=λds Q=>ds=[]/\Q (.list (bt.map PyData.str))
def jT(K:aJ):Sp:=ko K kY
theorem wN:cz kY:=by
 rintro ds Q Q' f ⟨z0,q⟩;exact⟨z0,by intros;apply f;apply q<;>assumption⟩
theorem wO{K:aJ}:jm K (jT K) kY:=bU
inductive lL (ds:List PyData)(Q:PyData->Prop):Prop where
 | mk (n:Int) (zs:List Nat) (np:Nat) (bx:Int) (nr:Nat) (ja:ds=[.int n,.list (bc zs),.int (np:Int),.int bx,.int (nr:Int)]) (jb:0 < zs.length) (kl:0 < np) (pY:0 < nr) (C3:∀r:Rw,(∀nb:Nat,bx=(nb:Int)->r.Ok zs np nb nr)->Kp r∈bt->Q (yo r)):lL  ds Q
def jU(K:aJ):Sp:=ko K lL
theorem sV:cz lL:=by
 rintro ds Q Q' f ⟨n,zs,np,bx,nr,z5,hz,hp,hn,q⟩;exact⟨n,zs,np,bx,nr,z5,hz,hp,hn,by intros;apply f;apply q<;>assumption⟩
theorem sW{K:aJ}:jm K (jU K) lL:=bU
inductive fA (ds:List PyData)(Q:PyData->Prop):Prop where
 | mk (n m:Int) (nr:Nat) (ja:ds=[.int n,.int m,.int (nr:Int)]) (jb:0 < nr) (kl:∀s:Nat×Nat×Nat,s.1 < s.2.1/\s.2.1<=nr/\s.2.2 < nr->Q (RV s)):fA  ds Q
def gZ(K:aJ):Sp:=ko K fA
theorem sX:cz fA:=by
 rintro ds Q Q' f ⟨n,m,nr,z3,hn,q⟩;exact⟨n,m,nr,z3,hn,by intros;apply f;apply q<;>assumption⟩
theorem sY{K:aJ}:jm K (gZ K) fA:=bU
inductive jV (ds:List PyData)(Q:PyData->Prop):Prop where
 | mk (ns:List Int) (at':Nat) (zs:List Nat) (np:Nat) (ja:ds=[.list (ns.map PyData.int),.int (at':Int),.list (bc zs),.int (np:Int)]) (jb:ns.length<=63) (kl:at'<=1000) (pY:0 < zs.length) (C3:zs.length<=100) (N4:(∀z∈zs,z<=6)) (N5:0 < np) (PY:∀p:Pt,CN zs np p->Q (L7 p)):jV  ds Q
def kZ(K:aJ):Sp:=ko K jV
theorem yJ:cz jV:=by
 rintro ds Q Q' f ⟨ns,at',zs,np,z4,hl,hat,hz,iT,h6,hp,q⟩;exact⟨ns,at',zs,np,z4,hl,hat,hz,iT,h6,hp,by intros;apply f;apply q<;>assumption⟩
theorem yK{K:aJ}:jm K (kZ K) jV:=bU
inductive jW (ds:List PyData)(Q:PyData->Prop):Prop where
 | mk (ns:List Int) (at':Nat) (ja:ds=[.list (ns.map PyData.int),.int (at':Int)]) (jb:ns.length<=63) (kl:at'<=100) (pY:∀(ms:cW) (zs:List Nat) (ps:List Pt),Good ms zs->0 < ps.length->ps.length<=8->(∀p∈ps,CN zs ps.length p)->Q (RW ms ps)):jW  ds Q
def k4(K:aJ):Sp:=ko K jW
theorem yL:cz jW:=by
 rintro ds Q Q' f ⟨ns,at',z2,hl,hat,q⟩;exact⟨ns,at',z2,hl,hat,by intros;apply f;apply q<;>assumption⟩
theorem yM{K:aJ}:jm K (k4 K) jW:=bU
inductive jX (ds:List PyData)(Q:PyData->Prop):Prop where
 | mk (r:kS) (ja:ds=[eX r]) (jb:r.length<=1000) (kl:Q (eX r)):jX  ds Q
def k6(K:aJ):Sp:=ko K jX
theorem yN:cz jX:=by
 rintro ds Q Q' f ⟨r,z1,hr,q⟩;exact⟨r,z1,hr,by intros;apply f;apply q<;>assumption⟩
theorem yO{K:aJ}:jm K (k6 K) jX:=bU
inductive gy (ds:List PyData)(Q:PyData->Prop):Prop where
 | mk (r:kS) (ps:List PX) (ja:ds=[pR r ps]) (jb:r.length<=1000) (kl:ps.length<=1000) (pY:Q (pR r ps)):gy  ds Q
def fB(K:aJ):Sp:=ko K gy
theorem jd:cz gy:=by
 rintro ds Q Q' f ⟨r,ps,z2,hm,hp,q⟩;exact⟨r,ps,z2,hm,hp,by intros;apply f;apply q<;>assumption⟩
theorem mB{K:aJ}:jm K (fB K) gy:=bU
inductive iI (ds:List PyData)(Q:PyData->Prop):Prop where
 | mk (L:ku) (ms:cW) (c:Nat) (ja:ds=[fh L,.int (c:Int)]) (jb:dJ L ms) (kl:Wf ms) (pY:c < ms.length) (C3:Q (.list (bc (bH ms c)))):iI  ds Q
def jY(K:aJ):Sp:=ko K iI
theorem wQ:cz iI:=by
 rintro ds Q Q' f ⟨L,ms,c,z3,hL,hw,hc,q⟩;exact⟨L,ms,c,z3,hL,hw,hc,by intros;apply f;apply q<;>assumption⟩
theorem wR{K:aJ}:jm K (jY K) iI:=bU
inductive iJ (ds:List PyData)(Q:PyData->Prop):Prop where
 | mk (L:ku) (ms:cW) (c:Nat) (ja:ds=[fh L,.int (c:Int)]) (jb:mX L ms) (kl:c < ms.length) (pY:Q (.list ((aU L (bH ms c)).map cG))):iJ  ds Q
def eB(K:aJ):Sp:=ko K iJ
theorem jZ:cz iJ:=by
 rintro ds Q Q' f ⟨L,ms,c,z3,ok,hc,q⟩;exact⟨L,ms,c,z3,ok,hc,by intros;apply f;apply q<;>assumption⟩
theorem j0{K:aJ}:jm K (eB K) iJ:=bU
inductive iK (ds:List PyData)(Q:PyData->Prop):Prop where
 | mk (L:ku) (ms:cW) (c:Nat) (ja:ds=[fh L,.int (c:Int)]) (jb:mX L ms) (kl:c < ms.length) (pY:Q (.int (((2 ^ uj L ms c:Nat):Int) - 1))):iK  ds Q
def j1(K:aJ):Sp:=ko K iK
theorem ow:cz iK:=by
 rintro ds Q Q' f ⟨L,ms,c,z3,ok,hc,q⟩;exact⟨L,ms,c,z3,ok,hc,by intros;apply f;apply q<;>assumption⟩
theorem oy{K:aJ}:jm K (j1 K) iK:=bU
inductive lM (ds:List PyData)(Q:PyData->Prop):Prop where
 | mk (L:ku) (ms:cW) (k:KI) (ja:ds=[fh L,cG k]) (jb:mX L ms) (kl:Q (.bool (BI L ms k))):lM  ds Q
def j4(K:aJ):Sp:=ko K lM
theorem sZ:cz lM:=by
 rintro ds Q Q' f ⟨L,ms,k,z3,ok,q⟩;exact⟨L,ms,k,z3,ok,by intros;apply f;apply q<;>assumption⟩
theorem tm{K:aJ}:jm K (j4 K) lM:=bU
inductive dE (ds:List PyData)(Q:PyData->Prop):Prop where
 | mk (ms:cW) (zs:List Nat) (p:PX) (ja:ds=[jv ms,fU p]) (jb:Good ms zs) (kl:N0 p) (pY:Q (.bool (dU zs p))):dE  ds Q
def fj(K:aJ):Sp:=ko K dE
theorem pZ:cz dE:=by
 rintro ds Q Q' f ⟨ms,zs,p,z3,g,ok,q⟩;exact⟨ms,zs,p,z3,g,ok,by intros;apply f;apply q<;>assumption⟩
theorem p5{K:aJ}:jm K (fj K) dE:=bU
inductive cA(K:aJ)(vs:List V)(H:Hp)(Q:VK)(C4:XK):Prop where
 | mk (t:Addr) (x:Int×Int×Int) (n:Nat) (ja:vs=[.ref t,.int (n:Int)]) (jb:e8 K H t [.int x.1,.int x.2.1,.int x.2.2]) (kl:Q (.bl (qM n x)) H):cA K vs H Q C4
inductive dM (ds:List PyData)(Q:PyData->Prop):Prop where
 | mk (x:Int×Int×Int) (n:Nat) (ja:ds=[mY x,.int (n:Int)]) (jb:Q (.bool (qM n x))):dM  ds Q
theorem lV:cz dM:=by
 rintro ds Q Q' f ⟨x,n,e,q⟩;exact⟨x,n,e,f _ q⟩
theorem lW{K:aJ}:jm K (cA K) dM:=by
 rintro vs H Q P ds hP hv ⟨x,n,rfl,q⟩;obtain⟨v,u,rfl,r1,r2⟩:=zW hv;rw[aM.aV r2];obtain⟨t,ys,rfl,hT,_,hY⟩:=aM.dF (show aM K P H v (.tuple _)from r1);obtain⟨a,b,c,rfl⟩:=Vw hY.1;have h0:=aM.aV (hY.2 0 a _ rfl rfl);have h1:=aM.aV (hY.2 1 b _ rfl rfl);have h2:=aM.aV (hY.2 2 c _ rfl rfl);subst h0;subst h1;subst h2;exact⟨t,x,n,rfl,hT,q _ H (.refl _) (.bl _)⟩
inductive b6 (ds:List PyData)(Q:PyData->Prop):Prop where
 | mk (p:PX) (ja:ds=[fU p]) (jb:N0 p) (kl:Q (.bool (ey p))):b6  ds Q
def cI(K:aJ):Sp:=ko K b6
theorem j5:cz b6:=by
 rintro ds Q Q' f ⟨p,z1,ok,q⟩;exact⟨p,z1,ok,by intros;apply f;apply q<;>assumption⟩
theorem j7{K:aJ}:jm K (cI K) b6:=bU
inductive k7(K:aJ)(vs:List V)(H:Hp)(Q:VK)(C4:XK):Prop where
 | mk (v:V) (t:String) (ja:vs=[v]) (jb:DW K H v t) (kl:Q (.bl (isInt v)) H):k7 K vs H Q C4
inductive m5(_K:aJ)(vs:List V)(H:Hp)(Q:VK)(C4:XK):Prop where
 | mk (n:Int) (ja:vs=[.int n]) (jb:Q (.bl (gX n)) H):m5 _K vs H Q C4
inductive rB(K:aJ)(vs:List V)(H:Hp)(Q:VK)(C4:XK):Prop where
 | mk (x:Str) (v:V) (t:String) (ja:vs=[.str x,v]) (jb:DW K H v t) (kl:(x="word"∨∃m:Int,iS iD x=some (.int m))) (pY:Q (.bl (PN x v)) H):rB K vs H Q C4
inductive Ap (ds:List PyData)(Q:PyData->Prop):Prop where
 | mk (w:Str) (d:PyData) (ja:ds=[.str w,d]) (jb:TY d) (kl:(w="word"∨∃m:Int,iS iD w=some (.int m))) (pY:Q (.bool (cU w d))):Ap  ds Q
theorem Iu:cz Ap:=by
 rintro ds Q Q' f ⟨w,d,e,h0,h1,q⟩;exact⟨w,d,e,h0,h1,f _ q⟩
theorem Iw{K:aJ}:jm K (rB K) Ap:=by
 rintro vs H Q P ds hP hv ⟨w,d,rfl,hd,hw,q⟩;obtain⟨v,u,rfl,r1,r2⟩:=zW hv;rw[aM.cv r1];rcases hd with⟨n,rfl⟩ | ⟨b,rfl⟩
 ·rw[aM.aV r2];exact⟨w,.int n,_,rfl,.int n,hw,q _ H (.refl _) (.bl _)⟩
 ·rw[aM.gR r2];exact⟨w,.bl b,_,rfl,.bl b,hw,q _ H (.refl _) (.bl _)⟩
inductive k8(K:aJ)(vs:List V)(H:Hp)(Q:VK)(C4:XK):Prop where
 | mk (x:Str) (ja:vs=[.str x]) (jb:∀(v:V) (H':Hp),bD H H'->(∃p,v=.ref p/\e8 K H' p ((aP x).map V.str))->Q v H'):k8 K vs H Q C4
inductive wU (ds:List PyData)(Q:PyData->Prop):Prop where
 | mk (s:Str) (ja:ds=[.str s]) (jb:Q (.tuple ((aP s).map PyData.str))):wU  ds Q
theorem yP:cz wU:=by
 rintro ds Q Q' f ⟨s,e,q⟩;exact⟨s,e,f _ q⟩
theorem yQ{K:aJ}:jm K (k8 K) wU:=by
 rintro vs H Q P ds hP hv ⟨s,rfl,q⟩;obtain⟨v,rfl,r1⟩:=pq hv;rw[aM.cv r1];refine⟨s,rfl,λv H' sm hp=>?_⟩;obtain⟨p,rfl,hT⟩:=hp;exact q _ H' sm (cy.OU (Ic hP sm hT) (BJ _))
inductive oz (ds:List PyData)(Q:PyData->Prop):Prop where
 | mk (d:PyData) (ja:ds=[d]) (jb:e7 d) (kl:Q (.bool (df d))):oz  ds Q
def p6(K:aJ):Sp:=ko K oz
theorem C5:cz oz:=by
 rintro ds Q Q' f ⟨d,z1,hd,q⟩;exact⟨d,z1,hd,by intros;apply f;apply q<;>assumption⟩
theorem C6{K:aJ}:jm K (p6 K) oz:=bU
inductive j8 (ds:List PyData)(Q:PyData->Prop):Prop where
 | mk (ms:cW) (zs:List Nat) (pl:List PyData) (p:PX) (s:Str) (ns:List Int) (w:Str) (n:Int) (ja:ds=[.tuple [jv ms,.list pl],fU p,.tuple (.str s::ns.map PyData.int),.str w,.int n]) (jb:Good ms zs) (kl:(w="field"->∃c:Nat,ns.head?=some (c:Int)/\c < ms.length)) (pY:Q (.bool (aT zs pl.length p.bx p.rows.length (ns.headD 0) w n))):j8  ds Q
def k9(K:aJ):Sp:=ko K j8
theorem yR:cz j8:=by
 rintro ds Q Q' f ⟨ms,zs,pl,p,s,ns,w,n,z8,g,hf,q⟩;exact⟨ms,zs,pl,p,s,ns,w,n,z8,g,hf,by intros;apply f;apply q<;>assumption⟩
theorem yS{K:aJ}:jm K (k9 K) j8:=bU
inductive eD (ds:List PyData)(Q:PyData->Prop):Prop where
 | mk (ms:cW) (zs:List Nat) (pl:List PyData) (p:PX) (d:PyData) (ja:ds=[.tuple [jv ms,.list pl],fU p,d]) (jb:Good ms zs) (kl:e7 d) (pY:Q (.bool (cE zs pl.length p.bx p.rows.length d))):eD  ds Q
def f9(K:aJ):Sp:=ko K eD
theorem qN:cz eD:=by
 rintro ds Q Q' f ⟨ms,zs,pl,p,d,z5,g,sh,q⟩;exact⟨ms,zs,pl,p,d,z5,g,sh,by intros;apply f;apply q<;>assumption⟩
theorem qP{K:aJ}:jm K (f9 K) eD:=bU
inductive fC (ds:List PyData)(Q:PyData->Prop):Prop where
 | mk (ms:cW) (zs:List Nat) (pl:List PyData) (p:PX) (ja:ds=[.tuple [jv ms,.list pl],fU p]) (jb:Good ms zs) (kl:N0 p) (pY:0 < p.rows.length) (C3:Q (optN (cb zs pl.length p))):fC  ds Q
def g8(K:aJ):Sp:=ko K fC
theorem tq:cz fC:=by
 rintro ds Q Q' f ⟨ms,zs,pl,p,z4,g,ok,h0,q⟩;exact⟨ms,zs,pl,p,z4,g,ok,h0,by intros;apply f;apply q<;>assumption⟩
theorem tw{K:aJ}:jm K (g8 K) fC:=bU
def j9(aj:Addr):De:=λds Q Ex=>∃(ms:cW) (zs:List Nat) (ps:List PX) (i:Nat) (p:PX),ds=[.tuple [jv ms,.list (ps.map fU)],.int (i:Int)]/\Good ms zs/\ps[i]?=some p/\N0 p/\(pQ zs ps.length p=none->Q .none)/\(∀a,pQ zs ps.length p=some a->Ex aj [("part",.int (i:Int)),("at",optN a)])
def je(K:aJ)(aj:Addr):Sp:=RQ K (j9 aj)
theorem ur{aj:Addr}:vk (j9 aj):=by
 rintro ds Q Q' X X' f f2 ⟨ms,zs,ps,i,p,e,g,hp,ok,q1,q2⟩;exact⟨ms,zs,ps,i,p,e,g,hp,ok,λz=>f _ (q1 z),λa z=>f2 _ _ (q2 a z)⟩
theorem uu{K:aJ}{aj:Addr}:z7 K (je K aj) (j9 aj):=Fm
inductive c6 (ds:List PyData)(Q:PyData->Prop):Prop where
 | mk (e:Option Int) (c:Nat) (ja:ds=[Dg e,.int (c:Int)]) (jb:Q (.bool (Dh c e))):c6  ds Q
def eE(K:aJ):Sp:=ko K c6
theorem oA:cz c6:=by
 rintro ds Q Q' f ⟨e,c,z2,q⟩;exact⟨e,c,z2,by intros;apply f;apply q<;>assumption⟩
theorem oB{K:aJ}:jm K (eE K) c6:=bU
inductive cJ (ds:List PyData)(Q:PyData->Prop):Prop where
 | mk (L:ku) (ms:cW) (c:Nat) (ja:ds=[fh L,.int (c:Int)]) (jb:mX L ms) (kl:c < ms.length) (pY:Q (.bool (wF L ms c))):cJ  ds Q
def dh(K:aJ):Sp:=ko K cJ
theorem lX:cz cJ:=by
 rintro ds Q Q' f ⟨L,ms,c,z3,ok,hc,q⟩;exact⟨L,ms,c,z3,ok,hc,by intros;apply f;apply q<;>assumption⟩
theorem lZ{K:aJ}:jm K (dh K) cJ:=bU
inductive cT (ds:List PyData)(Q:PyData->Prop):Prop where
 | mk (ld:kS) (b:Bool) (ja:ds=[eX ld]) (jb:ld.length<=1000) (kl:ua ld b) (pY:Q (.bool b)):cT  ds Q
def dN(K:aJ):Sp:=ko K cT
theorem m7:cz cT:=by
 rintro ds Q Q' f ⟨ld,b,z2,F9,h,q⟩;exact⟨ld,b,z2,F9,h,by intros;apply f;apply q<;>assumption⟩
theorem m8{K:aJ}:jm K (dN K) cT:=bU
def gz(aj:Addr):De:=λds Q Ex=>∃(ld:kS) (b:Bool) (ms:cW) (zs:List Nat) (ps:List PX),ds=[pR ld ps]/\ld.length<=1000/\ps.length<=100/\ua ld b/\(b=true->eX ld=jv ms/\Good ms zs)/\(∀p∈ps,N0 p)/\(qA b zs ps=none->Q .none)/\(∀a c,qA b zs ps=some (a,c)->Ex aj [("part",optN a),("at",optN c)])
def fD(K:aJ)(aj:Addr):Sp:=RQ K (gz aj)
theorem mC{aj:Addr}:vk (gz aj):=by
 rintro ds Q Q' X X' f f2 ⟨ld,b,ms,zs,ps,e,h1,h2,h3,h4,h5,q1,q2⟩;exact⟨ld,b,ms,zs,ps,e,h1,h2,h3,h4,h5,λz=>f _ (q1 z),λa c z=>f2 _ _ (q2 a c z)⟩
theorem mD{K:aJ}{aj:Addr}:z7 K (fD K aj) (gz aj):=Fm
inductive eF(K:aJ)(vs:List V)(H:Hp)(Q:VK)(C4:XK):Prop where
 | mk (u v:V) (ld:kS) (b:Bool) (zs:List Nat) (ps:List PX) (x:Int) (st a:Nat) (ja:vs=[u,v]) (jb:cy K H u (pR ld ps)) (kl:cy K H v (uk x st a)) (pY:ld.length<=1000) (C3:ua ld b) (N4:(b=true->∃ms,eX ld=jv ms/\Good ms zs)) (N5:zy 40 ps) (PY:ps.length<=12) (Vy:qA b zs ps=some (sS (x,st,a))) (Wt:∀H',bD H H'->Q (.bl true) H'):eF K vs H Q C4
inductive jf (ds:List PyData)(Q:PyData->Prop):Prop where
 | mk (ld:kS) (b:Bool) (zs:List Nat) (ps:List PX) (x:Int) (st a:Nat) (ja:ds=[pR ld ps,uk x st a]) (jb:ld.length<=1000) (kl:ua ld b) (pY:(b=true->∃ms,eX ld=jv ms/\Good ms zs)) (C3:zy 40 ps) (N4:ps.length<=12) (N5:qA b zs ps=some (sS (x,st,a))) (PY:Q (.bool true)):jf  ds Q
theorem tx:cz jf:=by
 rintro ds Q Q' f ⟨ld,b,zs,ps,x,st,a,e,h1,h2,h3,h4,h5,h6,q⟩;exact⟨ld,b,zs,ps,x,st,a,e,h1,h2,h3,h4,h5,h6,f _ q⟩
theorem tD{K:aJ}:jm K (eF K) jf:=by
 rintro vs H Q P ds hP hv ⟨ld,b,zs,ps,x,st,a,rfl,h1,h2,h3,h4,h5,h6,q⟩;obtain⟨u,v,rfl⟩:=TV hv.1;exact⟨u,v,ld,b,zs,ps,x,st,a,rfl,(hv.2 0 u _ rfl rfl).now,(hv.2 1 v _ rfl rfl).now,h1,h2,h3,h4,h5,h6,λH' s=>q _ H' s (cy.bl true)⟩
inductive fE (ds:List PyData)(Q:PyData->Prop):Prop where
 | mk (n:Int) (zs:List Nat) (ja:ds=[.int n,.list (bc zs)]) (jb:0 < zs.length) (kl:zs.length<=100) (pY:(∀z∈zs,z<=6)) (C3:∀k:KI,Af zs k=false->Q (cG k)):fE  ds Q
def eG(K:aJ):Sp:=ko K fE
theorem g9:cz fE:=by
 rintro ds Q Q' f ⟨n,zs,z2,hz,iT,h6,q⟩;exact⟨n,zs,z2,hz,iT,h6,by intros;apply f;apply q<;>assumption⟩
theorem hU{K:aJ}:jm K (eG K) fE:=bU
inductive eI (ds:List PyData)(Q:PyData->Prop):Prop where
 | mk (n:Int) (ms:cW) (zs:List Nat) (ja:ds=[.int n,eX (dm (loose ms)),.list (bc zs)]) (jb:Good ms zs) (kl:∀r:kS,ua r false->r.length<=1000->Q (eX r)):eI  ds Q
def gc(K:aJ):Sp:=ko K eI
theorem qQ:cz eI:=by
 rintro ds Q Q' f ⟨n,ms,zs,z3,hg,q⟩;exact⟨n,ms,zs,z3,hg,by intros;apply f;apply q<;>assumption⟩
theorem qR{K:aJ}:jm K (gc K) eI:=bU
inductive fF (ds:List PyData)(Q:PyData->Prop):Prop where
 | mk (n:Int) (zs:List Nat) (p:PX) (ja:ds=[.int n,.list (bc zs),fU p]) (jb:0 < zs.length) (kl:zs.length<=100) (pY:(∀z∈zs,z<=6)) (C3:p.tk.length<=40) (N4:-1<=p.bx) (N5:∀p':PX,dU zs p'=false->p'.tk.length<=40->-1<=p'.bx->p'.rows=p.rows->p'.ss=p.ss->Q (fU p')):fF  ds Q
def hV(K:aJ):Sp:=ko K fF
theorem tE:cz fF:=by
 rintro ds Q Q' f ⟨n,zs,p,z3,hz,iT,h6,Ga,hbx,q⟩;exact⟨n,zs,p,z3,hz,iT,h6,Ga,hbx,by intros;apply f;apply q<;>assumption⟩
theorem tF{K:aJ}:jm K (hV K) fF:=bU
inductive gA (ds:List PyData)(Q:PyData->Prop):Prop where
 | mk (n:Int) (zs:List Nat) (np:Nat) (p:PX) (ja:ds=[.int n,.list (bc zs),.int (np:Int),fU p]) (jb:0 < zs.length) (kl:∀d,e7 d->cE zs np p.bx p.rows.length d=false->Q d):gA  ds Q
def jg(K:aJ):Sp:=ko K gA
theorem uv:cz gA:=by
 rintro ds Q Q' f ⟨n,zs,np,p,z4,hz,q⟩;exact⟨n,zs,np,p,z4,hz,by intros;apply f;apply q<;>assumption⟩
theorem uw{K:aJ}:jm K (jg K) gA:=bU
inductive c7 (ds:List PyData)(Q:PyData->Prop):Prop where
 | mk (n:Int) (nr:Nat) (ja:ds=[.int n,.int (nr:Int)]) (jb:0 < nr) (kl:∀s:Int×Int×Int,qM nr s=false->Q (mY s)):c7  ds Q
def eJ(K:aJ):Sp:=ko K c7
theorem oC:cz c7:=by
 rintro ds Q Q' f ⟨n,nr,z2,hn,q⟩;exact⟨n,nr,z2,hn,by intros;apply f;apply q<;>assumption⟩
theorem oE{K:aJ}:jm K (eJ K) c7:=bU
inductive fG (ds:List PyData)(Q:PyData->Prop):Prop where
 | mk (n:Int) (k:Nat) (ld:kS) (zs:List Nat) (ps:List PX) (p:PX) (ja:ds=[.int n,.int (k:Int),pR ld ps,.list (bc zs)]) (jb:0 < zs.length) (kl:zs.length<=100) (pY:(∀z∈zs,z<=6)) (C3:ps[k]?=some p) (N4:Ma p) (N5:p.ss.length<=30) (PY:∀(p':PX) (st a:Nat),Ma p'->Due zs ps.length p p' st a->Q (.list [fU p',uk (k:Int) st a])):fG  ds Q
def eK(K:aJ):Sp:=ko K fG
theorem lb:cz fG:=by
 rintro ds Q Q' f ⟨n,k,ld,zs,ps,p,z6,hz,iT,h6,hp,hJ,T8,q⟩;exact⟨n,k,ld,zs,ps,p,z6,hz,iT,h6,hp,hJ,T8,by intros;apply f;apply q<;>assumption⟩
theorem lg{K:aJ}:jm K (eK K) fG:=bU
inductive du (ds:List PyData)(Q:PyData->Prop):Prop where
 | mk (n:Int) (ld:kS) (b:Bool) (zs:List Nat) (m:Nat) (ps:List PX) (ja:ds=[.int n,pR ld ps,.list (bc zs)]) (jb:0 < zs.length) (kl:zs.length<=100) (pY:(∀z∈zs,z<=6)) (C3:(ua ld b/\ld.length<=1000)) (N4:(n % 12=0->∃ms,Good ms zs/\ld=dm (loose ms))) (N5:(zy m ps/\ps.length<=12)) (PY:m<=30) (Vy:∀(ld':kS) (b':Bool) (ps':List PX) (x:Int) (st a:Nat),T6 ld b zs m ps ld' b' ps' x st a->Q (.list [pR ld' ps',uk x st a])):du  ds Q
def eM(K:aJ):Sp:=ko K du
theorem hX:cz du:=by
 rintro ds Q Q' f ⟨n,ld,b,zs,m,ps,z6,hz,iT,h6,hld,hms,hcl,hm,q⟩;exact⟨n,ld,b,zs,m,ps,z6,hz,iT,h6,hld,hms,hcl,hm,by intros;apply f;apply q<;>assumption⟩
theorem hZ{K:aJ}:jm K (eM K) du:=bU
inductive iL (ds:List PyData)(Q:PyData->Prop):Prop where
 | mk (n:Int) (ld:kS) (b:Bool) (zs:List Nat) (m:Nat) (ps:List PX) (x:Int) (st a:Nat) (ja:ds=[.int n,pR ld ps,uk x st a,.list (bc zs)]) (jb:0 < zs.length) (kl:zs.length<=100) (pY:(∀z∈zs,z<=6)) (C3:(ua ld b/\ld.length<=1000)) (N4:(¬ (x=-1/\st=0)->∃ms,Good ms zs/\ld=dm (loose ms))) (N5:(zy m ps/\ps.length<=12)) (PY:m<=30) (Vy:((x=-1/\st<=1/\a=0)∨∃(k:Nat) (p:PX),x=(k:Int)/\ps[k]?=some p/\ps.length<=8)) (Wt:∀(ld':kS) (b':Bool) (ps':List PX) (x':Int) (st' a':Nat),T6 ld b zs m ps ld' b' ps' x' st' a'->Q (.list [pR ld' ps',uk x' st' a'])):iL  ds Q
def ka(K:aJ):Sp:=ko K iL
theorem wV:cz iL:=by
 rintro ds Q Q' f ⟨n,ld,b,zs,m,ps,x,st,a,z9,hz,iT,h6,hld,hms,hcl,hm,hx,q⟩;exact⟨n,ld,b,zs,m,ps,x,st,a,z9,hz,iT,h6,hld,hms,hcl,hm,hx,by intros;apply f;apply q<;>assumption⟩
theorem wW{K:aJ}:jm K (ka K) iL:=bU
inductive tG(K:aJ)(vs:List V)(H:Hp)(Q:VK)(C4:XK):Prop where
 | mk (a:Addr) (ns:List Int) (ja:vs=[.ref a]) (jb:fV K H a (ns.map V.int)) (kl:ns.length<=63) (pY:∀H',Q (.bl true) H'):tG K vs H Q C4
section
variable {P:Program} {w:World} {K:aJ} {mg:Str->Option Value} {base:Heap}
theorem yT:aG ["self","part","at"] ["self","part","at"] (dS ju):=by walk_at "sc"
theorem yU{f:Addr}{fd:FuncData}(F:eW K "__init__" "NoBook.__init__" ju f fd):bE P w K mg base bM 1 f fd ["self","part","at"] (Ej K ["part","at"]) false:=by
 refine F.ok yT (λvs H Q E h=>?_) (λcdv A outer s H vs Q E hr h=>?_)
 ·obtain⟨a,C,ys,rfl,hl,_⟩:=h;exact X7 (· + 1) hl
 obtain⟨a,C,ys,rfl,hl,hk,hno,e,q⟩:=h;obtain⟨y0,y1,rfl⟩:=TV hl;refine⟨_,(qK (J4 (pv 0) (pv 1) rfl) (qO (J4 (pv 0) (pv 2) rfl))),?_⟩;refine⟨_,rfl,_,rfl,a,C,rfl,hk,hno _ (List.Mem.head _),.inl ⟨e,λdx hd hda=>?_⟩⟩;refine⟨_,rfl,_,rfl,a,C,rfl,hk,hno _ (List.Mem.tail _ (List.Mem.head _)),.inr ⟨dx,_,uS,(uN hda).trans uS,(by show 1 < 900;decide),?_⟩⟩;have z:=q dx hd hda;show Q .non _;rw[Lj hda];exact z
theorem eN:aG ["_law_script","_law_k","_law_cell","_law_other"] ["_law_script","_law_k"] (dS mO):=by walk_at "sc"
theorem wX{f:Addr}{fd:FuncData}(F:eW K "_law_draw" "_law_draw" mO f fd)(z_len:mg "len"=none):bE P w K mg base bM 1 f fd ["_law_script","_law_k"] (dW K):=by
 refine F.lI eN (λds Q h=>?_) (λcdv A outer s H E ds Q hr h=>?_)
 ·obtain⟨ns,k,rfl,hl,h0,h1,q⟩:=h;rfl
 obtain⟨ns,k,rfl,hl,h0,h1,q⟩:=h;show iu _ _ _ _ [some _,some _,none,none] [];have fin:=λx:Int=>q (x % 2305843009213693951) (YB x (by decide)) (Int.lt_trans (YS x (by decide)) (by decide))
 refine ai (az (i:=2) eN.nd rfl (Xo rfl) (fW ah (ae 1))) (λR kk=>?_);walk_at "vc";refine⟨.inl (.inl ⟨by decide,by decide⟩),kk _ _ ?_⟩;clear kk R;refine ai (aO (xZ (ae 1) (aI rfl z_len (aa (ae 0) af))) (aq (az (i:=2) eN.nd rfl (Xo rfl) (aY (ae 0) (ae 1) (λ_ _=>rfl)))) (aq (aO (qy (aI rfl z_len (aa (ae 0) af)) ah) (aZ (az (i:=3) eN.nd rfl (Xo rfl) (aY (ae 0) (ay (ax (fW ah (ae 1)) ah) (aI rfl z_len (aa (ae 0) af))) (λ_ _=>rfl)))
   (aq (az (i:=2) eN.nd rfl (Xo rfl) (ax (ax (ae 2) (aY (ae 0) (ay (ae 1) (aI rfl z_len (aa (ae 0) af))) (λ_ _=>rfl))) (fW ah (ay (ae 3) ah)))))) aw))) (λR kk=>?_)
 walk_at "vc";rw[Xk]
 have nx:∀(x:Int) (o:Option DV),R [some (DV.dat (PyData.list (List.map PyData.int ns))),some (DV.dat (PyData.int k)),some (.dat (.int x)),o] []:=λx o=>by
  refine kk _ _ ?_;clear kk R;refine aS (ar (ay (ax (fW (ae 2) ah) (fW ah (ae 1))) ah)) ?_;walk_at "vc";exact⟨.inl (.inr ⟨by decide,by decide⟩),.inl (.inl ⟨by decide,by decide⟩),by decide,fin _⟩
 refine aB (λc=>?_) (λc=>?_)
 ·have c:k < (ns.length:Int):=c;obtain⟨j,rfl⟩:∃j:Nat,k=(j:Int):=⟨k.toNat,by omega⟩;have hj:j < ns.length:=by omega
  exact⟨_,bP (f:=PyData.int) (dC hj),nx _ _⟩
 ·refine aB (λc1=>?_) (λc1=>nx _ _);have c1:(0:Int) < (ns.length:Int):=c1;have cn:0 < ns.length:=by omega
  obtain⟨v,hv⟩:=yw (ns:=ns) (i:=3 * k + 1) cn;obtain⟨u,hu⟩:=yw (ns:=ns) (i:=k) cn;refine⟨.inl (.inl ⟨by decide,by decide⟩),c1,_,hv,?_⟩;walk_at "vc";refine⟨c1,_,hu,?_⟩;walk_at "vc";exact⟨by decide,.inl (.inl ⟨by decide,by decide⟩),nx _ _⟩
theorem h7:aG ["_law_makes_here","_law_c","_law_found"] ["_law_makes_here","_law_c"] (dS jI):=by walk_at "sc"
theorem tH{f:Addr}{fd:FuncData}(F:eW K "_law_elders" "_law_elders" jI f fd):bE P w K mg base bM 1 f fd ["_law_makes_here","_law_c"] (jc K):=by
 refine F.lI h7 (λds Q h=>?_) (λcdv A outer s H E ds Q hr h=>?_)
 ·obtain⟨L,ms,c,rfl,hL,hw,hc,q⟩:=h;rfl
 obtain⟨L,ms,c,rfl,hL,hw,hc,q⟩:=h;show iu _ _ _ _ [some _,some _,none] [];refine ai (az (i:=2) h7.nd rfl (Xo rfl) (jH af)) (λR kk=>?_);walk_at "vc";refine kk _ _ ?_;clear kk R;refine ai (yc Ym (rn (ae 1) dc) (aZ (iA (fe (ae 2) (aa (ae 1) af)))
   (aq (az (i:=1) h7.nd rfl (Xo rfl) (aE (n:=0) (aY (ae 0) (ae 1) (λ_ _=>rfl))))))) (λR kk=>?_)
 refine Bz (λm env st=>∃(cur:Option Nat) (pre:List Nat),env=[some (.dat (fh L)),some (.dat (xE cur)),some (.ref 0)]/\st=[.live (bc pre)]/\(∀j,cur=some j->j < ms.length)/\pre++rest ms cur=bH ms c/\m=(match cur with | some j=>j + 1 | none=>0)) ⟨_,some c,[],rfl,rfl,λj hj=>by cases hj;exact hc,rfl,rfl⟩ ?_;rintro m env st ⟨cur,pre,rfl,rfl,hj,he,rfl⟩
 cases cur with
 | none =>
  rw[show xE none=.none from rfl];walk_at "vs";refine bZ (kk _ _ ?_);clear kk R;refine aS (ar (ae 2)) ?_;walk_at "vc";rw[show pre=bH ms c by rw[← he];simp[rest]];exact q
 | some j =>
  rw[show xE (some j)=.int (j:Int)from rfl];walk_at "vs";refine cc ?_;obtain⟨mk,hm,hel,hlt⟩:=hw.el (hj j rfl)
  have l8:pre.length<=100:=by
   have h1:=(dR hw c hc).1;have h2:(pre++rest ms (some j)).length=(bH ms c).length:=by rw[he]
   have h3:=hw.few;rw[Xw]at h2;omega
  obtain⟨lk,hlk⟩:=hL.at hm;rw[show fh L=.list (L.map qL)from rfl];walk_at "vc";refine⟨rfl,by rw[bV];omega,_,bP (f:=qL) hlk,?_⟩;rw[show qL (mk.1,lk)=.tuple [xE mk.1,.list (lk.map cG)]from rfl];walk_at "vc";refine⟨_,?_,mk.1,pre++[j],rfl,by rw[vo],λi hi=>?_,?_,rfl⟩
  ·cases e:mk.1 with
   | none=>exact aau _
   | some i=>have:=hlt i e;show i + 1 < j + 1;omega
  ·have:=hlt i hi;have:=hj j rfl;omega
  ·rw[← he,ZN];show pre++(j::rest ms mk.1)=pre++bH ms j;rw[fP hw (hj j rfl),hel]
theorem eO:aG ["_law_makes_here","_law_c","_law_found","_law_one"] ["_law_makes_here","_law_c"] (dS jJ):=by walk_at "sc"
theorem tI{f:Addr}{fd:FuncData}(F:eW K "_law_fields" "_law_fields" jJ f fd)(z_reversed:mg "reversed"=none)(ux:dj P w K mg base bM "_law_elders" 1 ["_law_makes_here","_law_c"] (jc K)):bE P w K mg base bM 2 f fd ["_law_makes_here","_law_c"] (fz K):=by
 refine F.lI eO (λds Q h=>?_) (λcdv A outer s H E ds Q hr h=>?_)
 ·obtain⟨L,ms,c,rfl,ok,hc,q⟩:=h;rfl
 obtain⟨L,ms,c,rfl,ok,hc,q⟩:=h;show iu _ _ _ _ [some _,some _,none,none] [];have hL:=ok.el;have hw:=ok.wf;refine ai (az (i:=2) eO.nd rfl (Or.inl rfl) (aF af)) (λR kk=>?_);walk_at "vc";refine kk _ _ ?_;clear kk R;refine ai (iW PassesOwn.never rfl (LG rfl z_reversed (aa (aA ux uq uo (hr.mono (by decide)) rfl (aa (ae 0) (aa (ae 1) af))) af)) (aQ (i:=3) eO.nd rfl (Or.inl rfl)) (aq (az (i:=2) eO.nd rfl (Or.inl rfl) (ax (ae 2) (aE (n:=1) (aY (ae 0) (ae 3) (λ_ _=>rfl))))))) (λR kk=>?_);walk_at "vc";refine⟨L,ms,c,rfl,hL,hw,hc,?_⟩;refine ee (λi env st=>∃(xs:List KI) (o3:Option DV),env=[some (.dat (fh L)),some (.dat (.int (c:Int))),some (.dat (.list (xs.map cG))),o3]/\st=[]/\xs=(((bH ms c).reverse.take i).map (cX L)).flatten/\xs.length<=50 * i) ⟨[],_,rfl,rfl,rfl,by simp⟩ (λ_ _ _ _=>trivial) ?_ ?_
 ·rintro i env st d hd ⟨xs,o3,rfl,rfl,hl,Wu⟩;rw[show(bc (bH ms c)).reverse=(bH ms c).reverse.map (λ(n:Nat)=>PyData.int (n:Int))from by unfold bc;rw[List.map_reverse]]at hd;obtain⟨j,hj,rfl⟩:=sk hd;have hel:j < ms.length:=by have:=(dR hw c hc).2 j (List.mem_reverse.mp (List.mem_of_getElem? hj));omega
  have hm:=dC hel
  have Wv:i < 8:=by
   have h1:=(dR hw c hc).1;have h2:=hw.few;have h3:=(bX hj).1;rw[ZC]at h3;omega
  obtain⟨lk,hlk⟩:=hL.at hm;have own:cX L j=lk:=by unfold cX;rw[hlk]
  have l6:lk.length<=50:=ok.few _ (List.mem_of_getElem? hlk);rw[show fh L=.list (L.map qL)from rfl];walk_at "vc";refine⟨_,bP (f:=qL) hlk,?_⟩;rw[show qL (ms[j].1,lk)=.tuple [xE ms[j].1,.list (lk.map cG)]from rfl];walk_at "vc";rw[List.length_map,List.length_map];refine⟨by omega,?_⟩;refine⟨xs++lk,_,by rw[List.map_append],rfl,?_,by rw[List.length_append];omega⟩;obtain⟨h1,h2⟩:=bX hj;rw[List.take_succ_eq_append_getElem h1,h2,List.map_append,List.flatten_append,hl];simp[own]
 ·rintro env st ⟨xs,o3,rfl,rfl,hl,_⟩;rw[List.length_reverse,bV,List.take_of_length_le (by simp),← fw]at hl;refine kk _ _ ?_;clear kk R;refine aS (ar (ae 2)) ?_;walk_at "vc";rw[hl];exact q
theorem oF:aG ["_law_cell","_law_sizes","_law_c"] ["_law_cell","_law_sizes"] (dS mP):=by walk_at "sc"
theorem wY{f:Addr}{fd:FuncData}(F:eW K "_law_kind" "_law_kind" mP f fd)(z_len:mg "len"=none):bE P w K mg base bM 1 f fd ["_law_cell","_law_sizes"] (iG K):=by
 refine F.lI oF (λds Q h=>?_) (λcdv A outer s H E ds Q hr h=>?_)
 ·obtain⟨n,zs,rfl,hz,iT,h6,q⟩:=h;rfl
 obtain⟨n,zs,rfl,hz,iT,h6,q⟩:=h;show iu _ _ _ _ [some _,some _,none] [];refine ai (az (i:=2) oF.nd rfl (Or.inl rfl) (ay (aL (ae 0) ah) (aI rfl z_len (aa (ae 1) af)))) (λR kk=>?_);walk_at "vc";rw[bV];obtain⟨c,ec,hc⟩:=bI (n / 4) (n:=zs.length) rfl hz;rw[ec];refine⟨bg (by decide) (by decide),by omega,kk _ _ ?_⟩;clear kk R;refine ai (aO (br (hr.units) (ay (ae 0) ah) ah) (aq (ar (au (aa aC af)))) aw) (λR kk=>?_);walk_at "vc";refine⟨by decide,aB (λ_=>q .any trivial) (λ_=>kk _ _ ?_)⟩;clear kk R;refine ai (aO (br (hr.units) (ay (ae 0) ah) ah) (aq (ar (au (aa aC af)))) aw) (λR kk=>?_);walk_at "vc";refine⟨by decide,aB (λ_=>q .num trivial) (λ_=>kk _ _ ?_)⟩;clear kk R;refine ai (aO (br (hr.units) (ay (ae 0) ah) ah) (aq (ar (au (aa aC (aa (ae 2) af))))) aw) (λR kk=>?_);walk_at "vc";refine⟨by decide,aB (λ_=>q (.whole c) hc) (λ_=>kk _ _ ?_)⟩;clear kk R;refine aS (ar (au (aa aC (aa (ae 2) (aa (ay (aL (ae 0) ah) (zU ah (aY (ae 1) (ae 2) (λ_ _=>rfl)))) af))))) ?_;walk_at "vc";have hzc:zs[c]?=some zs[c]:=dC hc;have h6c:=h6 _ (List.getElem_mem hc);refine⟨bg (by decide) (by decide),_,bP (f:=λ(n:Nat)=>PyData.int (n:Int)) hzc,?_⟩;generalize zs[c]=z at hzc h6c;walk_at "vc";have p2:(1:Int) * 2 ^ ((z:Int)).toNat=((2 ^ z:Nat):Int):=by rw[Int.toNat_natCast];simp
 have pz:0 < 2 ^ z:=Nat.pow_pos (by decide);rw[p2];obtain⟨b,eb,hb⟩:=bI (n / 32) (n:=2 ^ z) rfl pz;rw[eb];exact⟨⟨by omega,by omega,by decide⟩,by omega,q (.raw c b) ⟨z,hzc,hb⟩⟩
theorem bG:aG ["_law_script","_law_at","_law_shapes","_law_sizes","_law_c","_law_cell","_law_elder","_law_makes_here","_law_own"] ["_law_script","_law_at"] (dS kL):=by walk_at "sc"
theorem uy{f:Addr}{fd:FuncData}(F:eW K "_law_makes" "_law_makes" kL f fd)(z_len:mg "len"=none)(z_range:mg "range"=none)(aX:dj P w K mg base bM "_law_draw" 1 ["_law_script","_law_k"] (dW K))(iM:dj P w K mg base bM "_law_kind" 1 ["_law_cell","_law_sizes"] (iG K)):bE P w K mg base bM 2 f fd ["_law_script","_law_at"] (jR K):=by
 refine F.lI bG (λds Q h=>?_) (λcdv A outer s H E ds Q hr h=>?_)
 ·obtain⟨ns,at',rfl,hn,hat,q⟩:=h;rfl
 obtain⟨ns,at',rfl,hn,hat,q⟩:=h;show iu _ _ _ _ [some _,some _,none,none,none,none,none,none,none] [];refine ai (az (i:=2) bG.nd rfl (Xo rfl) (jH (aa (au (aa dc (aa ah af))) af))) (λR kk=>?_);walk_at "vc";refine kk _ _ ?_;clear kk R;refine ai (az (i:=3) bG.nd rfl (YD rfl) (jH (aa ah af))) (λR kk=>?_);walk_at "vc";refine kk _ _ ?_;clear kk R;refine ai (iW Ym rfl (vg rfl z_range (aa ah (aa (ax ah (ay (aA aX bj bh (hr.mono (by decide)) rfl (aa (ae 0) (aa (ae 1) af))) ah)) af))) (aQ (i:=4) bG.nd rfl (YD rfl)) (aZ (az (i:=5) bG.nd rfl (Xo rfl) (aA aX bj bh (hr.mono (by decide)) rfl (aa (ae 0) (aa (ax (ae 1) (ae 4)) af))))
   (aZ (az (i:=6) bG.nd rfl (Xo rfl) (ay (ae 5) (ae 4)))
   (aZ (aO (br (hr.units) (ay (aL (aA aX bj bh (hr.mono (by decide)) rfl (aa (ae 0) (aa (ae 1) af))) ah) ah) ah) (aq (az (i:=6) bG.nd rfl (Xo rfl) (dG (ae 4) ah))) aw)
   (aZ (iA (fe (ae 2) (aa (au (aa (ae 6) (aa (ay (aL (ae 5) ah) (dG ah (aY (ae 3) (ae 6) (λ_ _=>rfl)))) af))) af)))
   (aq (iA (fe (ae 3) (aa (ax (aY (ae 3) (ae 6) (λ_ _=>rfl)) (aE (n:=1) (aY (ae 2) (ae 4) (λ_ _=>rfl)))) af))))))))) (λR kk=>?_)
 walk_at "vc";refine⟨ns,_,rfl,hn,by omega,by omega,λv0 _ _=>?_⟩;obtain⟨w,ew,hw⟩:=bI v0 (m:=8) (n:=8) rfl (by decide);walk_at "vc";rw[ew];refine⟨by decide,⟨by decide,by decide,by omega,by omega⟩,?_⟩;refine ee (λi env st=>∃(sh:List (Option Nat×Nat)) (zs:List Nat) (o4 o5 o6:Option DV),env=[some (.dat (.list (ns.map PyData.int))),some (.dat (.int (at':Int))),some (.ref 0),some (.ref 1),o4,o5,o6,none,none]/\st=[.live (sh.map Aj),.live (bc zs)]/\ui sh zs/\sh.length=i + 1) ⟨[(none,0)],[0],_,_,_,rfl,rfl,ui.one,rfl⟩ (λ_ _ _ _=>trivial) ?_ ?_
 ·rintro i env st d hd ⟨sh,zs,o4,o5,o6,rfl,rfl,hO,hl⟩;obtain⟨hi,rfl⟩:=cZ hd;have hi:i < w:=by omega
  have hz:=hO.len;refine Fl (λR2 k2=>?_);walk_at "vc";refine⟨ns,_,rfl,hn,by omega,by omega,λv1 _ _=>?_⟩;walk_at "vc";obtain⟨e0,Ww,Wx⟩:=bI v1 (m:=1 + (i:Int)) (n:=i + 1) (by omega) (by omega);rw[Ww];refine⟨by omega,k2 _ _ ?_⟩;clear k2 R2;refine n9 (λR3 k3=>?_)
  have nx:∀e:Nat,e < i + 1->R3 [some (DV.dat (PyData.list (List.map PyData.int ns))),some (DV.dat (PyData.int ↑at')),some (DV.ref 0),some (DV.ref 1),some (DV.dat (PyData.int (1 + ↑i))),some (DV.dat (PyData.int v1)),some (DV.dat (PyData.int (e:Int))),none,none] [Ce.live (List.map Aj sh),Ce.live (bc zs)]:=λe he=>by
   refine k3 _ _ ?_;clear k3 R3;have hez:e < zs.length:=by omega
   have hze:zs[e]?=some zs[e]:=dC hez;have h6:=hO.six _ (Y0 hez);generalize zs[e]=z at hze h6;have hze':kz (bc zs) (e:Int)=some (.int (z:Int)):=bP (f:=λ(n:Nat)=>PyData.int (n:Int)) hze;walk_at "vc";obtain⟨o,eo,ho⟩:=bI (v1 / 8) (m:=7 - (z:Int)) (n:=7 - z) (by omega) (by omega);refine⟨rfl,bg (by decide) (by decide),_,hze',?_⟩;walk_at "vc";rw[eo];refine⟨by omega,by rw[Xk];omega,rfl,_,hze',?_⟩
   have hsh:kz (List.map Aj sh++[PyData.tuple [PyData.int (e:Int),PyData.int (o:Int)]]) (1 + (i:Int))=some (Aj (some e,o)):=by
    rw[show(1 + (i:Int))=((i + 1:Nat):Int)by omega,show List.map Aj sh++[PyData.tuple [PyData.int (e:Int),PyData.int (o:Int)]]=(sh++[(some e,o)]).map Aj by rw[Yb];rfl];exact bP (f:=Aj) (by rw[XO (by omega),hl,ZZ];rfl)
   refine⟨_,hsh,?_⟩;rw[show Aj (some e,o)=.tuple [.int (e:Int),.int (o:Int)]from rfl];walk_at "vc";refine⟨by rw[bV];omega,sh++[(some e,o)],zs++[z + o],_,_,_,rfl,?_,hO.snoc (by omega) hze (by omega),by simp[hl]⟩;rw[pS,List.map_append];rfl
  walk_at "vc";refine⟨ns,_,rfl,hn,by omega,by omega,λv2 _ _=>?_⟩;walk_at "vc";refine⟨bg (by decide) (by decide),by decide,aB (λ_=>?_) (λ_=>nx e0 Wx)⟩;rw[show 1 + (i:Int) - 1=((i:Nat):Int)by omega];exact nx i (Nat.lt_succ_self i)
 rintro env st ⟨sh,zs,o4,o5,o6,rfl,rfl,hO,hl⟩;rw[bJ]at hl;have h8:sh.length<=8:=by omega
 refine kk _ _ ?_;clear kk R;refine ai (az (i:=7) bG.nd rfl (Xo rfl) (jH af)) (λR kk=>?_);walk_at "vc";refine kk _ _ ?_;clear kk R;refine ai (iW Ym rfl (cD rfl z_range (aa (aI rfl z_len (aa (ae 2) af)) af)) (aQ (i:=4) bG.nd rfl (YD rfl)) (aZ (CJ LY (i:=8) bG.nd rfl (Xo rfl) 1 ["_law_k","_law_sizes","_law_script","_law_at","_law_c"] [3,0,1,4] ⟨rfl,rfl,rfl,rfl,rfl,rfl,rfl,rfl⟩ (LW (cD rfl z_range (aa (aE (n:=1) (aY (ae 2) (ae 4) (λ_ _=>rfl))) af))) (λ_ _ _ _=>(bY (i:=0) (show List.Nodup (["_law_k","_law_sizes","_law_script","_law_at","_law_c"]:List Str)by decide +kernel) rfl (Xo rfl))) (js (i:=0)) (lU (by decide)) (λ_ _ _ _=>⟨dZ,(aA iM kW kU (hr.mono (by decide)) rfl (aa (aA aX bj bh (hr.mono (by decide)) rfl (aa (ae 2) (aa (ax (ax (ax (ae 3) ah) (fW ah (ae 4))) (ae 0)) af))) (aa (ae 1) af)))⟩))
   (aq (iA (fe (ae 7) (aa (au (aa (aE (n:=0) (aY (ae 2) (ae 4) (λ_ _=>rfl))) (aa (ae 8) af))) af)))))) (λR kk=>?_)
 walk_at "vc";rw[List.length_map];refine⟨⟨by omega,by omega⟩,?_⟩;refine ee (λi env st=>∃(ms:cW) (o4 o8:Option DV),env=[some (.dat (.list (ns.map PyData.int))),some (.dat (.int (at':Int))),some (.ref 0),some (.ref 1),o4,o5,o6,some (.ref 2),o8]/\(∃c,st=[.live (sh.map Aj),c,.live (ms.map NY)]/\(c=.live (bc zs)∨c=.froz (bc zs)))/\ms.length=i/\∀(j:Nat) m,ms[j]?=some m->∃s,sh[j]?=some s/\m.1=s.1/\m.2.length=s.2/\∀k∈m.2,uh zs k) ⟨[],_,_,rfl,⟨_,rfl,.inl rfl⟩,rfl,(λj m hm=>by simp at hm)⟩ (λ_ _ _ _=>trivial) ?_ ?_
 ·rintro i env st d hd ⟨ms,p4,p8,rfl,⟨c,rfl,hc⟩,hlm,get⟩;obtain⟨hi,rfl⟩:=cZ hd;have hi:i < sh.length:=by simpa using hi
  have hsi:sh[i]?=some sh[i]:=dC hi;generalize sh[i]=si at hsi;have W9:=hO.T5 hsi;have hsi':kz (sh.map Aj) (0 + (i:Int))=some (Aj si):=by rw[show(0:Int) + (i:Int)=(i:Int)by omega];exact bP hsi
  refine n9 (λR2 k2=>?_)
  have nx:∀(ks:List Kd) (c:Ce),(c=.live (bc zs)∨c=.froz (bc zs))->ks.length=si.2->(∀k∈ks,uh zs k)->R2 [some (.dat (.list (ns.map PyData.int))),some (.dat (.int (at':Int))),some (.ref 0),some (.ref 1),some (.dat (.int (0 + (i:Int)))),o5,o6,some (.ref 2),some (.dat (.list (CM ks)))] [.live (sh.map Aj),c,.live (ms.map NY)]:=λks c hc hkl hko=>by
   refine k2 _ _ ?_;clear k2 R2;walk_at "vc";refine⟨rfl,_,hsi',?_⟩;rw[show Aj si=.tuple [xE si.1,.int (si.2:Int)]from rfl];walk_at "vc";refine⟨by rw[List.length_map];omega,ms++[(si.1,ks)],_,_,rfl,⟨c,by rw[List.map_append];rfl,hc⟩,by simp[hlm],λj m hm=>?_⟩;rcases EJ hm with⟨_,h⟩ | ⟨h,e⟩
   ·exact get j m h
   ·cases e;exact⟨si,by rw[h,hlm];exact hsi,rfl,hkl,hko⟩
  rw[show Aj si=.tuple [xE si.1,.int (si.2:Int)]from rfl]at hsi';walk_at "vc";refine⟨_,hsi',?_⟩;walk_at "vc";refine⟨⟨by omega,by omega⟩,by rw[Xk,bJ];omega,λk ys st'=>∃(c:Ce) (ks:List Kd),st'=[.live (sh.map Aj),c,.live (ms.map NY)]/\(c=.live (bc zs)∨c=.froz (bc zs))/\ys=ks.map (λk=>DV.dat (.tuple (Df k)))/\ks.length=k/\∀k∈ks,uh zs k,⟨c,[],rfl,hc,rfl,rfl,(λk hk=>nomatch hk)⟩,λ_ _ _ _=>trivial,?_,?_⟩
  ·rintro k ys st d ⟨c,ks,rfl,hc,rfl,hkl,hko⟩ hd;rw[XJ]at hd
   cases wk:(ug 0 ((si.2:Int)).toNat)[k]? with
   | none=>rw[wk]at hd;cases hd
   | some dk =>
    rw[wk]at hd;cases hd;obtain⟨hk,rfl⟩:=cZ wk;have hk:k < si.2:=by simpa using hk
    refine cc ?_;have hzl:=hO.len;rw[show ∀g:Nat->Option DV,([3,0,1,4].map g)=[g 3,g 0,g 1,g 4]from λ_=>rfl];rcases hc with rfl | rfl
    all_goals
     walk_at "vc";refine⟨.inl (.inl ⟨by decide,by decide⟩),ns,_,rfl,hn,by omega,by omega,λv _ _=>?_⟩;walk_at "vc";exact⟨v,zs,rfl,by omega,by omega,hO.six,λkd hkd=>⟨_,ks++[kd],rfl,.inr rfl,by rw[List.map_append];rfl,by simp[hkl],FA hko hkd⟩⟩
  ·rintro ys st ⟨c,ks,rfl,hc,rfl,hkl,hko⟩;rw[Xk,bJ,X1]at hkl;exact⟨CM ks,by rw[CM,YE];rfl,nx ks c hc hkl hko⟩
 rintro env st ⟨ms,p4,p8,rfl,⟨c,rfl,hc⟩,hlm,get⟩;rw[bJ]at hlm;refine kk _ _ ?_;clear kk R;refine aS (ar (ae 7)) ?_;walk_at "vc";exact q ms zs (Good.TZ hO h8 (by simpa using hlm) get)
theorem wZ:aG ["_law_cell","_law_many"] ["_law_cell","_law_many"] (dS mQ):=by walk_at "sc"
theorem w6{f:Addr}{fd:FuncData}(F:eW K "_law_last" "_law_last" mQ f fd):bE P w K mg base bM 1 f fd ["_law_cell","_law_many"] (kX K):=by
 refine F.lI wZ (λds Q h=>?_) (λcdv A outer s H E ds Q hr h=>?_)
 ·obtain⟨n,nr,rfl,hn,q⟩:=h;rfl
 obtain⟨n,nr,rfl,hn,q⟩:=h;show iu _ _ _ _ [some _,some _] [];refine aS (ar (aY (aF (aa (au (aa aC (aa (ay (aL (ae 0) ah) (ae 1)) af))) (aa (au (aa aC af)) (aa (au (aa aC af)) af)))) (ay (ae 0) ah) (λ_ _=>rfl))) ?_;walk_at "vc";obtain⟨a,ea,ha⟩:=bI (n / 3) (n:=nr) rfl hn;obtain⟨i,ei,hi⟩:=bI n (m:=3) (n:=3) rfl (by decide);rw[ea,ei];have i3:i=0∨i=1∨i=2:=by omega
 refine⟨bg (by decide) (by decide),by omega,by decide,?_⟩;rcases i3 with rfl | rfl | rfl
 ·exact⟨_,rfl,q (.jump a) (.inr (.inr ⟨a,rfl,ha⟩))⟩
 ·exact⟨_,rfl,q (.bare "toss") (.inl rfl)⟩
 ·exact⟨_,rfl,q (.bare "give") (.inr (.inl rfl))⟩
theorem mE:aG ["_law_some"] [] (dS kM):=by walk_at "sc"
theorem uz{f:Addr}{fd:FuncData}(F:eW K "_law_signs" "_law_signs" kM f fd):bE P w K mg base bM 1 f fd [] (jT K):=by
 refine F.lI mE (λds Q h=>?_) (λcdv A outer s H E ds Q hr h=>?_)
 ·obtain⟨rfl,q⟩:=h;rfl
 obtain⟨rfl,q⟩:=h;show iu _ _ _ _ [none] [];refine ai (az (i:=0) mE.nd rfl (Or.inl rfl) aC) (λR kk=>?_);walk_at "vc";refine kk _ _ ?_;clear kk R;refine aS (ar (Fx (ax (ae 0) aC) (aa aC af))) ?_;walk_at "vc";dsimp only[L2.Fv];walk_at "vc";refine⟨by decide +kernel,⟨by decide +kernel,by decide +kernel,by decide +kernel,by decide +kernel⟩,?_⟩;rw[CO];exact q
theorem iN:aG ["_law_cell","_law_sizes","_law_parts","_law_boxes","_law_many","_law_sign","_law_rest","_law_c"] ["_law_cell","_law_sizes","_law_parts","_law_boxes","_law_many"] (dS pH):=by walk_at "sc"
theorem yV{f:Addr}{fd:FuncData}(F:eW K "_law_row" "_law_row" pH f fd)(z_int:mg "int"=none)(z_len:mg "len"=none)(z_max:mg "max"=none)(w8:dj P w K mg base bM "_law_signs" 1 [] (jT K)):bE P w K mg base bM 2 f fd ["_law_cell","_law_sizes","_law_parts","_law_boxes","_law_many"] (jU K):=by
 refine F.lI iN (λds Q h=>?_) (λcdv A outer s H E ds Q hr h=>?_)
 ·obtain⟨n,zs,np,bx,nr,rfl,hz,hp,hn,q⟩:=h;rfl
 obtain⟨n,zs,np,bx,nr,rfl,hz,hp,hn,q⟩:=h;show iu _ _ _ _ [some _,some _,some _,some _,some _,none,none,none] [];have hsl:bt.length=25:=rfl;obtain⟨i,ei,hi⟩:=bI n (m:=25) (n:=25) rfl (by decide);have hxi:=dC (l:=bt) (i:=i) (by omega);have hx:=Y0 (l:=bt) (n:=i) (by omega);generalize bt[i]=x at hxi hx;refine ai (az (i:=5) iN.nd rfl (Xo rfl) (aY (ET w8 wO wN (hr.mono (by decide)) rfl) (ay (ae 0) ah) (λ_ _=>rfl))) (λR kk=>?_);walk_at "vc";rw[ei];refine⟨rfl,by decide,_,bP hxi,?_⟩;refine kk _ _ ?_;clear kk R;refine ai (az (i:=6) iN.nd rfl (Xo rfl) (aL (ae 0) ah)) (λR kk=>?_);walk_at "vc";refine⟨bg (by decide) (by decide),?_⟩;refine kk _ _ ?_;clear kk R;generalize n / 25=e;refine ai (az (i:=7) iN.nd rfl (Xo rfl) (ay (ae 6) (aI rfl z_len (aa (ae 1) af)))) (λR kk=>?_);walk_at "vc";rw[bV];obtain⟨k,ek,hk⟩:=bI e (n:=zs.length) rfl hz;rw[ek];refine⟨by omega,kk _ _ ?_⟩;clear kk R;refine ai (aO (br (hr.units) (ae 5) aC) (aq (ar (au (aa (ae 5) (aa (dG (ay (ae 6) ah) ah) af))))) aw) (λR kk=>?_);walk_at "vc";refine aB (λz=>?_) (λzA=>kk _ _ ?_)
 ·have w0:=YB e (show(4294967296:Int)≠0 by decide);have w1:=YS e (show(0:Int) < 4294967296 by decide);have z:x="push":=z;refine⟨by decide,?_⟩;rw[z];exact q (.push (e % 4294967296 - 2147483648)) (λ_ _=>⟨by omega,by omega⟩) (show("push" : Str)∈bt by decide +kernel)
 clear kk R;refine ai (aO (ve (ae 5) (au (aa aC (aa aC af))) rfl) (aq (ar (aY (aF (aa (au (aa (ae 5) (aa (ay (ae 6) (LC rfl rfl z_max (aa (ae 3) (aa ah af)))) af))) (aa (au (aa aC af)) af))) (fO rfl z_int (aa (Bj (hr.units) (ae 3) ah) af)) (λ_ _=>rfl)))) aw) (λR kk=>?_);walk_at "vc";rw[show([.str (Str.ofString "load"),.str (Str.ofString "store")]:List PyData)=(["load","store"]:List Str).map PyData.str from rfl,fN];refine⟨⟨rfl,rfl⟩,aB (λz=>?_) (λzB=>kk _ _ ?_)⟩
 ·have hm:(0:Int) < if (1:Int) > bx then 1 else bx:=by split<;>omega
  obtain⟨b,eb,hb⟩:=bI e (m:=if (1:Int) > bx then 1 else bx) (n:=(if (1:Int) > bx then 1 else bx).toNat) (by omega) (by omega);rw[eb];refine⟨hm,?_⟩;by_cases h0:bx=0
  ·rw[Xm h0];exact⟨_,rfl,q (.bare "drop") (λ_ _=>show("drop" : Str)∈sF by decide +kernel) (show("drop" : Str)∈bt by decide +kernel)⟩
  ·rw[Xp h0];refine⟨_,rfl,?_⟩
   have ok:∀nb:Nat,bx=(nb:Int)->b < nb:=λnb e=>by
    have:¬ (1:Int) > bx:=by omega
    rw[XA this]at hb;omega
   simp only[List.mem_cons,List.not_mem_nil,or_false]at z;rcases z with rfl | rfl
   ·exact q (.load b) ok hx
   ·exact q (.store b) ok hx
 clear kk R;refine ai (aO (ve (ae 5) (au (aa aC (aa aC af))) rfl) (aq (ar (au (aa (ae 5) (aa (ay (ae 6) (ae 4)) af))))) aw) (λR kk=>?_);walk_at "vc";rw[show([.str (Str.ofString "jump"),.str (Str.ofString "zero")]:List PyData)=(["jump","zero"]:List Str).map PyData.str from rfl,fN];obtain⟨a,ea,ha⟩:=bI e (n:=nr) rfl hn;obtain⟨b,eb,hb⟩:=bI (e / 8) (n:=nr) rfl hn;refine⟨⟨rfl,rfl⟩,aB (λz=>?_) (λzC=>kk _ _ ?_)⟩
 ·rw[ea];refine⟨by omega,?_⟩;simp only[List.mem_cons,List.not_mem_nil,or_false]at z;rcases z with rfl | rfl
  ·exact q (.jump a) (λ_ _=>ha) hx
  ·exact q (.zero a) (λ_ _=>ha) hx
 clear kk R;refine ai (aO (br (hr.units) (ae 5) aC) (aq (ar (au (aa (ae 5) (aa (ae 7) (aa (ay (aL (ae 6) ah) (ae 4)) af)))))) aw) (λR kk=>?_);walk_at "vc";refine aB (λz=>?_) (λzD=>kk _ _ ?_)
 ·have z:x="kin":=z;subst z;rw[eb];exact⟨bg (by decide) (by decide),by omega,q (.kin k b) (λ_ _=>⟨hk,hb⟩) hx⟩
 clear kk R;refine ai (aO (br (hr.units) (ae 5) aC) (aq (ar (au (aa (ae 5) (aa (ay (ae 6) (ae 2)) af))))) aw) (λR kk=>?_);walk_at "vc";refine aB (λz=>?_) (λzE=>kk _ _ ?_)
 ·have z:x="call":=z;subst z;obtain⟨p,ep,hpp⟩:=bI e (n:=np) rfl hp;rw[ep];exact⟨by omega,q (.call p) (λ_ _=>hpp) hx⟩
 clear kk R;have hzk:=dC hk;generalize zs[k]=zk at hzk;have hat:kz (bc zs) (k:Int)=some (.int (zk:Int)):=bP (f:=λ(n:Nat)=>PyData.int (n:Int)) hzk;refine ai (aO (t9.dt (wg (ve (ae 5) (au (aa aC (aa aC (aa aC af)))) rfl) (rq (qy (aY (ae 1) (ae 7) (λ_ _=>rfl)) ah)))) (aq (ar (au (aa (ae 5) (aa (ae 7) (aa (ay (aL (ae 6) ah) (aY (ae 1) (ae 7) (λ_ _=>rfl))) af)))))) aw) (λR kk=>?_);walk_at "vc";rw[show([.str (Str.ofString "fill"),.str (Str.ofString "get"),.str (Str.ofString "put")]:List PyData)=(["fill","get","put"]:List Str).map PyData.str from rfl,fN]
 have nx:R [some (.dat (.int n)),some (.dat (.list (bc zs))),some (.dat (.int (np:Int))),some (.dat (.int bx)),some (.dat (.int (nr:Int))),some (.dat (.str x)),some (.dat (.int e)),some (.dat (.int (k:Int)))] []:=by
  refine kk _ _ ?_;clear kk R;refine ai (aO (ve (ae 5) (au (aa aC (aa aC (aa aC (aa aC (aa aC af)))))) rfl) (aq (ar (au (aa (aY (aF (aa aC (aa aC af))) (ay (ae 6) ah) (λ_ _=>rfl)) (aa (ae 7) af))))) aw) (λR kk=>?_);walk_at "vc";rw[show([.str (Str.ofString "make"),.str (Str.ofString "fill"),.str (Str.ofString "begin"),.str (Str.ofString "get"),.str (Str.ofString "put")]:List PyData)=(["make","fill","begin","get","put"]:List Str).map PyData.str from rfl,fN];refine⟨⟨rfl,rfl⟩,aB (λz=>?_) (λzG=>kk _ _ ?_)⟩
  ·obtain⟨j,ej,hj⟩:=bI e (m:=2) (n:=2) rfl (by decide);rw[ej];have j2:j=0∨j=1:=by omega
   rcases j2 with rfl | rfl
   ·exact⟨by decide,_,rfl,q (.make k) (λ_ _=>hk) (show("make" : Str)∈bt by decide +kernel)⟩
   ·exact⟨by decide,_,rfl,q (.beg k) (λ_ _=>hk) (show("begin" : Str)∈bt by decide +kernel)⟩
  clear kk R;refine aS (ar (au (aa (ae 5) af))) ?_;walk_at "vc";refine q (.bare x) (λ_ _=>?_) hx;rcases CP x hx with h | h | h | h | h | h | h | h
  ·exact absurd h zA
  ·exact absurd h zB
  ·exact absurd h zC
  ·exact absurd h zD
  ·exact absurd h zE
  ·exact absurd (by simp only[List.mem_cons,List.not_mem_nil,or_false]at h ⊢;rcases h with h | h | h<;>simp[h]) zG
  ·exact absurd h zG
  ·exact h
 refine⟨⟨rfl,rfl⟩,aB (λz=>⟨_,hat,?_⟩) (λ_=>nx)⟩;walk_at "vc";refine aB (λy=>⟨bg (by decide) (by decide),_,hat,?_⟩) (λ_=>nx);walk_at "vc";have y:(0:Int) < (zk:Int):=y;obtain⟨f,ef,hf⟩:=bI (e / 8) (n:=zk) rfl (by omega);rw[ef];refine⟨y,?_⟩;simp only[List.mem_cons,List.not_mem_nil,or_false]at z;rcases z with rfl | rfl | rfl
 ·exact q (.fill k f) (λ_ _=>⟨zk,hzk,hf⟩) hx
 ·exact q (.get k f) (λ_ _=>⟨zk,hzk,hf⟩) hx
 ·exact q (.put k f) (λ_ _=>⟨zk,hzk,hf⟩) hx
theorem km:aG ["_law_cell","_law_other","_law_many","_law_first"] ["_law_cell","_law_other","_law_many"] (dS iX):=by walk_at "sc"
theorem qS{f:Addr}{fd:FuncData}(F:eW K "_law_stretch" "_law_stretch" iX f fd):bE P w K mg base bM 1 f fd ["_law_cell","_law_other","_law_many"] (gZ K):=by
 refine F.lI km (λds Q h=>?_) (λcdv A outer s H E ds Q hr h=>?_)
 ·obtain⟨n,m,nr,rfl,hn,q⟩:=h;rfl
 obtain⟨n,m,nr,rfl,hn,q⟩:=h;show iu _ _ _ _ [some _,some _,some _,none] [];obtain⟨a,ea,ha⟩:=bI n (n:=nr) rfl hn;obtain⟨b,eb,hb⟩:=bI m (n:=nr) rfl hn;obtain⟨c,ec,hc⟩:=bI (n / 100) (m:=(nr:Int) - (a:Int)) (n:=nr - a) (by omega) (by omega);refine ai (az (i:=3) km.nd rfl (Xo rfl) (ay (ae 0) (ae 2))) (λR kk=>?_);walk_at "vc";rw[ea];refine⟨by omega,kk _ _ ?_⟩;clear kk R;refine aS (ar (au (aa (ae 3) (aa (ax (ax (ae 3) ah) (ay (aL (ae 0) ah) (dG (ae 2) (ae 3)))) (aa (ay (ae 1) (ae 2)) af))))) ?_;walk_at "vc";rw[eb,ec];refine⟨bg (by decide) (by decide),by omega,by omega,?_⟩;exact q (a,a + 1 + c,b) ⟨by show a < a + 1 + c;omega,by show a + 1 + c<=nr;omega,hb⟩
theorem bA:aG ["_law_script","_law_at","_law_sizes","_law_parts","_law_cell","_law_many","_law_boxes","_law_takes","_law_gives","_law_seed","_law_cells","_law_rows","_law_stretches","_law_k"] ["_law_script","_law_at","_law_sizes","_law_parts"] (dS mR):=by walk_at "sc"
theorem w9{f:Addr}{fd:FuncData}(F:eW K "_law_part" "_law_part" mR f fd)(z_range:mg "range"=none)(aX:dj P w K mg base bM "_law_draw" 1 ["_law_script","_law_k"] (dW K))(iM:dj P w K mg base bM "_law_kind" 1 ["_law_cell","_law_sizes"] (iG K))(yW:dj P w K mg base bM "_law_last" 1 ["_law_cell","_law_many"] (kX K))(m9:dj P w K mg base bM "_law_row" 2 ["_law_cell","_law_sizes","_law_parts","_law_boxes","_law_many"] (jU K))(tJ:dj P w K mg base bM "_law_stretch" 1 ["_law_cell","_law_other","_law_many"] (gZ K)):bE P w K mg base bM 3 f fd ["_law_script","_law_at","_law_sizes","_law_parts"] (kZ K):=by
 refine F.lI bA (λds Q h=>?_) (λcdv A outer s H E ds Q hr h=>?_)
 ·obtain⟨ns,at',zs,np,rfl,hl,hat,hz,iT,h6,hp,q⟩:=h;rfl
 obtain⟨ns,at',zs,np,rfl,hl,hat,hz,iT,h6,hp,q⟩:=h;show iu _ _ _ _ [some _,some _,some _,some _,none,none,none,none,none,none,none,none,none,none] [];refine ai (az (i:=4) bA.nd rfl (Xo rfl) (aA aX bj bh (hr.mono (by decide)) rfl (aa (ae 0) (aa (ae 1) af)))) (λR kk=>?_);walk_at "vc";refine⟨ns,_,rfl,hl,by omega,by omega,λv0 Xa _=>kk _ _ ?_⟩;clear kk R;refine ai (az (i:=5) bA.nd rfl (YD rfl) (ax ah (ay (ae 4) ah))) (λR kk=>?_);walk_at "vc";refine⟨by decide,kk _ _ ?_⟩;clear kk R;refine ai (aO (br (hr.units) (ay (aL (ae 4) ah) ah) ah) (aq (az (i:=5) bA.nd rfl (YD rfl) (dG ah (ay (aL (ae 4) ah) ah)))) aw) (λR kk=>?_)
 have nx:∀nr:Nat,1<=nr->nr<=100->R [some (.dat (.list (ns.map PyData.int))),some (.dat (.int (at':Int))),some (.dat (.list (bc zs))),some (.dat (.int (np:Int))),some (.dat (.int v0)),some (.dat (.int (nr:Int))),none,none,none,none,none,none,none,none] []:=λnr n1 Wy=>by
  refine kk _ _ ?_;clear kk R;refine ai (az (i:=6) bA.nd rfl (YD rfl) (ay (aL (ae 4) ah) ah)) (λR kk=>?_);walk_at "vc";obtain⟨nb,eb,hb⟩:=bI (v0 / 2000) (m:=9) (n:=9) rfl (by decide);rw[eb];refine⟨bg (by decide) (by decide),by decide,kk _ _ ?_⟩;clear kk R;refine ai (pC Bv (i:=7) bA.nd rfl (Xo rfl) 1 ["_law_k","_law_sizes","_law_script","_law_at"] [2,0,1] ⟨rfl,rfl,rfl,rfl,rfl,rfl,rfl,rfl⟩ (cD rfl z_range (aa (ay (aL (ae 4) ah) (ax (ae 6) ah)) af)) (λ_ _ _ _=>(bY (i:=0) (show List.Nodup (["_law_k","_law_sizes","_law_script","_law_at"]:List Str)by decide +kernel) rfl (Xo rfl))) (js (i:=0)) (lU (by decide)) (λ_ _ _ _=>⟨dZ,(aA iM kW kU (hr.mono (by decide)) rfl (aa (aA aX bj bh (hr.mono (by decide)) rfl (aa (ae 2) (aa (ax (ax (ae 3) ah) (ae 0)) af))) (aa (ae 1) af)))⟩)) (λR kk=>?_);walk_at "vc";obtain⟨nt,et,ht⟩:=bI (v0 / 18000) (m:=(nb:Int) + 1) (n:=nb + 1) (by omega) (by omega);rw[et];refine⟨bg (by decide) (by decide),by omega,⟨by omega,by omega⟩,?_⟩;rw[show ∀g:Nat->Option DV,([2,0,1].map g)=[g 2,g 0,g 1]from λ_=>rfl];refine BH (uh zs) (λk=>.tuple (Df k)) (by rw[bJ];omega) (λi d hd W N hW=>?_) (λks hkl hks=>?_)
  ·obtain⟨hi,rfl⟩:=cZ hd;walk_at "vc";refine⟨rfl,rfl,cc ⟨ns,_,rfl,hl,by omega,by omega,λv1 _ _=>?_⟩⟩;walk_at "vc";exact⟨_,zs,rfl,hz,iT,h6,λk hk=>⟨rfl,hW k hk⟩⟩
  rw[bJ]at hkl;have hkl:ks.length=nt:=by omega
  refine kk _ _ ?_;clear kk R;refine ai (az (i:=8) bA.nd rfl (Xo rfl) (aA iM kW kU (hr.mono (by decide)) rfl (aa (aA aX bj bh (hr.mono (by decide)) rfl (aa (ae 0) (aa (ax (ae 1) ah) af))) (aa (ae 2) af)))) (λR kk=>?_);walk_at "vc";refine⟨ns,_,rfl,hl,by omega,by omega,λv2 _ _=>?_⟩;walk_at "vc";refine⟨_,zs,rfl,hz,iT,h6,λgk hgk=>kk _ _ ?_⟩;clear kk R;refine ai (az (i:=9) bA.nd rfl (YD rfl) (ay (aA aX bj bh (hr.mono (by decide)) rfl (aa (ae 0) (aa (ax (ae 1) ah) af))) ah)) (λR kk=>?_);walk_at "vc";refine⟨ns,_,rfl,hl,by omega,by omega,λv3 _ _=>?_⟩;walk_at "vc";refine⟨by decide,kk _ _ ?_⟩;clear kk R;refine ai (pC Bv (i:=10) bA.nd rfl (Xo rfl) 1 ["_law_k","_law_script","_law_seed","_law_at"] [0,9,1] ⟨rfl,rfl,rfl,rfl,rfl,rfl,rfl,rfl⟩ (cD rfl z_range (aa (dG (ae 5) ah) af)) (λ_ _ _ _=>(bY (i:=0) (show List.Nodup (["_law_k","_law_script","_law_seed","_law_at"]:List Str)by decide +kernel) rfl (Xo rfl))) (js (i:=0)) (lU (by decide)) (λ_ _ _ _=>⟨dZ,(ax (aA aX bj bh (hr.mono (by decide)) rfl (aa (ae 1) (aa (ax (ax (ae 3) ah) (ae 0)) af))) (ay (fW (ae 2) (fW (aL (ae 0) ah) (ae 0))) ah))⟩)) (λR kk=>?_);walk_at "vc";refine⟨⟨by omega,by omega⟩,?_⟩;rw[show ∀g:Nat->Option DV,([0,9,1].map g)=[g 0,g 9,g 1]from λ_=>rfl];refine BH (λ_=>True) PyData.int (by rw[bJ];omega) (λi d hd W N hW=>?_) (λcs hcl _=>?_)
  ·obtain⟨hi,rfl⟩:=cZ hd;walk_at "vc";refine⟨rfl,rfl,cc ⟨ns,_,rfl,hl,by omega,by omega,λv1 _ _=>?_⟩⟩;walk_at "vc";have z0:(0:Int)<=(0 + (i:Int)) / 6 * (0 + (i:Int)):=Int.mul_nonneg (by omega) (by omega);have Xb:=YB v3 (show(1000003:Int)≠0 by decide);have Xc:=YS v3 (show(0:Int) < 1000003 by decide);exact⟨bg (by decide) (by decide),.inl (.inr ⟨by omega,by omega⟩),.inl (.inl ⟨by omega,by omega⟩),by decide,rfl,hW _ trivial⟩
  rw[bJ]at hcl;refine kk _ _ ?_;clear kk R;refine ai (az (i:=11) bA.nd rfl (Xo rfl) (ax (mv 1 ["_law_one","_law_sizes","_law_parts","_law_boxes","_law_many"] [2,3,6,5] ⟨rfl,rfl,rfl,rfl,rfl,rfl,rfl,rfl⟩ (mK (ae 10)) (λ_ _ _ _=>(bY (i:=0) (show List.Nodup (["_law_one","_law_sizes","_law_parts","_law_boxes","_law_many"]:List Str)by decide +kernel) rfl (Xo rfl))) (js (i:=0)) (lU (by decide)) (λ_ _ _ _=>⟨dZ,(aA m9 sW sV (hr.mono (by decide)) rfl (aa (ae 0) (aa (ae 1) (aa (ae 2) (aa (ae 3) (aa (ae 4) af))))))⟩)) (aF (aa (aA yW yI yH (hr.mono (by decide)) rfl (aa (ae 9) (aa (ae 5) af))) af)))) (λR kk=>?_);walk_at "vc";rw[show ∀g:Nat->Option DV,([2,3,6,5].map g)=[g 2,g 3,g 6,g 5]from λ_=>rfl];refine BH (λr:Rw=>r.Ok zs np nb nr) yo (by rw[Xk];omega) (λi d hd W N hW=>?_) (λrs hrl hrs=>?_)
  ·obtain⟨c,_,rfl⟩:=sk hd;walk_at "vc";exact⟨rfl,rfl,cc ⟨_,zs,np,_,nr,rfl,hz,hp,n1,λr hr _=>⟨rfl,hW r (hr nb rfl)⟩⟩⟩
  rw[Xk]at hrl;walk_at "vc";refine⟨_,nr,rfl,n1,λlr hlr=>?_⟩;walk_at "vc";rw[Xk];refine⟨by omega,kk _ _ ?_⟩;clear kk R;refine ai (az (i:=12) bA.nd rfl (Xo rfl) (jH af)) (λR kk=>?_);walk_at "vc";refine kk _ _ ?_;clear kk R;refine ai (iW Ym rfl (cD rfl z_range (aa (ay (aA aX bj bh (hr.mono (by decide)) rfl (aa (ae 0) (aa (ax (ae 1) ah) af))) ah) af)) (aQ (i:=13) bA.nd rfl (Xo rfl)) (aq (iA (fe (ae 12) (aa (aA tJ sY sX (hr.mono (by decide)) rfl (aa (aA aX bj bh (hr.mono (by decide)) rfl (aa (ae 0) (aa (ax (ax (ae 1) ah) (ae 13)) af))) (aa (aL (aA aX bj bh (hr.mono (by decide)) rfl (aa (ae 0) (aa (ax (ax (ae 1) ah) (ae 13)) af))) ah) (aa (ae 5) af)))) af))))) (λR kk=>?_);walk_at "vc";refine⟨ns,_,rfl,hl,by omega,by omega,λv4 _ _=>?_⟩;obtain⟨sc,es,hs⟩:=bI v4 (m:=9) (n:=9) rfl (by decide);walk_at "vc";rw[es];refine⟨by decide,⟨by omega,by omega⟩,?_⟩;refine ee (λi env st=>∃(ss:List (Nat×Nat×Nat)) (Gy:Option DV),env=[some (.dat (.list (ns.map PyData.int))),some (.dat (.int (at':Int))),some (.dat (.list (bc zs))),some (.dat (.int (np:Int))),some (.dat (.int v0)),some (.dat (.int (nr:Int))),some (.dat (.int (nb:Int))),some (.dat (.list (ks.map λk=>.tuple (Df k)))),some (.dat (.tuple (Df gk))),some (.dat (.int (v3 % 1000003))),some (.dat (.list (cs.map PyData.int))),some (.dat (.list (rs.map yo++[yo lr]))),some (.ref 0),Gy]/\st=[.live (ss.map RV)]/\ss.length=i/\∀s∈ss,s.1 < s.2.1/\s.2.1<=nr/\s.2.2 < nr) ⟨[],_,rfl,rfl,rfl,(λs h=>nomatch h)⟩ (λ_ _ _ _=>trivial) ?_ ?_
  ·rintro i env st d hd ⟨ss,Gy,rfl,rfl,hsl,hso⟩;obtain⟨hi,rfl⟩:=cZ hd;have hi:i < sc:=by simpa using hi
   walk_at "vc";refine⟨rfl,ns,_,rfl,hl,by omega,by omega,λv5 _ _=>?_⟩;walk_at "vc";refine⟨ns,_,rfl,hl,by omega,by omega,λv6 _ _=>?_⟩;walk_at "vc";refine⟨bg (by decide) (by decide),_,_,nr,rfl,n1,λs hs=>?_⟩;refine⟨by rw[List.length_map];omega,ss++[s],_,rfl,by rw[List.map_append];rfl,by simp[hsl],λt ht=>?_⟩;rcases List.mem_append.mp ht with z | z
   ·exact hso t z
   ·rw[xF z];exact hs
  rintro env st ⟨ss,Gy,rfl,rfl,hsl,hso⟩;rw[bJ]at hsl;refine kk _ _ ?_;clear kk R;refine aS (ar (au (aa (ae 7) (aa (ae 8) (aa (ae 6) (aa (ax ah (ay (aL (ae 4) ah) ah)) (aa (ae 11) (aa (ae 12) af)))))))) ?_;walk_at "vc";obtain⟨ht,eh,hh⟩:=bI (v0 / 7) (m:=8) (n:=8) rfl (by decide);rw[eh,show(1:Int) + (ht:Int)=((1 + ht:Nat):Int)by omega,show List.map yo rs++[yo lr]=(rs++[lr]).map yo by rw[Yb];rfl];have Vz:(rs++[lr]).length=nr:=by rw[Xw,hrl];show cs.length + 1=nr;omega
  refine⟨bg (by decide) (by decide),by decide,q ⟨ks,gk,nb,1 + ht,rs++[lr],ss⟩ ⟨hks,hgk,by show nb<=8;omega,by show ks.length<=nb;omega,by show 1<=1 + ht;omega,by show 1 + ht<=8;omega,by show 1<=(rs++[lr]).length;omega,by show(rs++[lr]).length<=100;omega,λr hr=>?_,⟨rs,lr,rfl,?_⟩,by show ss.length<=8;omega,λs hs=>?_⟩⟩
  ·show r.Ok zs np nb (rs++[lr]).length;rw[Vz];rcases Yg.mp hr with z | z
   ·exact hrs r z
   ·rw[xF z];rcases hlr with rfl | rfl | ⟨t,rfl,h⟩
    ·exact show("toss" : Str)∈sF by decide +kernel
    ·exact show("give" : Str)∈sF by decide +kernel
    ·exact h
  ·rcases hlr with h | h | ⟨t,h,_⟩
   ·exact .inl h
   ·exact .inr (.inl h)
   ·exact .inr (.inr ⟨t,h⟩)
  ·show s.1 < s.2.1/\s.2.1<=(rs++[lr]).length/\s.2.2 < (rs++[lr]).length;rw[Vz];exact hso s hs
 walk_at "vc";refine⟨bg (by decide) (by decide),by decide,aB (λ_=>?_) (λ_=>?_)⟩
 ·obtain⟨c,ec,hc⟩:=bI (v0 / 48) (m:=40) (n:=40) rfl (by decide);rw[ec];refine⟨bg (by decide) (by decide),by decide,?_⟩;rw[show(100:Int) - (c:Int)=((100 - c:Nat):Int)by omega];exact nx _ (by omega) (by omega)
 ·obtain⟨c,ec,hc⟩:=bI v0 (m:=6) (n:=6) rfl (by decide);rw[ec,show(1:Int) + (c:Int)=((1 + c:Nat):Int)by omega];exact nx _ (by omega) (by omega)
theorem gB:aG ["_law_script","_law_at","_law_makes_here","_law_sizes","_law_parts"] ["_law_script","_law_at"] (dS mS):=by walk_at "sc"
theorem xa{f:Addr}{fd:FuncData}(F:eW K "_law_book" "_law_book" mS f fd)(z_len:mg "len"=none)(z_range:mg "range"=none)(aX:dj P w K mg base bM "_law_draw" 1 ["_law_script","_law_k"] (dW K))(jh:dj P w K mg base bM "_law_fields" 2 ["_law_makes_here","_law_c"] (fz K))(xb:dj P w K mg base bM "_law_makes" 2 ["_law_script","_law_at"] (jR K))(yX:dj P w K mg base bM "_law_part" 3 ["_law_script","_law_at","_law_sizes","_law_parts"] (kZ K)):bE P w K mg base bM 4 f fd ["_law_script","_law_at"] (k4 K):=by
 refine F.lI gB (λds Q h=>?_) (λcdv A outer s H E ds Q hr h=>?_)
 ·obtain⟨ns,at',rfl,hl,hat,q⟩:=h;rfl
 obtain⟨ns,at',rfl,hl,hat,q⟩:=h;show iu _ _ _ _ [some _,some _,none,none,none] [];refine ai (az (i:=2) gB.nd rfl (YD rfl) (aA xb wM wL (hr.mono (by decide)) rfl (aa (ae 0) (aa (ax (ae 1) ah) af)))) (λR kk=>?_);walk_at "vc";refine⟨ns,at' + 8,rfl,hl,by omega,λms zs hg=>kk _ _ ?_⟩;clear kk R;have hne:=hg.wf.ne;have few:=hg.wf.few;have hzl:=hg.len;rw[jO];rw[show fh (loose ms)=.list ((loose ms).map qL)from rfl];have hll:(loose ms).length=ms.length:=(er ms).len;refine ai (az (i:=3) gB.nd rfl (YD rfl) (mv 1 ["_law_c","_law_makes_here"] [2] ⟨rfl,rfl,rfl,rfl,rfl,rfl,rfl,rfl⟩ (cD rfl z_range (aa (aI rfl z_len (aa (ae 2) af)) af)) (λ_ _ _ _=>(bY (i:=0) (show List.Nodup (["_law_c","_law_makes_here"]:List Str)by decide +kernel) rfl (Xo rfl))) (js (i:=0)) (lU (by decide)) (λ_ _ _ _=>⟨dZ,(aI rfl z_len (aa (aA jh mz my (hr.mono (by decide)) rfl (aa (ae 1) (aa (ae 0) af))) af))⟩))) (λR kk=>?_);walk_at "vc";rw[show ∀g:Nat->Option DV,([2].map g)=[g 2]from λ_=>rfl,Xk,hll];refine⟨⟨by omega,by omega⟩,?_⟩;refine Bu (λi ys=>ys=bc (zs.take i)) (by rw[bJ];omega) rfl (λi ys d hd hy=>?_) (λys hy=>?_)
 ·obtain⟨hi,rfl⟩:=cZ hd;have hi:i < ms.length:=by simpa using hi
  have hiz:i < zs.length:=by omega
  have hz:=dC hiz;walk_at "vc";refine⟨rfl,rfl,cc ⟨loose ms,ms,i,by rw[show(0:Int) + (i:Int)=(i:Int)by omega];rfl,mX.loose hg,hi,?_⟩⟩;walk_at "vc";rw[Xk,hy,show(aU (loose ms) (bH ms i)).length=zs[i]from jy hg hz,Zq hiz,pS];exact⟨rfl,rfl⟩
 rw[bJ]at hy;have hy:ys=bc zs:=by rw[hy,aae (by omega)]
 subst hy;refine kk _ _ ?_;clear kk R;refine ai (az (i:=4) gB.nd rfl (YD rfl) (ax ah (ay (aA aX bj bh (hr.mono (by decide)) rfl (aa (ae 0) (aa (ae 1) af))) ah))) (λR kk=>?_);walk_at "vc";refine⟨ns,_,rfl,hl,by omega,by omega,λv _ _=>?_⟩;obtain⟨m,em,hm⟩:=bI v (m:=8) (n:=8) rfl (by decide);walk_at "vc";rw[em,show(1:Int) + (m:Int)=((1 + m:Nat):Int)by omega];refine⟨by decide,kk _ _ ?_⟩;clear kk R;refine aS (ar (au (aa (ae 2) (aa (mv 1 ["_law_p","_law_script","_law_sizes","_law_parts","_law_at"] [0,3,4,1] ⟨rfl,rfl,rfl,rfl,rfl,rfl,rfl,rfl⟩ (cD rfl z_range (aa (ae 4) af)) (λ_ _ _ _=>(bY (i:=0) (show List.Nodup (["_law_p","_law_script","_law_sizes","_law_parts","_law_at"]:List Str)by decide +kernel) rfl (Xo rfl))) (js (i:=0)) (lU (by decide)) (λ_ _ _ _=>⟨dZ,(aA yX yK yJ (hr.mono (by decide)) rfl (aa (ae 1) (aa (ax (ax (ae 4) ah) (fW ah (ae 0))) (aa (ae 2) (aa (ae 3) af)))))⟩)) af)))) ?_;walk_at "vc";rw[show ∀g:Nat->Option DV,([0,3,4,1].map g)=[g 0,g 3,g 4,g 1]from λ_=>rfl];refine⟨⟨by omega,by omega⟩,?_⟩;refine BH (λp:Pt=>CN zs (1 + m) p) L7 (by rw[bJ];omega) (λi d hd W N hW=>?_) (λps hpl hps=>?_)
 ·obtain⟨hi,rfl⟩:=cZ hd;walk_at "vc";exact⟨rfl,rfl,cc ⟨.inl (.inl ⟨by decide,by decide⟩),ns,at' + 1 + 9 * i,zs,1 + m,by rw[show(at':Int) + 1 + 9 * (0 + (i:Int))=((at' + 1 + 9 * i:Nat):Int)by omega],hl,by omega,by omega,by omega,hg.six,by omega,λp hp=>⟨rfl,hW p hp⟩⟩⟩
 rw[bJ]at hpl;have hpl:ps.length=1 + m:=by omega
 walk_at "vc";rw[show(PyData.tuple [.list ((loose ms).map qL),.list (ps.map L7)])=RW ms ps from by rw[show PyData.list ((loose ms).map qL)=fh (loose ms)from rfl,← jO];rfl];exact q ms zs ps hg (by omega) (by omega) (by rw[hpl];exact hps)
theorem xc:aG ["_law_makes_here"] ["_law_makes_here"] (dS mT):=by walk_at "sc"
theorem xf{f:Addr}{fd:FuncData}(F:eW K "_law_copy" "_law_copy" mT f fd)(z_list:mg "list"=none):bE P w K mg base bM 1 f fd ["_law_makes_here"] (k6 K):=by
 refine F.lI xc (λds Q h=>?_) (λcdv A outer s H E ds Q hr h=>?_)
 ·obtain⟨r,rfl,hr,q⟩:=h;rfl
 obtain⟨r,rfl,hr,q⟩:=h;show iu _ _ _ _ [some _] [];refine aS (ar (mv 2 ["_law_elder","_law_own"] [] ⟨rfl,rfl,rfl,rfl,rfl,rfl,rfl,rfl⟩ (mK (ae 0)) (λ_ _ _ _=>(vG rfl (gO (bY (i:=0) (show List.Nodup (["_law_elder","_law_own"]:List Str)by decide +kernel) rfl (Xo rfl)) (gO (bY (i:=1) (show List.Nodup (["_law_elder","_law_own"]:List Str)by decide +kernel) rfl (Xo rfl)) rj)))) (LH (m:=2) (kK (js (i:=0)) (kK (js (i:=1)) BA))) (Py (n6 (lU (by decide)) (n6 (lU (by decide)) Bt))) (λ_ _ _ _=>⟨dZ,(au (aa (ae 0) (aa (n5 rfl z_list (aa (ae 1) af)) af)))⟩))) ?_;rw[show eX r=.list (r.map c9)from rfl]at *;walk_at "vc";refine sE r c9 c9 rfl (by omega) (λi a ha P N hP=>?_) ?_
 ·rw[show c9 a=.tuple [Dg a.1,.list (a.2.map cG)]from rfl]at *;walk_at "vc";exact⟨rfl,rfl,rfl,cc ⟨rfl,hP⟩⟩
 walk_at "vc";exact q
theorem bS:aG ["_law_book_here","_law_parts","_law_takes","_law_gives","_law_boxes","_law_height","_law_rows","_law_stretches"] ["_law_book_here"] (dS jK):=by walk_at "sc"
theorem tK{f:Addr}{fd:FuncData}(F:eW K "_law_copied" "_law_copied" jK f fd)(z_list:mg "list"=none)(yY:dj P w K mg base bM "_law_copy" 1 ["_law_makes_here"] (k6 K)):bE P w K mg base bM 2 f fd ["_law_book_here"] (fB K):=by
 refine F.lI bS (λds Q h=>?_) (λcdv A outer s H E ds Q hr h=>?_)
 ·obtain⟨r,ps,rfl,hm,hp,q⟩:=h;rfl
 obtain⟨r,ps,rfl,hm,hp,q⟩:=h;show iu _ _ _ _ [some _,none,none,none,none,none,none,none] [];rw[show pR r ps=.tuple [eX r,.list (ps.map fU)]from rfl]at *;refine ai (az (i:=1) bS.nd rfl (Xo rfl) (jH af)) (λR kk=>?_);walk_at "vc";refine kk _ _ ?_;clear kk R;refine ai (iW Ym rfl (mK (aE (n:=1) (ae 0))) (pB (m:=6) rfl (aR (aQ (i:=2) bS.nd rfl (Xo rfl)) (aR (aQ (i:=3) bS.nd rfl (Xo rfl)) (aR (aQ (i:=4) bS.nd rfl (Xo rfl)) (aR (aQ (i:=5) bS.nd rfl (Xo rfl)) (aR (aQ (i:=6) bS.nd rfl (Xo rfl)) (aR (aQ (i:=7) bS.nd rfl (Xo rfl)) fv))))))) (aq (iA (fe (ae 1) (aa (au (aa (n5 rfl z_list (aa (ae 2) af)) (aa (ae 3) (aa (ae 4) (aa (ae 5) (aa (n5 rfl z_list (aa (ae 6) af)) (aa (n5 rfl z_list (aa (ae 7) af)) af))))))) af))))) (λR kk=>?_);walk_at "vc";refine ee (λi env st=>∃(o2 o3 o4 o5 o6 o7:Option DV),env=[some (.dat (.tuple [eX r,.list (ps.map fU)])),some (.ref 0),o2,o3,o4,o5,o6,o7]/\st=[.live ((ps.take i).map fU)]) ⟨_,_,_,_,_,_,rfl,rfl⟩ (λ_ _ _ _=>trivial) ?_ ?_
 ·rintro i env st d hd ⟨o2,o3,o4,o5,o6,o7,rfl,rfl⟩;obtain⟨p,w,rfl⟩:=sk hd;have hi:=(bX w).1;rw[show fU p=.tuple [.list (p.tk.map cG),cG p.gv,.int p.bx,.int p.ht,.list p.rows,.list (p.ss.map mY)]from rfl];walk_at "vc";refine⟨rfl,rfl,by rw[Xk,XC];omega,_,_,_,_,_,_,rfl,?_⟩;rw[List.take_add_one,w,Yb];rfl
 rintro env st ⟨o2,o3,o4,o5,o6,o7,rfl,rfl⟩;rw[Xk,Z0];refine kk _ _ ?_;clear kk R;refine aS (ar (au (aa (aA yY yO yN (hr.mono (by decide)) rfl (aa (aE (n:=0) (ae 0)) af)) (aa (ae 1) af)))) ?_;walk_at "vc";exact⟨r,rfl,hm,q⟩
theorem kb:aG ["makes","c","elders"] ["makes","c"] (dS kN):=by walk_at "sc"
theorem xg{f:Addr}{fd:FuncData}(F:eW K "elders_of" "elders_of" kN f fd):bE P w K mg base bM 1 f fd ["makes","c"] (jY K):=by
 refine F.lI kb (λds Q h=>?_) (λcdv A outer s H E ds Q hr h=>?_)
 ·obtain⟨L,ms,c,rfl,hL,hw,hc,q⟩:=h;rfl
 obtain⟨L,ms,c,rfl,hL,hw,hc,q⟩:=h;show iu _ _ _ _ [some _,some _,none] [];refine ai (az (i:=2) kb.nd rfl (Xo rfl) (jH af)) (λR kk=>?_);walk_at "vc";refine kk _ _ ?_;clear kk R;refine ai (yc Ym (rn (ae 1) dc) (aZ (iA (fe (ae 2) (aa (ae 1) af)))
   (aq (az (i:=1) kb.nd rfl (Xo rfl) (aE (n:=0) (aY (ae 0) (ae 1) (λ_ _=>rfl))))))) (λR kk=>?_)
 refine Bz (λm env st=>∃(cur:Option Nat) (pre:List Nat),env=[some (.dat (fh L)),some (.dat (xE cur)),some (.ref 0)]/\st=[.live (bc pre)]/\(∀j,cur=some j->j < ms.length)/\pre++rest ms cur=bH ms c/\m=(match cur with | some j=>j + 1 | none=>0)) ⟨_,some c,[],rfl,rfl,λj hj=>by cases hj;exact hc,rfl,rfl⟩ ?_;rintro m env st ⟨cur,pre,rfl,rfl,hj,he,rfl⟩
 cases cur with
 | none =>
  rw[show xE none=.none from rfl];walk_at "vs";refine bZ (kk _ _ ?_);clear kk R;refine aS (ar (ae 2)) ?_;walk_at "vc";rw[show pre=bH ms c by rw[← he];simp[rest]];exact q
 | some j =>
  rw[show xE (some j)=.int (j:Int)from rfl];walk_at "vs";refine cc ?_;obtain⟨mk,hm,hel,hlt⟩:=hw.el (hj j rfl)
  have l8:pre.length<=100:=by
   have h1:=(dR hw c hc).1;have h2:(pre++rest ms (some j)).length=(bH ms c).length:=by rw[he]
   have h3:=hw.few;rw[Xw]at h2;omega
  obtain⟨lk,hlk⟩:=hL.at hm;rw[show fh L=.list (L.map qL)from rfl];walk_at "vc";refine⟨rfl,by rw[bV];omega,_,bP (f:=qL) hlk,?_⟩;rw[show qL (mk.1,lk)=.tuple [xE mk.1,.list (lk.map cG)]from rfl];walk_at "vc";refine⟨_,?_,mk.1,pre++[j],rfl,by rw[vo],λi hi=>?_,?_,rfl⟩
  ·cases e:mk.1 with
   | none=>exact aau _
   | some i=>have:=hlt i e;show i + 1 < j + 1;omega
  ·have:=hlt i hi;have:=hj j rfl;omega
  ·rw[← he,ZN];show pre++(j::rest ms mk.1)=pre++bH ms j;rw[fP hw (hj j rfl),hel]
theorem gE:aG ["makes","c","fields","elder"] ["makes","c"] (dS kO):=by walk_at "sc"
theorem xh{f:Addr}{fd:FuncData}(F:eW K "fields_of" "fields_of" kO f fd)(z_list:mg "list"=none)(yZ:dj P w K mg base bM "elders_of" 1 ["makes","c"] (jY K)):bE P w K mg base bM 2 f fd ["makes","c"] (eB K):=by
 refine F.lI gE (λds Q h=>?_) (λcdv A outer s H E ds Q hr h=>?_)
 ·obtain⟨L,ms,c,rfl,ok,hc,q⟩:=h;rfl
 obtain⟨L,ms,c,rfl,ok,hc,q⟩:=h;show iu _ _ _ _ [some _,some _,none,none] [];have hL:=ok.el;have hw:=ok.wf;refine ai (az (i:=2) gE.nd rfl (Or.inl rfl) (aF af)) (λR kk=>?_);walk_at "vc";refine kk _ _ ?_;clear kk R;refine ai (iW PassesOwn.never rfl (mK (aA yZ wR wQ (hr.mono (by decide)) rfl (aa (ae 0) (aa (ae 1) af)))) (aQ (i:=3) gE.nd rfl (Or.inl rfl)) (aq (az (i:=2) gE.nd rfl (Or.inl rfl) (ax (n5 rfl z_list (aa (aE (n:=1) (aY (ae 0) (ae 3) (λ_ _=>rfl))) af)) (ae 2))))) (λR kk=>?_);walk_at "vc";refine⟨L,ms,c,rfl,hL,hw,hc,?_⟩;refine ee (λi env st=>∃(xs:List KI) (o3:Option DV),env=[some (.dat (fh L)),some (.dat (.int (c:Int))),some (.dat (.list (xs.map cG))),o3]/\st=[]/\xs=aU L ((bH ms c).take i)/\xs.length<=50 * i) ⟨[],_,rfl,rfl,rfl,by simp⟩ (λ_ _ _ _=>trivial) ?_ ?_
 ·rintro i env st d hd ⟨xs,o3,rfl,rfl,hl,Wu⟩;obtain⟨j,hj,rfl⟩:=sk hd;have hel:j < ms.length:=by have:=(dR hw c hc).2 j (Xy hj);omega
  have hm:=dC hel
  have Wv:i < 8:=by
   have h1:=(dR hw c hc).1;have h2:=hw.few;have h3:=(bX hj).1;omega
  obtain⟨lk,hlk⟩:=hL.at hm;have own:cX L j=lk:=by unfold cX;rw[hlk]
  have l6:lk.length<=50:=ok.few _ (List.mem_of_getElem? hlk);rw[show fh L=.list (L.map qL)from rfl];walk_at "vc";refine⟨_,bP (f:=qL) hlk,?_⟩;rw[show qL (ms[j].1,lk)=.tuple [xE ms[j].1,.list (lk.map cG)]from rfl];walk_at "vc";rw[List.length_map,List.length_map];refine⟨by omega,?_⟩;refine⟨lk++xs,_,by rw[List.map_append],rfl,?_,by rw[List.length_append];omega⟩;obtain⟨h1,h2⟩:=bX hj;rw[fw,List.take_succ_eq_append_getElem h1,h2,List.reverse_append,List.map_append,List.flatten_append,hl,fw];simp[own]
 ·rintro env st ⟨xs,o3,rfl,rfl,hl,_⟩;rw[bV,Z0]at hl;refine kk _ _ ?_;clear kk R;refine aS (ar (ae 2)) ?_;walk_at "vc";rw[hl];exact q
theorem xi:aG ["makes","c"] ["makes","c"] (dS kP):=by walk_at "sc"
theorem xj{f:Addr}{fd:FuncData}(F:eW K "full_mask" "full_mask" kP f fd)(z_len:mg "len"=none)(fS:dj P w K mg base bM "fields_of" 2 ["makes","c"] (eB K)):bE P w K mg base bM 3 f fd ["makes","c"] (j1 K):=by
 refine F.lI xi (λds Q h=>?_) (λcdv A outer s H E ds Q hr h=>?_)
 ·obtain⟨L,ms,c,rfl,ok,hc,q⟩:=h;rfl
 obtain⟨L,ms,c,rfl,ok,hc,q⟩:=h;show iu _ _ _ _ [some _,some _] [];refine aS (ar (dG (zU ah (aI rfl z_len (aa (aA fS j0 jZ (hr.mono (by decide)) rfl (aa (ae 0) (aa (ae 1) af))) af))) ah)) ?_;walk_at "vc";refine⟨L,ms,c,rfl,ok,hc,?_⟩;walk_at "vc";have VA:=ok.sz c hc;rw[List.length_map];unfold uj at VA q;generalize (aU L (bH ms c)).length=z at VA q;refine⟨⟨by omega,by omega,by decide⟩,?_⟩;rw[show(1:Int) * 2 ^ ((z:Int)).toNat=((2 ^ z:Nat):Int)by rw[Int.toNat_natCast];simp];exact q
theorem Aq:aG ["makes","kind"] ["makes","kind"] (dS pJ):=by walk_at "sc"
theorem Ar{f:Addr}{fd:FuncData}(F:eW K "is_kind" "is_kind" pJ f fd)(z_len:mg "len"=none)(qD:dj P w K mg base bM "full_mask" 3 ["makes","c"] (j1 K)):bE P w K mg base bM 4 f fd ["makes","kind"] (j4 K):=by
 refine F.lI Aq (λds Q h=>?_) (λcdv A outer s H E ds Q hr h=>?_)
 ·obtain⟨L,ms,k,rfl,ok,q⟩:=h;rfl
 obtain⟨L,ms,k,rfl,ok,q⟩:=h;show iu _ _ _ _ [some _,some _] [];have hlen:=ok.el.len;refine ai (aO (ve (aE (n:=0) (ae 1)) (au (aa aC (aa aC af))) rfl) (aq (ar dQ)) aw) (λR kk=>?_)
 cases k with
 | any =>
  rw[show cG .any=.tuple [.str "any"]from rfl];walk_at "vc";exact⟨⟨rfl,rfl⟩,RT (by decide +kernel) q⟩
 | num =>
  rw[show cG .num=.tuple [.str "number"]from rfl];walk_at "vc";exact⟨⟨rfl,rfl⟩,RT (by decide +kernel) q⟩
 | whole x =>
  rw[show BI L ms (.whole x)=decide (0<=x/\x < (L.length:Int))from rfl]at q;rw[show cG (.whole x)=.tuple [.str "whole",.int x]from rfl];walk_at "vc";refine⟨⟨rfl,rfl⟩,RU (by decide +kernel) (kk _ _ ?_)⟩;clear kk R;refine ai (aO (cO (jt cR nR (cL λ_ _ _=>.bl _) (cL λ_ _ _=>.bl _) ah (aE (n:=1) (ae 1)) (aI rfl z_len (aa (ae 0) af)))) (aq (ar dQ)) aw) (λR kk=>?_);rw[show fh L=.list (L.map qL)from rfl];walk_at "vc";rw[Xk];refine aB (λh0=>iB (λh1=>?_) (λh1=>kk _ _ ?_)) (λh0=>jx rfl ?_)
  ·rw[Xp (by omega)]at q;exact q
  ·clear kk R;rw[Xm ⟨h0,by omega⟩]at q;refine aS (ar (EL (Bj (hr.units) (aE (n:=0) (ae 1)) aC) (wj (n8 cR cR (cL λ_ _ _=>.bl _) (cL λ_ _ _=>.bl _) ah (aE (n:=2) (ae 1)) (aA qD oy ow (hr.mono (by decide)) rfl (aa (ae 0) (aa (aE (n:=1) (ae 1)) af))))))) ?_;walk_at "vc";exact RT (by decide +kernel) q
  ·rw[Xp (by omega)]at q;exact q
 | raw c m =>
  rw[show BI L ms (.raw c m)=(decide (0<=c/\c < (L.length:Int))&&decide (0<=m/\m < ((2 ^ uj L ms c.toNat:Nat):Int)))from rfl]at q;rw[show cG (.raw c m)=.tuple [.str "raw",.int c,.int m]from rfl];walk_at "vc";refine⟨⟨rfl,rfl⟩,RU (by decide +kernel) (kk _ _ ?_)⟩;clear kk R;refine ai (aO (cO (jt cR nR (cL λ_ _ _=>.bl _) (cL λ_ _ _=>.bl _) ah (aE (n:=1) (ae 1)) (aI rfl z_len (aa (ae 0) af)))) (aq (ar dQ)) aw) (λR kk=>?_);rw[show fh L=.list (L.map qL)from rfl];walk_at "vc";rw[Xk];refine aB (λh0=>iB (λh1=>?_) (λh1=>kk _ _ ?_)) (λh0=>jx rfl ?_)
  ·rw[Xp (by omega)]at q;exact q
  ·clear kk R;rw[Xm ⟨h0,by omega⟩,X5]at q;obtain⟨n,rfl⟩:∃n:Nat,c=(n:Int):=⟨c.toNat,by omega⟩;rw[X1]at q;refine aS (ar (EL (Bj (hr.units) (aE (n:=0) (ae 1)) aC) (wj (n8 cR cR (cL λ_ _ _=>.bl _) (cL λ_ _ _=>.bl _) ah (aE (n:=2) (ae 1)) (aA qD oy ow (hr.mono (by decide)) rfl (aa (ae 0) (aa (aE (n:=1) (ae 1)) af))))))) ?_;walk_at "vc";refine RU (by decide +kernel) ?_;refine aB (λh2=>⟨L,ms,n,rfl,ok,by omega,?_⟩) (λh2=>?_)
   ·have e1:decide (0<=m/\m < ((2 ^ uj L ms n:Nat):Int))=decide (m<=((2 ^ uj L ms n:Nat):Int) - 1):=by
     rw[Bool.eq_iff_iff,Yd,Yd];exact⟨λz=>by omega,λz=>⟨h2,by omega⟩⟩
    rw[e1]at q;exact q
   ·rw[Xp (λz=>h2 z.1)]at q;exact q
  ·rw[Xp (by omega)]at q;exact q
theorem p7:aG ["makes","part"] ["makes","part"] (dS fY):=by walk_at "sc"
theorem qa{f:Addr}{fd:FuncData}(F:eW K "head_is_right" "head_is_right" fY f fd)(z_all:mg "all"=none)(z_len:mg "len"=none){gF:Tok}(g_MOST_BOXES:mg "MOST_BOXES"=some (.int 8 gF))(xk:RelV (.int 8) (.int 8 gF)){fH:Tok}(g_MOST_HEIGHT:mg "MOST_HEIGHT"=some (.int 8 fH))(uA:RelV (.int 8) (.int 8 fH)){iO:Tok}(g_MOST_ROWS:mg "MOST_ROWS"=some (.int 100 iO))(y4:RelV (.int 100) (.int 100 iO))(qb:dj P w K mg base bM "is_kind" 4 ["makes","kind"] (j4 K)):bE P w K mg base bM 5 f fd ["makes","part"] (fj K):=by
 refine F.lI p7 (λds Q h=>?_) (λcdv A outer s H E ds Q hr h=>?_)
 ·obtain⟨ms,zs,p,rfl,g,ok,q⟩:=h;rfl
 obtain⟨ms,zs,p,rfl,g,ok,q⟩:=h;show iu _ _ _ _ [some _,some _] [];have l1:=ok.tk;have l2:=ok.rows;have l3:=ok.ss;refine ai (aO (cO (fX (pF rfl rfl z_all (aa (mv 1 ["kind","makes"] [0] ⟨rfl,rfl,rfl,rfl,rfl,rfl,rfl,rfl⟩ (mK (ax (aE (n:=0) (ae 1)) (aF (aa (aE (n:=1) (ae 1)) af)))) (λ_ _ _ _=>(bY (i:=0) (show List.Nodup (["kind","makes"]:List Str)by decide +kernel) rfl (Or.inl rfl))) (js (i:=0)) (lU (by decide)) (λ_ _ _ _=>⟨dZ,(aA qb tm sZ (hr.mono (by decide)) rfl (aa (ae 1) (aa (ae 0) af)))⟩)) af)))) (aq (ar dQ)) aw) (λR kk=>?_);rw[jO,show fU p=.tuple [.list (p.tk.map cG),cG p.gv,.int p.bx,.int p.ht,.list p.rows,.list (p.ss.map mY)]from rfl];walk_at "vc";refine⟨by rw[List.length_map];omega,?_⟩;refine sE (p.tk++[p.gv]) cG (λk=>.bool (Af zs k)) (by rw[List.map_append];rfl) (by simp;omega) (λi k hk W N hW=>?_) ?_
 ·walk_at "vc";refine⟨rfl,?_⟩;rw[XB rfl];exact⟨rfl,loose ms,ms,k,rfl,.loose g,by rw[pO g];exact⟨rfl,hW⟩⟩
 dsimp only[L2.wA];walk_at "vc";refine⟨(p.tk++[p.gv]).map (Af zs),by rw[List.map_map];rfl,?_⟩;rw[List.all_map,show(id ∘ Af zs)=Af zs from rfl];unfold dU at q
 cases e1:(p.tk++[p.gv]).all (Af zs)with
 | false =>
  rw[e1,XH,XH,XH]at q;exact jx rfl q
 | true =>
 rw[e1,X5]at q;refine kR rfl (kk _ _ ?_);clear kk R;refine ai (aO (t9.dt (kH (cO (jt cR cR (cL λ_ _ _=>.bl _) (cL λ_ _ _=>.bl _) ah (aE (n:=2) (ae 1)) (fu rfl g_MOST_BOXES xk (λ_=>.int _)))) (iV (cO (jt cR cR (cL λ_ _ _=>.bl _) (cL λ_ _ _=>.bl _) ah (aE (n:=3) (ae 1)) (fu rfl g_MOST_HEIGHT uA (λ_=>.int _))))))) (aq (ar dQ)) aw) (λR kk=>?_);walk_at "vc";by_cases hh:(0<=p.bx/\p.bx<=8)/\(1<=p.ht/\p.ht<=8)
 ·rw[Xm hh.1.1,Xm hh.1.2,Xm hh.2.1,Xm hh.2.2]at q ⊢;refine cc (kR rfl (cc (kR rfl (kk _ _ ?_))));clear kk R;refine aS (ar (Bo (Pk (aI rfl z_len (aa (aE (n:=0) (ae 1)) af)) (aE (n:=2) (ae 1))) (wj (n8 cR cR (cL λ_ _ _=>.bl _) (cL λ_ _ _=>.bl _) ah (aI rfl z_len (aa (aE (n:=4) (ae 1)) af)) (fu rfl g_MOST_ROWS y4 (λ_=>.int _)))))) ?_;walk_at "vc";rw[Xk];rw[Bool.and_self,X5]at q;refine aB (λa=>?_) (λa=>?_)
  ·rw[Xm a,X5]at q;refine aB (λb=>?_) (λb=>?_)
   ·rw[Xm (show 1<=p.rows.length by omega),X5]at q;rw[show decide ((p.rows.length:Int)<=100)=decide (p.rows.length<=100)from Zp.mpr (by omega)];exact q
   ·rw[Xp (show ¬ 1<=p.rows.length by omega),XH]at q;exact q
  ·rw[Xp a,XH]at q;exact q
 ·have ef:((decide (0<=p.bx)&&decide (p.bx<=8))&&(decide (1<=p.ht)&&decide (p.ht<=8)))=false:=YV.mpr λz=>hh (by
   rw[XN,XN,XN]at z;exact⟨⟨XI z.1.1,XI z.1.2⟩,XI z.2.1,XI z.2.2⟩)
  rw[ef,XH]at q;cases e2:decide (0<=p.bx)<;>cases e3:decide (p.bx<=8)<;>cases e4:decide (1<=p.ht)<;>cases e5:decide (p.ht<=8)<;>first | exact q | exact absurd ⟨⟨XI e2,XI e3⟩,XI e4,XI e5⟩ hh
theorem ma:aG ["stretch","size"] ["stretch","size"] (dS dH):=by walk_at "sc"
theorem md{f:Addr}{fd:FuncData}(F:eW K "stretch_is_right" "stretch_is_right" dH f fd):bE P w K mg base bM 1 f fd ["stretch","size"] (cA K):=by
 refine F.ok ma (λvs H Q E h=>?_) (λcdv A outer s H vs Q E hr h=>?_)
 ·obtain⟨t,x,n,rfl,hT,q⟩:=h;rfl
 obtain⟨t,x,n,rfl,hT,q⟩:=h;refine⟨_,(qO (dX (zr (Cs cR nR cR pI (kh iR (pv 0) pI (λ_ _=>rfl)) (kh iR (pv 0) pI (λ_ _=>rfl)) (pv 1)) (vF (nU cR nR pI (kh iR (pv 0) pI (λ_ _=>rfl)) (pv 1)))))),?_⟩;unfold qM at q;refine⟨_,rfl,t,_,_,_,rfl,rfl,hT,aN (j:=0) rfl,_,_,rfl,rfl,_,rfl,?_⟩;refine aB (λa=>?_) (λa=>?_);rotate_left
 ·rw[Xp a,XH,XH,XH]at q;exact⟨_,rfl,bZ q⟩
 rw[Xm a,X5]at q;refine⟨_,rfl,t,_,_,_,rfl,rfl,hT,aN (j:=1) rfl,_,_,rfl,rfl,_,rfl,aB (λb=>?_) (λb=>?_)⟩;rotate_left
 ·rw[Xp b,XH,XH]at q;exact⟨_,rfl,bZ q⟩
 rw[Xm b,X5]at q;refine⟨_,rfl,_,_,rfl,rfl,_,rfl,aB (λc=>?_) (λc=>?_)⟩;rotate_left
 ·rw[Xp c,XH]at q;exact q
 rw[Xm c,X5]at q;refine⟨_,rfl,t,_,_,_,rfl,rfl,hT,aN (j:=2) rfl,_,_,rfl,rfl,_,rfl,aB (λd=>?_) (λd=>?_)⟩;rotate_left
 ·rw[Xp d,XH]at q;exact q
 rw[Xm d,X5]at q;exact⟨_,rfl,_,_,rfl,rfl,q⟩
theorem kc:aG ["part"] ["part"] (dS cP):=by walk_at "sc"
theorem ke{f:Addr}{fd:FuncData}(F:eW K "stretches_are_right" "stretches_are_right" cP f fd)(z_all:mg "all"=none)(z_len:mg "len"=none){c8:Tok}(g_MOST_STRETCHES:mg "MOST_STRETCHES"=some (.int 8 c8))(qc:RelV (.int 8) (.int 8 c8))(nc:dj P w K mg base bM "stretch_is_right" 1 ["stretch","size"] (cA K)):bE P w K mg base bM 2 f fd ["part"] (cI K):=by
 refine F.lI kc (λds Q h=>?_) (λcdv A outer s H E ds Q hr h=>?_)
 ·obtain⟨p,rfl,ok,q⟩:=h;rfl
 obtain⟨p,rfl,ok,q⟩:=h;show iu _ _ _ _ [some _] [];have l3:=ok.ss;have ls:(p.ss.map mY).length=p.ss.length:=List.length_map _;refine ai (aO (qy (aI rfl z_len (aa (aE (n:=5) (ae 0)) af)) (fu rfl g_MOST_STRETCHES qc (λ_=>.int _))) (aq (ar dQ)) aw) (λR kk=>?_);rw[show fU p=.tuple [.list (p.tk.map cG),cG p.gv,.int p.bx,.int p.ht,.list p.rows,.list (p.ss.map mY)]from rfl];walk_at "vc";unfold ey at q;refine aB (λh=>?_) (λh=>kk _ _ ?_)
 ·rw[Xp (by omega),XH]at q;exact q
 rw[Xm (by omega),X5]at q;clear kk R;refine aS (ar (pF rfl rfl z_all (aa (mv 1 ["stretch","part"] [0] ⟨rfl,rfl,rfl,rfl,rfl,rfl,rfl,rfl⟩ (mK (aE (n:=5) (ae 0))) (λ_ _ _ _=>(bY (i:=0) (show List.Nodup (["stretch","part"]:List Str)by decide +kernel) rfl (Xo rfl))) (js (i:=0)) (lU (by decide)) (λ_ _ _ _=>⟨dZ,(aA nc lW lV (hr.mono (by decide)) rfl (aa (ae 0) (aa (aI rfl z_len (aa (aE (n:=4) (ae 1)) af)) af)))⟩)) af))) ?_;walk_at "vc";refine sE p.ss mY (λx=>.bool (qM p.rows.length x)) rfl (by omega) (λi x hx W N hW=>?_) ?_
 ·walk_at "vc";refine⟨rfl,?_⟩;rw[XB rfl];exact⟨rfl,x,p.rows.length,rfl,rfl,hW⟩
 dsimp only[L2.wA];walk_at "vc";exact⟨p.ss.map (qM p.rows.length),by rw[List.map_map];rfl,by rw[List.all_map];exact q⟩
theorem y6:aG ["thing"] ["thing"] (dS mU):=by walk_at "sc"
theorem y8{f:Addr}{fd:FuncData}(F:eW K "is_whole" "is_whole" mU f fd)(z_bool:mg "bool"=none)(z_int:mg "int"=none)(z_isinstance:mg "isinstance"=none):bE P w K mg base bM 1 f fd ["thing"] (k7 K):=by
 refine F.ok y6 (λvs H Q E h=>?_) (λcdv A outer s H vs Q E hr h=>?_)
 ·obtain⟨v,t,rfl,hv,q⟩:=h;rfl
 obtain⟨v,t,rfl,hv,q⟩:=h;refine⟨_,(qO (dX (zr (cV kB rfl z_isinstance bF (pK (pv 0) (pK (lD (v:=.ty "int") rfl z_int zN rfl) pN))) (vF (KA (cV kB rfl z_isinstance bF (pK (pv 0) (pK (lD (v:=.ty "bool") rfl z_bool A4 rfl) pN)))))))),?_⟩
 cases hv with
 | int n =>
  refine⟨_,rfl,_,_,_,_,rfl,.int n,rfl,_,rfl,cc ?_⟩;exact⟨_,rfl,_,_,_,_,rfl,.int n,rfl,_,rfl,q⟩
 | bl b =>
  refine⟨_,rfl,_,_,_,_,rfl,.bl b,rfl,_,rfl,cc ?_⟩;exact⟨_,rfl,_,_,_,_,rfl,.bl b,rfl,_,rfl,q⟩
 | non=>exact⟨_,rfl,_,_,_,_,rfl,.non,rfl,_,rfl,bZ q⟩
 | str x=>exact⟨_,rfl,_,_,_,_,rfl,.str x,rfl,_,rfl,bZ q⟩
 | lst h=>exact⟨_,rfl,_,_,_,_,rfl,.lst h,rfl,_,rfl,bZ q⟩
 | tup h=>exact⟨_,rfl,_,_,_,_,rfl,.tup h,rfl,_,rfl,bZ q⟩
 | dct h=>exact⟨_,rfl,_,_,_,_,rfl,.dct h,rfl,_,rfl,bZ q⟩
theorem As:aG ["number"] ["number"] (dS pL):=by walk_at "sc"
theorem Au{f:Addr}{fd:FuncData}(F:eW K "is_word" "is_word" pL f fd){xl:Tok}(g_HALF:mg "HALF"=some (.int 2147483648 xl))(Gb:RelV (.int 2147483648) (.int 2147483648 xl)):bE P w K mg base bM 1 f fd ["number"] (m5 K):=by
 refine F.ok As (λvs H Q E h=>?_) (λcdv A outer s H vs Q E hr h=>?_)
 ·obtain⟨n,rfl,q⟩:=h;rfl
 obtain⟨n,rfl,q⟩:=h;refine⟨_,(qO (dX (nU cR nR (JQ Du (gp rfl g_HALF Gb)) (pv 0) (gp rfl g_HALF Gb)))),?_⟩;walk_at "rd";refine K7 (λz=>?_) (λz=>?_)
 ·refine⟨_,_,rfl,rfl,?_⟩;unfold gX at q;rw[z,Bool.true_and]at q;exact q
 ·unfold gX at q;rw[Bool.eq_false_iff.mpr z,Bool.false_and]at q;exact q
theorem Iy:aG ["want","thing"] ["want","thing"] (dS Ac):=by walk_at "sc"
theorem Iz{f:Addr}{fd:FuncData}(F:eW K "fits" "fits" Ac f fd){ic:Addr}(tL:mg "MOST"=some (.ref ic))(Mh:JY K w ic iD)(Av:dj P w K mg base bM "is_whole" 1 ["thing"] (k7 K))(C7:dj P w K mg base bM "is_word" 1 ["number"] (m5 K)):bE P w K mg base bM 2 f fd ["want","thing"] (rB K):=by
 refine F.ok Iy (λvs H Q E h=>?_) (λcdv A outer s H vs Q E hr h=>?_)
 ·obtain⟨x,v,t,rfl,hv,hx,q⟩:=h;rfl
 obtain⟨x,v,t,rfl,hv,hx,q⟩:=h;refine⟨_,(qK (qp (oX (gM (A5 Av (hr.mono (by decide)) rfl (pK (pv 1) pN)))) (qO (dX rE)) iv)
   (qK (qp (tR AZ (pv 0) Dm (cN _)) (qO (dX (A5 C7 (hr.mono (by decide)) rfl (pK (pv 1) pN)))) iv)
   (qO (dX (nU cR cR pI (pv 1) (kh D5 (gp (v:=.ref ic) rfl tL rfl) (pv 0) (λ_ _=>rfl))))))),?_⟩
 refine⟨_,rfl,v,t,rfl,hv,_,rfl,?_⟩
 cases v with
 | int i =>
  refine bZ ?_;refine⟨_,rfl,rfl,_,rfl,?_⟩;refine K7 (λz=>?_) (λz=>?_)
  ·have z':x="word":=V.str.inj (XI z);refine⟨_,rfl,i,rfl,?_⟩;have q:Q (.bl (if x="word" then gX i else match en x with | some m=>decide (0<=i)&&decide (i<=m) | none=>false)) H:=q;rw[XB z']at q;exact q
  ·have z':¬ x="word":=λy=>z (Xm (X7 V.str y))
   obtain⟨m,hm⟩:∃m:Int,iS iD x=some (.int m):=hx.resolve_left z';have hmo:en x=some m:=by unfold en;rw[hm];rfl
   have q:Q (.bl (if x="word" then gX i else match en x with | some m=>decide (0<=i)&&decide (i<=m) | none=>false)) H:=q;rw[if_neg z',hmo]at q;have q:Q (.bl (decide (0<=i)&&decide (i<=m))) H:=q;dsimp only[rF];refine⟨_,rfl,_,_,rfl,rfl,_,rfl,?_⟩;refine K7 (λy=>?_) (λy=>?_)
   ·refine⟨_,rfl,ic,iD,x,_,rfl,rfl,Mh,hm,λv hv=>?_⟩;have hv':=hv H;cases hv';refine⟨_,_,rfl,rfl,?_⟩;rw[y,X5]at q;exact q
   ·rw[YV.mpr y,XH]at q;exact q
 | _=>exact cc q
theorem Gd:aG ["sign"] ["sign"] (dS wC):=by walk_at "sc"
theorem Ge{f:Addr}{fd:FuncData}(F:eW K "wants" "wants" wC f fd){eP:Addr}(oG:mg "WANTS"=some (.ref eP))(IC:JY K w eP cg):bE P w K mg base bM 1 f fd ["sign"] (k8 K):=by
 refine F.ok Gd (λvs H Q E h=>?_) (λcdv A outer s H vs Q E hr h=>?_)
 ·obtain⟨x,rfl,q⟩:=h;rfl
 obtain⟨x,rfl,q⟩:=h;refine⟨_,(qO (dX (G8 (gp (v:=.ref eP) rfl oG rfl) (pK (pv 0) (pK (oZ pN) pN))))),?_⟩;refine⟨eP,cg,rfl,IC,_,rfl,by show 0<=sizeLine;decide,λp hp=>⟨x,.ref p,rfl,λhn=>q _ _ (sN hp _) ⟨p,rfl,?_⟩,λdt hd v hv=>?_⟩⟩
 ·rw[Ae hn];exact e8.of uS
 ·have e:=Ad hd;subst e;obtain⟨a,xs,rfl,h1,h2⟩:=cy.dF (hv _);have z:=Ib h2;subst z;exact q _ _ (sN hp _) ⟨a,rfl,h1⟩
theorem lN:aG ["thing","sign","wanted"] ["thing"] (dS sA):=by walk_at "sc"
theorem C8{f:Addr}{fd:FuncData}(F:eW K "is_row" "is_row" sA f fd)(z_all:mg "all"=none)(z_isinstance:mg "isinstance"=none)(z_len:mg "len"=none)(z_str:mg "str"=none)(z_tuple:mg "tuple"=none)(tM:mg "zip"=none){iP:Addr}(lO:mg "SIGNS"=some (.ref iP))(BV:∀H:Hp,cy K H (.ref iP) sC)(R0:∃o,K.lookup iP=some o/\o.cls=.type "tuple"/\o.dict=none)(Mi:dj P w K mg base bM "fits" 2 ["want","thing"] (rB K))(xm:dj P w K mg base bM "wants" 1 ["sign"] (k8 K))(qe:IsT K "str" (vj "str"))(lh:IsT K "tuple" (vj "tuple")):bE P w K mg base bM 3 f fd ["thing"] (p6 K):=by
 refine F.lI lN (λds Q h=>?_) (λcdv A outer s H E ds Q hr h=>?_)
 ·obtain⟨d,rfl,hd,q⟩:=h;rfl
 obtain⟨d,rfl,hd,q⟩:=h;show iu _ _ _ _ [some _,none,none] [];refine ai (aO (t9.dt (kH (cO (fX (zZ lh rfl z_isinstance rfl z_tuple DN (ae 0)))) (iV (br (hr.units) (aI rfl z_len (aa (ae 0) af)) ah)))) (aq (ar dQ)) aw) (λR kk=>?_)
 cases hd with
 | str x=>walk_at "vc";exact jx (by decide +kernel) (cc q)
 | non=>walk_at "vc";exact jx (by decide +kernel) (cc q)
 | int n=>walk_at "vc";exact jx (by decide +kernel) (cc q)
 | lst xs=>walk_at "vc";exact jx (by decide +kernel) (cc q)
 | nil=>walk_at "vc";exact kR (by decide +kernel) (RT rfl q)
 | num n =>
  walk_at "vc";refine kR (by decide +kernel) (RU rfl (kk _ _ ?_));clear kk R;refine ai (az (i:=1) lN.nd rfl (Xo rfl) (aE (n:=0) (ae 0))) (λR kk=>?_);walk_at "vc";refine kk _ _ ?_;clear kk R;refine ai (aO (t9.dt (kH (cO (fX (zZ qe rfl z_isinstance rfl z_str DP (ae 1)))) (iV (se (ae 1) (fu (v:=.ref iP) rfl lO rfl BV) rfl)))) (aq (ar dQ)) aw) (λR kk=>?_);walk_at "vc";exact jx (by decide +kernel) (cc q)
 | @row s xs h l =>
  walk_at "vc";refine kR (by decide +kernel) (aB (λz=>absurd z (by omega)) (λ_=>kk _ _ ?_));clear kk R;refine ai (az (i:=1) lN.nd rfl (Xo rfl) (aE (n:=0) (ae 0))) (λR kk=>?_);walk_at "vc";refine kk _ _ ?_;clear kk R;refine ai (aO (t9.dt (kH (cO (fX (zZ qe rfl z_isinstance rfl z_str DP (ae 1)))) (iV (se (ae 1) (fu (v:=.ref iP) rfl lO rfl BV) rfl)))) (aq (ar dQ)) aw) (λR kk=>?_);walk_at "vc";rw[show sC=PyData.tuple (bt.map PyData.str)from rfl];walk_at "vc";refine kR (by decide +kernel) ⟨⟨rfl,sH _⟩,?_⟩;rw[fN];by_cases hs:s∈bt
  ·rw[Xm hs];have qr:df (.tuple (.str s::xs))=(decide (s∈bt)&&(decide (xs.length=(aP s).length)&&((aP s).zip xs).all λp=>cU p.1 p.2)):=rfl;rw[qr,Xm hs,X5]at q;refine kR rfl (kk _ _ ?_);clear kk R;refine ai (az (i:=2) lN.nd rfl (Xo rfl) (aA xm yQ yP (hr.mono (by decide)) rfl (aa (ae 1) af))) (λR kk=>?_);walk_at "vc";refine⟨s,rfl,kk _ _ ?_⟩;clear kk R;refine ai (aO (Ka (hr.units) (aI rfl z_len (aa (ae 0) af)) (ax (aI rfl z_len (aa (ae 2) af)) ah)) (aq (ar dQ)) aw) (λR kk=>?_);walk_at "vc";rw[Xk];by_cases hl:xs.length=(aP s).length
   ·rw[Xm hl,X5]at q;refine kR (Xm (by omega)) (kk _ _ ?_);clear kk R;refine aS (ar (pF rfl rfl z_all (aa (mv 2 ["want","number"] [] ⟨rfl,rfl,rfl,rfl,rfl,rfl,rfl,rfl⟩ (EX rfl tM (aa (ae 2) (aa (cC (ae 0) (bp ah) bo) af))) (λ_ _ _ _=>(vG rfl (gO (bY (i:=0) (show List.Nodup (["want","number"]:List Str)by decide +kernel) rfl (Xo rfl)) (gO (bY (i:=1) (show List.Nodup (["want","number"]:List Str)by decide +kernel) rfl (Xo rfl)) rj)))) (LH (m:=2) (kK (js (i:=0)) (kK (js (i:=1)) BA))) (Py (n6 (lU (by decide)) (n6 (lU (by decide)) Bt))) (λ_ _ _ _=>⟨dZ,(aA Mi Iw Iu (hr.mono (by decide)) rfl (aa (ae 0) (aa (ae 1) af)))⟩)) af))) ?_;walk_at "vc"
    have ez:CD ((aP s).map PyData.str) (cutD (PyData.str s::xs) (some 1) none)=((aP s).zip xs).map λp=>.tuple [.str p.1,p.2]:=by
     rw[Ah];exact sI _ _
    refine sE ((aP s).zip xs) (λp=>.tuple [.str p.1,p.2]) (λp=>.bool (cU p.1 p.2)) ez (by rw[List.length_zip];omega) (λi p hp W N hW=>?_) ?_
    ·obtain⟨h1,h2⟩:=List.of_mem_zip (Xy hp);walk_at "vc";refine⟨rfl,rfl,?_⟩;rw[XB rfl];exact⟨rfl,p.1,p.2,rfl,h _ h2,yn s _ h1,rfl,hW⟩
    dsimp only[L2.wA];walk_at "vc";exact⟨((aP s).zip xs).map (λp=>cU p.1 p.2),by rw[List.map_map];rfl,by rw[List.all_map];exact q⟩
   ·rw[Xp hl,XH]at q;exact jx (Xp (by omega)) q
  ·have qr:df (.tuple (.str s::xs))=(decide (s∈bt)&&(decide (xs.length=(aP s).length)&&((aP s).zip xs).all λp=>cU p.1 p.2)):=rfl;rw[qr,Xp hs,XH]at q;rw[Xp hs];exact jx rfl q
theorem y9:aG ["book","part","row","want","number"] ["book","part","row","want","number"] (dS mV):=by walk_at "sc"
theorem za{f:Addr}{fd:FuncData}(F:eW K "is_there" "is_there" mV f fd)(z_len:mg "len"=none)(fS:dj P w K mg base bM "fields_of" 2 ["makes","c"] (eB K)):bE P w K mg base bM 3 f fd ["book","part","row","want","number"] (k9 K):=by
 refine F.lI y9 (λds Q h=>?_) (λcdv A outer s H E ds Q hr h=>?_)
 ·obtain⟨ms,zs,pl,p,s,ns,w,n,rfl,g,hf,q⟩:=h;rfl
 obtain⟨ms,zs,pl,p,s,ns,w,n,rfl,g,hf,q⟩:=h;show iu _ _ _ _ [some _,some _,some _,some _,some _] [];have lm:(ms.map NY).length=ms.length:=List.length_map _;have lz:=g.len;rw[show fU p=.tuple [.list (p.tk.map cG),cG p.gv,.int p.bx,.int p.ht,.list p.rows,.list (p.ss.map mY)]from rfl];unfold aT at q;refine ai (aO (br (hr.units) (ae 3) aC) (aq (ar (vd (ae 4) (aE (n:=2) (ae 1))))) aw) (λR kk=>?_);walk_at "vc";refine aB (λh=>by rw[if_pos h]at q;exact q) (λh=>kk _ _ ?_);rw[if_neg h]at q;clear kk R;refine ai (aO (br (hr.units) (ae 3) aC) (aq (ar (vd (ae 4) (aI rfl z_len (aa (aE (n:=0) (ae 0)) af))))) aw) (λR kk=>?_);rw[show jv ms=.list (ms.map NY)from rfl];walk_at "vc";rw[lm,lz];refine aB (λh=>by rw[if_pos h]at q;exact q) (λh=>kk _ _ ?_);rw[if_neg h]at q;clear kk R;refine ai (aO (br (hr.units) (ae 3) aC) (aq (ar (vd (ae 4) (aI rfl z_len (aa (aA fS j0 jZ (hr.mono (by decide)) rfl (aa (aE (n:=0) (ae 0)) (aa (aE (n:=1) (ae 2)) af))) af))))) aw) (λR kk=>?_);walk_at "vc";refine aB (λh=>?_) (λh=>kk _ _ ?_)
 ·rw[XB h]at q;obtain⟨c,hc,hl⟩:=hf h;obtain⟨z,h1,h2⟩:=g.mW c hl
  cases ns with
  | nil=>cases hc
  | cons n0 ns =>
   cases hc;rw[List.headD_cons,X1,h1]at q;refine⟨loose ms,ms,c,by rw[← jO];rfl,.loose g,hl,?_⟩;walk_at "vc";rw[Xk,i9,Xk];rw[show(jw ms (bH ms c)).length=z from h2];exact q
 rw[XA h]at q;clear kk R;refine ai (aO (br (hr.units) (ae 3) aC) (aq (ar (vd (ae 4) (aI rfl z_len (aa (aE (n:=1) (ae 0)) af))))) aw) (λR kk=>?_);walk_at "vc";refine aB (λh=>by rw[XB h]at q;exact q) (λh=>kk _ _ ?_);rw[XA h]at q;clear kk R;refine ai (aO (br (hr.units) (ae 3) aC) (aq (ar (vd (ae 4) (aI rfl z_len (aa (aE (n:=4) (ae 1)) af))))) aw) (λR kk=>?_);walk_at "vc";refine aB (λh=>by rw[XB h]at q;exact q) (λh=>kk _ _ ?_);rw[XA h]at q;clear kk R;refine aS (ar dQ) ?_;walk_at "vc";exact q
theorem gf:aG ["book","part","row","want","number"] ["book","part","row"] (dS gU):=by walk_at "sc"
theorem qT{f:Addr}{fd:FuncData}(F:eW K "row_is_right" "row_is_right" gU f fd)(tM:mg "zip"=none)(Gf:dj P w K mg base bM "is_row" 3 ["thing"] (p6 K))(Aw:dj P w K mg base bM "is_there" 3 ["book","part","row","want","number"] (k9 K))(xm:dj P w K mg base bM "wants" 1 ["sign"] (k8 K)):bE P w K mg base bM 4 f fd ["book","part","row"] (f9 K):=by
 refine F.lI gf (λds Q h=>?_) (λcdv A outer s H E ds Q hr h=>?_)
 ·obtain⟨ms,zs,pl,p,d,rfl,g,sh,q⟩:=h;rfl
 obtain⟨ms,zs,pl,p,d,rfl,g,sh,q⟩:=h;show iu _ _ _ _ [some _,some _,some _,none,none] [];have lz:=g.len;refine ai (aO (cO (fX (aA Gf C6 C5 (hr.mono (by decide)) rfl (aa (ae 2) af)))) (aq (ar dQ)) aw) (λR kk=>?_);walk_at "vc";refine⟨d,rfl,sh,?_⟩
 cases hrow:df d with
 | false =>
  have e:cE zs pl.length p.bx p.rows.length d=false:=by unfold cE;rw[hrow];rfl
  rw[e]at q;exact jx rfl q
 | true =>
 refine kR rfl (kk _ _ ?_);clear kk R;obtain⟨s,ns,rfl,hs,hl,Xd,hfit⟩:=yq sh hrow;rw[sJ hrow]at q
 have ez:CD ((aP s).map PyData.str) (cutD (PyData.str s::ns.map PyData.int) (some 1) none)=((aP s).zip ns).map λp=>.tuple [.str p.1,.int p.2]:=by
  rw[Ah,sI,List.zip_map_right,YE];rfl
 refine ai (iW Ym rfl (EX rfl tM (aa (aA xm yQ yP (hr.mono (by decide)) rfl (aa (aE (n:=0) (ae 2)) af)) (aa (cC (ae 2) (bp ah) bo) af))) (pB (m:=2) rfl (aR (aQ (i:=3) gf.nd rfl (Xo rfl)) (aR (aQ (i:=4) gf.nd rfl (Xo rfl)) fv))) (aq (aO (cO (fX (aA Aw yS yR (hr.mono (by decide)) rfl (aa (ae 0) (aa (ae 1) (aa (ae 2) (aa (ae 3) (aa (ae 4) af)))))))) (aq (ar dQ)) aw))) (λR kk=>?_);walk_at "vc";refine⟨s,rfl,?_⟩;walk_at "vc";rw[ez];refine ee (λi env st=>∃(o3 o4:Option DV),env=[some (.dat (.tuple [jv ms,.list pl])),some (.dat (fU p)),some (.dat (.tuple (.str s::ns.map PyData.int))),o3,o4]/\st=[]/\∀j z,j < i->((aP s).zip ns)[j]?=some z->aT zs pl.length p.bx p.rows.length (ns.headD 0) z.1 z.2=true) ⟨_,_,rfl,rfl,λj z h=>by omega⟩ (λ_ _ _ _=>trivial) ?_ ?_
 ·rintro i env st dd hd' ⟨o3,o4,rfl,rfl,hall⟩;obtain⟨z,hz,rfl⟩:=sk hd';have iT:=Yh.mp hz;walk_at "vs";refine⟨rfl,ms,zs,pl,p,s,ns,z.1,z.2,rfl,g,λhw=>?_,?_⟩
  ·obtain⟨e1,h0⟩:=yr s hs i (by rw[iT.1,hw])
   cases ns with
   | nil=>rw[List.getElem?_nil]at iT;cases iT.2
   | cons n0 ns =>
    have a0:=hall 0 ("make",n0) (by omega) (Yh.mpr ⟨h0,rfl⟩);have b0:cU "make" (.int n0)=true:=X8.mp hfit ("make",.int n0) (Xy (i:=0) (Yh.mpr ⟨h0,rfl⟩));have c0:=FD b0;have a0:=Ai a0;exact⟨n0.toNat,by rw[Int.toNat_of_nonneg c0];rfl,by omega⟩
  ·cases ht:aT zs pl.length p.bx p.rows.length (ns.headD 0) z.1 z.2 with
   | false =>
    rw[show((aP s).zip ns).all (λq=>aT zs pl.length p.bx p.rows.length (ns.headD 0) q.1 q.2)=false from Zh.mpr ⟨z,Xy hz,by rw[ht];decide⟩]at q;exact jx rfl q
   | true =>
    refine kR rfl ⟨_,_,rfl,rfl,λj y hj hy=>?_⟩;rcases Zx j i with w | w
    ·exact hall j y w hy
    ·rw[show j=i by omega,hz]at hy;cases hy;exact ht
 ·rintro env st ⟨o3,o4,rfl,rfl,hall⟩;refine kk _ _ ?_;clear kk R;refine aS (ar dQ) ?_;walk_at "vc";rw[Xk]at hall
  rw[show((aP s).zip ns).all (λq=>aT zs pl.length p.bx p.rows.length (ns.headD 0) q.1 q.2)=true from X8.mpr λz hz=>by
   obtain⟨j,hj⟩:=Yu hz;exact hall j z (bX hj).1 hj]at q
  exact q
theorem eQ:aG ["book","part","rows","at","row"] ["book","part"] (dS iY):=by walk_at "sc"
theorem tN{f:Addr}{fd:FuncData}(F:eW K "wrong_place" "wrong_place" iY f fd)(z_enumerate:mg "enumerate"=none)(z_len:mg "len"=none){ie:Addr}(lj:mg "ENDING"=some (.ref ie))(Gg:∀H:Hp,cy K H (.ref ie) pM)(PZ:∃o,K.lookup ie=some o/\o.cls=.type "tuple"/\o.dict=none)(tO:dj P w K mg base bM "row_is_right" 4 ["book","part","row"] (f9 K)):bE P w K mg base bM 5 f fd ["book","part"] (g8 K):=by
 refine F.lI eQ (λds Q h=>?_) (λcdv A outer s H E ds Q hr h=>?_)
 ·obtain⟨ms,zs,pl,p,rfl,g,ok,h0,q⟩:=h;rfl
 obtain⟨ms,zs,pl,p,rfl,g,ok,h0,q⟩:=h;show iu _ _ _ _ [some _,some _,none,none,none] [];have l2:=ok.rows;refine ai (az (i:=2) eQ.nd rfl (Or.inl rfl) (aE (n:=4) (ae 1))) (λR kk=>?_);rw[show fU p=.tuple [.list (p.tk.map cG),cG p.gv,.int p.bx,.int p.ht,.list p.rows,.list (p.ss.map mY)]from rfl];walk_at "vc";refine kk _ _ ?_;clear kk R;unfold cb at q;refine ai (iW PassesOwn.never rfl (HJ rfl z_enumerate (aa (ae 2) af)) (pB (m:=2) rfl (aR (aQ (i:=3) eQ.nd rfl (Or.inl rfl)) (aR (aQ (i:=4) eQ.nd rfl (Or.inl rfl)) fv))) (aq (aO (cO (fX (aA tO qP qN (hr.mono (by decide)) rfl (aa (ae 0) (aa (ae 1) (aa (ae 4) af)))))) (aq (ar (ae 3))) aw))) (λR kk=>?_);walk_at "vc";refine ee (λi env st=>∃(o3 o4:Option DV),env=[some (.dat (.tuple [jv ms,.list pl])),some (.dat (.tuple [.list (p.tk.map cG),cG p.gv,.int p.bx,.int p.ht,.list p.rows,.list (p.ss.map mY)])),some (.dat (.list p.rows)),o3,o4]/\st=[]/\∀j d,j < i->p.rows[j]?=some d->cE zs pl.length p.bx p.rows.length d=true) ⟨_,_,rfl,rfl,λj z h=>by omega⟩ (λ_ _ _ _=>trivial) ?_ ?_
 ·rintro i env st dd hd' ⟨o3,o4,rfl,rfl,hall⟩;obtain⟨d,hd,rfl⟩:=x9 hd';walk_at "vs";refine⟨rfl,ms,zs,pl,p,d,rfl,g,ok.sh d (Xy hd),?_⟩
  cases ht:cE zs pl.length p.bx p.rows.length d with
  | false =>
   have e:p.rows.findIdx? (λd=>!cE zs pl.length p.bx p.rows.length d)=some i:=Yo.mpr ⟨(bX hd).1,by rw[(bX hd).2,ht];rfl,λj hj=>by
    have hjl:j < p.rows.length:=Nat.lt_trans hj (bX hd).1;rw[hall j _ hj (dC hjl)]
    decide⟩
   rw[e]at q;exact jx rfl q
  | true =>
   refine kR rfl ⟨_,_,rfl,rfl,λj y hj hy=>?_⟩;rcases Zx j i with w | w
   ·exact hall j y w hy
   ·rw[show j=i by omega,hd]at hy;cases hy;exact ht
 rintro env st ⟨o3,o4,rfl,rfl,hall⟩;refine kk _ _ ?_;clear kk R
 have e:p.rows.findIdx? (λd=>!cE zs pl.length p.bx p.rows.length d)=none:=Y6.mpr λd hd=>by
  obtain⟨j,hj⟩:=Yu hd;rw[hall j d (by rw[lG];exact(bX hj).1) hj];rfl
 rw[e]at q
 obtain⟨l,dl,el⟩:∃l dl,p.rows=l++[dl]:=by
  rcases List.eq_nil_or_concat p.rows with z | ⟨l,x,z⟩
  ·rw[z]at h0;cases h0
  ·exact⟨l,x,by rw[z];simp⟩
 have hdl:dl∈p.rows:=by rw[el];simp
 have hrl:cE zs pl.length p.bx p.rows.length dl=true:=by
  obtain⟨j,hj⟩:=Yu hdl;exact hall j dl (by rw[lG];exact(bX hj).1) hj
 have hri:df dl=true:=by
  unfold cE at hrl;rw[Bool.and_eq_true]at hrl;exact hrl.1
 obtain⟨s,ns,rfl,hs,_⟩:=yq (ok.sh dl hdl) hri;have elast:p.rows.getLast?=some (.tuple (.str s::ns.map PyData.int)):=by rw[el,List.getLast?_append];rfl
 rw[elast,Option.any_some,wD]at q;refine ai (aO (se (aE (n:=0) (aY (ae 2) (b9 ah) (λ_ _=>rfl))) (fu (v:=.ref ie) rfl lj rfl Gg) rfl) (aq (ar (dG (aI rfl z_len (aa (ae 2) af)) ah))) aw) (λR kk=>?_);walk_at "vc";refine⟨_,show kz p.rows (-1)=some (.tuple (.str s::ns.map PyData.int))from by rw[el];exact Ie _ _,?_⟩;walk_at "vc";rw[show pM=PyData.tuple (yp.map PyData.str)from rfl];walk_at "vc";refine⟨⟨rfl,sH _⟩,?_⟩;rw[fN]
 cases he:decide (s∈yp)with
 | false =>
  rw[he]at q;rw[show(p.rows.length:Int) - 1=((p.rows.length - 1:Nat):Int)by omega];exact jx rfl q
 | true =>
  rw[he]at q;refine kR rfl (kk _ _ ?_);clear kk R;refine aS (ar dc) ?_;walk_at "vc";exact q
theorem ji:aG ["book","number","part","at"] ["book","number"] (dS jL):=by walk_at "sc"
theorem uB{f:Addr}{fd:FuncData}(F:eW K "check_part" "check_part" jL f fd){aj:Addr}(cY:mg "NoBook"=some (.ref aj))(fT:PySem.W.ktsIn K aj "BaseException"=true)(ll:Ek P w K mg base aj ["part","at"])(qU:dj P w K mg base bM "head_is_right" 5 ["makes","part"] (fj K))(kq:dj P w K mg base bM "stretches_are_right" 2 ["part"] (cI K))(uC:dj P w K mg base bM "wrong_place" 5 ["book","part"] (g8 K)):bE P w K mg base (t8 P w) 6 f fd ["book","number"] (je K aj):=by
 refine F.PL ji (λds Q Ex h=>?_) (λcdv A outer s H E PP ds Q Ex hr h=>?_)
 ·obtain⟨ms,zs,ps,i,p,rfl,g,hp,ok,q1,q2⟩:=h;rfl
 obtain⟨ms,zs,ps,i,p,rfl,g,hp,ok,q1,q2⟩:=h;show iu _ _ _ _ [some _,some _,none,none] [];unfold pQ at q1 q2;refine ai (az (i:=2) ji.nd rfl (Or.inl rfl) (aY (aE (n:=1) (ae 0)) (ae 1) (λ_ _=>rfl))) (λR kk=>?_);walk_at "vc";refine⟨_,bP (f:=fU) hp,kk _ _ ?_⟩;clear kk R;refine ai (aO (cO (fX (aA qU p5 pZ (hr.mono (by decide)) rfl (aa (aE (n:=0) (ae 0)) (aa (ae 2) af))))) (aq (lH v9 ll (hr.mono (by decide)) rfl cY rfl (aa (ae 1) (aa dc af)))) aw) (λR kk=>?_);walk_at "vc";refine⟨ms,zs,p,rfl,g,ok,?_⟩;walk_at "vc"
 cases eh:dU zs p with
 | false =>
  rw[eh]at q2;exact jx rfl ⟨rfl,q2 none rfl⟩
 | true =>
 rw[eh]at q1 q2
 have h0:0 < p.rows.length:=by
  unfold dU at eh;have e2:=(Bool.and_eq_true_iff.mp eh).2;have:=of_decide_eq_true (Bool.and_eq_true_iff.mp (Bool.and_eq_true_iff.mp e2).2).1;omega
 refine kR rfl (kk _ _ ?_);clear kk R;refine ai (az (i:=3) ji.nd rfl (Xo rfl) (aA uC tw tq (hr.mono (by decide)) rfl (aa (ae 0) (aa (ae 2) af)))) (λR kk=>?_);walk_at "vc";have lp:(ps.map fU).length=ps.length:=Xk _;refine⟨ms,zs,ps.map fU,p,rfl,g,ok,h0,kk _ _ ?_⟩;clear kk R;rw[lp];refine ai (aO (rn (ae 3) dc) (aq (lH v9 ll (hr.mono (by decide)) rfl cY rfl (aa (ae 1) (aa (ae 3) af)))) aw) (λR kk=>?_)
 cases ew:cb zs ps.length p with
 | some a =>
  rw[ew]at q2;rw[show optN (some a)=.int (a:Int)from rfl];walk_at "vc";exact cc ⟨rfl,q2 (some a) rfl⟩
 | none =>
 rw[ew]at q1 q2;rw[show optN none=.none from rfl];walk_at "vc";refine bZ (kk _ _ ?_);clear kk R;refine aS (aO (cO (fX (aA kq j7 j5 (hr.mono (by decide)) rfl (aa (ae 2) af)))) (aq (lH v9 ll (hr.mono (by decide)) rfl cY rfl (aa (ae 1) (aa dc af)))) aw) ?_;walk_at "vc";refine⟨p,rfl,ok,?_⟩;walk_at "vc"
 cases es:ey p with
 | false =>
  rw[es]at q2;exact jx rfl ⟨rfl,q2 none rfl⟩
 | true =>
  rw[es]at q1;exact kR rfl (q1 rfl)
theorem oH:aG ["elder","c"] ["elder","c"] (dS ff):=by walk_at "sc"
theorem oJ{f:Addr}{fd:FuncData}(F:eW K "elder_is_right" "elder_is_right" ff f fd):bE P w K mg base bM 1 f fd ["elder","c"] (eE K):=by
 refine F.lI oH (λds Q h=>?_) (λcdv A outer s H E ds Q hr h=>?_)
 ·obtain⟨e,c,rfl,q⟩:=h;rfl
 obtain⟨e,c,rfl,q⟩:=h;show iu _ _ _ _ [some _,some _] [];refine aS (ar (Bo (HB (ae 0) dc) (wj (n8 cR nR (cL λ_ _ _=>.bl _) (cL λ_ _ _=>.bl _) ah (ae 0) (ae 1))))) ?_
 cases e with
 | none =>
  rw[show Dg none=.none from rfl];walk_at "vc";exact bZ q
 | some x =>
  rw[show Dg (some x)=.int x from rfl];walk_at "vc";rw[show Dh c (some x)=decide (0<=x/\x < (c:Int))from rfl]at q;refine cc (aB (λh0=>?_) (λh0=>?_))
  ·rw[show decide (x < (c:Int))=decide (0<=x/\x < (c:Int))from Zp.mpr ⟨λy=>⟨h0,y⟩,λy=>y.2⟩];exact q
  ·rw[Xp (λy=>h0 y.1)]at q;exact q
theorem me:aG ["makes","c"] ["makes","c"] (dS dI):=by walk_at "sc"
theorem mh{f:Addr}{fd:FuncData}(F:eW K "fields_are_right" "fields_are_right" dI f fd)(z_all:mg "all"=none)(z_len:mg "len"=none){fJ:Tok}(g_MOST_FIELDS:mg "MOST_FIELDS"=some (.int 6 fJ))(uD:RelV (.int 6) (.int 6 fJ))(fS:dj P w K mg base bM "fields_of" 2 ["makes","c"] (eB K))(qb:dj P w K mg base bM "is_kind" 4 ["makes","kind"] (j4 K)):bE P w K mg base bM 5 f fd ["makes","c"] (dh K):=by
 refine F.lI me (λds Q h=>?_) (λcdv A outer s H E ds Q hr h=>?_)
 ·obtain⟨L,ms,c,rfl,ok,hc,q⟩:=h;rfl
 obtain⟨L,ms,c,rfl,ok,hc,q⟩:=h;show iu _ _ _ _ [some _,some _] [];have hlen:=ok.el.len;unfold wF at q;refine ai (aO (qy (aI rfl z_len (aa (aA fS j0 jZ (hr.mono (by decide)) rfl (aa (ae 0) (aa (ae 1) af))) af)) (fu rfl g_MOST_FIELDS uD (λ_=>.int _))) (aq (ar dQ)) aw) (λR kk=>?_);walk_at "vc";refine⟨L,ms,c,rfl,ok,hc,?_⟩;walk_at "vc";rw[List.length_map];unfold uj at q;refine aB (λh=>?_) (λh=>kk _ _ ?_)
 ·rw[Xp (by omega),XH]at q;exact q
 rw[decide_eq_true (by omega),Bool.true_and]at q;clear kk R;refine aS (ar (pF rfl rfl z_all (aa (mv 1 ["kind","makes"] [0] ⟨rfl,rfl,rfl,rfl,rfl,rfl,rfl,rfl⟩ (mK (aE (n:=1) (aY (ae 0) (ae 1) (λ_ _=>rfl)))) (λ_ _ _ _=>(bY (i:=0) (show List.Nodup (["kind","makes"]:List Str)by decide +kernel) rfl (Or.inl rfl))) (js (i:=0)) (lU (by decide)) (λ_ _ _ _=>⟨dZ,(aA qb tm sZ (hr.mono (by decide)) rfl (aa (ae 1) (aa (ae 0) af)))⟩)) af))) ?_;rw[show fh L=.list (L.map qL)from rfl];walk_at "vc";obtain⟨m,hm⟩:∃m,L[c]?=some m:=⟨L[c],dC (by omega)⟩;refine⟨_,bP (f:=qL) hm,?_⟩;have Xe:m.2.length<=50:=ok.few _ (List.mem_of_getElem? hm);have own:cX L c=m.2:=by unfold cX;rw[hm]
 rw[own]at q;rw[show qL m=.tuple [xE m.1,.list (m.2.map cG)]from rfl];walk_at "vc";refine sE m.2 cG (λk=>.bool (BI L ms k)) rfl (by omega) (λi x hx W N hW=>?_) ?_
 ·walk_at "vc";refine⟨rfl,?_⟩;rw[XB rfl];exact⟨rfl,L,ms,x,rfl,ok,rfl,hW⟩
 dsimp only[L2.wA];walk_at "vc";exact⟨m.2.map (BI L ms),by rw[List.map_map];rfl,by rw[List.all_map];exact q⟩
theorem ng:aG ["makes"] ["makes"] (dS eg):=by walk_at "sc"
theorem nh{f:Addr}{fd:FuncData}(F:eW K "makes_are_right" "makes_are_right" eg f fd)(z_all:mg "all"=none)(z_len:mg "len"=none)(z_range:mg "range"=none){gH:Tok}(g_MOST_MAKES:mg "MOST_MAKES"=some (.int 8 gH))(xn:RelV (.int 8) (.int 8 gH))(qf:dj P w K mg base bM "elder_is_right" 1 ["elder","c"] (eE K))(nj:dj P w K mg base bM "fields_are_right" 5 ["makes","c"] (dh K)):bE P w K mg base bM 6 f fd ["makes"] (dN K):=by
 refine F.lI ng (λds Q h=>?_) (λcdv A outer s H E ds Q hr h=>?_)
 ·obtain⟨ld,b,rfl,F9,h,q⟩:=h;rfl
 obtain⟨ld,b,rfl,F9,h,q⟩:=h;show iu _ _ _ _ [some _] [];refine ai (aO (t9.dt (kH (cO (jt cR cR (cL λ_ _ _=>.bl _) (cL λ_ _ _=>.bl _) ah (aI rfl z_len (aa (ae 0) af)) (fu rfl g_MOST_MAKES xn (λ_=>.int _)))) (iV (Ka (hr.units) (aE (n:=0) (ae 0)) (au (aa dc (aa (aF af) af))))))) (aq (ar dQ)) aw) (λR kk=>?_);rw[show eX ld=.list (ld.map c9)from rfl];have hm:(ld.map c9).length=ld.length:=Xk _
 have more:∀r:kS,ld=(none,[])::r->r.length + 1<=8->(yt r=false->b=false)->(yt r=true->∃(L:ku) (ms:cW),mX L ms/\dm L=ld/\b=(List.range ms.length).all (wF L ms))->R [some (.dat (.list (ld.map c9)))] []:=by
  rintro r rfl h8 b0 b1;refine kk _ _ ?_;clear kk R;refine ai (aO (cO (fX (pF rfl rfl z_all (aa (mv 1 ["c","makes"] [0] ⟨rfl,rfl,rfl,rfl,rfl,rfl,rfl,rfl⟩ (vg rfl z_range (aa ah (aa (aI rfl z_len (aa (ae 0) af)) af))) (λ_ _ _ _=>(bY (i:=0) (show List.Nodup (["c","makes"]:List Str)by decide +kernel) rfl (Xo rfl))) (js (i:=0)) (lU (by decide)) (λ_ _ _ _=>⟨dZ,(aA qf oB oA (hr.mono (by decide)) rfl (aa (aE (n:=0) (aY (ae 1) (ae 0) (λ_ _=>rfl))) (aa (ae 0) af)))⟩)) af)))) (aq (ar dQ)) aw) (λR kk=>?_);rw[XR]at hm;walk_at "vc";refine⟨⟨by decide,by decide,by omega,by omega⟩,?_⟩;rw[hm,show(((r.length + 1:Nat):Int) - 1).toNat=r.length by omega,Ig];refine sE (r.zipIdx 1) (λp=>.int (p.2:Int)) (λp=>.bool (Dh p.2 p.1.1)) rfl (by rw[List.length_zipIdx];omega) (λi p hp W N hW=>?_) ?_
  ·rw[aak]at hp;obtain⟨m,hm',rfl⟩:=aad.mp hp;walk_at "vc";refine⟨rfl,?_⟩;rw[XB rfl];refine⟨rfl,c9 m,?_,?_⟩
   ·exact bP (f:=c9) (l:=(none,[])::r) (j:=1 + i) (by rw[ZW];exact hm')
   rw[show c9 m=.tuple [Dg m.1,.list (m.2.map cG)]from rfl];walk_at "vc";exact⟨m.1,1 + i,rfl,rfl,hW⟩
  dsimp only[L2.wA];walk_at "vc";refine⟨(r.zipIdx 1).map λp=>Dh p.2 p.1.1,by rw[List.map_map];rfl,?_⟩;rw[List.all_map,show((r.zipIdx 1).all (id ∘ λp=>Dh p.2 p.1.1))=yt r from rfl]
  cases he:yt r with
  | false =>
   rw[b0 he]at q;exact jx rfl q
  | true =>
  obtain⟨L,ms,ok,eL,rfl⟩:=b1 he;refine kR rfl (kk _ _ ?_);clear kk R;have hlen:=ok.el.len;have hms:=ok.wf.few;refine aS (ar (pF rfl rfl z_all (aa (mv 1 ["c","makes"] [0] ⟨rfl,rfl,rfl,rfl,rfl,rfl,rfl,rfl⟩ (cD rfl z_range (aa (aI rfl z_len (aa (ae 0) af)) af)) (λ_ _ _ _=>(bY (i:=0) (show List.Nodup (["c","makes"]:List Str)by decide +kernel) rfl (Xo rfl))) (js (i:=0)) (lU (by decide)) (λ_ _ _ _=>⟨dZ,(aA nj lZ lX (hr.mono (by decide)) rfl (aa (ae 1) (aa (ae 0) af)))⟩)) af))) ?_;rw[show PyData.list (((none,[])::r:kS).map c9)=fh L by rw[← FE,eL];rfl,show fh L=.list (L.map qL)from rfl];have hLm:(L.map qL).length=L.length:=Xk _;walk_at "vc";refine⟨⟨by omega,by omega⟩,?_⟩;rw[hLm,hlen,X1];refine sE (List.range ms.length) (λk=>.int (0 + (k:Int))) (λk=>.bool (wF L ms k)) rfl (by rw[List.length_range];omega) (λi a ha P N hP=>?_) ?_
  ·have hi:=(bX ha).1;rw[List.length_range]at hi;rw[aao hi]at ha;cases ha;walk_at "vc";refine⟨rfl,?_⟩;rw[XB rfl];exact⟨rfl,L,ms,i,by rw[show(0:Int) + (i:Int)=(i:Int)by omega];rfl,ok,hi,rfl,hP⟩
  dsimp only[L2.wA];walk_at "vc";exact⟨(List.range ms.length).map (wF L ms),by rw[List.map_map];rfl,by rw[List.all_map];exact q⟩
 have fst:∀m:Option Int×List KI,SeqAt.shaped (c9 m)=true/\SeqAt.shaped (.tuple [.none,.list []])=true:=λm=>⟨(PU m).ok,by decide +kernel⟩
 cases h with
 | nil =>
  walk_at "vc";exact bZ (jx rfl (cc q))
 | many h =>
  walk_at "vc";rw[hm];exact aB (λ_=>iB (λ_=>cc q) (λy=>absurd y (by omega))) (λy=>absurd (by omega) y)
 | @first m r h8 h =>
  rw[show(m::r).map c9=c9 m::r.map c9 from rfl]at hm ⊢;have l1:(r.map c9).length=r.length:=Xk _;rw[XR]at h8 hm;walk_at "vc";refine aB (λ_=>iB (λy=>absurd (by omega) y) (λ_=>⟨fst m,?_⟩)) (λy=>absurd (by omega) y);rw[FH h];exact cc q
 | @elder r h8 no =>
  have mo:=more r rfl h8 (λ_=>rfl) (λz=>nomatch no.symm.trans z);rw[show((none,[])::r:kS).map c9=c9 (none,[])::r.map c9 from rfl]at hm mo ⊢;have l1:(r.map c9).length=r.length:=Xk _;walk_at "vc";refine aB (λ_=>iB (λy=>absurd (by omega) y) (λ_=>⟨fst (none,[]),?_⟩)) (λy=>absurd (by omega) y);rw[show PyData.eqv (c9 (none,[])) (.tuple [.none,.list []])=true by decide +kernel];exact bZ mo
 | @field L ms ok h0 c hc no =>
  obtain⟨r,h0⟩:=h0;have hms:=ok.wf.few
  have l8:r.length + 1=ms.length:=by
   rw[← ok.el.len,← Xk (f:=λm:Option Nat×List KI=>(m.1.map λ(n:Nat)=>(n:Int),m.2)),show L.map _=dm L from rfl,h0];rfl
  have hall:(List.range ms.length).all (wF L ms)=false:=Zh.mpr ⟨c,aaf.mpr hc,by
   unfold wF;rcases no with no | ⟨k,hk,no⟩
   ·rw[Xp (by omega),XH]
    decide
   ·rw[show(cX L c).all (BI L ms)=false from Zh.mpr ⟨k,hk,by rw[no];decide⟩,Bool.and_false]
    decide⟩
  have mo:=more r h0 (by omega) (λz=>nomatch (FG ok.el ok.wf h0).symm.trans z) (λ_=>⟨L,ms,ok,rfl,hall.symm⟩);rw[h0]at hm mo ⊢;rw[show((none,[])::r:kS).map c9=c9 (none,[])::r.map c9 from rfl]at hm mo ⊢;have l1:(r.map c9).length=r.length:=Xk _;walk_at "vc";refine aB (λ_=>iB (λy=>absurd (by omega) y) (λ_=>⟨fst (none,[]),?_⟩)) (λy=>absurd (by omega) y);rw[show PyData.eqv (c9 (none,[])) (.tuple [.none,.list []])=true by decide +kernel];exact bZ mo
 | @right ms zs g =>
  have ok:=mX.loose g;have hms:=g.wf.few;obtain⟨r,h0⟩:=iE g
  have l8:r.length + 1=ms.length:=by
   rw[← ok.el.len,← Xk (f:=λm:Option Nat×List KI=>(m.1.map λ(n:Nat)=>(n:Int),m.2)),show(loose ms).map _=dm (loose ms)from rfl,h0];rfl
  have mo:=more r h0 (by omega) (λz=>nomatch (FG ok.el ok.wf h0).symm.trans z) (λ_=>⟨loose ms,ms,ok,rfl,(wG g).symm⟩);rw[h0]at hm mo ⊢;rw[show((none,[])::r:kS).map c9=c9 (none,[])::r.map c9 from rfl]at hm mo ⊢;have l1:(r.map c9).length=r.length:=Xk _;walk_at "vc";refine aB (λ_=>iB (λy=>absurd (by omega) y) (λ_=>⟨fst (none,[]),?_⟩)) (λy=>absurd (by omega) y);rw[show PyData.eqv (c9 (none,[])) (.tuple [.none,.list []])=true by decide +kernel];exact bZ mo
theorem jj:aG ["book","parts","number"] ["book"] (dS jM):=by walk_at "sc"
theorem uE{f:Addr}{fd:FuncData}(F:eW K "check_book" "check_book" jM f fd)(z_len:mg "len"=none)(z_range:mg "range"=none){gI:Tok}(g_MOST_PARTS:mg "MOST_PARTS"=some (.int 8 gI))(xo:RelV (.int 8) (.int 8 gI)){aj:Addr}(cY:mg "NoBook"=some (.ref aj))(fT:PySem.W.ktsIn K aj "BaseException"=true)(ll:Ek P w K mg base aj ["part","at"])(xp:dj P w K mg base (t8 P w) "check_part" 6 ["book","number"] (je K aj))(oK:dj P w K mg base bM "makes_are_right" 6 ["makes"] (dN K)):bE P w K mg base (t8 P w) 7 f fd ["book"] (fD K aj):=by
 refine F.PL jj (λds Q Ex h=>?_) (λcdv A outer s H E PP ds Q Ex hr h=>?_)
 ·obtain⟨ld,b,ms,zs,ps,rfl,h1,h2,h3,h4,h5,q1,q2⟩:=h;rfl
 obtain⟨ld,b,ms,zs,ps,rfl,h1,h2,h3,h4,h5,q1,q2⟩:=h;show iu _ _ _ _ [some _,none,none] [];have lp:(ps.map fU).length=ps.length:=List.length_map _;unfold qA at q1 q2;refine ai (az (i:=1) jj.nd rfl (Or.inl rfl) (aE (n:=1) (ae 0))) (λR kk=>?_);rw[show pR ld ps=.tuple [eX ld,.list (ps.map fU)]from rfl];walk_at "vc";refine kk _ _ ?_;clear kk R;refine ai (aO (t9.dt (kH (cO (fX (aA oK m8 m7 (hr.mono (by decide)) rfl (aa (aE (n:=0) (ae 0)) af)))) (iV (cO (jt cR cR (cL λ_ _ _=>.bl _) (cL λ_ _ _=>.bl _) ah (aI rfl z_len (aa (ae 1) af)) (fu rfl g_MOST_PARTS xo (λ_=>.int _))))))) (aq (lH v9 ll (hr.mono (by decide)) rfl cY rfl (aa dc (aa dc af)))) aw) (λR kk=>?_);walk_at "vc";refine⟨ld,b,rfl,h1,h3,?_⟩;walk_at "vc";rw[lp]
 cases b with
 | false=>exact jx rfl (cc ⟨rfl,q2 none none rfl⟩)
 | true =>
 obtain⟨em,g⟩:=h4 rfl;rw[X5]at q1 q2;refine kR rfl (aB (λa=>iB (λc=>?_) (λc=>kk _ _ ?_)) (λa=>?_))
 ·rw[Xp (show ¬ ps.length<=8 by omega),Bool.and_false]at q2;exact⟨rfl,q2 none none rfl⟩
 rotate_left
 ·rw[Xp (show ¬ 1<=ps.length by omega),XH]at q2;exact jx rfl ⟨rfl,q2 none none rfl⟩
 clear kk R;rw[Xm (show 1<=ps.length by omega),Xm (show ps.length<=8 by omega)]at q1 q2;refine aS (iW PassesOwn.leaving rfl (cD rfl z_range (aa (aI rfl z_len (aa (ae 1) af)) af)) (aQ (i:=2) jj.nd rfl (Xo rfl)) (aq (iA (Fp xp Hm uu ur (hr.mono (by decide)) rfl (aa (ae 0) (aa (ae 2) af)))))) ?_;rw[em];walk_at "vc";rw[lp];refine⟨⟨by omega,by omega⟩,?_⟩;rcases yv zs ps.length ps with hn | ⟨i,p,a,hp,ha,hb⟩
 ·refine ee (λi env st=>∃(o2:Option DV),env=[some (.dat (.tuple [jv ms,.list (ps.map fU)])),some (.dat (.list (ps.map fU))),o2]/\st=[]) ⟨_,rfl,rfl⟩ (λ_ _ _ _=>trivial) ?_ ?_
  ·rintro k env st dd hd' ⟨o2,rfl,rfl⟩;obtain⟨hk,rfl⟩:=cZ hd';obtain⟨q,hq⟩:∃q,ps[k]?=some q:=⟨_,dC (by omega)⟩;have hqm:=Xy hq;walk_at "vc";exact⟨ms,zs,ps,k,q,by rw[show(0:Int) + (k:Int)=(k:Int)by omega],g,hq,h5 q hqm,λ_=>⟨_,rfl,rfl⟩,λa z=>nomatch (hn q hqm).symm.trans z⟩
  ·rintro env st ⟨o2,rfl,rfl⟩;exact q1 (sL hn)
 ·refine ee (λk env st=>∃(o2:Option DV),env=[some (.dat (.tuple [jv ms,.list (ps.map fU)])),some (.dat (.list (ps.map fU))),o2]/\st=[]/\k<=i) ⟨_,rfl,rfl,X3 _⟩ (λ_ _ _ _=>trivial) ?_ ?_
  ·rintro k env st dd hd' ⟨o2,rfl,rfl,hki⟩;obtain⟨hk,rfl⟩:=cZ hd';obtain⟨q,hq⟩:∃q,ps[k]?=some q:=⟨_,dC (by omega)⟩;have hqm:=Xy hq;walk_at "vc";refine⟨ms,zs,ps,k,q,by rw[show(0:Int) + (k:Int)=(k:Int)by omega],g,hq,h5 q hqm,λz=>⟨_,rfl,rfl,?_⟩,λc z=>?_⟩
   ·rcases Zx k i with w | w
    ·omega
    ·rw[show k=i by omega,hp]at hq;cases hq;rw[ha]at z;cases z
   ·rcases Zx k i with w | w
    ·rw[hb k q w hq]at z;cases z
    ·have e:k=i:=by omega
     subst e;rw[hp]at hq;cases hq;rw[ha]at z;cases z;have:=q2 (some (0 + k)) a (yu hp ha hb);rw[aav]at this;exact this
  ·rintro env st ⟨o2,rfl,rfl,hki⟩;rw[bJ]at hki;have:=(bX hp).1;omega
theorem bW:aG ["_law_book_here","_law_due","_law_handed","_law_caught","e","_law_found","_law_told"] ["_law_book_here","_law_due"] (dS iZ):=by walk_at "sc"
theorem qV{f:Addr}{fd:FuncData}(F:eW K "_law_refused" "_law_refused" iZ f fd)(eR:mg "ValueError"=none)(z_bool:mg "bool"=none)(z_int:mg "int"=none)(z_isinstance:mg "isinstance"=none){aj:Addr}(cY:mg "NoBook"=some (.ref aj))(fT:PySem.W.ktsIn K aj "BaseException"=true){eS:Addr}(lq:mg "NoCode"=some (.ref eS))(oM:PySem.W.ktsIn K eS "BaseException"=true){eT:Addr}(lu:mg "NoPass"=some (.ref eT))(oN:PySem.W.ktsIn K eT "BaseException"=true){gJ:Addr}(oO:mg "NoRow"=some (.ref gJ))(rC:PySem.W.ktsIn K gJ "BaseException"=true){bQ:Addr}(dw:mg "WardenError"=some (.ref bQ))(fK:PySem.W.excIn K bQ (Ec true) (Lh true)=true)(dz:PySem.W.ktsIn K bQ "BaseException"=true)(fL:dj P w K mg base bM "_law_copied" 2 ["_law_book_here"] (fB K))(gK:dj P w K mg base (t8 P w) "check_book" 7 ["book"] (fD K aj))(ig:PySem.W.findIn K (.ref aj) "__getattribute__"=some (some (.builtin "BaseException.__getattribute__")))(ij:PySem.W.findIn K (.ref aj) "__getattr__"=some none)(ik:PySem.W.findIn K (.ref aj) "__class__"=some (some (.builtin "object.__class__")))(il:PySem.W.mroIn K aj (.type "BaseException")=some true)(ip:PySem.W.mroIn K aj (.type "object")=some true)(bL:PySem.W.hasDictIn K aj=true)(m_BW:PySem.W.mroIn K aj (.ref bQ)=some true)(fk:PySem.W.findIn K (.ref aj) "part"=some none)(ft:PySem.W.findIn K (.ref aj) "at"=some none)(Gh:PySem.W.kitOne K (.ref aj) (.ref aj)=some true)(i_BV:PySem.W.kitOne K (.ref aj) (.type "ValueError")=some true)(i_BP:PySem.W.kitOne K (.ref aj) (.ref eT)=some false)(i_BR:PySem.W.kitOne K (.ref aj) (.ref gJ)=some false)(Gi:PySem.W.kitOne K (.ref aj) (.ref eS)=some false):bE P w K mg base bM 8 f fd ["_law_book_here","_law_due"] (eF K):=by
 refine F.ok bW (λvs H Q E h=>?_) (λcdv A outer s H vs Q E hr h=>?_)
 ·obtain⟨u,v,ld,b,zs,ps,x,st,a,rfl,hu,hv,h1,h2,h3,h4,h5,h6,q⟩:=h;rfl
 obtain⟨u,v,ld,b,zs,ps,x,st,a,rfl,hu,hv,h1,h2,h3,h4,h5,h6,q⟩:=h;refine⟨_,(qK (vH (i:=2) bW.nd rfl (Xo rfl) (A5 fL (hr.mono (by decide)) rfl (pK (pv 0) pN)))
   (qK (vH (i:=3) bW.nd rfl (Xo rfl) vE)
   (qK (Hq (i:=4) gK (hr.mono (by decide)) rfl (λ_=>(pK (pv 2) pN)) rfl dw dz bW.nd rfl rfl (λ_ _=>(qO (vH (i:=3) bW.nd rfl (Xo rfl) (pv 4)))))
   (qK (qp (PW.pt (pw_or (tR Dw (pv 3) vE (cN _)) (pw_or (oX (gM (cV jq rfl z_isinstance bF (pK (pv 3) (pK (gp (v:=.ref aj) rfl cY rfl) pN))))) (pw_or (oX (gM (cV jq rfl z_isinstance bF (pK (pv 3) (pK (lD (v:=.ty "ValueError") rfl eR uf rfl) pN))))) (pw_or1 (tR (DU (hr.units)) (pv 2) (pv 0) (cN _))))))) (qO (dX rE)) iv)
   (qK (qp (PW.pt (pw_or (gM (cV jq rfl z_isinstance bF (pK (pv 3) (pK (gp (v:=.ref eT) rfl lu rfl) pN)))) (pw_or (gM (cV jq rfl z_isinstance bF (pK (pv 3) (pK (gp (v:=.ref gJ) rfl oO rfl) pN)))) (pw_or1 (gM (cV jq rfl z_isinstance bF (pK (pv 3) (pK (gp (v:=.ref eS) rfl lq rfl) pN)))))))) (qO (dX rE)) iv)
   (qK (Dr Ym rfl (GG (zH (pK (oZ (pK (Be (pv 3) rfl) (pK (nS OK (kh iR (pv 1) pI (λ_ _=>rfl)) pI (cN _)) pN))) (pK (oZ (pK (Be (pv 3) rfl) (pK (nS pd (kh iR (pv 1) pI (λ_ _=>rfl)) (oZ (pK pI (pK pI pN))) rfl) pN))) pN)))) (vG rfl (gO (bY (i:=5) bW.nd rfl (Xo rfl)) (gO (bY (i:=6) bW.nd rfl (Xo rfl)) rj))) (qK (qp (PW.pt (pw_and (oX (gM (pv 6))) (pw_and1 (tR vI (pv 5) vE (cN _))))) (qO (dX rE)) iv)
   (qO (qp (PW.pt (pw_and (gM (pv 6)) (pw_and1 (PW.pt (pw_or (oX (gM (cV kB rfl z_isinstance bF (pK (pv 5) (pK (lD (v:=.ty "int") rfl z_int zN rfl) pN))))) (pw_or1 (gM (cV kB rfl z_isinstance bF (pK (pv 5) (pK (lD (v:=.ty "bool") rfl z_bool A4 rfl) pN)))))))))) (qO (dX rE)) iv))))
   (qK (qp (PW.pt (pw_and (tR pd (kh iR (pv 1) pI (λ_ _=>rfl)) (oZ (pK pI (pK pI pN))) rfl) (pw_and1 (tR JR (Be (pv 3) rfl) (kh iR (pv 1) pI (λ_ _=>rfl)) (cN _))))) (qO (dX rE)) iv)
   (qO (dX (JP (nS nR (kh iR (pv 1) pI (λ_ _=>rfl)) pI (cN _)) (vF (nS AZ (Be (pv 3) rfl) (kh iR (pv 1) pI (λ_ _=>rfl)) (cN _))))))))))))),?_⟩
 have kx:KX K aj:=⟨ig,ij,ik,il,ip⟩;refine⟨_,rfl,Im jd (.cons hu .nil) ⟨ld,ps,rfl,by omega,by omega,λb1 H0 s0 r0=>?_⟩⟩;dsimp only[nO];refine⟨_,rfl,?_⟩;dsimp only[nO]
 obtain⟨ms,hb⟩:∃ms,b=true->eX ld=jv ms/\Good ms zs:=by
  cases b with
  | false=>exact⟨[],λh=>nomatch h⟩
  | true=>obtain⟨ms,h⟩:=h3 rfl;exact⟨ms,λ_=>h⟩
 refine⟨λ_=>False,[pR ld ps],(λ_ h=>h.elim),.cons (kJ r0) .nil,ld,b,ms,zs,ps,rfl,by omega,by omega,h2,hb,(λp hp=>(h4 p hp).1.i),(λz=>nomatch h6.symm.trans z),λa' c' e dd H1 s1 xr=>?_⟩;rw[h6]at e;obtain⟨dx,v1,v2,rfl,gd,rp,ra⟩:=Io xr;refine⟨aj,rfl,m_BW,λe0 he=>?_⟩;have s2:=sN he (.ext (Ll aj e0 (some dx)));have g2:=uS (H:=H1) (a:=e0) (o:=.ext (Ll aj e0 (some dx)));generalize upd H1 e0 _=H2 at s2 g2 ⊢;have VB:=s2 _ _ gd;have S2:=s0.trans (s1.trans s2);have Wz:=(r0.same s1).same s2;have O3:=hu.same S2;have WA:=hv.same S2;have R4:=rp.same s2;have R5:=ra.same s2;refine⟨_,rfl,?_⟩;dsimp only[nO];refine⟨_,rfl,rfl,_,rfl,bZ ?_⟩;refine⟨_,rfl,e0,aj,_,.ref aj,_,_,rfl,g2,nZ,kx,bL,rfl,Gh,?_⟩;refine⟨_,rfl,bZ ?_⟩;refine⟨_,rfl,e0,aj,_,.type "ValueError",_,_,rfl,g2,nZ,kx,bL,rfl,i_BV,?_⟩;refine⟨_,rfl,bZ ?_⟩;have ok:=Kq (ld:=ld) h4;refine⟨_,rfl,_,rfl,_,_,Wz,O3,ok,ok,_,rfl,?_⟩;rw[Il h4];refine bZ ?_;dsimp only[rF];refine⟨_,rfl,e0,aj,_,.ref eT,_,_,rfl,g2,nZ,kx,bL,rfl,i_BP,?_⟩;refine⟨_,rfl,bZ ?_⟩;refine⟨_,rfl,e0,aj,_,.ref gJ,_,_,rfl,g2,nZ,kx,bL,rfl,i_BR,?_⟩;refine⟨_,rfl,bZ ?_⟩;refine⟨_,rfl,e0,aj,_,.ref eS,_,_,rfl,g2,nZ,kx,bL,rfl,Gi,?_⟩;refine⟨_,rfl,bZ ?_⟩;dsimp only[rF];obtain⟨t,ys,rfl,hT,_,hys⟩:=aM.dF (kJ WA);obtain⟨y0,y1,y2,rfl⟩:=Vw (xs:=ys) hys.1;obtain rfl:=aM.aV (hys.2 0 _ _ rfl rfl);obtain rfl:=aM.aV (hys.2 1 _ _ rfl rfl);obtain rfl:=aM.aV (hys.2 2 _ _ rfl rfl)
 obtain⟨rfl,rfl⟩:(if x < 0 then none else some x.toNat)=a'/\(if st=2∨st=3 then some a else none)=c':=by
  have:=XX e;exact⟨X7 Prod.fst this,X7 Prod.snd this⟩
 obtain⟨T1,N1⟩:(decide (0<=x)=true->v1=.int x)/\(decide (0<=x)=false->v1=.non):=by
  refine⟨λh=>?_,λh=>?_⟩
  ·have h:=XI h;rw[XA (by omega)]at R4;rw[aM.aV (kJ R4)];congr 1;omega
  ·have h:=of_decide_eq_false h;rw[XB (by omega)]at R4;exact aM.fc (kJ R4)
 obtain⟨T2,N2⟩:(decide (st=2∨st=3)=true->v2=.int (a:Int))/\(decide (st=2∨st=3)=false->v2=.non):=by
  refine⟨λh=>?_,λh=>?_⟩
  ·rw[XB (XI h)]at R5;exact aM.aV (kJ R5)
  ·rw[XA (of_decide_eq_false h)]at R5;exact aM.fc (kJ R5)
 have inE:NR (.int (st:Int)) [.int 2,.int 3]=decide (st=2∨st=3):=by
  refine Bool.eq_iff_iff.mpr ?_;simp[NR,Gu];omega
 have fld:∀{Hx:Hp},bD H2 Hx->Hx e0=some (.ext (Ll aj e0 (some dx)))/\Hx dx=some (.ext (XD dx [("part",v1),("at",v2)]))/\e8 K Hx t [.int x,.int (st:Int),.int (a:Int)]:=λsx=>⟨sx _ _ g2,sx _ _ VB,sx.tup hT⟩
 refine⟨_,rfl,e0,aj,dx,_,_,_,rfl,g2,wa,VB,kx,bL,fk,rfl,?_⟩;refine⟨_,rfl,_,_,_,_,rfl,rfl,hT,rfl,_,_,rfl,rfl,Ol,λt1 WB=>?_⟩;have s3:=sN WB (.tup [v1,.bl (decide (0<=x))]);have g3:=uS (H:=H2) (a:=t1) (o:=.tup [v1,.bl (decide (0<=x))]);generalize upd H2 t1 _=H3 at s3 g3 ⊢;obtain⟨a1,a2,a3⟩:=fld s3;refine⟨_,rfl,e0,aj,dx,_,_,_,rfl,a1,wa,a2,kx,bL,ft,rfl,?_⟩;refine⟨_,rfl,_,_,_,_,rfl,rfl,a3,rfl,Ol,λt2 WC=>?_⟩;have s4:=sN WC (.tup [.int 2,.int 3]);have g4:=uS (H:=H3) (a:=t2) (o:=.tup [.int 2,.int 3]);generalize upd H3 t2 _=H4 at s4 g4 ⊢;refine⟨_,_,rfl,.inr (.of g4),rfl,rfl,?_⟩;rw[XA (by decide),inE];refine⟨Ol,λt3 WD=>?_⟩;have s5:=sN WD (.tup [v2,.bl (decide (st=2∨st=3))]);have g5:=uS (H:=H4) (a:=t3) (o:=.tup [v2,.bl (decide (st=2∨st=3))]);generalize upd H4 t3 _=H5 at s5 g5 ⊢;refine⟨Ol,λL hL=>?_⟩;have s6:=sN hL (.lst [.ref t1,.ref t3]);have g6:=uS (H:=H5) (a:=L) (o:=.lst [.ref t1,.ref t3]);generalize upd H5 L _=H6 at s6 g6 ⊢;have S6:=s3.trans (s4.trans (s5.trans s6));have WE:=(s4.trans (s5.trans s6)) _ _ g3;have WG:=s6 _ _ g5;refine⟨L,rfl,⟨_,fV.of g6⟩,?_⟩;refine Ds (xs:=[.ref t1,.ref t3]) (λi σ Hx=>∃(o5 o6:Option V),σ=[some u,some (.ref t),some b1,some (.ref e0),none,o5,o6]/\bD H6 Hx) ⟨_,_,rfl,bD.refl _⟩ ?_ ?_ ?_
 ·rintro i σ Hx hi ⟨o5,o6,rfl,sx⟩;exact fV.of (sx _ _ g6)
 ·rintro i y σ Hx hy ⟨o5,o6,rfl,sx⟩
  obtain⟨z,c,tt,rfl,hz,h1,h0⟩:∃(z:V) (c:Bool) (tt:Addr),y=.ref tt/\e8 K Hx tt [z,.bl c]/\(c=true->∃n,z=.int n)/\(c=false->z=.non):=by
   have hm:=List.mem_of_getElem? hy;simp only[List.mem_cons,List.not_mem_nil,or_false]at hm;rcases hm with rfl | rfl
   ·exact⟨v1,_,t1,rfl,.of (sx _ _ WE),λh=>⟨_,T1 h⟩,N1⟩
   ·exact⟨v2,_,t3,rfl,.of (sx _ _ WG),λh=>⟨_,T2 h⟩,N2⟩
  refine⟨_,_,rfl,hz,rfl,_,_,rfl,_,_,rfl,rfl,?_⟩;have nxt:∃(o5 o6:Option V),[some u,some (.ref t),some b1,some (.ref e0),none,some z,some (.bl c)]=[some u,some (.ref t),some b1,some (.ref e0),none,o5,o6]/\bD H6 Hx:=⟨_,_,rfl,sx⟩;refine⟨_,rfl,_,rfl,?_⟩
  cases c with
  | false =>
   obtain rfl:=h0 rfl;refine cc ⟨_,rfl,rfl,_,rfl,bZ ?_⟩;dsimp only[rF];exact⟨_,rfl,_,rfl,bZ (bZ nxt)⟩
  | true =>
   obtain⟨n,rfl⟩:=h1 rfl;refine bZ (bZ ?_);dsimp only[rF];exact⟨_,rfl,_,rfl,cc ⟨_,rfl,_,_,_,_,rfl,.int _,rfl,_,rfl,bZ ⟨_,rfl,_,_,_,_,rfl,.int _,rfl,_,rfl,bZ nxt⟩⟩⟩
 ·rintro σ Hx ⟨o5,o6,rfl,sx⟩;obtain⟨a4,a5,a6⟩:=fld (S6.trans sx);refine⟨_,rfl,_,_,_,_,rfl,rfl,a6,rfl,Ol,λt4 WH=>?_⟩;have s7:=sN WH (.tup [.int 2,.int 3]);have g7:=uS (H:=Hx) (a:=t4) (o:=.tup [.int 2,.int 3]);generalize upd Hx t4 _=H7 at s7 g7 ⊢;obtain⟨a7,a8,a9⟩:=fld (S6.trans (sx.trans s7));refine⟨_,_,rfl,.inr (.of g7),rfl,rfl,?_⟩;rw[XA (by decide),inE];refine⟨_,rfl,?_⟩
  have fin:Ow (GI (Dt λi j=>V.bl (decide (i < j))) (GI (GW K) (BZ 1) (tC (V.int 0))) (tC (V.int 0))) (GI SS (Vm K (BZ 3) "part") (GI (GW K) (BZ 1) (tC (V.int 0)))) [some u,some (.ref t),some b1,some (.ref e0),none,o5,o6] H7 Q:=by
   have S7:=S2.trans (S6.trans (sx.trans s7));refine⟨_,rfl,_,_,_,_,rfl,rfl,a9,rfl,_,_,rfl,rfl,_,rfl,?_⟩;by_cases hx:x < 0
   ·rw[Xm hx];exact cc (q _ S7)
   ·rw[Xp hx];have:=T1 (Xm (by omega));subst this;refine bZ ⟨_,rfl,e0,aj,dx,_,_,_,rfl,a7,wa,a8,kx,bL,fk,rfl,?_⟩;refine⟨_,rfl,_,_,_,_,rfl,rfl,a9,rfl,rfl,?_⟩;rw[Xm rfl];exact q _ S7
  by_cases hs:st=2∨st=3
  ·rw[Xm hs,XB rfl];have:=T2 (Xm hs);subst this;refine⟨_,rfl,e0,aj,dx,_,_,_,rfl,a7,wa,a8,kx,bL,ft,rfl,?_⟩;refine⟨_,rfl,_,_,_,_,rfl,rfl,a9,rfl,rfl,_,rfl,?_⟩;rw[Xm rfl];exact bZ fin
  ·rw[Xp hs];exact bZ (bZ fin)
theorem kn:aG ["_law_cell","_law_sizes","_law_c"] ["_law_cell","_law_sizes"] (dS i4):=by walk_at "sc"
theorem qW{f:Addr}{fd:FuncData}(F:eW K "_law_no_kind" "_law_no_kind" i4 f fd)(z_len:mg "len"=none):bE P w K mg base bM 1 f fd ["_law_cell","_law_sizes"] (eG K):=by
 refine F.lI kn (λds Q h=>?_) (λcdv A outer s H E ds Q hr h=>?_)
 ·obtain⟨n,zs,rfl,hz,iT,h6,q⟩:=h;rfl
 obtain⟨n,zs,rfl,hz,iT,h6,q⟩:=h;show iu _ _ _ _ [some _,some _,none] [];refine ai (az (i:=2) kn.nd rfl (Xo rfl) (ay (aL (ae 0) ah) (aI rfl z_len (aa (ae 1) af)))) (λR kk=>?_);walk_at "vc";rw[bV];obtain⟨c,ec,hc⟩:=bI (n / 5) (n:=zs.length) rfl hz;rw[ec];refine⟨bg (by decide) (by decide),by omega,kk _ _ ?_⟩;clear kk R;refine ai (aO (br (hr.units) (ay (ae 0) ah) ah) (aq (ar (au (aa aC (aa (ax (aI rfl z_len (aa (ae 1) af)) (ay (aL (ae 0) ah) ah)) af))))) aw) (λR kk=>?_);walk_at "vc";rw[bV];obtain⟨a,ea,ha⟩:=bI (n / 6) (m:=3) (n:=3) rfl (by decide);rw[ea];refine⟨by decide,aB (λ_=>⟨bg (by decide) (by decide),by decide,q (.whole ((zs.length:Int) + (a:Int))) (vq (by omega))⟩) (λ_=>kk _ _ ?_)⟩;clear kk R;refine ai (aO (br (hr.units) (ay (ae 0) ah) ah) (aq (ar (au (aa aC (aa (dG (b9 ah) (ay (aL (ae 0) ah) (wc ah ah))) af))))) aw) (λR kk=>?_);walk_at "vc";have T9:(0:Int) < 10 ^ Int.toNat 12:=by decide
 have e0:=YB (n / 6) (Int.ne_of_gt T9);generalize (10:Int) ^ Int.toNat 12=T at T9 e0;refine⟨by decide,aB (λ_=>⟨bg (by decide) (by decide),⟨by decide,by decide,by decide⟩,T9,q (.whole (-1 - n / 6 % T)) (vq (by omega))⟩) (λ_=>kk _ _ ?_)⟩;clear kk R;refine ai (aO (br (hr.units) (ay (ae 0) ah) ah) (aq (ar (au (aa aC (aa (aI rfl z_len (aa (ae 1) af)) (aa ah af)))))) aw) (λR kk=>?_);walk_at "vc";rw[bV];refine⟨by decide,aB (λ_=>q (.raw (zs.length:Int) 0) (rA (.inl (by omega)))) (λ_=>kk _ _ ?_)⟩;clear kk R;refine ai (aO (br (hr.units) (ay (ae 0) ah) ah) (aq (ar (au (aa aC (aa (dG (b9 ah) (ae 2)) (aa ah af)))))) aw) (λR kk=>?_);walk_at "vc";refine⟨by decide,aB (λ_=>q (.raw (-1 - (c:Int)) 0) (rA (.inl (by omega)))) (λ_=>kk _ _ ?_)⟩;clear kk R;refine ai (aO (br (hr.units) (ay (ae 0) ah) ah) (aq (ar (au (aa aC (aa (ae 2) (aa (ax (zU ah (aY (ae 1) (ae 2) (λ_ _=>rfl))) (ay (aL (ae 0) ah) ah)) af)))))) aw) (λR kk=>?_);walk_at "vc";have hzc:=dC hc;have h6c:=h6 _ (Y0 hc);generalize zs[c]=z at hzc h6c;refine⟨by decide,aB (λ_=>⟨_,bP (f:=λ(n:Nat)=>PyData.int (n:Int)) hzc,?_⟩) (λ_=>kk _ _ ?_)⟩
 ·walk_at "vc";have p2:(1:Int) * 2 ^ ((z:Int)).toNat=((2 ^ z:Nat):Int):=by rw[Int.toNat_natCast];simp
  rw[p2];obtain⟨b,eb,hb⟩:=bI (n / 50) (m:=3) (n:=3) rfl (by decide);rw[eb];exact⟨⟨by omega,by omega,by decide⟩,bg (by decide) (by decide),by decide,q (.raw (c:Int) (((2 ^ z:Nat):Int) + (b:Int))) (rA (.inr (.inr ⟨c,z,rfl,hzc,by omega⟩)))⟩
 clear kk R;refine aS (ar (au (aa aC (aa (ae 2) (aa (b9 ah) af))))) ?_;walk_at "vc";exact q (.raw (c:Int) (-1)) (rA (.inr (.inl (by decide))))
theorem bb:aG ["_law_cell","_law_makes_here","_law_sizes","_law_way","_law_c","_law_rest","_law_elder","_law_more","_law_own","_law_at"] ["_law_cell","_law_makes_here","_law_sizes"] (dS gW):=by walk_at "sc"
theorem qg{f:Addr}{fd:FuncData}(F:eW K "_law_no_makes" "_law_no_makes" gW f fd)(z_len:mg "len"=none)(eU:dj P w K mg base bM "_law_no_kind" 1 ["_law_cell","_law_sizes"] (eG K)):bE P w K mg base bM 2 f fd ["_law_cell","_law_makes_here","_law_sizes"] (gc K):=by
 refine F.lI bb (λds Q h=>?_) (λcdv A outer s H E ds Q hr h=>?_)
 ·obtain⟨n,ms,zs,rfl,hg,q⟩:=h;rfl
 obtain⟨n,ms,zs,rfl,hg,q⟩:=h;show iu _ _ _ _ [some _,some _,some _,none,none,none,none,none,none,none] [];have hne:=hg.wf.ne;have few:=hg.wf.few;have hzl:=hg.len;obtain⟨r0,VC⟩:=iE hg;have hl:(dm (loose ms)).length=ms.length:=by rw[wH,(er ms).len]
 have q':∀r:kS,ua r false->r.length<=1000->Q (.list (r.map c9)):=q;obtain⟨w,ew,hw⟩:=bI n (m:=7) (n:=7) rfl (by decide);obtain⟨c,ec,hc⟩:=bI (n / 7) (n:=ms.length) rfl (by omega);rw[show eX (dm (loose ms))=.list ((dm (loose ms)).map c9)from rfl];have hlm:((dm (loose ms)).map c9).length=ms.length:=by rw[Xk,hl]
 refine ai (az (i:=3) bb.nd rfl (Xo rfl) (ay (ae 0) ah)) (λR kk=>?_);walk_at "vc";rw[ew];refine⟨by decide,kk _ _ ?_⟩;clear kk R;refine ai (az (i:=4) bb.nd rfl (Xo rfl) (ay (aL (ae 0) ah) (aI rfl z_len (aa (ae 1) af)))) (λR kk=>?_);walk_at "vc";rw[hlm,ec];refine⟨bg (by decide) (by decide),by omega,kk _ _ ?_⟩;clear kk R;refine ai (az (i:=5) bb.nd rfl (Xo rfl) (aL (ae 0) ah)) (λR kk=>?_);walk_at "vc";refine⟨bg (by decide) (by decide),kk _ _ ?_⟩;clear kk R;generalize n / 56=e;refine ai (aO (t9.dt (kH (br (hr.units) (ae 3) ah) (iV (t9.dt (wg (br (hr.units) (ae 4) ah) (rq (qy (ae 3) ah))))))) (aq (ar (aY (aF (aa (aF af) (aa (ax (aF (aa (au (aa ah (aa (aF af) af))) af)) (cC (ae 1) (bp ah) bo)) (aa (ax (aF (aa (au (aa dc (aa (aF (aa (au (aa aC af)) af)) af))) af)) (cC (ae 1) (bp ah) bo)) af)))) (ay (ae 5) ah) (λ_ _=>rfl)))) aw) (λR kk=>?_);obtain⟨a,ea,ha⟩:=bI e (m:=3) (n:=3) rfl (by decide);have ct:cutD ((dm (loose ms)).map c9) (some 1) none=r0.map c9:=by rw[VC,Yj,Ah]
 have h0:r0.length + 1=ms.length:=by rw[← hl,VC];rfl
 walk_at "vc";rw[ea,ct,Xk]
 have T:∃d,kz [.list [],.list (.tuple [.int 0,.list []]::r0.map c9),.list (.tuple [.none,.list [.tuple [.str (Str.ofString "number")]]]::r0.map c9)] (a:Int)=some d/\Q d:=by
  have a3:a=0∨a=1∨a=2:=by omega
  rcases a3 with rfl | rfl | rfl
  ·exact⟨_,rfl,q' [] .nil (by decide)⟩
  ·exact⟨_,rfl,q' ((some 0,[])::r0) (.first (by rw[XR];omega) (.inl (λh=>nomatch h))) (by rw[XR];omega)⟩
  ·exact⟨_,rfl,q' ((none,[.num])::r0) (.first (by rw[XR];omega) (.inr ⟨_,_,rfl⟩)) (by rw[XR];omega)⟩
 have nx:¬ (c=0/\3 < w)->R [some (.dat (.int n)),some (.dat (.list ((dm (loose ms)).map c9))),some (.dat (.list (bc zs))),some (.dat (.int (w:Int))),some (.dat (.int (c:Int))),some (.dat (.int e)),none,none,none,none] []:=λhn=>by
  refine kk _ _ ?_;clear kk R T;refine ai (aO (br (hr.units) (ae 3) ah) (aq (ar (ax (ae 1) (iC (aF (aa (au (aa ah (aa (aF af) af))) af)) (dG ah (aI rfl z_len (aa (ae 1) af))))))) aw) (λR kk=>?_);walk_at "vc";rw[hlm];refine aB (λ_=>?_) (λw1=>kk _ _ ?_)
  ·rw[show 9 - ((List.length ms:Nat):Int)=((9 - ms.length:Nat):Int)by omega,X1,sO,show List.replicate (9 - ms.length) (PyData.tuple [.int 0,.list []])=(List.replicate (9 - ms.length) ((some 0,[]):Option Int×List KI)).map c9 by rw[Y9];rfl,← Yb];have l9:(dm (loose ms)++List.replicate (9 - ms.length) ((some 0,[]):Option Int×List KI)).length=9:=by rw[Xw,Yq];omega
   refine⟨by omega,by omega,by omega,by rw[Xk,Yq];omega,q' _ (.many (by omega)) (by omega)⟩
  clear kk R;have hmc:=dC hc;generalize ms[c]=m at hmc;have hat:kz ((dm (loose ms)).map c9) (c:Int)=some (c9 (m.1.map λ(n:Nat)=>(n:Int),m.2.map Kd.ki)):=bP (f:=c9) (by unfold dm loose;rw[List.getElem?_map,List.getElem?_map,hmc];rfl);rw[show c9 (m.1.map λ(n:Nat)=>(n:Int),m.2.map Kd.ki)=.tuple [Dg (m.1.map λ(n:Nat)=>(n:Int)),.list ((m.2.map Kd.ki).map cG)]from rfl]at hat;have c1:cutD ((dm (loose ms)).map c9) none (some (c:Int))=((dm (loose ms)).take c).map c9:=oi _ _;have c2:cutD ((dm (loose ms)).map c9) (some ((c:Int) + 1)) none=((dm (loose ms)).drop (c + 1)).map c9:=vp _ (c + 1)
  have fin:∀m':Option Int×List KI,ua ((dm (loose ms)).take c++m'::(dm (loose ms)).drop (c + 1)) false->(cutD ((dm (loose ms)).map c9) none (some (c:Int))).length + 1<=1000000/\(cutD ((dm (loose ms)).map c9) none (some (c:Int))++[c9 m']).length + (cutD ((dm (loose ms)).map c9) (some ((c:Int) + 1)) none).length<=1000000/\Q (.list (cutD ((dm (loose ms)).map c9) none (some (c:Int))++[c9 m']++cutD ((dm (loose ms)).map c9) (some ((c:Int) + 1)) none)):=λm' hm'=>by
   rw[c1,c2,show((dm (loose ms)).take c).map c9++[c9 m']++((dm (loose ms)).drop (c + 1)).map c9=((dm (loose ms)).take c++m'::(dm (loose ms)).drop (c + 1)).map c9 by simp];have t1:((dm (loose ms)).take c).length<=8:=by rw[List.length_take];omega
   have t2:((dm (loose ms)).drop (c + 1)).length<=8:=by rw[Yx];omega
   refine⟨by rw[List.length_map];omega,by simp only[List.length_append,List.length_map,List.length_cons,List.length_nil];omega,q' _ hm' (by rw[List.length_append,List.length_cons];omega)⟩
  refine ai (aO (t9.dt (wg (xZ (ae 3) ah) (rq (qy (ae 4) ah)))) (aZ (az (i:=6) bb.nd rfl (Xo rfl) (aY (aF (aa (ae 4) (aa (ax (ax (ae 4) ah) (ay (aL (ae 5) ah) (wc ah ah))) (aa (b9 ah) (aa dc af))))) (ay (ae 5) ah) (λ_ _=>rfl)))
   (aq (ar (ax (ax (cC (ae 1) bo (bp (ae 4))) (aF (aa (au (aa (ae 6) (aa (aE (n:=1) (aY (ae 1) (ae 4) (λ_ _=>rfl))) af))) af))) (cC (ae 1) (bp (ax (ae 4) ah)) bo))))) aw) (λR kk=>?_)
  have VD:¬ (w < 5/\0 < c)->R [some (.dat (.int n)),some (.dat (.list ((dm (loose ms)).map c9))),some (.dat (.list (bc zs))),some (.dat (.int (w:Int))),some (.dat (.int (c:Int))),some (.dat (.int e)),none,none,none,none] []:=λh5=>by
   refine kk _ _ ?_;clear kk R;refine ai (aO (br (hr.units) (ae 3) ah) (aZ (az (i:=7) bb.nd rfl (Xo rfl) (iC (aF (aa (au (aa aC af)) af)) (aY (aF (aa ah (aa (dG ah (aY (ae 2) (ay (ae 4) (aI rfl z_len (aa (ae 2) af))) (λ_ _=>rfl))) af))) (ay (ae 5) ah) (λ_ _=>rfl))))
   (aq (ar (ax (ax (cC (ae 1) bo (bp (ae 4))) (aF (aa (au (aa (aE (n:=0) (aY (ae 1) (ae 4) (λ_ _=>rfl))) (aa (ax (aE (n:=1) (aY (ae 1) (ae 4) (λ_ _=>rfl))) (ae 7)) af))) af))) (cC (ae 1) (bp (ax (ae 4) ah)) bo))))) aw) (λR kk=>?_)
   walk_at "vc";have hzc:zs[c]?=some zs[c]:=dC (by omega);have h6c:=hg.six _ (List.getElem_mem (by omega:c < zs.length));have szc:=jy hg hzc;generalize zs[c]=z at hzc h6c szc;have own:cX (loose ms) c=m.2.map Kd.ki:=by unfold cX loose;rw[List.getElem?_map,hmc];rfl
   have ml:(m.2.map Kd.ki).length=m.2.length:=Xk _;have hL:=(er ms).len;have m6:=BM hg.wf hL hc (m.1,([]:List KI));rw[own,szc,ml]at m6;have m6:m.2.length<=6:=by have m6:_ + m.2.length=z + 0:=m6;omega
   rw[bV,show(c:Int) % ((zs.length:Nat):Int)=(c:Int)from Int.emod_eq_of_lt (by omega) (by omega)];refine aB (λw5=>⟨by omega,_,bP (f:=λ(n:Nat)=>PyData.int (n:Int)) hzc,?_⟩) (λw5=>kk _ _ ?_)
   ·walk_at "vc";obtain⟨b,eb,hb⟩:=bI e (m:=2) (n:=2) rfl (by decide);rw[eb]
    have hmore:∃j:Nat,j<=7/\7<=z + j/\kz [PyData.int 7,.int (7 - (z:Int))] (b:Int)=some (.int (j:Int)):=by
     have b2:b=0∨b=1:=by omega
     rcases b2 with rfl | rfl
     ·exact⟨7,by omega,by omega,rfl⟩
     ·exact⟨7 - z,by omega,by omega,by rw[show(7:Int) - (z:Int)=((7 - z:Nat):Int)by omega];rfl⟩
    obtain⟨j,hj,hzj,hjat⟩:=hmore;refine⟨by decide,_,hjat,?_⟩;walk_at "vc";refine⟨by omega,by omega,by omega,_,hat,?_⟩;walk_at "vc";refine⟨_,hat,?_⟩;walk_at "vc";rw[X1,sO,show List.replicate j (PyData.tuple [.str (Str.ofString "number")])=(List.replicate j KI.num).map cG by rw[Y9];rfl,← Yb,Xk,Xk];have hlj:(List.replicate j KI.num).length=j:=Yq;have WI:((List.replicate j KI.num).map cG).length=j:=by rw[Xk];exact hlj
    refine⟨by omega,fin (m.1.map λ(n:Nat)=>(n:Int),m.2.map Kd.ki++List.replicate j KI.num) (vv hg (by omega) hmc (by rw[Xw];omega) (.inl ?_))⟩;have h:=BM hg.wf hL hc (m.1,m.2.map Kd.ki++List.replicate j KI.num);rw[own,szc,Xw]at h;omega
   clear kk R;refine ai (aO (br (hr.units) (ae 4) ah) (aq (ar (ax (aF (aa (au (aa (b9 ah) (aa (aF af) af))) af)) (cC (ae 1) (bp ah) bo)))) aw) (λR kk=>?_);walk_at "vc";rw[ct,Xk];refine aB (λ_=>⟨by omega,q' ((some (-1),[])::r0) (.first (by rw[XR];omega) (.inl λh=>nomatch h)) (by rw[XR];omega)⟩) (λc0=>kk _ _ ?_);clear kk R;refine ai (az (i:=8) bb.nd rfl (Xo rfl) (aE (n:=1) (aY (ae 1) (ae 4) (λ_ _=>rfl)))) (λR kk=>?_);walk_at "vc";refine⟨_,hat,?_⟩;walk_at "vc";refine kk _ _ ?_;clear kk R;refine ai (aO (br (hr.units) (aI rfl z_len (aa (ae 8) af)) ah) (aq (az (i:=8) bb.nd rfl (Xo rfl) (aF (aa (au (aa aC (aa (aY (aF (aa (ax (aI rfl z_len (aa (ae 2) af)) (ay (aL (ae 5) ah) ah)) (aa (dG (b9 ah) (ay (aL (ae 5) ah) ah)) af))) (ay (ae 5) ah) (λ_ _=>rfl)) af))) af)))) (aZ (az (i:=9) bb.nd rfl (Xo rfl) (ay (ae 5) (aI rfl z_len (aa (ae 8) af))))
   (aq (az (i:=8) bb.nd rfl (Xo rfl) (ax (ax (cC (ae 8) bo (bp (ae 9))) (aF (aa (aA eU hU g9 (hr.mono (by decide)) rfl (aa (aL (ae 5) ah) (aa (ae 2) af))) af))) (cC (ae 8) (bp (ax (ae 9) ah)) bo)))))) (λR kk=>?_)
   have P1:∀(l:List KI) (o:Option DV),l.length<=50->(∃k∈l,BI ((loose ms).set c (m.1,l)) ms k=false)->R [some (.dat (.int n)),some (.dat (.list ((dm (loose ms)).map c9))),some (.dat (.list (bc zs))),some (.dat (.int (w:Int))),some (.dat (.int (c:Int))),some (.dat (.int e)),none,none,some (.dat (.list (l.map cG))),o] []:=λl o Ua hbad=>by
    refine kk _ _ ?_;clear kk R;refine aS (ar (ax (ax (cC (ae 1) bo (bp (ae 4))) (aF (aa (au (aa (aE (n:=0) (aY (ae 1) (ae 4) (λ_ _=>rfl))) (aa (ae 8) af))) af))) (cC (ae 1) (bp (ax (ae 4) ah)) bo))) ?_;walk_at "vc";refine⟨_,hat,?_⟩;walk_at "vc";exact fin (m.1.map λ(n:Nat)=>(n:Int),l) (vv hg (by omega) hmc Ua (.inr hbad))
   walk_at "vc";rw[Xk,ml,bV];refine aB (λ_=>?_) (λCL=>?_)
   ·obtain⟨a2,WJ,Xf⟩:=bI (e / 2) (m:=3) (n:=3) rfl (by decide);obtain⟨b,eb,hb⟩:=bI e (m:=2) (n:=2) rfl (by decide);rw[WJ,eb]
    have Ub:∃x:Int,kz [PyData.int ((zs.length:Int) + (a2:Int)),.int (-1 - (a2:Int))] (b:Int)=some (.int x)/\(x < 0∨(zs.length:Int)<=x):=by
     have b2:b=0∨b=1:=by omega
     rcases b2 with rfl | rfl
     ·exact⟨_,rfl,.inr (by omega)⟩
     ·exact⟨_,rfl,.inl (by omega)⟩
    obtain⟨x,hx,hxb⟩:=Ub;exact⟨bg (by decide) (by decide),by decide,bg (by decide) (by decide),by decide,by decide,_,hx,P1 [.whole x] _ (by show 1<=50;decide) ⟨_,Yc.mpr rfl,CQ (by rw[YA];omega)⟩⟩
   ·have CL:¬ ((m.2.length:Nat):Int)=0:=CL;obtain⟨j,ej,hj⟩:=bI e (n:=m.2.length) rfl (by omega);rw[ej];refine⟨by omega,bg (by decide) (by decide),_,zs,rfl,by omega,by omega,hg.six,λk hk=>?_⟩;obtain⟨l1,l2,l3⟩:=lJ (f:=cG) (m.2.map Kd.ki) j k;have lp:=oj (m.2.map Kd.ki) j k (by omega);rw[l3];refine⟨by omega,by rw[Xw];show _ + 1 + _<=_;omega,P1 _ _ (by omega) ⟨k,wI _ _ _,?_⟩⟩;rw[FJ (L:=loose ms) (YA ..) (λd=>FI (by omega) (by show _=(cX (loose ms) c).length;rw[own];exact lp) d),pO hg];exact hk
  walk_at "vc";refine aB (λw5=>aB (λcp=>?_) (λc0=>VD λh=>c0 (by omega))) (λw5=>bZ (VD λh=>w5 (by omega)));have p9:(0:Int) < 10 ^ Int.toNat 9:=by decide
  have e0:=YB (e / 4) (Int.ne_of_gt p9);generalize (10:Int) ^ Int.toNat 9=T at p9 e0;generalize e / 4 % T=u at e0;obtain⟨b,eb,hb⟩:=bI e (m:=4) (n:=4) rfl (by decide);rw[eb]
  have hel:∃x:Option Int,kz [PyData.int (c:Int),.int ((c:Int) + 1 + u),.int (-1),.none] (b:Int)=some (Dg x)/\Dh c x=false:=by
   have b4:b=0∨b=1∨b=2∨b=3:=by omega
   rcases b4 with rfl | rfl | rfl | rfl
   ·exact⟨some c,rfl,Ak (by omega)⟩
   ·exact⟨some ((c:Int) + 1 + u),rfl,Ak (by omega)⟩
   ·exact⟨some (-1),rfl,Ak (by omega)⟩
   ·exact⟨none,rfl,rfl⟩
  obtain⟨x,hx,hxb⟩:=hel;refine⟨bg (by decide) (by decide),⟨by decide,by decide,by decide⟩,p9,by decide,_,hx,_,hat,?_⟩;walk_at "vc";exact fin (x,m.2.map Kd.ki) (yA hg (by omega) hc hxb)
 refine aB (λ_=>cc ⟨by omega,by omega,by decide,T⟩) (λw0=>aB (λc0=>aB (λ_=>⟨by omega,by omega,by decide,T⟩) (λw3=>nx λh=>w3 (by omega))) (λc0=>bZ (nx λh=>c0 (by omega))))
theorem ba:aG ["_law_cell","_law_sizes","_law_part_here","_law_takes","_law_gives","_law_boxes","_law_height","_law_rows","_law_stretches","_law_way","_law_rest","_law_at","_law_more"] ["_law_cell","_law_sizes","_law_part_here"] (dS i6):=by walk_at "sc"
theorem qX{f:Addr}{fd:FuncData}(F:eW K "_law_no_head" "_law_no_head" i6 f fd)(z_len:mg "len"=none)(z_min:mg "min"=none)(eU:dj P w K mg base bM "_law_no_kind" 1 ["_law_cell","_law_sizes"] (eG K)):bE P w K mg base bM 2 f fd ["_law_cell","_law_sizes","_law_part_here"] (hV K):=by
 refine F.lI ba (λds Q h=>?_) (λcdv A outer s H E ds Q hr h=>?_)
 ·obtain⟨n,zs,p,rfl,hz,iT,h6,Ga,hbx,q⟩:=h;rfl
 obtain⟨n,zs,p,rfl,hz,iT,h6,Ga,hbx,q⟩:=h;show iu _ _ _ _ [some _,some _,some _,none,none,none,none,none,none,none,none,none,none] [];rw[show fU p=.tuple [.list (p.tk.map cG),cG p.gv,.int p.bx,.int p.ht,.list p.rows,.list (p.ss.map mY)]from rfl]at *;obtain⟨w,ew,hw⟩:=bI n (m:=6) (n:=6) rfl (by decide);have fin:∀p':PX,dU zs p'=false->p'.tk.length<=40->-1<=p'.bx->p'.rows=p.rows->p'.ss=p.ss->Q (.tuple [.list (p'.tk.map cG),cG p'.gv,.int p'.bx,.int p'.ht,.list p'.rows,.list (p'.ss.map mY)]):=q;refine ai (mL (ae 2) (pB (m:=6) rfl (aR (aQ (i:=3) ba.nd rfl (Xo rfl)) (aR (aQ (i:=4) ba.nd rfl (Xo rfl)) (aR (aQ (i:=5) ba.nd rfl (Xo rfl)) (aR (aQ (i:=6) ba.nd rfl (Xo rfl)) (aR (aQ (i:=7) ba.nd rfl (Xo rfl)) (aR (aQ (i:=8) ba.nd rfl (Xo rfl)) fv)))))))) (λR kk=>?_);walk_at "vc";refine⟨rfl,kk _ _ ?_⟩;clear kk R;refine ai (az (i:=9) ba.nd rfl (Xo rfl) (ay (ae 0) ah)) (λR kk=>?_);walk_at "vc";rw[ew];refine⟨by decide,kk _ _ ?_⟩;clear kk R;refine ai (az (i:=10) ba.nd rfl (Xo rfl) (aL (ae 0) ah)) (λR kk=>?_);walk_at "vc";refine⟨bg (by decide) (by decide),kk _ _ ?_⟩;clear kk R;generalize n / 6=e;refine ai (aO (t9.dt (wg (br (hr.units) (ae 9) ah) (rq (qy (aI rfl z_len (aa (ae 3) af)) ah)))) (aZ (az (i:=11) ba.nd rfl (Xo rfl) (ay (ae 10) (aI rfl z_len (aa (ae 3) af))))
   (aq (ar (au (aa (ax (ax (cC (ae 3) bo (bp (ae 11))) (aF (aa (aA eU hU g9 (hr.mono (by decide)) rfl (aa (aL (ae 10) ah) (aa (ae 1) af))) af))) (cC (ae 3) (bp (ax (ae 11) ah)) bo)) (aa (ae 4) (aa (ae 5) (aa (ae 6) (aa (ae 7) (aa (ae 8) af)))))))))) aw) (λR kk=>?_)
 walk_at "vc"
 have nx:R [some (.dat (.int n)),some (.dat (.list (bc zs))),some (.dat (.tuple [.list (p.tk.map cG),cG p.gv,.int p.bx,.int p.ht,.list p.rows,.list (p.ss.map mY)])),some (.dat (.list (p.tk.map cG))),some (.dat (cG p.gv)),some (.dat (.int p.bx)),some (.dat (.int p.ht)),some (.dat (.list p.rows)),some (.dat (.list (p.ss.map mY))),some (.dat (.int (w:Int))),some (.dat (.int e)),none,none] []:=by
  refine kk _ _ ?_;clear kk R;refine ai (aO (xZ (ae 9) ah) (aq (ar (au (aa (ae 3) (aa (aA eU hU g9 (hr.mono (by decide)) rfl (aa (ae 10) (aa (ae 1) af))) (aa (ae 5) (aa (ae 6) (aa (ae 7) (aa (ae 8) af))))))))) aw) (λR kk=>?_);walk_at "vc";refine aB (λ_=>⟨e,zs,rfl,hz,iT,h6,λk hk=>fin {p with gv:=k} (vw (XU _ (Yc.mpr rfl)) hk) Ga hbx rfl rfl⟩) (λ_=>kk _ _ ?_);clear kk R;refine ai (aO (br (hr.units) (ae 9) ah) (aq (ar (au (aa (ae 3) (aa (ae 4) (aa (aY (aF (aa ah (aa (b9 ah) (aa (wc ah ah) af)))) (ay (ae 10) ah) (λ_ _=>rfl)) (aa (ae 6) (aa (ae 7) (aa (ae 8) af))))))))) aw) (λR kk=>?_);walk_at "vc";refine aB (λ_=>?_) (λ_=>kk _ _ ?_)
  ·obtain⟨a,ea,ha⟩:=bI e (m:=3) (n:=3) rfl (by decide);rw[ea];refine⟨⟨by decide,by decide,by decide⟩,by decide,?_⟩;have a3:a=0∨a=1∨a=2:=by omega
   rcases a3 with rfl | rfl | rfl
   ·exact⟨_,rfl,fin {p with bx:=9} (eA (.inr (.inl (by show(8:Int) < 9;decide)))) Ga (by show(-1:Int)<=9;decide) rfl rfl⟩
   ·exact⟨_,rfl,fin {p with bx:=-1} (eA (.inl (by show(-1:Int) < 0;decide))) Ga (Int.le_refl _) rfl rfl⟩
   ·exact⟨_,rfl,fin {p with bx:=10 ^ Int.toNat 12} (eA (.inr (.inl (by show(8:Int) < 10 ^ Int.toNat 12;decide)))) Ga (by show(-1:Int)<=10 ^ Int.toNat 12;decide) rfl rfl⟩
  clear kk R;refine ai (aO (br (hr.units) (ae 9) ah) (aZ (az (i:=12) ba.nd rfl (Xo rfl) (iC (aF (aa (au (aa aC af)) af)) (dG (ax (LB rfl rfl z_min (aa (ae 5) (aa ah af))) ah) (aI rfl z_len (aa (ae 3) af)))))
   (aq (ar (au (aa (ax (ae 3) (ae 12)) (aa (ae 4) (aa (ae 5) (aa (ae 6) (aa (ae 7) (aa (ae 8) af)))))))))) aw) (λR kk=>?_)
  walk_at "vc";rw[Xk]
  have mx:(if (9:Int) < p.bx then(9:Int)else p.bx)<=9/\(if (9:Int) < p.bx then(9:Int)else p.bx)<=p.bx/\-1<=(if (9:Int) < p.bx then(9:Int)else p.bx)/\((if (9:Int) < p.bx then(9:Int)else p.bx)=p.bx∨8 < p.bx):=by
   split<;>omega
  generalize (if (9:Int) < p.bx then(9:Int)else p.bx)=x at mx;obtain⟨m1,m2,m3,m4⟩:=mx;have hm:∃m:Nat,(x + 1 - (p.tk.length:Int)).toNat=m/\m<=10/\x + 1<=(p.tk.length:Int) + (m:Int):=⟨_,rfl,by omega,by omega⟩;obtain⟨m,em,WK,hmx⟩:=hm;rw[em,sO,show List.replicate m (PyData.tuple [.str (Str.ofString "number")])=(List.replicate m KI.num).map cG by rw[Y9];rfl,← Yb];have lr:(List.replicate m KI.num).length=m:=Yq;have la:(p.tk++List.replicate m KI.num).length=p.tk.length + m:=by rw[Xw,lr]
  refine aB (λ_=>⟨by omega,by omega,by omega,by rw[Xk];omega,fin {p with tk:=p.tk++List.replicate m KI.num} (eA ?_) (by show(p.tk++List.replicate m KI.num).length<=40;omega) hbx rfl rfl⟩) (λ_=>kk _ _ ?_)
  ·show p.bx < 0∨8 < p.bx∨p.ht < 1∨8 < p.ht∨p.bx < ((p.tk++List.replicate m KI.num).length:Int)∨_;rw[la];omega
  clear kk R;refine aS (ar (au (aa (ae 3) (aa (ae 4) (aa (ae 5) (aa (aY (aF (aa ah (aa ah (aa (b9 ah) (aa (wc ah ah) af))))) (ay (ae 10) ah) (λ_ _=>rfl)) (aa (ae 7) (aa (ae 8) af)))))))) ?_;walk_at "vc";obtain⟨a,ea,ha⟩:=bI e (m:=4) (n:=4) rfl (by decide);rw[ea];refine⟨⟨by decide,by decide,by decide⟩,by decide,?_⟩;have a4:a=0∨a=1∨a=2∨a=3:=by omega
  rcases a4 with rfl | rfl | rfl | rfl
  ·exact⟨_,rfl,fin {p with ht:=0} (eA (.inr (.inr (.inl (by show(0:Int) < 1;decide))))) Ga hbx rfl rfl⟩
  ·exact⟨_,rfl,fin {p with ht:=9} (eA (.inr (.inr (.inr (.inl (by show(8:Int) < 9;decide)))))) Ga hbx rfl rfl⟩
  ·exact⟨_,rfl,fin {p with ht:=-1} (eA (.inr (.inr (.inl (by show(-1:Int) < 1;decide))))) Ga hbx rfl rfl⟩
  ·exact⟨_,rfl,fin {p with ht:=10 ^ Int.toNat 12} (eA (.inr (.inr (.inr (.inl (by show(8:Int) < 10 ^ Int.toNat 12;decide)))))) Ga hbx rfl rfl⟩
 rw[Xk];refine aB (λ_=>aB (λh0=>?_) (λ_=>nx)) (λ_=>bZ nx);have h0:(0:Int) < (p.tk.length:Int):=h0;obtain⟨j,ej,hj⟩:=bI e (n:=p.tk.length) rfl (by omega);rw[ej];refine⟨h0,bg (by decide) (by decide),_,zs,rfl,hz,iT,h6,λk hk=>?_⟩;obtain⟨l1,l2,l3⟩:=lJ (f:=cG) p.tk j k;have lp:=oj p.tk j k hj;rw[l3];exact⟨by omega,by rw[Xw];show _ + 1 + _<=_;omega,fin {p with tk:=p.tk.take j++k::p.tk.drop (j + 1)} (vw (Zr _ (wI _ _ _)) hk) (by show(p.tk.take j++k::p.tk.drop (j + 1)).length<=40;omega) hbx rfl rfl⟩
theorem bT:aG ["_law_cell","_law_sizes","_law_parts","_law_part_here","_law_way","_law_rest","_law_below","_law_c","_law_sign","_law_some"] ["_law_cell","_law_sizes","_law_parts","_law_part_here"] (dS jN):=by walk_at "sc"
theorem tP{f:Addr}{fd:FuncData}(F:eW K "_law_no_row" "_law_no_row" jN f fd)(z_int:mg "int"=none)(z_len:mg "len"=none):bE P w K mg base bM 1 f fd ["_law_cell","_law_sizes","_law_parts","_law_part_here"] (jg K):=by
 refine F.lI bT (λds Q h=>?_) (λcdv A outer s H E ds Q hr h=>?_)
 ·obtain⟨n,zs,np,p,rfl,hz,q⟩:=h;rfl
 obtain⟨n,zs,np,p,rfl,hz,q⟩:=h;show iu _ _ _ _ [some _,some _,some _,some _,none,none,none,none,none,none] [];rw[show fU p=.tuple [.list (p.tk.map cG),cG p.gv,.int p.bx,.int p.ht,.list p.rows,.list (p.ss.map mY)]from rfl]at *;obtain⟨w,ew,hw⟩:=bI n (m:=8) (n:=8) rfl (by decide);refine ai (az (i:=4) bT.nd rfl (Xo rfl) (ay (ae 0) ah)) (λR kk=>?_);walk_at "vc";rw[ew];refine⟨by decide,kk _ _ ?_⟩;clear kk R;refine ai (az (i:=5) bT.nd rfl (Xo rfl) (aL (ae 0) ah)) (λR kk=>?_);walk_at "vc";refine⟨bg (by decide) (by decide),kk _ _ ?_⟩;clear kk R;generalize n / 32=e;refine ai (az (i:=6) bT.nd rfl (Xo rfl) (Bj (hr.units) (ay (aL (ae 0) ah) ah) ah)) (λR kk=>?_);walk_at "vc";refine⟨bg (by decide) (by decide),by decide,kk _ _ ?_⟩;clear kk R;generalize decide (n / 8 % 4=0)=b;refine ai (az (i:=7) bT.nd rfl (Xo rfl) (ay (ae 5) (aI rfl z_len (aa (ae 1) af)))) (λR kk=>?_);walk_at "vc";rw[bV];obtain⟨c,ec,hc⟩:=bI e (n:=zs.length) rfl hz;rw[ec];refine⟨by omega,kk _ _ ?_⟩;clear kk R;refine ai (aO (br (hr.units) (ae 4) ah) (aq (ar (au (aa (aY (aF (aa aC (aa aC af))) (ay (ae 5) ah) (λ_ _=>rfl)) (aa (aY (aF (aa (aE (n:=2) (ae 3)) (aa (b9 ah) af))) (fO rfl z_int (aa (ae 6) af)) (λ_ _=>rfl)) af))))) aw) (λR kk=>?_);walk_at "vc";obtain⟨j2,VE,Xg⟩:=bI e (m:=2) (n:=2) rfl (by decide);have z2:j2=0∨j2=1:=by omega
 have fin:∀(s:Str) (ns:List Int) (i:Nat) (w:Str) (v:Int),ns.length<=10->(aP s)[i]?=some w->ns[i]?=some v->(cU w (.int v)=false∨aT zs np p.bx p.rows.length (ns.headD 0) w v=false)->Q (.tuple (.str s::ns.map PyData.int)):=λs ns i w v h1 h2 h3 h4=>q _ (gY s ns h1 (CU h2)) (Ii i h2 h3 h4)
 refine aB (λ_=>?_) (λ_=>kk _ _ ?_)
 ·rw[VE];obtain⟨v,hv,hx⟩:=pT b p.bx;rcases z2 with rfl | rfl
  ·exact⟨by decide,_,rfl,_,hv,fin "load" [v] 0 "box" v (XY 1 9) (by decide +kernel) rfl (BN hx)⟩
  ·exact⟨by decide,_,rfl,_,hv,fin "store" [v] 0 "box" v (XY 1 9) (by decide +kernel) rfl (BN hx)⟩
 clear kk R;refine ai (aO (br (hr.units) (ae 4) ah) (aq (ar (au (aa (aY (aF (aa aC (aa aC af))) (ay (ae 5) ah) (λ_ _=>rfl)) (aa (aY (aF (aa (aI rfl z_len (aa (aE (n:=4) (ae 3)) af)) (aa (b9 ah) af))) (fO rfl z_int (aa (ae 6) af)) (λ_ _=>rfl)) af))))) aw) (λR kk=>?_);walk_at "vc";refine aB (λ_=>?_) (λ_=>kk _ _ ?_)
 ·rw[VE];obtain⟨v,hv,hx⟩:=pT b (p.rows.length:Int);rcases z2 with rfl | rfl
  ·exact⟨by decide,_,rfl,_,hv,fin "jump" [v] 0 "place" v (XY 1 9) (by decide +kernel) rfl (pV hx)⟩
  ·exact⟨by decide,_,rfl,_,hv,fin "zero" [v] 0 "place" v (XY 1 9) (by decide +kernel) rfl (pV hx)⟩
 clear kk R;refine ai (aO (br (hr.units) (ae 4) ah) (aq (ar (au (aa aC (aa (ae 7) (aa (aY (aF (aa (aI rfl z_len (aa (aE (n:=4) (ae 3)) af)) (aa (b9 ah) af))) (fO rfl z_int (aa (ae 6) af)) (λ_ _=>rfl)) af)))))) aw) (λR kk=>?_);walk_at "vc";refine aB (λ_=>?_) (λ_=>kk _ _ ?_)
 ·obtain⟨v,hv,hx⟩:=pT b (p.rows.length:Int);exact⟨_,hv,fin "kin" [(c:Int),v] 1 "place" v (XY 2 8) (by decide +kernel) rfl (pV hx)⟩
 clear kk R;refine ai (aO (br (hr.units) (ae 4) ah) (aZ (az (i:=8) bT.nd rfl (Xo rfl) (aY (aF (aa aC (aa aC (aa aC (aa aC (aa aC (aa aC af))))))) (ay (ae 5) ah) (λ_ _=>rfl)))
   (aq (ar (ax (au (aa (ae 8) (aa (aY (aF (aa (aI rfl z_len (aa (ae 1) af)) (aa (b9 ah) af))) (fO rfl z_int (aa (ae 6) af)) (λ_ _=>rfl)) af))) (iC (au (aa ah af)) (fO rfl z_int (aa (vd (ay (ae 5) ah) ah) af))))))) aw) (λR kk=>?_)
 walk_at "vc";rw[bV];obtain⟨j6,WL,Xh⟩:=bI e (m:=6) (n:=6) rfl (by decide);refine aB (λ_=>?_) (λ_=>kk _ _ ?_)
 ·rw[WL];obtain⟨v,hv,hx⟩:=pT b (zs.length:Int);have z6:j6=0∨j6=1∨j6=2∨j6=3∨j6=4∨j6=5:=by omega
  rcases z6 with rfl | rfl | rfl | rfl | rfl | rfl
  ·exact⟨by decide,_,rfl,_,hv,by decide,YJ _ _,by decide,by decide,by decide,by decide,fin "kin" [v,0] 0 "make" v (XY 2 8) (by decide +kernel) rfl (jz hx)⟩
  ·exact⟨by decide,_,rfl,_,hv,by decide,YJ _ _,by decide,by decide,by decide,by decide,fin "fill" [v,0] 0 "make" v (XY 2 8) (by decide +kernel) rfl (jz hx)⟩
  ·exact⟨by decide,_,rfl,_,hv,by decide,YJ _ _,by decide,by decide,by decide,by decide,fin "get" [v,0] 0 "make" v (XY 2 8) (by decide +kernel) rfl (jz hx)⟩
  ·exact⟨by decide,_,rfl,_,hv,by decide,YJ _ _,by decide,by decide,by decide,by decide,fin "put" [v,0] 0 "make" v (XY 2 8) (by decide +kernel) rfl (jz hx)⟩
  ·exact⟨by decide,_,rfl,_,hv,by decide,YJ _ _,by decide,by decide,by decide,by decide,fin "make" [v] 0 "make" v (XY 1 9) (by decide +kernel) rfl (jz hx)⟩
  ·exact⟨by decide,_,rfl,_,hv,by decide,YJ _ _,by decide,by decide,by decide,by decide,fin "begin" [v] 0 "make" v (XY 1 9) (by decide +kernel) rfl (jz hx)⟩
 clear kk R;have hzc:=dC hc;generalize zs[c]=z at hzc;refine ai (aO (br (hr.units) (ae 4) ah) (aq (ar (au (aa (aY (aF (aa aC (aa aC (aa aC af)))) (ay (aL (ae 5) ah) ah) (λ_ _=>rfl)) (aa (ae 7) (aa (aY (aF (aa (aY (ae 1) (ae 7) (λ_ _=>rfl)) (aa (b9 ah) af))) (fO rfl z_int (aa (ae 6) af)) (λ_ _=>rfl)) af)))))) aw) (λR kk=>?_);walk_at "vc";obtain⟨j3,WM,Xi⟩:=bI (e / 8) (m:=3) (n:=3) rfl (by decide);refine aB (λ_=>?_) (λ_=>kk _ _ ?_)
 ·rw[WM];obtain⟨v,hv,hx⟩:=pT b (z:Int);have z3:j3=0∨j3=1∨j3=2:=by omega
  have hzat:kz (bc zs) (c:Int)=some (.int (z:Int)):=bP (f:=λ(n:Nat)=>PyData.int (n:Int)) hzc;rcases z3 with rfl | rfl | rfl
  ·exact⟨bg (by decide) (by decide),by decide,_,rfl,_,hzat,_,hv,fin "fill" [(c:Int),v] 1 "field" v (XY 2 8) (by decide +kernel) rfl (pW hzc hx)⟩
  ·exact⟨bg (by decide) (by decide),by decide,_,rfl,_,hzat,_,hv,fin "get" [(c:Int),v] 1 "field" v (XY 2 8) (by decide +kernel) rfl (pW hzc hx)⟩
  ·exact⟨bg (by decide) (by decide),by decide,_,rfl,_,hzat,_,hv,fin "put" [(c:Int),v] 1 "field" v (XY 2 8) (by decide +kernel) rfl (pW hzc hx)⟩
 clear kk R;refine ai (aO (br (hr.units) (ae 4) ah) (aq (ar (au (aa aC (aa (aY (aF (aa (ae 2) (aa (b9 ah) af))) (fO rfl z_int (aa (ae 6) af)) (λ_ _=>rfl)) af))))) aw) (λR kk=>?_);walk_at "vc";refine aB (λ_=>?_) (λ_=>kk _ _ ?_)
 ·obtain⟨v,hv,hx⟩:=pT b (np:Int);exact⟨_,hv,fin "call" [v] 0 "part" v (XY 1 9) (by decide +kernel) rfl (FO hx)⟩
 clear kk R;refine ai (az (i:=9) bT.nd rfl (Xo rfl) (aF (aa (au (aa aC (aa ah af))) (aa (au (aa aC (aa (b9 ah) af))) (aa (au (aa aC (aa dQ af))) (aa (au (aa aC af)) (aa (au (aa aC (aa ah (aa ah af)))) (aa (au (aa aC af)) af)))))))) (λR kk=>?_);walk_at "vc";refine kk _ _ ?_;clear kk R;refine ai (az (i:=9) bT.nd rfl (Xo rfl) (ax (ae 9) (aF (aa aC (aa dc (aa ah (aa (aF (aa aC af)) (aa (au af) (aa (au (aa aC (aa ah af))) (aa (au (aa ah af)) (aa (au (aa aC (aa ah af))) af))))))))))) (λR kk=>?_);walk_at "vc";refine⟨by decide,kk _ _ ?_⟩;clear kk R;refine aS (ar (aY (ae 9) (ay (ae 5) ah) (λ_ _=>rfl))) ?_;walk_at "vc";obtain⟨i,ei,hi⟩:=bI e (m:=14) (n:=14) rfl (by decide);rw[ei];have hd:=dC (l:=pU) (i:=i) hi;have hm:=Y0 (l:=pU) (n:=i) hi;exact⟨by decide,_,(by have h:=bP (f:=id) hd;rwa [Zl]at h),q _ (CV _ hm) (FL (yD _ hm))⟩
theorem dO:aG ["_law_cell","_law_many","_law_first","_law_some"] ["_law_cell","_law_many"] (dS fg):=by walk_at "sc"
theorem nk{f:Addr}{fd:FuncData}(F:eW K "_law_no_stretch" "_law_no_stretch" fg f fd):bE P w K mg base bM 1 f fd ["_law_cell","_law_many"] (eJ K):=by
 refine F.lI dO (λds Q h=>?_) (λcdv A outer s H E ds Q hr h=>?_)
 ·obtain⟨n,nr,rfl,hn,q⟩:=h;rfl
 obtain⟨n,nr,rfl,hn,q⟩:=h;show iu _ _ _ _ [some _,some _,none,none] [];obtain⟨a,ea,ha⟩:=bI (n / 5) (n:=nr) rfl hn;obtain⟨b,eb,hb⟩:=bI (n / 500) (m:=(a:Int) + 1) (n:=a + 1) (by omega) (by omega);obtain⟨i,ei,hi⟩:=bI n (m:=5) (n:=5) rfl (by decide);refine ai (az (i:=2) dO.nd rfl (Xo rfl) (ay (aL (ae 0) ah) (ae 1))) (λR kk=>?_);walk_at "vc";rw[ea];refine⟨bg (by decide) (by decide),by omega,kk _ _ ?_⟩;clear kk R;refine ai (az (i:=3) dO.nd rfl (Xo rfl) (aF (aa (au (aa (ae 2) (aa (ay (aL (ae 0) ah) (ax (ae 2) ah)) (aa ah af)))) (aa (au (aa (ae 2) (aa (ax (ae 1) ah) (aa ah af)))) (aa (au (aa (b9 ah) (aa (ax (ae 2) ah) (aa ah af)))) af))))) (λR kk=>?_);walk_at "vc";rw[eb];refine⟨bg (by decide) (by decide),by omega,kk _ _ ?_⟩;clear kk R;refine aS (ar (aY (ax (ae 3) (aF (aa (au (aa ah (aa ah (aa (ae 1) af)))) (aa (au (aa ah (aa (ae 1) (aa (b9 ah) af)))) af)))) (ay (ae 0) ah) (λ_ _=>rfl))) ?_;walk_at "vc";rw[ei];refine⟨by decide,by decide,?_⟩;have i5:i=0∨i=1∨i=2∨i=3∨i=4:=by omega
 rcases i5 with rfl | rfl | rfl | rfl | rfl
 ·exact⟨_,rfl,q ((a:Int),(b:Int),0) (oo (by omega))⟩
 ·exact⟨_,rfl,q ((a:Int),(nr:Int) + 1,0) (oo (by omega))⟩
 ·exact⟨_,rfl,q (-1,(a:Int) + 1,0) (oo (by omega))⟩
 ·exact⟨_,rfl,q (0,1,(nr:Int)) (oo (by omega))⟩
 ·exact⟨_,rfl,q (0,(nr:Int),-1) (oo (by omega))⟩
theorem aH:aG ["_law_cell","_law_number","_law_book_here","_law_sizes","_law_takes","_law_gives","_law_boxes","_law_height","_law_rows","_law_stretches","_law_way","_law_rest","_law_at","_law_last_here"] ["_law_cell","_law_number","_law_book_here","_law_sizes"] (dS i7):=by walk_at "sc"
theorem qY{f:Addr}{fd:FuncData}(F:eW K "_law_no_part" "_law_no_part" i7 f fd)(z_len:mg "len"=none)(tQ:dj P w K mg base bM "_law_no_head" 2 ["_law_cell","_law_sizes","_law_part_here"] (hV K))(uF:dj P w K mg base bM "_law_no_row" 1 ["_law_cell","_law_sizes","_law_parts","_law_part_here"] (jg K))(oP:dj P w K mg base bM "_law_no_stretch" 1 ["_law_cell","_law_many"] (eJ K))(m9:dj P w K mg base bM "_law_row" 2 ["_law_cell","_law_sizes","_law_parts","_law_boxes","_law_many"] (jU K)):bE P w K mg base bM 3 f fd ["_law_cell","_law_number","_law_book_here","_law_sizes"] (eK K):=by
 refine F.lI aH (λds Q h=>?_) (λcdv A outer s H E ds Q hr h=>?_)
 ·obtain⟨n,k,ld,zs,ps,p,rfl,hz,iT,h6,hp,hJ,T8,q⟩:=h;rfl
 obtain⟨n,k,ld,zs,ps,p,rfl,hz,iT,h6,hp,hJ,T8,q⟩:=h;show iu _ _ _ _ [some _,some _,some _,some _,none,none,none,none,none,none,none,none,none,none] [];have hI:=hJ.i;have hk:=(bX hp).1;rw[show pR ld ps=.tuple [eX ld,.list (ps.map fU)]from rfl];have hpat:kz (ps.map fU) (k:Int)=some (.tuple [.list (p.tk.map cG),cG p.gv,.int p.bx,.int p.ht,.list p.rows,.list (p.ss.map mY)]):=bP (f:=fU) hp;obtain⟨w,ew,hw⟩:=bI n (m:=6) (n:=6) rfl (by decide);refine ai (mL (aY (aE (n:=1) (ae 2)) (ae 1) (λ_ _=>rfl)) (pB (m:=6) rfl (aR (aQ (i:=4) aH.nd rfl (Xo rfl)) (aR (aQ (i:=5) aH.nd rfl (Xo rfl)) (aR (aQ (i:=6) aH.nd rfl (Xo rfl)) (aR (aQ (i:=7) aH.nd rfl (Xo rfl)) (aR (aQ (i:=8) aH.nd rfl (Xo rfl)) (aR (aQ (i:=9) aH.nd rfl (Xo rfl)) fv)))))))) (λR kk=>?_);walk_at "vc";refine⟨_,hpat,?_⟩;walk_at "vc";refine⟨rfl,kk _ _ ?_⟩;clear kk R;refine ai (az (i:=10) aH.nd rfl (Xo rfl) (ay (ae 0) ah)) (λR kk=>?_);walk_at "vc";rw[ew];refine⟨by decide,kk _ _ ?_⟩;clear kk R;refine ai (az (i:=11) aH.nd rfl (Xo rfl) (aL (ae 0) ah)) (λR kk=>?_);walk_at "vc";refine⟨bg (by decide) (by decide),kk _ _ ?_⟩;clear kk R;generalize n / 6=e;refine ai (aO (br (hr.units) (ae 10) ah) (aq (ar (aF (aa (aA tQ tF tE (hr.mono (by decide)) rfl (aa (ae 11) (aa (ae 3) (aa (aY (aE (n:=1) (ae 2)) (ae 1) (λ_ _=>rfl)) af)))) (aa (au (aa (ae 1) (aa ah (aa ah af)))) af))))) aw) (λR kk=>?_);walk_at "vc";refine aB (λ_=>⟨_,hpat,?_⟩) (λw0=>kk _ _ ?_)
 ·refine⟨e,zs,p,rfl,hz,iT,h6,hI.tk,hJ.bx,λp' h1 h2 h3 h4 h5=>?_⟩;exact q p' 0 0 ⟨⟨h2,by rw[h4];exact hI.rows,by rw[h4];exact hI.sh,by rw[h5];exact hI.ss⟩,h3⟩ ⟨yE h1,by decide,(λh=>nomatch h),(λh=>nomatch h),(λ_=>by rw[h4]),by rw[h5];exact YG _ _⟩
 clear kk R;refine ai (aO (t9.dt (kH (br (hr.units) (aI rfl z_len (aa (ae 8) af)) ah) (iV (br (hr.units) (ae 10) ah)))) (aZ (az (i:=8) aH.nd rfl (Xo rfl) (aY (aF (aa (iC (ae 8) ah) (aa (cC (iC (ae 8) ah) bo (bp ah)) af))) (ay (ae 11) ah) (λ_ _=>rfl)))
   (aq (ar (aF (aa (au (aa (ae 4) (aa (ae 5) (aa (ae 6) (aa (ae 7) (aa (ae 8) (aa (ae 9) af))))))) (aa (au (aa (ae 1) (aa ah (aa ah af)))) af)))))) aw) (λR kk=>?_)
 walk_at "vc"
 have nx:¬ (p.rows.length=0∨w=1)->R [some (.dat (.int n)),some (.dat (.int (k:Int))),some (.dat (.tuple [eX ld,.list (ps.map fU)])),some (.dat (.list (bc zs))),some (.dat (.list (p.tk.map cG))),some (.dat (cG p.gv)),some (.dat (.int p.bx)),some (.dat (.int p.ht)),some (.dat (.list p.rows)),some (.dat (.list (p.ss.map mY))),some (.dat (.int (w:Int))),some (.dat (.int e)),none,none] []:=λhn=>by
  refine kk _ _ ?_;clear kk R;refine ai (aO (xZ (ae 10) ah) (aZ (az (i:=12) aH.nd rfl (Xo rfl) (ay (ae 11) (aI rfl z_len (aa (ae 8) af))))
   (aZ (az (i:=8) aH.nd rfl (Xo rfl) (ax (ax (cC (ae 8) bo (bp (ae 12))) (aF (aa (aA uF uw uv (hr.mono (by decide)) rfl (aa (aL (ae 11) ah) (aa (ae 3) (aa (aI rfl z_len (aa (aE (n:=1) (ae 2)) af)) (aa (aY (aE (n:=1) (ae 2)) (ae 1) (λ_ _=>rfl)) af))))) af))) (cC (ae 8) (bp (ax (ae 12) ah)) bo)))
   (aq (ar (aF (aa (au (aa (ae 4) (aa (ae 5) (aa (ae 6) (aa (ae 7) (aa (ae 8) (aa (ae 9) af))))))) (aa (au (aa (ae 1) (aa ah (aa (ae 12) af)))) af))))))) aw) (λR kk=>?_)
  walk_at "vc";refine aB (λ_=>?_) (λw4=>kk _ _ ?_)
  ·obtain⟨j,ej,hj⟩:=bI e (n:=p.rows.length) rfl (by omega);rw[ej,Xk];refine⟨by omega,bg (by decide) (by decide),_,hpat,_,zs,ps.length,p,rfl,hz,λd hsh hbad=>?_⟩;obtain⟨l1,l2,l3⟩:=FT p.rows j d;have lp:=oj p.rows j d hj;have P2:=hI.rows;rw[l3];exact⟨by omega,by rw[Xw];show _ + 1 + _<=_;omega,q {p with rows:=p.rows.take j++d::p.rows.drop (j + 1)} 2 j ⟨⟨hI.tk,by show(p.rows.take j++d::p.rows.drop (j + 1)).length<=200;omega,BP hI.sh hsh,hI.ss⟩,hJ.bx⟩ ⟨BO lp hj (FU _ _ _ hj) (.inl ⟨d,FV _ _ _ hj,hbad⟩),by decide,(λ_=>by show j < (p.rows.take j++d::p.rows.drop (j + 1)).length;omega),(λh=>nomatch h),(λ_=>lp),YG _ _⟩⟩
  clear kk R;refine ai (aO (br (hr.units) (ae 10) ah) (aZ (az (i:=13) aH.nd rfl (Xo rfl) (aA m9 sW sV (hr.mono (by decide)) rfl (aa (ae 11) (aa (ae 3) (aa (aI rfl z_len (aa (aE (n:=1) (ae 2)) af)) (aa (ae 6) (aa (aI rfl z_len (aa (ae 8) af)) af)))))))
   (aZ (aO (ve (aE (n:=0) (ae 13)) (au (aa aC (aa aC (aa aC af)))) rfl) (aq (az (i:=13) aH.nd rfl (Xo rfl) (au (aa aC (aa (ay (aL (ae 11) ah) (aI rfl z_len (aa (ae 8) af))) af))))) aw)
   (aZ (az (i:=8) aH.nd rfl (Xo rfl) (ax (cC (ae 8) bo (bp (b9 ah))) (aF (aa (ae 13) af))))
   (aq (ar (aF (aa (au (aa (ae 4) (aa (ae 5) (aa (ae 6) (aa (ae 7) (aa (ae 8) (aa (ae 9) af))))))) (aa (au (aa (ae 1) (aa ah (aa (dG (aI rfl z_len (aa (ae 8) af)) ah) af)))) af)))))))) aw) (λR kk=>?_)
  walk_at "vc";rw[Xk,FW];have P2:=hI.rows;have lt:(p.rows.take (p.rows.length - 1)).length + 1=p.rows.length:=by rw[XC];omega
  have go:∀d,pP d=false->e7 d->(p.rows.take (p.rows.length - 1)).length + 1<=1000000/\Q (.list [.tuple [.list (p.tk.map cG),cG p.gv,.int p.bx,.int p.ht,.list (p.rows.take (p.rows.length - 1)++[d]),.list (p.ss.map mY)],.tuple [.int (k:Int),.int 3,.int (((p.rows.take (p.rows.length - 1)++[d]).length:Int) - 1)]]):=λd hd hsh=>by
   have la:(p.rows.take (p.rows.length - 1)++[d]).length=p.rows.length:=by rw[Xw];exact lt
   rw[show(((p.rows.take (p.rows.length - 1)++[d]).length:Int) - 1)=((p.rows.length - 1:Nat):Int)by rw[la];omega];refine⟨by omega,q {p with rows:=p.rows.take (p.rows.length - 1)++[d]} 3 (p.rows.length - 1) ⟨⟨hI.tk,by show(p.rows.take (p.rows.length - 1)++[d]).length<=200;omega,λy hy=>?_,hI.ss⟩,hJ.bx⟩ ⟨FX (by omega) hd,by decide,(λh=>nomatch h),(λ_=>by show p.rows.length - 1 + 1=(p.rows.take (p.rows.length - 1)++[d]).length;omega),(λ_=>la),YG _ _⟩⟩;rcases Yg.mp hy with z | z
   ·exact hI.sh y (Y2 z)
   ·rw[xF z];exact hsh
  refine aB (λ_=>⟨_,zs,ps.length,_,p.rows.length,rfl,hz,by omega,by omega,λr _ hsg=>?_⟩) (λw5=>kk _ _ ?_)
  ·rw[show yo r=.tuple (.str (Kp r)::(L6 r).map PyData.int)from rfl];have rl:(L6 r).length<=10:=by cases r<;>simp[L6]
   walk_at "vc";rw[show([.str (Str.ofString "jump"),.str (Str.ofString "toss"),.str (Str.ofString "give")]:List PyData)=yp.map PyData.str from rfl,fN];refine⟨⟨rfl,rfl⟩,aB (λ_=>?_) (λne=>?_)⟩
   ·obtain⟨a,ea,ha⟩:=bI (e / 25) (n:=p.rows.length) rfl (by omega);rw[ea];exact⟨bg (by decide) (by decide),by omega,go (.tuple (.str "zero"::[(a:Int)].map PyData.int)) (by rw[wD];decide +kernel) (gY "zero" [(a:Int)] (XY 1 9) (by decide +kernel))⟩
   ·exact go (.tuple (.str (Kp r)::(L6 r).map PyData.int)) (by rw[wD];exact Xp ne) (gY _ _ rl (L8 hsg))
  clear kk R;refine ai (az (i:=12) aH.nd rfl (Xo rfl) (ay (ae 11) (ax (aI rfl z_len (aa (ae 9) af)) ah))) (λR kk=>?_);walk_at "vc";rw[Xk];obtain⟨j,ej,hj⟩:=bI e (m:=(p.ss.length:Int) + 1) (n:=p.ss.length + 1) (by omega) (by omega);rw[ej];refine⟨by omega,kk _ _ ?_⟩;clear kk R;refine ai (az (i:=9) aH.nd rfl (Xo rfl) (ax (ax (cC (ae 9) bo (bp (ae 12))) (aF (aa (aA oP oE oC (hr.mono (by decide)) rfl (aa (aL (ae 11) ah) (aa (aI rfl z_len (aa (ae 8) af)) af))) af))) (cC (ae 9) (bp (ax (ae 12) ah)) bo))) (λR kk=>?_);walk_at "vc";refine⟨bg (by decide) (by decide),_,p.rows.length,rfl,by omega,λs hs=>?_⟩;obtain⟨l1,l2,l3⟩:=lJ (f:=mY) p.ss j s;rw[l3];have ls:(p.ss.take j++s::p.ss.drop (j + 1)).length<=p.ss.length + 1:=by rw[Xw,XR,XC,Yx];omega
  refine⟨by omega,by rw[Xw];show _ + 1 + _<=_;omega,kk _ _ ?_⟩;clear kk R
  have go:∀ss:List (Int×Int×Int),ss.length<=p.ss.length + 9->ey {p with ss:=ss}=false->Q (.list [.tuple [.list (p.tk.map cG),cG p.gv,.int p.bx,.int p.ht,.list p.rows,.list (ss.map mY)],.tuple [.int (k:Int),.int 4,.int 0]]):=λss hl hb =>
   q {p with ss:=ss} 4 0 ⟨⟨hI.tk,hI.rows,hI.sh,by show ss.length<=40;omega⟩,hJ.bx⟩ ⟨L9 hb,by decide,(λh=>nomatch h),(λh=>nomatch h),(λ_=>rfl),hl⟩
  refine ai (aO (br (hr.units) (ay (aL (ae 11) ah) ah) ah) (aq (az (i:=9) aH.nd rfl (Xo rfl) (cC (ax (ae 9) (iC (aF (aa (au (aa ah (aa ah (aa ah af)))) af)) ah)) bo (bp ah)))) aw) (λR kk=>?_)
  have P1:∀ss:List (Int×Int×Int),ss.length<=p.ss.length + 9->ey {p with ss:=ss}=false->R [some (.dat (.int n)),some (.dat (.int (k:Int))),some (.dat (.tuple [eX ld,.list (ps.map fU)])),some (.dat (.list (bc zs))),some (.dat (.list (p.tk.map cG))),some (.dat (cG p.gv)),some (.dat (.int p.bx)),some (.dat (.int p.ht)),some (.dat (.list p.rows)),some (.dat (.list (ss.map mY))),some (.dat (.int (w:Int))),some (.dat (.int e)),some (.dat (.int (j:Int))),none] []:=λss hl hb=>by
   refine kk _ _ ?_;clear kk R;refine aS (ar (aF (aa (au (aa (ae 4) (aa (ae 5) (aa (ae 6) (aa (ae 7) (aa (ae 8) (aa (ae 9) af))))))) (aa (au (aa (ae 1) (aa ah (aa ah af)))) af)))) ?_;walk_at "vc";exact go ss hl hb
  walk_at "vc";rw[Xk,show(List.replicate (Int.toNat 9) [PyData.tuple [.int 0,.int 1,.int 0]]).flatten=(List.replicate 9 ((0,1,0):Int×Int×Int)).map mY from rfl,← Yb,Xk,show cutD (((p.ss.take j++s::p.ss.drop (j + 1))++List.replicate 9 ((0,1,0):Int×Int×Int)).map mY) none (some 9)=(((p.ss.take j++s::p.ss.drop (j + 1))++List.replicate 9 ((0,1,0):Int×Int×Int)).take 9).map mY from oi _ 9]
  have l9:(((p.ss.take j++s::p.ss.drop (j + 1))++List.replicate 9 ((0,1,0):Int×Int×Int)).take 9).length=9:=by
   rw[XC,Xw,Yq];omega
  exact⟨bg (by decide) (by decide),by decide,aB (λ_=>⟨by decide,by decide,by decide,by rw[Yq];omega,P1 _ (by omega) (CZ (Nat.lt_of_lt_of_eq (by decide:8 < 9) l9.symm))⟩) (λ_=>P1 _ (by omega) (FY (wI _ _ _) hs))⟩
 obtain⟨b,eb,hb⟩:=bI e (m:=2) (n:=2) rfl (by decide);have P2:=hI.rows;rw[show(List.replicate (Int.toNat 0) p.rows).flatten=[]from rfl,show cutD (List.replicate (Int.toNat 101) p.rows).flatten none (some 101)=(List.replicate 101 p.rows).flatten.take 101 from by have h:=oi (f:=id) (List.replicate 101 p.rows).flatten 101;rw[Zl,Zl]at h;exact h,eb]
 have T:p.rows.length * Int.toNat 0<=1000000/\(0:Int) < 9223372036854775808/\(-9223372036854775808:Int)<=0/\p.rows.length * Int.toNat 101<=1000000/\(101:Int) < 9223372036854775808/\(-9223372036854775808:Int)<=101/\(0:Int) < 2/\∃d,kz [.list [],.list ((List.replicate 101 p.rows).flatten.take 101)] (b:Int)=some d/\Q (.list [.tuple [.list (p.tk.map cG),cG p.gv,.int p.bx,.int p.ht,d,.list (p.ss.map mY)],.tuple [.int (k:Int),.int 1,.int 0]]):=by
  refine⟨by show p.rows.length * 0<=_;omega,by decide,by decide,by show p.rows.length * 101<=_;omega,by decide,by decide,by decide,?_⟩
  have go:∀rows:List PyData,(rows.length < 1∨100 < rows.length)->rows.length<=200->(∀d∈rows,d∈p.rows)->Q (.list [.tuple [.list (p.tk.map cG),cG p.gv,.int p.bx,.int p.ht,.list rows,.list (p.ss.map mY)],.tuple [.int (k:Int),.int 1,.int 0]]):=λrows h1 h2 h3 =>
   q {p with rows:=rows} 1 0 ⟨⟨hI.tk,h2,λd hd=>hI.sh d (h3 d hd),hI.ss⟩,hJ.bx⟩ ⟨yE (eA (.inr (.inr (.inr (.inr (.inr h1)))))),by decide,(λh=>nomatch h),(λh=>nomatch h),(λh=>absurd rfl h),YG _ _⟩
  have b2:b=0∨b=1:=by omega
  rcases b2 with rfl | rfl
  ·exact⟨_,rfl,go [] (.inl (by decide)) (by decide) (λd hd=>nomatch hd)⟩
  ·obtain⟨m1,m2,m3⟩:=CY p.rows;exact⟨_,rfl,go _ m1 m2 m3⟩
 refine aB (λ_=>cc T) (λh0=>aB (λ_=>T) (λh1=>nx λh=>h.elim (λz=>h0 (by omega)) (λz=>h1 (by omega))))
theorem bB:aG ["_law_cell","_law_book_here","_law_sizes","_law_makes_here","_law_parts","_law_way","_law_rest","_law_many","_law_number","_law_part_here","_law_due"] ["_law_cell","_law_book_here","_law_sizes"] (dS i8):=by walk_at "sc"
theorem qZ{f:Addr}{fd:FuncData}(F:eW K "_law_spoiled" "_law_spoiled" i8 f fd)(z_len:mg "len"=none)(rf:dj P w K mg base bM "_law_no_makes" 2 ["_law_cell","_law_makes_here","_law_sizes"] (gc K))(iq:dj P w K mg base bM "_law_no_part" 3 ["_law_cell","_law_number","_law_book_here","_law_sizes"] (eK K)):bE P w K mg base bM 4 f fd ["_law_cell","_law_book_here","_law_sizes"] (eM K):=by
 refine F.lI bB (λds Q h=>?_) (λcdv A outer s H E ds Q hr h=>?_)
 ·obtain⟨n,ld,b,zs,m,ps,rfl,hz,iT,h6,hld,hms,hcl,hm,q⟩:=h;rfl
 obtain⟨n,ld,b,zs,m,ps,rfl,hz,iT,h6,hld,hms,hcl,hm,q⟩:=h;show iu _ _ _ _ [some _,some _,some _,none,none,none,none,none,none,none,none] [];rw[show pR ld ps=.tuple [eX ld,.list (ps.map fU)]from rfl];obtain⟨w,ew,hw⟩:=bI n (m:=12) (n:=12) rfl (by decide);refine ai (mL (ae 1) (pB (m:=2) rfl (aR (aQ (i:=3) bB.nd rfl (Xo rfl)) (aR (aQ (i:=4) bB.nd rfl (Xo rfl)) fv)))) (λR kk=>?_);walk_at "vc";refine⟨rfl,kk _ _ ?_⟩;clear kk R;refine ai (az (i:=5) bB.nd rfl (Xo rfl) (ay (ae 0) ah)) (λR kk=>?_);walk_at "vc";rw[ew];refine⟨by decide,kk _ _ ?_⟩;clear kk R;refine ai (az (i:=6) bB.nd rfl (Xo rfl) (aL (ae 0) ah)) (λR kk=>?_);walk_at "vc";refine⟨bg (by decide) (by decide),kk _ _ ?_⟩;clear kk R;generalize n / 12=e;refine ai (aO (br (hr.units) (ae 5) ah) (aq (ar (aF (aa (au (aa (aA rf qR qQ (hr.mono (by decide)) rfl (aa (ae 6) (aa (ae 3) (aa (ae 2) af)))) (aa (ae 4) af))) (aa (au (aa (b9 ah) (aa ah (aa ah af)))) af))))) aw) (λR kk=>?_);walk_at "vc";refine aB (λh0=>?_) (λw0=>kk _ _ ?_)
 ·obtain⟨ms,hg,rfl⟩:=hms (by rw[ew];exact h0);exact⟨e,ms,zs,rfl,hg,λr hr hl=>q r false ps (-1) 0 0 ⟨⟨hr,hl⟩,.inr ⟨rfl,rfl,rfl⟩,⟨λp hp=>⟨(hcl.1 p hp).1,Zm (hcl.1 p hp).2⟩,hcl.2⟩,⟨C0,.inl ⟨rfl,by decide,rfl⟩⟩⟩⟩
 clear kk R;refine ai (aO (t9.dt (kH (br (hr.units) (ae 5) ah) (kH (br (hr.units) (aI rfl z_len (aa (ae 4) af)) ah) (iV (qy (aI rfl z_len (aa (ae 4) af)) ah))))) (aZ (az (i:=7) bB.nd rfl (Xo rfl) (aY (aF (aa ah (aa ah (aa ah af)))) (ay (ae 6) ah) (λ_ _=>rfl)))
   (aq (ar (aF (aa (au (aa (ae 3) (aa (cC (iC (ae 4) ah) bo (bp (ae 7))) af))) (aa (au (aa (b9 ah) (aa ah (aa ah af)))) af)))))) aw) (λR kk=>?_)
 walk_at "vc"
 have go:∀i:Nat,(i=0∨i=9∨i=12)->Q (.list [.tuple [eX ld,.list (cutD (List.replicate (Int.toNat 12) (ps.map fU)).flatten none (some (i:Int)))],.tuple [.int (-1),.int 1,.int 0]]):=λi hi=>by
  obtain⟨m1,m2,m3⟩:=An (ps:=ps) hi;rw[Ip];exact q ld b _ (-1) 1 0 ⟨hld,.inl ⟨rfl,rfl,λh=>nomatch h.2⟩,⟨λp hp=>⟨(hcl.1 p (m3 p hp)).1,Zm (hcl.1 p (m3 p hp)).2⟩,m2⟩,⟨yF m1,.inl ⟨rfl,by decide,rfl⟩⟩⟩
 rw[Xk];obtain⟨a,ea,ha⟩:=bI e (m:=3) (n:=3) rfl (by decide);rw[ea];have hpl:=hcl.2;have a3:a=0∨a=1∨a=2:=by omega
 refine aB (λ_=>cc ?_) (λw1=>aB (λ_=>cc ?_) (λp0=>aB (λ_=>?_) (λp8=>kk _ _ ?_)));rotate_left 3
 ·clear kk R;have p0:¬ ((ps.length:Nat):Int)=0:=p0;have p8:¬ (8:Int) < ((ps.length:Nat):Int):=p8;obtain⟨k,ek,hk⟩:=bI e (n:=ps.length) rfl (by omega);refine ai (az (i:=8) bB.nd rfl (Or.inl rfl) (ay (ae 6) (aI rfl z_len (aa (ae 4) af)))) (λR kk=>?_);walk_at "vc";rw[List.length_map,ek];refine⟨by omega,kk _ _ ?_⟩;clear kk R;refine ai (mL (aA iq lg lb (hr.mono (by decide)) rfl (aa (aL (ae 6) ah) (aa (ae 8) (aa (ae 1) (aa (ae 2) af))))) (wB (m:=2) rfl (aR (aQ (i:=9) bB.nd rfl (Or.inl rfl)) (aR (aQ (i:=10) bB.nd rfl (Or.inl rfl)) fv)))) (λR kk=>?_);walk_at "vc";have hp:=dC hk;generalize ps[k]=p at hp;obtain⟨hJ,hsm⟩:=hcl.1 p (List.mem_of_getElem? hp);refine⟨bg (by decide) (by decide),e / 8,k,ld,zs,ps,p,rfl,hz,iT,h6,hp,hJ,by omega,λp' st a' hJ' hD=>?_⟩;dsimp only[L2.gL];walk_at "vc";refine⟨rfl,kk _ _ ?_⟩;clear kk R;refine aS (ar (aF (aa (au (aa (ae 3) (aa (ax (ax (cC (ae 4) bo (bp (ae 8))) (aF (aa (ae 9) af))) (cC (ae 4) (bp (ax (ae 8) ah)) bo)) af))) (aa (ae 10) af)))) ?_;walk_at "vc";obtain⟨l1,l2,l3⟩:=lJ (f:=fU) ps k p';rw[l3];exact⟨by omega,by rw[List.length_append];show _ + 1 + _<=_;omega,q ld b _ (k:Int) st a' (yG hld hcl.1 (by omega) (by omega) hp hJ' hD)⟩
 all_goals
  rcases a3 with rfl | rfl | rfl
  ·exact⟨by decide,_,rfl,by show ps.length * 12<=_;omega,by decide,by decide,go 0 (.inl rfl)⟩
  ·exact⟨by decide,_,rfl,by show ps.length * 12<=_;omega,by decide,by decide,go 9 (.inr (.inl rfl))⟩
  ·exact⟨by decide,_,rfl,by show ps.length * 12<=_;omega,by decide,by decide,go 12 (.inr (.inr rfl))⟩
theorem jk:aG ["_law_cell","_law_book_here","_law_due","_law_sizes","_law_part_here","_law_more"] ["_law_cell","_law_book_here","_law_due","_law_sizes"] (dS kQ):=by walk_at "sc"
theorem uG{f:Addr}{fd:FuncData}(F:eW K "_law_twice" "_law_twice" kQ f fd)(iq:dj P w K mg base bM "_law_no_part" 3 ["_law_cell","_law_number","_law_book_here","_law_sizes"] (eK K))(eV:dj P w K mg base bM "_law_spoiled" 4 ["_law_cell","_law_book_here","_law_sizes"] (eM K)):bE P w K mg base bM 5 f fd ["_law_cell","_law_book_here","_law_due","_law_sizes"] (ka K):=by
 refine F.lI jk (λds Q h=>?_) (λcdv A outer s H E ds Q hr h=>?_)
 ·obtain⟨n,ld,b,zs,m,ps,x,st,a,rfl,hz,iT,h6,hld,hms,hcl,hm,hx,q⟩:=h;rfl
 obtain⟨n,ld,b,zs,m,ps,x,st,a,rfl,hz,iT,h6,hld,hms,hcl,hm,hx,q⟩:=h;show iu _ _ _ _ [some _,some _,some _,some _,none,none] [];rw[show pR ld ps=.tuple [eX ld,.list (ps.map fU)]from rfl];rw[show uk x st a=.tuple [.int x,.int (st:Int),.int (a:Int)]from rfl];refine ai (aO (br (hr.units) (ae 2) (au (aa (b9 ah) (aa ah (aa ah af))))) (aq (ar (aA eV hZ hX (hr.mono (by decide)) rfl (aa (ax (ax (fW ah (aL (ae 0) ah)) ah) (ay (ae 0) ah)) (aa (ae 1) (aa (ae 3) af)))))) aw) (λR kk=>?_);walk_at "vc";rw[show(PyData.tuple [eX ld,.list (ps.map fU)])=pR ld ps from rfl];refine⟨⟨F4 _ _ _,F4 _ _ _⟩,?_⟩;by_cases h0:x=-1/\st=0/\a=0
 ·rw[XB ((BS x st a).mpr h0)];exact⟨bg (by decide) (by decide),.inl (.inl ⟨by decide,by decide⟩),by decide,_,ld,b,zs,m,ps,rfl,hz,iT,h6,hld,λh=>by omega,hcl,hm,q⟩
 rw[XA λh=>h0 ((BS x st a).mp h)]
 have hg:∃ms,Good ms zs/\ld=dm (loose ms):=hms λh=>h0 (by
  rcases hx with⟨_,_,h3⟩ | ⟨k,p,h3,_⟩
  ·exact⟨h.1,h.2,h3⟩
  ·omega)
 refine kk _ _ ?_;clear kk R;refine ai (aO (t9.dt (kH (xZ (aE (n:=0) (ae 2)) ah) (iV (br (hr.units) (ay (ae 0) ah) ah)))) (aq (ar (aA eV hZ hX (hr.mono (by decide)) rfl (aa (aL (ae 0) ah) (aa (ae 1) (aa (ae 3) af)))))) aw) (λR kk=>?_);walk_at "vc";have S:du [.int (n / 3),pR ld ps,.list (bc zs)] Q:=⟨n / 3,ld,b,zs,m,ps,rfl,hz,iT,h6,hld,λ_=>hg,hcl,hm,q⟩;refine aB (λ_=>cc ⟨bg (by decide) (by decide),S⟩) (λx0=>⟨by decide,aB (λ_=>⟨bg (by decide) (by decide),S⟩) (λn3=>kk _ _ ?_)⟩);clear kk R S;have x0:¬ x < 0:=x0
 obtain⟨k,p,rfl,hp,WN⟩:∃(k:Nat) (p:PX),x=(k:Int)/\ps[k]?=some p/\ps.length<=8:=by
  rcases hx with⟨h,_⟩ | h
  ·omega
  ·exact h
 have hk:=(bX hp).1;obtain⟨hJ,hsm⟩:=hcl.1 p (List.mem_of_getElem? hp);refine ai (mL (aA iq lg lb (hr.mono (by decide)) rfl (aa (ax (fW ah (aL (ae 0) ah)) (fW ah (ay (ae 0) ah))) (aa (aE (n:=0) (ae 2)) (aa (ae 1) (aa (ae 3) af))))) (wB (m:=2) rfl (aR (aQ (i:=4) jk.nd rfl (Or.inl rfl)) (aR (aQ (i:=5) jk.nd rfl (Or.inl rfl)) fv)))) (λR kk=>?_);walk_at "vc";refine⟨bg (by decide) (by decide),.inl (.inl ⟨by decide,by decide⟩),by decide,.inl (.inl ⟨by decide,by decide⟩),_,k,ld,zs,ps,p,rfl,hz,iT,h6,hp,hJ,by omega,λp' st' a' hJ' hD=>?_⟩;dsimp only[L2.gL];walk_at "vc";refine⟨rfl,kk _ _ ?_⟩;clear kk R;refine aS (ar (aF (aa (au (aa (aE (n:=0) (ae 1)) (aa (ax (ax (cC (aE (n:=1) (ae 1)) bo (bp (aE (n:=0) (ae 2)))) (aF (aa (ae 4) af))) (cC (aE (n:=1) (ae 1)) (bp (ax (aE (n:=0) (ae 2)) ah)) bo)) af))) (aa (ae 5) af)))) ?_;rw[show pR ld ps=.tuple [eX ld,.list (ps.map fU)]from rfl];walk_at "vc";obtain⟨l1,l2,l3⟩:=lJ (f:=fU) ps k p';rw[l3];exact⟨by omega,by rw[List.length_append];show _ + 1 + _<=_;omega,q ld b _ (k:Int) st' a' (yG hld hcl.1 (by omega) WN hp hJ' hD)⟩
theorem jl:aG ["_law_script","_law_right","_law_sizes","_law_k","_law_cell","_law_book_here","_law_due","_law_more"] ["_law_script"] (dS og):=by walk_at "sc"
theorem Mj{f:Addr}{fd:FuncData}(F:eW K "law" "law" og f fd)(z_len:mg "len"=none)(z_min:mg "min"=none)(z_range:mg "range"=none)(zb:dj P w K mg base bM "_law_book" 4 ["_law_script","_law_at"] (k4 K))(fL:dj P w K mg base bM "_law_copied" 2 ["_law_book_here"] (fB K))(aX:dj P w K mg base bM "_law_draw" 1 ["_law_script","_law_k"] (dW K))(jh:dj P w K mg base bM "_law_fields" 2 ["_law_makes_here","_law_c"] (fz K))(tS:dj P w K mg base bM "_law_refused" 8 ["_law_book_here","_law_due"] (eF K))(eV:dj P w K mg base bM "_law_spoiled" 4 ["_law_cell","_law_book_here","_law_sizes"] (eM K))(xq:dj P w K mg base bM "_law_twice" 5 ["_law_cell","_law_book_here","_law_due","_law_sizes"] (ka K))(gK:dj P w K mg base (t8 P w) "check_book" 7 ["book"] (fD K aj)):bE P w K mg base bM 9 f fd ["_law_script"] (tG K):=by
 refine F.ok jl (λvs H Q E h=>?_) (λcdv A outer s H vs Q E hr h=>?_)
 ·obtain⟨a,ns,rfl,hS,R6,q⟩:=h;rfl
 obtain⟨a,ns,rfl,hS,R6,q0⟩:=h;have hv:cB (aM K (λ_=>False) H) [.ref a] [.list (ns.map PyData.int)]:=.cons (kJ (.lst hS (by simp) λi x d hx hd=>(Fj (K:=K) (P:=λ_=>False) (H:=H) (ns:=ns)).2 i x d hx hd |>.now)) .nil;have q:∀v H',bD H H'->aM K (λ_=>False) H' v (.bool true)->Q v H':=λv H' _ r=>by rw[aM.gR r];exact q0 H'
 refine yd (P:=λ_=>False) (λ_ h=>h.elim) hv ?_;show iu _ _ _ _ [some _,none,none,none,none,none,none,none] [];clear hv q0 hS;refine ai (az (i:=1) jl.nd rfl (YD rfl) (aA zb yM yL (hr.mono (by decide)) rfl (aa (ae 0) (aa ah af)))) (λR kk=>?_);walk_at "vc";refine⟨ns,8,rfl,R6,by decide,λms zs P7 hg h1 h8 hps=>kk _ _ ?_⟩;clear kk R;have hne:=hg.wf.ne;have few:=hg.wf.few;have hzl:=hg.len;have hll:(loose ms).length=ms.length:=(er ms).len;have ebk:RW ms P7=.tuple [.list ((loose ms).map qL),.list (P7.map L7)]:=by rw[show PyData.list ((loose ms).map qL)=fh (loose ms)from rfl,← jO];rfl
 refine ai (pC Bv (i:=2) jl.nd rfl (Xo rfl) 1 ["_law_c","_law_right"] [1] ⟨rfl,rfl,rfl,rfl,rfl,rfl,rfl,rfl⟩ (cD rfl z_range (aa (aI rfl z_len (aa (aE (n:=0) (ae 1)) af)) af)) (λ_ _ _ _=>(bY (i:=0) (show List.Nodup (["_law_c","_law_right"]:List Str)by decide +kernel) rfl (Xo rfl))) (js (i:=0)) (lU (by decide)) (λ_ _ _ _=>⟨dZ,(aI rfl z_len (aa (aA jh mz my (hr.mono (by decide)) rfl (aa (aE (n:=0) (ae 1)) (aa (ae 0) af))) af))⟩)) (λR kk=>?_);rw[ebk];walk_at "vc";rw[show ∀g:Nat->Option DV,([1].map g)=[g 1]from λ_=>rfl,Xk,hll];refine⟨⟨by omega,by omega⟩,?_⟩;refine Bu (λi ys=>ys=bc (zs.take i)) (by rw[bJ];omega) rfl (λi ys d hd hy=>?_) (λys hy=>?_)
 ·obtain⟨hi,rfl⟩:=cZ hd;have hi:i < ms.length:=by simpa using hi
  have hiz:i < zs.length:=by omega
  have hz:=dC hiz;walk_at "vc";refine⟨rfl,rfl,cc ⟨loose ms,ms,i,by rw[show(0:Int) + (i:Int)=(i:Int)by omega];rfl,mX.loose hg,hi,?_⟩⟩;walk_at "vc";rw[Xk,hy,show(aU (loose ms) (bH ms i)).length=zs[i]from jy hg hz,Zq hiz,pS];exact⟨rfl,rfl⟩
 rw[bJ]at hy;have hy:ys=bc zs:=by rw[hy,aae (by omega)]
 subst hy;refine kk _ _ ?_;clear kk R;rw[← ebk,Mg];have hcl:=Mf hps;have lps:(P7.map Pt.px).length=P7.length:=Xk _;have hbr:=Ao hg h1 h8 hps;generalize P7.map Pt.px=ps at hcl lps hbr ⊢;have hmk:ua (dm (loose ms)) true:=.right hg;have hld:(dm (loose ms)).length<=8:=by rw[wH,hll];exact few
 have e0:eX (dm (loose ms))=jv ms:=by rw[FE,← jO]
 have WO:qA true zs ps=none:=by rw[vx,hbr];rfl
 have chk:∀{Q:PyData->Prop} {Ex:Addr->List (Str×PyData)->Prop},Q .none->gz aj [pR (dm (loose ms)) ps] Q Ex:=λh=>⟨_,true,ms,zs,ps,rfl,by omega,by omega,hmk,λ_=>⟨e0,hg⟩,λp hp=>(hcl p hp).1.i,λ_=>h,λa c z=>nomatch WO.symm.trans z⟩
 refine ai (aO (rn (yg gK mD mC (hr.mono (by decide)) rfl (aa (aA fL mB jd (hr.mono (by decide)) rfl (aa (ae 1) af)) af)) dc) (aq (ar dQ)) aw) (λR kk=>?_);walk_at "vc";refine⟨_,ps,rfl,by omega,by omega,chk (bZ (kk _ _ ?_))⟩;clear kk R;have VF:0 < zs.length:=by omega
 have Hc:zs.length<=100:=by omega
 refine ai (iW Ym rfl (cD rfl z_range (aa ah af)) (aQ (i:=3) jl.nd rfl (Xo rfl)) (aZ (az (i:=4) jl.nd rfl (Xo rfl) (aA aX bj bh (hr.mono (by decide)) rfl (aa (ae 0) (aa (ae 3) af))))
   (aZ (mL (aA eV hZ hX (hr.mono (by decide)) rfl (aa (aL (ae 4) ah) (aa (ae 1) (aa (ae 2) af)))) (wB (m:=2) rfl (aR (aQ (i:=5) jl.nd rfl (Xo rfl)) (aR (aQ (i:=6) jl.nd rfl (Xo rfl)) fv))))
   (aZ (aO (br (hr.units) (ay (ae 4) ah) ah) (aZ (mL (aA xq wW wV (hr.mono (by decide)) rfl (aa (aL (aA aX bj bh (hr.mono (by decide)) rfl (aa (ae 0) (aa (ax (ae 3) ah) af))) ah) (aa (ae 5) (aa (ae 6) (aa (ae 2) af))))) (wB (m:=2) rfl (aR (aQ (i:=5) jl.nd rfl (Xo rfl)) (aR (aQ (i:=7) jl.nd rfl (Xo rfl)) fv))))
   (aq (az (i:=6) jl.nd rfl (Xo rfl) (HZ rfl hr.units rfl z_min (aa (ae 6) (aa (ae 7) af)))))) aw)
   (aq (aO (cO (fX (aA tS tD tx (hr.mono (by decide)) rfl (aa (ae 5) (aa (ae 6) af))))) (aq (ar dQ)) aw)))))) (λR kk=>?_)
 walk_at "vc";refine⟨⟨by decide,by decide⟩,?_⟩;refine ee (λi env st=>∃(o3 o4 o5 o6 o7:Option DV),env=[some (.dat (.list (ns.map PyData.int))),some (.dat (pR (dm (loose ms)) ps)),some (.dat (.list (bc zs))),o3,o4,o5,o6,o7]/\st=[]) ⟨_,_,_,_,_,rfl,rfl⟩ (λ_ _ _ _=>trivial) ?_ ?_
 ·rintro k env st d hd ⟨o3,o4,o5,o6,o7,rfl,rfl⟩;obtain⟨hk,rfl⟩:=cZ hd;have hk:k < 6:=by simpa using hk
  refine n9 (λR1 k1=>?_);walk_at "vs";refine⟨ns,_,rfl,R6,by omega,by omega,λv _ _=>k1 _ _ ?_⟩;clear k1 R1;refine n9 (λR1 k1=>?_);walk_at "vs";refine⟨bg (by decide) (by decide),_,dm (loose ms),true,zs,8,ps,rfl,VF,Hc,hg.six,⟨hmk,by omega⟩,λ_=>⟨ms,hg,rfl⟩,⟨hcl,by omega⟩,by decide,λUc b1 VG x1 aD a1 hS=>?_⟩;dsimp only[L2.gL];walk_at "vs";refine⟨rfl,k1 _ _ ?_⟩;clear k1 R1;obtain⟨D8,Ud,PF,R7⟩:=hS
  have t1:b1=true->Uc=dm (loose ms):=λh=>by
   rcases Ud with⟨h,_⟩ | ⟨h2,_⟩
   ·exact h
   ·rw[h2]at h;cases h
  refine n9 (λR1 k1=>?_)
  have nx:∀(ld:kS) (b':Bool) (ID:List PX) (x:Int) (st a:Nat) (o7:Option DV),ua ld b'/\ld.length<=1000->(b'=true->ld=dm (loose ms))->(∀p∈ID,Ma p/\p.ss.length<=26)/\ID.length<=12->(um b' zs ID).map kT=some (sS (x,st,a))->R1 [some (.dat (.list (ns.map PyData.int))),some (.dat (pR (dm (loose ms)) ps)),some (.dat (.list (bc zs))),some (.dat (.int (0 + (k:Int)))),some (.dat (.int v)),some (.dat (pR ld ID)),some (.dat (uk x st a)),o7] []:=λld b' ID x st a o7 hl ht hc hb=>by
   refine k1 _ _ ?_;walk_at "vs";exact⟨ld,b',zs,ID,x,st,a,rfl,hl.2,hl.1,λh=>⟨ms,by rw[ht h,e0],hg⟩,λp hp=>⟨(hc.1 p hp).1,XT (hc.1 p hp).2 (by decide)⟩,hc.2,by rw[vx];exact hb,bZ ⟨_,_,_,_,_,rfl,rfl⟩⟩
  clear k1;walk_at "vs";refine⟨by decide,aB (λh3=>?_) (λh3=>?_)⟩
  ·refine⟨ns,_,rfl,R6,by omega,by omega,λv2 _ _=>?_⟩;walk_at "vs";refine⟨bg (by decide) (by decide),_,Uc,b1,zs,17,VG,x1,aD,a1,rfl,VF,Hc,hg.six,D8,λh=>?_,PF,by decide,?_,λUe b2 ID x2 bu a2 WQ=>?_⟩
   ·rcases Ud with⟨h1,_⟩ | ⟨_,h2⟩
    ·exact⟨ms,hg,h1⟩
    ·exact absurd h2 h
   ·rcases R7.sort with h | ⟨c,p,p',rfl,_,hp',_⟩
    ·exact .inl h
    ·refine .inr ⟨c,p',rfl,hp',?_⟩;rcases Ud with⟨_,rfl,_⟩ | ⟨_,h2,_⟩
     ·apply Nat.le_of_not_lt;intro h9;have k2:=yF (b:=true) (zs:=zs) (ps:=ps) (.inr h9);rw[R7.key,hbr,ou]at k2;have:=X7 (·.1) (XX k2);have:(c:Int)=-1:=this;omega
     ·omega
   dsimp only[L2.gL];walk_at "vs";obtain⟨D2,WR,Cd,hd2⟩:=WQ
   have t2:b2=true->Ue=dm (loose ms):=λh=>by
    rcases WR with⟨h1,h2,_⟩ | ⟨h2,_⟩
    ·rw[h1];exact t1 (h2 ▸ h)
    ·rw[h2]at h;cases h
   obtain⟨w1,w2⟩:=F8 hbr R7 hd2;rw[show uk x1 aD a1=.tuple [.int x1,.int (aD:Int),.int (a1:Int)]from rfl,show uk x2 bu a2=.tuple [.int x2,.int (bu:Int),.int (a2:Int)]from rfl];walk_at "vs";refine⟨rfl,?_⟩;dsimp only[L2.BG];by_cases hlt:L2.Km (x2,(bu:Int),(a2:Int)) (x1,(aD:Int),(a1:Int))=true
   ·rw[XB hlt];exact nx Ue b2 ID x2 bu a2 _ D2 t2 Cd (w1 ((Ks ..).mp hlt))
   ·rw[XA hlt];exact nx Ue b2 ID x1 aD a1 _ D2 t2 Cd (w2 λz=>hlt ((Ks ..).mpr z))
  ·exact nx Uc b1 VG x1 aD a1 _ D8 t1 ⟨λp hp=>⟨(PF.1 p hp).1,XT (PF.1 p hp).2 (by decide)⟩,PF.2⟩ (Ir hbr R7)
 ·rintro env st ⟨o3,o4,o5,o6,o7,rfl,rfl⟩;refine kk _ _ ?_;clear kk R;refine aS (ar (Ls (yg gK mD mC (hr.mono (by decide)) rfl (aa (aA fL mB jd (hr.mono (by decide)) rfl (aa (ae 1) af)) af)) dc)) ?_;walk_at "vc";exact⟨_,ps,rfl,by omega,by omega,chk q⟩
end
theorem all_mk{l:PySem.W.OpenLaw}{w:World}{K:aJ}{h:Heap}{mg:Str->Option Value}{fa Ug:Addr}(X:K.In h)(G:h.Ns mainGlobals mg)(hfa:mg "law"=some (.ref fa))
  {Uh P8:Option Addr} {Ui:Array (Option Value)} {Uj P9 Qa Qb Ml Qc:Value}
  {aj eS eT gJ bQ:Addr}
  {xl gF fJ fH gH gI iO c8:Tok}
  {ie ic iP eP:Addr}
  (d0:cw K "_law_draw" mO)
  (d1:cw K "_law_elders" jI)
  (d2:cw K "_law_fields" jJ)
  (d3:cw K "_law_kind" mP)
  (d4:cw K "_law_makes" kL)
  (d5:cw K "_law_last" mQ)
  (d6:cw K "_law_signs" kM)
  (d7:cw K "_law_row" pH)
  (d8:cw K "_law_stretch" iX)
  (d9:cw K "_law_part" mR)
  (Uk:cw K "_law_book" mS)
  (Ul:cw K "_law_copy" mT)
  (Um:cw K "_law_copied" jK)
  (Uo:cw K "elders_of" kN)
  (Up:cw K "fields_of" kO)
  (Uq:cw K "full_mask" kP)
  (Ur:cw K "is_kind" pJ)
  (Us:cw K "head_is_right" fY)
  (Ut:cw K "stretch_is_right" dH)
  (Uu:cw K "stretches_are_right" cP)
  (Uv:cw K "is_whole" mU)
  (Uw:cw K "is_word" pL)
  (Ux:cw K "fits" Ac)
  (Uy:cw K "wants" wC)
  (Uz:cw K "is_row" sA)
  (UA:cw K "is_there" mV)
  (UB:cw K "row_is_right" gU)
  (UC:cw K "wrong_place" iY)
  (UD:cw K "check_part" jL)
  (UE:cw K "elder_is_right" ff)
  (UG:cw K "fields_are_right" dI)
  (UH:cw K "makes_are_right" eg)
  (UI:cw K "check_book" jM)
  (UJ:cw K "_law_refused" iZ)
  (UK:cw K "_law_no_kind" i4)
  (UL:cw K "_law_no_makes" gW)
  (UM:cw K "_law_no_head" i6)
  (UN:cw K "_law_no_row" jN)
  (UO:cw K "_law_no_stretch" fg)
  (UP:cw K "_law_no_part" i7)
  (UQ:cw K "_law_spoiled" i8)
  (UR:cw K "_law_twice" kQ)
  (US:PySem.W.nsIn K mainGlobals "law"=some (some (.ref Ug))) (UT:K.lookup Ug=some ⟨Uj,Uh,.func (PySem.W.fnOf "law" "law" (dA og) (dB og) (dS og) .none P9 Qa Qb P8 Ml Qc),Ui⟩) (UU:PySem.W.codeIn K Ml "law"=true) (UW:PySem.W.keepIn K (.ref Ug)=true)
  (g_HALF:PySem.W.nsIn K mainGlobals "HALF"=some (some (.int 2147483648 xl)))
  (g_MOST_BOXES:PySem.W.nsIn K mainGlobals "MOST_BOXES"=some (some (.int 8 gF)))
  (g_MOST_FIELDS:PySem.W.nsIn K mainGlobals "MOST_FIELDS"=some (some (.int 6 fJ)))
  (g_MOST_HEIGHT:PySem.W.nsIn K mainGlobals "MOST_HEIGHT"=some (some (.int 8 fH)))
  (g_MOST_MAKES:PySem.W.nsIn K mainGlobals "MOST_MAKES"=some (some (.int 8 gH)))
  (g_MOST_PARTS:PySem.W.nsIn K mainGlobals "MOST_PARTS"=some (some (.int 8 gI)))
  (g_MOST_ROWS:PySem.W.nsIn K mainGlobals "MOST_ROWS"=some (some (.int 100 iO)))
  (g_MOST_STRETCHES:PySem.W.nsIn K mainGlobals "MOST_STRETCHES"=some (some (.int 8 c8)))
  (cY:PySem.W.nsIn K mainGlobals "NoBook"=some (some (.ref aj)))
  (fT:PySem.W.ktsIn K aj "BaseException"=true)
  (lq:PySem.W.nsIn K mainGlobals "NoCode"=some (some (.ref eS)))
  (oM:PySem.W.ktsIn K eS "BaseException"=true)
  (lu:PySem.W.nsIn K mainGlobals "NoPass"=some (some (.ref eT)))
  (oN:PySem.W.ktsIn K eT "BaseException"=true)
  (oO:PySem.W.nsIn K mainGlobals "NoRow"=some (some (.ref gJ)))
  (rC:PySem.W.ktsIn K gJ "BaseException"=true)
  (dw:PySem.W.nsIn K mainGlobals "WardenError"=some (some (.ref bQ)))
  (fK:PySem.W.excIn K bQ (Ec true) (Lh true)=true)
  (dz:PySem.W.ktsIn K bQ "BaseException"=true)
  {lP:Addr} {Ax Ay:Option Addr} {Az:Array (Option Value)} {AD AF AH AJ tT AK:Value}
  (nu:PySem.W.findIn K (.ref aj) "__init__"=some (some (.ref lP)))
  (nv:K.lookup lP=some ⟨AD,Ax,.func (PySem.W.fnOf "__init__" "NoBook.__init__" (dA ju) (dB ju) (dS ju) .none AF AH AJ Ay tT AK),Az⟩)
  (ny:PySem.W.codeIn K tT "NoBook.__init__"=true)
  (nz:PySem.W.keepIn K (.ref lP)=true)
  (nA:PySem.W.isFn K (.ref lP)=true)
  (nC:PySem.W.keepIn K (.ref aj)=true)
  (nE:PySem.W.findIn K (.ref aj) "__setattr__"=some (some (.builtin "object.__setattr__")))
  (nF:PySem.W.mroIn K aj (.type "object")=some true)
  (lQ:rS K aj (Ec true) (Lh true)=true)
  (nG:PySem.W.findIn K (.ref aj) "part"=some none)
  (nI:PySem.W.findIn K (.ref aj) "at"=some none)
  (qe:IsT K "str" (vj "str"))
  (lh:IsT K "tuple" (vj "tuple"))
  (ig:PySem.W.findIn K (.ref aj) "__getattribute__"=some (some (.builtin "BaseException.__getattribute__")))
  (ij:PySem.W.findIn K (.ref aj) "__getattr__"=some none)
  (ik:PySem.W.findIn K (.ref aj) "__class__"=some (some (.builtin "object.__class__")))
  (il:PySem.W.mroIn K aj (.type "BaseException")=some true)
  (ip:PySem.W.mroIn K aj (.type "object")=some true)
  (bL:PySem.W.hasDictIn K aj=true)
  (m_BW:PySem.W.mroIn K aj (.ref bQ)=some true)
  (fk:PySem.W.findIn K (.ref aj) "part"=some none)
  (ft:PySem.W.findIn K (.ref aj) "at"=some none)
  (Gh:PySem.W.kitOne K (.ref aj) (.ref aj)=some true)
  (i_BV:PySem.W.kitOne K (.ref aj) (.type "ValueError")=some true)
  (i_BP:PySem.W.kitOne K (.ref aj) (.ref eT)=some false)
  (i_BR:PySem.W.kitOne K (.ref aj) (.ref gJ)=some false)
  (Gi:PySem.W.kitOne K (.ref aj) (.ref eS)=some false)
  (lj:PySem.W.nsIn K mainGlobals "ENDING"=some (some (.ref ie)))
  (lR:Kk K 9 (.ref ie) pM=true)
  (tL:PySem.W.nsIn K mainGlobals "MOST"=some (some (.ref ic)))
  (AL:(ic == sysModules)=false)
  (tU:K.lookup ic=some {cls:=.type "dict",data:=.dict ((vn (K.lookup ic)).map (D4 w)).toArray (TQ (K.lookup ic))})
  (tV:BE K (vn (K.lookup ic)) iD=true)
  (lO:PySem.W.nsIn K mainGlobals "SIGNS"=some (some (.ref iP)))
  (oQ:Kk K 9 (.ref iP) sC=true)
  (oG:PySem.W.nsIn K mainGlobals "WANTS"=some (some (.ref eP)))
  (xt:(eP == sysModules)=false)
  (qh:K.lookup eP=some {cls:=.type "dict",data:=.dict ((vn (K.lookup eP)).map (D4 w)).toArray (TQ (K.lookup eP))})
  (qi:BE K (vn (K.lookup eP)) cg=true)
  (eR:PySem.W.nsIn K mainGlobals "ValueError"=some none)
  (z_all:PySem.W.nsIn K mainGlobals "all"=some none)
  (z_bool:PySem.W.nsIn K mainGlobals "bool"=some none)
  (z_enumerate:PySem.W.nsIn K mainGlobals "enumerate"=some none)
  (z_int:PySem.W.nsIn K mainGlobals "int"=some none)
  (z_isinstance:PySem.W.nsIn K mainGlobals "isinstance"=some none)
  (z_len:PySem.W.nsIn K mainGlobals "len"=some none)
  (z_list:PySem.W.nsIn K mainGlobals "list"=some none)
  (z_max:PySem.W.nsIn K mainGlobals "max"=some none)
  (z_min:PySem.W.nsIn K mainGlobals "min"=some none)
  (z_range:PySem.W.nsIn K mainGlobals "range"=some none)
  (z_reversed:PySem.W.nsIn K mainGlobals "reversed"=some none)
  (z_str:PySem.W.nsIn K mainGlobals "str"=some none)
  (z_tuple:PySem.W.nsIn K mainGlobals "tuple"=some none)
  (tM:PySem.W.nsIn K mainGlobals "zip"=some none)
  : ∃fd:FuncData,(∀(s:Shared) (v:Value),BindsTo s fd ⟨[v],[]⟩ [("_law_script",v)])/\∀base:Heap,K.In base->base.Ns mainGlobals mg->bE l.prog w K mg base bM 9 fa fd ["_law_script"] (tG K):=by
 have e:=hfa.symm.trans (XW X G US);cases e;have WS:=vS (st:=og) UT UU UW;have xu:=XQ X G eR;have zc:=XQ X G z_all;have y_bool:=XQ X G z_bool;have zd:=XQ X G z_enumerate;have BW:=XQ X G z_int;have kg:=XQ X G z_isinstance;have da:=XQ X G z_len;have AM:=XQ X G z_list;have Qd:=XQ X G z_max;have Kt:=XQ X G z_min;have lS:=XQ X G z_range;have AN:=XQ X G z_reversed;have Qe:=XQ X G z_str;have IE:=XQ X G z_tuple;have Ku:=XQ X G tM;have Mm:=XW X G g_HALF;have xv:=XW X G g_MOST_BOXES;have uH:=XW X G g_MOST_FIELDS;have uI:=XW X G g_MOST_HEIGHT;have xw:=XW X G g_MOST_MAKES;have xx:=XW X G g_MOST_PARTS;have ze:=XW X G g_MOST_ROWS;have qj:=XW X G g_MOST_STRETCHES;have Gj:=XW X G lj;have Mn:=XW X G tL;have IF:=XW X G lO;have IG:=XW X G oG;have tW:=XW X G cY;have Gk:=XW X G lq;have Gm:=XW X G lu;have IH:=XW X G oO;have uJ:=XW X G dw;have Gn:=A7 (Aa _ _ _ lR);have Mo:=yi AL tU tV (by decide +kernel);have II:=A7 (Aa _ _ _ oQ);have IJ:=yi xt qh qi (by decide +kernel);refine⟨PySem.W.fnOf "law" "law" (dA og) (dB og) (dS og) .none P9 Qa Qb P8 Ml Qc,λs v=>.of_eq rfl,λbase _ _=>?_⟩;have z:Zk l.prog w K h mg base:=⟨X,G⟩;have vA:=vS (st:=ju) nv ny nz;have C9:=vA.binds (ps:=["self","part","at"]) λ_ _ _ _ _ _=>Ko (λ_ _ _=>by rfl)
 have zf:Ek l.prog w K mg base aj ["part","at"]:=⟨⟨nE,⟨_,lQ⟩,nF⟩,List.forall_mem_cons.mpr ⟨nG,List.forall_mem_cons.mpr ⟨nI,List.forall_mem_nil _⟩⟩,by decide,⟨_,_,⟨⟨_,lQ⟩,nu,nA,nC⟩,yU vA,C9⟩⟩;have iQ:=aW z d0 (λF=>wX F da) λ_ _ _ _ _ _=>ln2 λ_ _=>by rfl
 have uK:=aW z d1 (λF=>tH F ) λ_ _ _ _ _ _=>ln2 λ_ _=>by rfl
 have mF:=aW z d2 (λF=>tI F AN uK) λ_ _ _ _ _ _=>ln2 λ_ _=>by rfl
 have qE:=aW z d3 (λF=>wY F da) λ_ _ _ _ _ _=>ln2 λ_ _=>by rfl
 have xy:=aW z d4 (λF=>uy F da lS iQ qE) λ_ _ _ _ _ _=>ln2 λ_ _=>by rfl
 have zg:=aW z d5 (λF=>w6 F ) λ_ _ _ _ _ _=>ln2 λ_ _=>by rfl
 have xA:=aW z d6 (λF=>uz F ) λ_ _ _ _ _ _=>Vu (by rfl)
 have tX:=aW z d7 (λF=>yV F BW da Qd xA) λ_ _ _ _ _ _=>Vv λ_ _ _ _ _=>by rfl
 have tY:=aW z d8 (λF=>qS F ) λ_ _ _ _ _ _=>Ko λ_ _ _=>by rfl
 have zh:=aW z d9 (λF=>w9 F lS iQ qE zg tX tY) λ_ _ _ _ _ _=>PM λ_ _ _ _=>by rfl
 have zi:=aW z Uk (λF=>xa F da lS iQ mF xy zh) λ_ _ _ _ _ _=>ln2 λ_ _=>by rfl
 have zj:=aW z Ul (λF=>xf F AM) λ_ _ _ _ _ _=>Gx λ_=>by rfl
 have mG:=aW z Um (λF=>tK F AM zj) λ_ _ _ _ _ _=>Gx λ_=>by rfl
 have zl:=aW z Uo (λF=>xg F ) λ_ _ _ _ _ _=>ln2 λ_ _=>by rfl
 have lx:=aW z Up (λF=>xh F AM zl) λ_ _ _ _ _ _=>ln2 λ_ _=>by rfl
 have zm:=aW z Uq (λF=>xj F da lx) λ_ _ _ _ _ _=>ln2 λ_ _=>by rfl
 have vB:=aW z Ur (λF=>Ar F da zm) λ_ _ _ _ _ _=>ln2 λ_ _=>by rfl
 have rg:=aW z Us (λF=>qa F zc da xv ⟨_,rfl⟩ uI ⟨_,rfl⟩ ze ⟨_,rfl⟩ vB) λ_ _ _ _ _ _=>ln2 λ_ _=>by rfl
 have nJ:=aW z Ut (λF=>md F ) λ_ _ _ _ _ _=>ln2 λ_ _=>by rfl
 have kr:=aW z Uu (λF=>ke F zc da qj ⟨_,rfl⟩ nJ) λ_ _ _ _ _ _=>Gx λ_=>by rfl
 have AQ:=aW z Uv (λF=>y8 F y_bool BW kg) λ_ _ _ _ _ _=>Gx λ_=>by rfl
 have Dc:=aW z Uw (λF=>Au F Mm ⟨_,rfl⟩) λ_ _ _ _ _ _=>Gx λ_=>by rfl
 have Mp:=aW z Ux (λF=>Iz F Mn Mo AQ Dc) λ_ _ _ _ _ _=>ln2 λ_ _=>by rfl
 have BX:=aW z Uy (λF=>Ge F IG IJ) λ_ _ _ _ _ _=>Gx λ_=>by rfl
 have Gp:=aW z Uz (λF=>C8 F zc kg da Qe IE Ku IF II (BD oQ) Mp BX qe lh) λ_ _ _ _ _ _=>Gx λ_=>by rfl
 have AR:=aW z UA (λF=>za F da lx) λ_ _ _ _ _ _=>Vv λ_ _ _ _ _=>by rfl
 have tZ:=aW z UB (λF=>qT F Ku Gp AR BX) λ_ _ _ _ _ _=>Ko λ_ _ _=>by rfl
 have uL:=aW z UC (λF=>tN F zd da Gj Gn (BD lR) tZ) λ_ _ _ _ _ _=>ln2 λ_ _=>by rfl
 have xB:=aW z UD (λF=>uB F tW fT zf rg kr uL) λ_ _ _ _ _ _=>ln2 λ_ _=>by rfl
 have qk:=aW z UE (λF=>oJ F ) λ_ _ _ _ _ _=>ln2 λ_ _=>by rfl
 have nK:=aW z UG (λF=>mh F zc da uH ⟨_,rfl⟩ lx vB) λ_ _ _ _ _ _=>ln2 λ_ _=>by rfl
 have oR:=aW z UH (λF=>nh F zc da lS xw ⟨_,rfl⟩ qk nK) λ_ _ _ _ _ _=>Gx λ_=>by rfl
 have oS:=aW z UI (λF=>uE F da lS xx ⟨_,rfl⟩ tW fT zf xB oR) λ_ _ _ _ _ _=>Gx λ_=>by rfl
 have t6:=aW z UJ (λF=>qV F xu y_bool BW kg tW fT Gk oM Gm oN IH rC uJ fK dz mG oS ig ij ik il ip bL m_BW fk ft Gh i_BV i_BP i_BR Gi) λ_ _ _ _ _ _=>ln2 λ_ _=>by rfl
 have ly:=aW z UK (λF=>qW F da) λ_ _ _ _ _ _=>ln2 λ_ _=>by rfl
 have rh:=aW z UL (λF=>qg F da ly) λ_ _ _ _ _ _=>Ko λ_ _ _=>by rfl
 have t7:=aW z UM (λF=>qX F da Kt ly) λ_ _ _ _ _ _=>Ko λ_ _ _=>by rfl
 have uM:=aW z UN (λF=>tP F BW da) λ_ _ _ _ _ _=>PM λ_ _ _ _=>by rfl
 have oT:=aW z UO (λF=>nk F ) λ_ _ _ _ _ _=>ln2 λ_ _=>by rfl
 have lA:=aW z UP (λF=>qY F da t7 uM oT tX) λ_ _ _ _ _ _=>PM λ_ _ _ _=>by rfl
 have lB:=aW z UQ (λF=>qZ F da rh lA) λ_ _ _ _ _ _=>Ko λ_ _ _=>by rfl
 have xC:=aW z UR (λF=>uG F lA lB) λ_ _ _ _ _ _=>PM λ_ _ _ _=>by rfl
 exact Mj (P:=l.prog) (w:=w) (base:=base) WS da Kt lS zi mG iQ mF t6 lB xC oS
theorem walk{l:PySem.W.OpenLaw}{q:Program}{loose:List Str}{XP:(Str->Option Value)->Heap->Prop}{YP:World->Heap->Prop}{d:DefRec}{K:Params->aJ}(hn:l.most=some 63)(hdf:d.params.defaults=[])
  (hY:∀(w:World) (h:Heap),YP w h->(K w.params).In h)
  (F:∀(w:World) (mg:Str->Option Value) (fa:Addr) (h:Heap),(K w.params).In h->h.Ns mainGlobals mg->mg d.name=some (.ref fa) ->
   ∃fd:FuncData,(∀(s:Shared) (u:Value),BindsTo s fd ⟨[u],[]⟩ [("_law_script",u)])/\∀base:Heap,(K w.params).In base->base.Ns mainGlobals mg->bE l.prog w (K w.params) mg base bM 9 fa fd ["_law_script"] (tG (K w.params))) :
  PySem.W.WalkO q loose XP YP l.row.toRowW d [] (λf vs=>PySem.call f vs) :=
 L2.G0 (n:=63) (k:=9) (x:="_law_script") (CX:=λ_=>bM) (sp:=λw=>tG (K w.params)) hn (by decide) hdf ⟨λ_=>rfl,by decide,by decide,rfl⟩ hY F (λ_ _ a ns hl _ hS=>⟨a,ns,rfl,hS,hl,λ_=>rfl⟩) λ_ _ _ _ _ z=>z
end Mine
noncomputable section
namespace MH
open PySem PySem.W L2 Mine
abbrev OF:=Program->Params->Obj
abbrev TF:=Program->Params->BT
abbrev r(a:Nat):Value:=.ref a
abbrev s(x:Str)(t:Tok):Value:=.str x t
abbrev i(n:Int):Value:=.int n 0
abbrev cF:Str:="/claim/cut.py"
def de(P:Params)(x:Str)(t:Tok)(v:Value):DictEntry:=⟨PyData.keyHash P x,.str x t,v⟩
abbrev fn(a b:Str)(e:Stmt)(dV kV doc pm:Value)(an:Option Addr)(cd ct:Value):FuncData:=PySem.W.fnOf a b (dA e) (dB e) (dS e) dV kV doc pm an cd ct
abbrev fx(g u:Nat)(a b:Str)(e:Stmt)(dV kV doc pm:Value)(an:Option Addr)(cd ct:Value):FuncData:=⟨a,b,dA e,.stmts (dB e),dS e,g,[],dV,kV,doc,pm,an,cd,ct,u⟩
abbrev tu(l:List Value):Obj:=⟨.type "tuple",none,.seq l.toArray 0,#[]⟩
abbrev nf(l:List Value):Obj:=⟨.none,none,.fields l.toArray,#[]⟩
abbrev co(l:List Value):Obj:=⟨.type "code",none,.fields l.toArray,#[]⟩
abbrev fm(l:List (Option Value)):Obj:=⟨.type "frame",none,.plain,l.toArray⟩
abbrev di(l:List DictEntry)(n:Nat):Obj:=⟨.type "dict",none,.dict l.toArray n,#[]⟩
abbrev fo(f:FuncData):Obj:=⟨.type "function",none,.func f,#[]⟩
abbrev no(f:FuncData):Obj:=⟨.none,none,.func f,#[]⟩
abbrev nq(p:Program)(a:Str)(k:Nat):Obj:=no (fx 0 0 a a (tf p k) .none .none .none .none none .none .none)
abbrev fq(p:Program)(a:Str)(k:Nat)(m:Str)(t n:Nat):Obj:=fo (fn a a (tf p k) .none .none .none (s m t) none (r n) .none)
abbrev cq(a:Str)(t L n m x:Nat)(v1 v2 v3 v4 v5:Value)(e:Nat):Obj:=co [s a t,s a (t + 1),s cF (t + 2),i L,i n,i 0,i 0,i m,r x,.bool true,i 181,v1,v2,v3,v4,v5,i e,i L,s cF (e + 1)]
abbrev bn(o:Obj)(l r:BT):BT:=.node o l r
abbrev bl(o:Obj):BT:=.node o .nil .nil
abbrev ak(o:OF)(l r:TF):TF:=λp P=>.node (o p P) (l p P) (r p P)
abbrev av(o:OF):TF:=λp P=>.node (o p P) .nil .nil
abbrev bC:TF:=λ_ _=>.nil
abbrev Xj(a b:Str)(e:Stmt):FuncData:=fn a b e .none .none .none .none none .none .none
abbrev R8(g u:Nat)(a b:Str)(e:Stmt):FuncData:=fx g u a b e .none .none .none .none none .none .none
abbrev Qf:OF:=λ_ P=>boot_o_0 P
abbrev Qg:OF:=λ_ P=>boot_o_1 P
abbrev Gq:OF:=λ_ P=>boot_o_10 P
abbrev Qh:OF:=λ_ P=>boot_o_2 P
abbrev WT:OF:=λ_ P=>boot_o_3 P
abbrev Qi:OF:=λ_ P=>boot_o_4 P
abbrev Qj:OF:=λ_ P=>boot_o_5 P
abbrev Qk:OF:=λ_ P=>boot_o_6 P
abbrev Ql:OF:=λ_ P=>boot_o_7 P
abbrev Qm:OF:=λ_ P=>boot_o_8 P
abbrev Qn:OF:=λ_ P=>boot_o_9 P
abbrev pw:Program:=PySem.Challenge.pw_stackwarden_k29_wrong_books
def zo(p:Program):Env:={scope:=p.main.scope,locals:=mainNs,globals:=mainNs,cells:=[],code:=(.ref 13),frame:=some 14}
def gn(p:Program):Code:=.body (behindTheImports p) (zo p)
abbrev BF:List Frame:=[topFrame ⟨0,0,0,0⟩]
def ql(p:Program)(i n:Nat):List Stmt:=((behindTheImports p).drop i).take n
def cj(p:Program):Program:={p with main:={p.main with body:=[tf p 1,tf p 2,tf p 3,tf p 4,tf p 5,tf p 7,tf p 8,tf p 9,tf p 10,tf p 12,tf p 13,tf p 15,tf p 16,tf p 17,tf p 18,tf p 19,tf p 20,tf p 21,tf p 22,tf p 23,tf p 25,tf p 26,tf p 27,tf p 28,tf p 29,tf p 30,tf p 31,tf p 32,tf p 33,tf p 34,tf p 35,tf p 36,tf p 37,tf p 38,tf p 39,tf p 40,tf p 41,tf p 43,tf p 44,tf p 45,tf p 46,tf p 47,tf p 48,tf p 49,tf p 50,tf p 51,tf p 52,tf p 53,tf p 54,tf p 55,tf p 56,tf p 57,tf p 58,tf p 59,tf p 60,tf p 61,tf p 62,tf p 63,tf p 64,tf p 65]}}
abbrev ST(t:BT)(n k:Nat)(os:OsState):SharedT:=⟨t,n,{},Array.mk [],{},k,os⟩
abbrev SH(h:Heap)(k:Nat)(os:OsState):Shared:=⟨h,Array.mk [],{},k,os⟩
local macro_rules | `(tactic| walk_at "qk")=>`(tactic| ((try rewrite [Fast.te14364793385576792824]); (try rewrite [Fast.te10110043849684766642]); (try rewrite [Fast.te14374325043358763698]); (try rewrite [Fast.te15667345088766844465]); (try rewrite [Fast.te14082659384304107361]); (try rewrite [Fast.te11892475500146522536]); (try rewrite [Fast.te5160383126252970620]); (try rewrite [Fast.te3399658132070893891]); (try rewrite [Fast.te5991557255702980513]); (try rewrite [Fast.te10880121769531294198]); (try rewrite [Fast.te821141287760084731]); (try rewrite [Fast.te7409074990110511671]); (try rewrite [Fast.te13664370479719496447]); (try rewrite [Fast.te5923862056798008813]); (try rewrite [Fast.te14722251495701143533]); (try rewrite [Fast.te10994771534591457954]); (try rewrite [Fast.te479339242167458305]); (try rewrite [Fast.te16090120013241838585]); (try rewrite [Fast.te3247288618530077131]); (try rewrite [Fast.te2386780881361962483]); (try rewrite [Fast.te11698064438423848299]); (try rewrite [Fast.te7317090234206586261]); (try rewrite [Fast.te7369524293546568484]); (try rewrite [Fast.te8920871248978507458]); (try rewrite [PySem.W.R.mapR_eq]); kernel_rfl))
def o0:OF:=λp P=>tu []
def o1:OF:=λp P=>nf []
noncomputable def o2:OF:=λp P=>co [(s "<module>" 182),(s "<module>" 183),(s cF 184),(i 1),(i 0),(i 0),(i 0),(i 0),(r 11),(.bool false),(i 181),(r 12),.none,.none,.none,.none,(i 185),(i 1),(s cF 186)]
noncomputable def o3:OF:=λp P=>fm [(some (r 13)),(some (r 3)),(some (r 3)),none,(some (s "__main__" 164)),none,(some (r 0))]
def H0(p:Program)(P:Params):Heap:=⟨Array.mk [boot_o_0 P,boot_o_1 P,boot_o_2 P,boot_o_3 P,boot_o_4 P,boot_o_5 P,boot_o_6 P,boot_o_7 P,boot_o_8 P,boot_o_9 P,boot_o_10 P,o0 p P,o1 p P,o2 p P,o3 p P],{}⟩
def dq0_(P:Params):List DictEntry:=[de P "__doc__" 166 .none,de P "__package__" 167 .none,de P "__loader__" 168 (.builtin "__main__.__loader__#opaque"),de P "__spec__" 169 .none,de P "__annotations__" 170 (r 6),de P "__builtins__" 171 (r 4),de P "__file__" 173 (s cF 172),de P "__cached__" 174 .none,de P "WardenError" 206 (r 24),de P "NoRow" 231 (r 44),de P "NoCode" 258 (r 63)]
def dq1_(P:Params):List DictEntry:=dq0_ P++[de P "NoBook" 285 (r 82),de P "NoPass" 314 (r 101),de P "elders_of" 325 (r 110),de P "fields_of" 335 (r 117),de P "full_mask" 343 (r 124),de P "is_kind" 351 (r 131),de P "HALF" 355 (.int 2147483648 354),de P "is_word" 362 (r 138),de P "MOST_ROWS" 366 (.int 100 365),de P "SIGNS" 392 (r 139),de P "ENDING" 396 (r 140)]
def dq2_(P:Params):List DictEntry:=dq1_ P++[de P "WANTS" 437 (r 141),de P "MOST" 453 (r 154),de P "wants" 460 (r 161),de P "is_whole" 467 (r 168),de P "fits" 475 (r 175),de P "is_row" 481 (r 180),de P "MOST_MAKES" 485 (.int 8 484),de P "MOST_FIELDS" 487 (.int 6 486),de P "MOST_PARTS" 489 (.int 8 488),de P "MOST_BOXES" 491 (.int 8 490),de P "MOST_HEIGHT" 493 (.int 8 492),de P "MOST_STRETCHES" 495 (.int 8 494),de P "elder_is_right" 503 (r 187),de P "fields_are_right" 509 (r 192),de P "makes_are_right" 515 (r 197),de P "head_is_right" 521 (r 202),de P "is_there" 532 (r 209),de P "row_is_right" 543 (r 216),de P "wrong_place" 554 (r 223),de P "stretch_is_right" 562 (r 230),de P "stretches_are_right" 568 (r 235),de P "check_part" 578 (r 242),de P "check_book" 587 (r 249),de P "_law_draw" 599 (r 256)]
def dq3_(P:Params):List DictEntry:=dq2_ P++[de P "_law_kind" 608 (r 263),de P "_law_makes" 614 (r 268),de P "_law_elders" 623 (r 275),de P "_law_fields" 633 (r 282),de P "_law_copy" 639 (r 287),de P "_law_copied" 653 (r 294),de P "_law_signs" 660 (r 301),de P "_law_row" 674 (r 308),de P "_law_last" 682 (r 315),de P "_law_stretch" 692 (r 322),de P "_law_part" 698 (r 327),de P "_law_book" 704 (r 332),de P "_law_no_kind" 713 (r 339),de P "_law_no_makes" 729 (r 346),de P "_law_no_row" 745 (r 353),de P "_law_no_stretch" 755 (r 360),de P "_law_no_head" 774 (r 367),de P "_law_no_part" 794 (r 374),de P "_law_spoiled" 811 (r 381),de P "_law_refused" 824 (r 388),de P "_law_twice" 836 (r 395),de P "law" 842 (r 400)]
def o4:OF:=λp P=>di (de P "__name__" 165 (s "stackwarden.errors" 187)::dq0_ P) 12
def o5:OF:=λp P=>nf [(i 2),(i 0),(r 20),(i 4),(i 0),(r 33),(i 8),(i 0),(r 52)]
def o6:OF:=λp P=>tu [(.type "ValueError")]
noncomputable def o7:OF:=λp P=>⟨(.type "builtin_function_or_method"),none,(.fields #[(.builtin "type.__prepare__"),(.type "type")]),#[]⟩
noncomputable def o8:OF:=λp P=>di [de P "__module__" 196 (s "stackwarden.errors" 187),de P "__qualname__" 198 (s "WardenError" 197),de P "__firstlineno__" 200 (.int 2 199),de P "__static_attributes__" 201 (r 22)] 4
noncomputable def o9:OF:=λp P=>co [(s "WardenError" 191),(s "WardenError" 192),(s cF 193),(i 2),(i 0),(i 0),(i 0),(i 0),(r 18),(.bool false),(i 181),(r 19),.none,.none,.none,.none,(i 194),(i 2),(s cF 195)]
noncomputable def Qo:OF:=λp P=>fm [(some (r 20)),(some (r 3)),(some (r 17)),none,(some (s "stackwarden.errors" 187)),none,(some (r 0))]
noncomputable def N6:OF:=λp P=>di [de P "__module__" 196 (s "stackwarden.errors" 187),de P "__firstlineno__" 200 (.int 2 199),de P "__static_attributes__" 201 (r 22),de P "__weakref__" 203 (r 25),de P "__doc__" 204 .none] 3
noncomputable def WU:OF:=λp P=>⟨(.type "type"),none,(.cls {name:="WardenError",bases:=[(.type "ValueError")],mro:=[(r 24),(.type "ValueError"),(.type "Exception"),(.type "BaseException"),(.type "object")],ns:=23,qualname:="WardenError",subclasses:=[(r 44),(r 63)]}),#[(some (r 15)),none,(some (s "WardenError" 189)),(some (s "WardenError" 197)),(some (.builtin "ValueError.__new__")),(some (.bool true))]⟩
noncomputable def Gy:OF:=λp P=>⟨(.type "getset_descriptor"),none,(.fields #[(s "__weakref__" 202),(r 24),(.builtin "ExceptionGroup.__weakref__"),.none]),#[]⟩
def Qp:OF:=λp P=>⟨(.type "super"),none,(.fields #[(r 24),(r 24),(r 24)]),#[]⟩
noncomputable def Qq:OF:=λp P=>⟨(.type "builtin_function_or_method"),none,(.fields #[(.builtin "object.__init_subclass__"),(r 24)]),#[]⟩
def ub:OF:=λp P=>tu [(r 24)]
noncomputable def Qr:OF:=λp P=>di [de P "__module__" 214 (s "stackwarden.errors" 187),de P "__qualname__" 216 (s "NoRow" 215),de P "__firstlineno__" 218 (.int 4 217),de P "__init__" 226 (r 41),de P "__static_attributes__" 228 (r 42)] 5
def Qs:OF:=λp P=>nf [(i 6),(i 4),(r 40)]
noncomputable def Qt:OF:=λp P=>co [(s "NoRow" 209),(s "NoRow" 210),(s cF 211),(i 4),(i 0),(i 0),(i 0),(i 0),(r 31),(.bool false),(i 181),(r 32),.none,.none,.none,.none,(i 212),(i 4),(s cF 213)]
noncomputable def Qu:OF:=λp P=>fm [(some (r 33)),(some (r 3)),(some (r 30)),none,(some (s "stackwarden.errors" 187)),none,(some (r 0))]
def N7:OF:=λp P=>tu [(s "self" 222),(s "at" 223)]
def Qv:OF:=λp P=>no (R8 0 0 "__init__" "NoRow.__init__" (inner (tf p 2)))
noncomputable def N8:OF:=λp P=>co [(s "__init__" 219),(s "NoRow.__init__" 220),(s cF 221),(i 6),(i 2),(i 0),(i 0),(i 3),(r 35),(.bool true),(i 181),(r 36),.none,(r 37),(r 38),(r 39),(i 224),(i 6),(s cF 225)]
noncomputable def N9:OF:=λp P=>fo (fn "__init__" "NoRow.__init__" (inner (tf p 2)) .none .none .none (s "stackwarden.errors" 187) none (r 40) .none)
def Oa:OF:=λp P=>tu [(s "at" 227)]
noncomputable def Oc:OF:=λp P=>di [de P "__module__" 214 (s "stackwarden.errors" 187),de P "__firstlineno__" 218 (.int 4 217),de P "__init__" 226 (r 41),de P "__static_attributes__" 228 (r 42),de P "__doc__" 229 .none] 2
noncomputable def Od:OF:=λp P=>⟨(.type "type"),none,(.cls {name:="NoRow",bases:=[(r 24)],mro:=[(r 44),(r 24),(.type "ValueError"),(.type "Exception"),(.type "BaseException"),(.type "object")],ns:=43,qualname:="NoRow"}),#[(some (r 28)),none,(some (s "NoRow" 207)),(some (s "NoRow" 215)),(some (.builtin "ValueError.__new__")),(some (.bool true))]⟩
def Qw:OF:=λp P=>⟨(.type "super"),none,(.fields #[(r 44),(r 44),(r 44)]),#[]⟩
noncomputable def Qx:OF:=λp P=>⟨(.type "builtin_function_or_method"),none,(.fields #[(.builtin "object.__init_subclass__"),(r 44)]),#[]⟩
noncomputable def Qy:OF:=λp P=>di [de P "__module__" 239 (s "stackwarden.errors" 187),de P "__qualname__" 241 (s "NoCode" 240),de P "__firstlineno__" 243 (.int 8 242),de P "__init__" 252 (r 60),de P "__static_attributes__" 255 (r 61)] 5
def Qz:OF:=λp P=>nf [(i 10),(i 4),(r 59)]
noncomputable def QA:OF:=λp P=>co [(s "NoCode" 234),(s "NoCode" 235),(s cF 236),(i 8),(i 0),(i 0),(i 0),(i 0),(r 50),(.bool false),(i 181),(r 51),.none,.none,.none,.none,(i 237),(i 8),(s cF 238)]
noncomputable def QB:OF:=λp P=>fm [(some (r 52)),(some (r 3)),(some (r 49)),none,(some (s "stackwarden.errors" 187)),none,(some (r 0))]
def Oe:OF:=λp P=>tu [(s "self" 247),(s "at" 248),(s "word" 249)]
def QC:OF:=λp P=>no (R8 0 0 "__init__" "NoCode.__init__" (inner (tf p 3)))
noncomputable def Of:OF:=λp P=>co [(s "__init__" 244),(s "NoCode.__init__" 245),(s cF 246),(i 10),(i 3),(i 0),(i 0),(i 3),(r 54),(.bool true),(i 181),(r 55),.none,(r 56),(r 57),(r 58),(i 250),(i 10),(s cF 251)]
noncomputable def Og:OF:=λp P=>fo (fn "__init__" "NoCode.__init__" (inner (tf p 3)) .none .none .none (s "stackwarden.errors" 187) none (r 59) .none)
def Oh:OF:=λp P=>tu [(s "at" 253),(s "word" 254)]
noncomputable def Oi:OF:=λp P=>di [de P "__module__" 239 (s "stackwarden.errors" 187),de P "__firstlineno__" 243 (.int 8 242),de P "__init__" 252 (r 60),de P "__static_attributes__" 255 (r 61),de P "__doc__" 256 .none] 2
noncomputable def Oj:OF:=λp P=>⟨(.type "type"),none,(.cls {name:="NoCode",bases:=[(r 24)],mro:=[(r 63),(r 24),(.type "ValueError"),(.type "Exception"),(.type "BaseException"),(.type "object")],ns:=62,qualname:="NoCode"}),#[(some (r 47)),none,(some (s "NoCode" 232)),(some (s "NoCode" 240)),(some (.builtin "ValueError.__new__")),(some (.bool true))]⟩
def QD:OF:=λp P=>⟨(.type "super"),none,(.fields #[(r 63),(r 63),(r 63)]),#[]⟩
noncomputable def QE:OF:=λp P=>⟨(.type "builtin_function_or_method"),none,(.fields #[(.builtin "object.__init_subclass__"),(r 63)]),#[]⟩
def WV:OF:=λp P=>di (de P "__name__" 165 (s "stackwarden.rows" 363)::dq1_ P) 23
noncomputable def WW:OF:=λp P=>nf [(i 2),(i 0),(r 20),(i 4),(i 0),(r 33),(i 8),(i 0),(r 52),(i 13),(i 0),(r 71),(i 18),(i 0),(r 90),(i 25),(i 0),(r 109),(i 31),(i 0),(r 116),(i 36),(i 0),(r 123),(i 38),(i 0),(r 130),(i 46),(i 0),(r 137)]
noncomputable def QF:OF:=λp P=>⟨(.type "type"),none,(.cls {name:="WardenError",bases:=[(.type "ValueError")],mro:=[(r 24),(.type "ValueError"),(.type "Exception"),(.type "BaseException"),(.type "object")],ns:=23,qualname:="WardenError",subclasses:=[(r 44),(r 63),(r 82),(r 101)]}),#[(some (r 15)),none,(some (s "WardenError" 189)),(some (s "WardenError" 197)),(some (.builtin "ValueError.__new__")),(some (.bool true))]⟩
noncomputable def R9:OF:=λp P=>di [de P "__module__" 266 (s "stackwarden.errors" 187),de P "__qualname__" 268 (s "NoBook" 267),de P "__firstlineno__" 270 (.int 13 269),de P "__init__" 279 (r 79),de P "__static_attributes__" 282 (r 80)] 5
def Sa:OF:=λp P=>nf [(i 15),(i 4),(r 78)]
noncomputable def Sb:OF:=λp P=>co [(s "NoBook" 261),(s "NoBook" 262),(s cF 263),(i 13),(i 0),(i 0),(i 0),(i 0),(r 69),(.bool false),(i 181),(r 70),.none,.none,.none,.none,(i 264),(i 13),(s cF 265)]
noncomputable def Sd:OF:=λp P=>fm [(some (r 71)),(some (r 3)),(some (r 68)),none,(some (s "stackwarden.errors" 187)),none,(some (r 0))]
def QG:OF:=λp P=>tu [(s "self" 274),(s "part" 275),(s "at" 276)]
def Se:OF:=λp P=>no (R8 0 0 "__init__" "NoBook.__init__" (inner (tf p 4)))
noncomputable def QH:OF:=λp P=>co [(s "__init__" 271),(s "NoBook.__init__" 272),(s cF 273),(i 15),(i 3),(i 0),(i 0),(i 3),(r 73),(.bool true),(i 181),(r 74),.none,(r 75),(r 76),(r 77),(i 277),(i 15),(s cF 278)]
noncomputable def QI:OF:=λp P=>fo (fn "__init__" "NoBook.__init__" (inner (tf p 4)) .none .none .none (s "stackwarden.errors" 187) none (r 78) .none)
def QJ:OF:=λp P=>tu [(s "at" 280),(s "part" 281)]
noncomputable def QK:OF:=λp P=>di [de P "__module__" 266 (s "stackwarden.errors" 187),de P "__firstlineno__" 270 (.int 13 269),de P "__init__" 279 (r 79),de P "__static_attributes__" 282 (r 80),de P "__doc__" 283 .none] 2
noncomputable def QL:OF:=λp P=>⟨(.type "type"),none,(.cls {name:="NoBook",bases:=[(r 24)],mro:=[(r 82),(r 24),(.type "ValueError"),(.type "Exception"),(.type "BaseException"),(.type "object")],ns:=81,qualname:="NoBook"}),#[(some (r 66)),none,(some (s "NoBook" 259)),(some (s "NoBook" 267)),(some (.builtin "ValueError.__new__")),(some (.bool true))]⟩
def Sf:OF:=λp P=>⟨(.type "super"),none,(.fields #[(r 82),(r 82),(r 82)]),#[]⟩
noncomputable def Sg:OF:=λp P=>⟨(.type "builtin_function_or_method"),none,(.fields #[(.builtin "object.__init_subclass__"),(r 82)]),#[]⟩
noncomputable def Si:OF:=λp P=>di [de P "__module__" 293 (s "stackwarden.errors" 187),de P "__qualname__" 295 (s "NoPass" 294),de P "__firstlineno__" 297 (.int 18 296),de P "__init__" 307 (r 98),de P "__static_attributes__" 311 (r 99)] 5
def Sj:OF:=λp P=>nf [(i 20),(i 4),(r 97)]
noncomputable def Sk:OF:=λp P=>co [(s "NoPass" 288),(s "NoPass" 289),(s cF 290),(i 18),(i 0),(i 0),(i 0),(i 0),(r 88),(.bool false),(i 181),(r 89),.none,.none,.none,.none,(i 291),(i 18),(s cF 292)]
noncomputable def Sl:OF:=λp P=>fm [(some (r 90)),(some (r 3)),(some (r 87)),none,(some (s "stackwarden.errors" 187)),none,(some (r 0))]
def QM:OF:=λp P=>tu [(s "self" 301),(s "part" 302),(s "at" 303),(s "word" 304)]
def Sm:OF:=λp P=>no (R8 0 0 "__init__" "NoPass.__init__" (inner (tf p 5)))
noncomputable def QN:OF:=λp P=>co [(s "__init__" 298),(s "NoPass.__init__" 299),(s cF 300),(i 20),(i 4),(i 0),(i 0),(i 3),(r 92),(.bool true),(i 181),(r 93),.none,(r 94),(r 95),(r 96),(i 305),(i 20),(s cF 306)]
noncomputable def QO:OF:=λp P=>fo (fn "__init__" "NoPass.__init__" (inner (tf p 5)) .none .none .none (s "stackwarden.errors" 187) none (r 97) .none)
def QP:OF:=λp P=>tu [(s "at" 308),(s "part" 309),(s "word" 310)]
noncomputable def QQ:OF:=λp P=>di [de P "__module__" 293 (s "stackwarden.errors" 187),de P "__firstlineno__" 297 (.int 18 296),de P "__init__" 307 (r 98),de P "__static_attributes__" 311 (r 99),de P "__doc__" 312 .none] 2
noncomputable def QR:OF:=λp P=>⟨(.type "type"),none,(.cls {name:="NoPass",bases:=[(r 24)],mro:=[(r 101),(r 24),(.type "ValueError"),(.type "Exception"),(.type "BaseException"),(.type "object")],ns:=100,qualname:="NoPass"}),#[(some (r 85)),none,(some (s "NoPass" 286)),(some (s "NoPass" 294)),(some (.builtin "ValueError.__new__")),(some (.bool true))]⟩
def Sn:OF:=λp P=>⟨(.type "super"),none,(.fields #[(r 101),(r 101),(r 101)]),#[]⟩
noncomputable def So:OF:=λp P=>⟨(.type "builtin_function_or_method"),none,(.fields #[(.builtin "object.__init_subclass__"),(r 101)]),#[]⟩
def QS:OF:=λp P=>tu [(s "makes" 320),(s "c" 321),(s "elders" 322)]
def Sq:OF:=λp P=>nq p "elders_of" 7
noncomputable def QT:OF:=λp P=>cq "elders_of" 317 25 2 3 104 (r 105) .none (r 106) (r 107) (r 108) 323
def QU:OF:=λp P=>fq p "elders_of" 7 "stackwarden.kinds" 315 109
def QV:OF:=λp P=>tu [(s "makes" 329),(s "c" 330),(s "fields" 331),(s "elder" 332)]
def Sr:OF:=λp P=>nq p "fields_of" 8
noncomputable def QW:OF:=λp P=>cq "fields_of" 326 31 2 3 111 (r 112) .none (r 113) (r 114) (r 115) 333
def QX:OF:=λp P=>fq p "fields_of" 8 "stackwarden.kinds" 315 116
def QY:OF:=λp P=>tu [(s "makes" 339),(s "c" 340)]
def Ss:OF:=λp P=>nq p "full_mask" 9
noncomputable def QZ:OF:=λp P=>cq "full_mask" 336 36 2 3 118 (r 119) .none (r 120) (r 121) (r 122) 341
def Q0:OF:=λp P=>fq p "full_mask" 9 "stackwarden.kinds" 315 123
def Q1:OF:=λp P=>tu [(s "makes" 347),(s "kind" 348)]
def Su:OF:=λp P=>nq p "is_kind" 10
def Q2:OF:=λp P=>cq "is_kind" 344 38 2 3 125 (r 126) .none (r 127) (r 128) (r 129) 349
def Q3:OF:=λp P=>fq p "is_kind" 10 "stackwarden.kinds" 315 130
def Q4:OF:=λp P=>tu [(s "number" 359)]
def Sv:OF:=λp P=>nq p "is_word" 13
def Q5:OF:=λp P=>cq "is_word" 356 46 1 3 132 (r 133) .none (r 134) (r 135) (r 136) 360
def Q6:OF:=λp P=>fq p "is_word" 13 "stackwarden.words" 352 137
noncomputable def Q7:OF:=λp P=>tu [(s "push" 367),(s "load" 368),(s "store" 369),(s "dup" 370),(s "swap" 371),(s "drop" 372),(s "add" 373),(s "sub" 374),(s "mul" 375),(s "div" 376),(s "rem" 377),(s "less" 378),(s "same" 379),(s "jump" 380),(s "zero" 381),(s "kin" 382),(s "make" 383),(s "fill" 384),(s "begin" 385),(s "get" 386),(s "put" 387),(s "call" 388),(s "toss" 389),(s "say" 390),(s "give" 391)]
def Q8:OF:=λp P=>tu [(s "jump" 393),(s "toss" 394),(s "give" 395)]
noncomputable def WX:OF:=λp P=>di (de P "__name__" 165 (s "law_stackwarden_k29_wrong_books" 588)::dq2_ P) 47
noncomputable def WY:OF:=λp P=>nf [(i 2),(i 0),(r 20),(i 4),(i 0),(r 33),(i 8),(i 0),(r 52),(i 13),(i 0),(r 71),(i 18),(i 0),(r 90),(i 25),(i 0),(r 109),(i 31),(i 0),(r 116),(i 36),(i 0),(r 123),(i 38),(i 0),(r 130),(i 46),(i 0),(r 137),(i 54),(i 0),(r 160),(i 56),(i 0),(r 167),(i 58),(i 0),(r 174),(i 64),(i 0),(r 179),(i 81),(i 0),(r 186),(i 83),(i 0),(r 191),(i 87),(i 0),(r 196),(i 93),(i 0),(r 201),(i 99),(i 0),(r 208),(i 111),(i 0),(r 215),(i 118),(i 0),(r 222),(i 126),(i 0),(r 229),(i 128),(i 0),(r 234),(i 132),(i 0),(r 241),(i 141),(i 0),(r 248),(i 148),(i 0),(r 255)]
noncomputable def Sw:OF:=λp P=>di [de P "push" 397 (r 142),de P "load" 399 (r 143),de P "store" 401 (r 144),de P "jump" 403 (r 145),de P "zero" 405 (r 146),de P "kin" 407 (r 147),de P "make" 410 (r 148),de P "fill" 412 (r 149),de P "begin" 415 (r 150),de P "get" 417 (r 151),de P "put" 420 (r 152),de P "call" 423 (r 153)] 12
def Sx:OF:=λp P=>tu [(s "word" 398)]
def Sy:OF:=λp P=>tu [(s "box" 400)]
def Sz:OF:=λp P=>tu [(s "box" 402)]
def IK:OF:=λp P=>tu [(s "place" 404)]
def IL:OF:=λp P=>tu [(s "place" 406)]
def IM:OF:=λp P=>tu [(s "make" 408),(s "place" 409)]
def IP:OF:=λp P=>tu [(s "make" 411)]
def IQ:OF:=λp P=>tu [(s "make" 413),(s "field" 414)]
def IS:OF:=λp P=>tu [(s "make" 416)]
def IT:OF:=λp P=>tu [(s "make" 418),(s "field" 419)]
def IU:OF:=λp P=>tu [(s "make" 421),(s "field" 422)]
def IV:OF:=λp P=>tu [(s "part" 424)]
noncomputable def IW:OF:=λp P=>di [de P "box" 438 (.int 7 439),de P "make" 440 (.int 7 441),de P "field" 442 (.int 7 443),de P "part" 444 (.int 7 445),de P "place" 446 (.int 99 447)] 5
def IX:OF:=λp P=>tu [(s "sign" 457)]
def Mq:OF:=λp P=>nq p "wants" 20
def IY:OF:=λp P=>cq "wants" 454 54 1 3 155 (r 156) .none (r 157) (r 158) (r 159) 458
def IZ:OF:=λp P=>fq p "wants" 20 "stackwarden.rows" 363 160
def I0:OF:=λp P=>tu [(s "thing" 464)]
def Mr:OF:=λp P=>nq p "is_whole" 21
noncomputable def Ja:OF:=λp P=>cq "is_whole" 461 56 1 3 162 (r 163) .none (r 164) (r 165) (r 166) 465
def Jb:OF:=λp P=>fq p "is_whole" 21 "stackwarden.rows" 363 167
def Jc:OF:=λp P=>tu [(s "want" 471),(s "thing" 472)]
def Ms:OF:=λp P=>nq p "fits" 22
def Jd:OF:=λp P=>cq "fits" 468 58 2 3 169 (r 170) .none (r 171) (r 172) (r 173) 473
def Je:OF:=λp P=>fq p "fits" 22 "stackwarden.rows" 363 174
def Mt:OF:=λp P=>nq p "is_row" 23
def Jf:OF:=λp P=>cq "is_row" 476 64 1 3 176 (r 177) .none .none .none (r 178) 479
def Jg:OF:=λp P=>fq p "is_row" 23 "stackwarden.rows" 363 179
def Jh:OF:=λp P=>tu [(s "elder" 499),(s "c" 500)]
def Mu:OF:=λp P=>nq p "elder_is_right" 31
noncomputable def Ji:OF:=λp P=>cq "elder_is_right" 496 81 2 3 181 (r 182) .none (r 183) (r 184) (r 185) 501
def Jk:OF:=λp P=>fq p "elder_is_right" 31 "stackwarden.books" 482 186
def Mv:OF:=λp P=>nq p "fields_are_right" 32
noncomputable def Jl:OF:=λp P=>cq "fields_are_right" 504 83 2 3 188 (r 189) .none .none .none (r 190) 507
def Jm:OF:=λp P=>fq p "fields_are_right" 32 "stackwarden.books" 482 191
def Mw:OF:=λp P=>nq p "makes_are_right" 33
noncomputable def Jn:OF:=λp P=>cq "makes_are_right" 510 87 1 3 193 (r 194) .none .none .none (r 195) 513
def Jo:OF:=λp P=>fq p "makes_are_right" 33 "stackwarden.books" 482 196
def Mx:OF:=λp P=>nq p "head_is_right" 34
noncomputable def Jp:OF:=λp P=>cq "head_is_right" 516 93 2 3 198 (r 199) .none .none .none (r 200) 519
def Jq:OF:=λp P=>fq p "head_is_right" 34 "stackwarden.books" 482 201
noncomputable def Jr:OF:=λp P=>tu [(s "book" 525),(s "part" 526),(s "row" 527),(s "want" 528),(s "number" 529)]
def My:OF:=λp P=>nq p "is_there" 35
noncomputable def Js:OF:=λp P=>cq "is_there" 522 99 5 3 203 (r 204) .none (r 205) (r 206) (r 207) 530
def Jt:OF:=λp P=>fq p "is_there" 35 "stackwarden.books" 482 208
noncomputable def Ju:OF:=λp P=>tu [(s "book" 536),(s "part" 537),(s "row" 538),(s "want" 539),(s "number" 540)]
def Mz:OF:=λp P=>nq p "row_is_right" 36
noncomputable def Jv:OF:=λp P=>cq "row_is_right" 533 111 3 3 210 (r 211) .none (r 212) (r 213) (r 214) 541
def Jw:OF:=λp P=>fq p "row_is_right" 36 "stackwarden.books" 482 215
noncomputable def Jx:OF:=λp P=>tu [(s "book" 547),(s "part" 548),(s "rows" 549),(s "at" 550),(s "row" 551)]
def MA:OF:=λp P=>nq p "wrong_place" 37
noncomputable def Jy:OF:=λp P=>cq "wrong_place" 544 118 2 3 217 (r 218) .none (r 219) (r 220) (r 221) 552
def Jz:OF:=λp P=>fq p "wrong_place" 37 "stackwarden.books" 482 222
def JA:OF:=λp P=>tu [(s "stretch" 558),(s "size" 559)]
def MB:OF:=λp P=>nq p "stretch_is_right" 38
noncomputable def JB:OF:=λp P=>cq "stretch_is_right" 555 126 2 3 224 (r 225) .none (r 226) (r 227) (r 228) 560
def JC:OF:=λp P=>fq p "stretch_is_right" 38 "stackwarden.books" 482 229
def MC:OF:=λp P=>nq p "stretches_are_right" 39
noncomputable def JD:OF:=λp P=>cq "stretches_are_right" 563 128 1 3 231 (r 232) .none .none .none (r 233) 566
def JE:OF:=λp P=>fq p "stretches_are_right" 39 "stackwarden.books" 482 234
def JF:OF:=λp P=>tu [(s "book" 572),(s "number" 573),(s "part" 574),(s "at" 575)]
def MD:OF:=λp P=>nq p "check_part" 40
noncomputable def JG:OF:=λp P=>cq "check_part" 569 132 2 3 236 (r 237) .none (r 238) (r 239) (r 240) 576
def JH:OF:=λp P=>fq p "check_part" 40 "stackwarden.books" 482 241
def JI:OF:=λp P=>tu [(s "book" 582),(s "parts" 583),(s "number" 584)]
def ME:OF:=λp P=>nq p "check_book" 41
noncomputable def JJ:OF:=λp P=>cq "check_book" 579 141 1 3 243 (r 244) .none (r 245) (r 246) (r 247) 585
def JK:OF:=λp P=>fq p "check_book" 41 "stackwarden.books" 482 248
noncomputable def JL:OF:=λp P=>tu [(s "_law_script" 593),(s "_law_k" 594),(s "_law_cell" 595),(s "_law_other" 596)]
def MF:OF:=λp P=>nq p "_law_draw" 43
noncomputable def JM:OF:=λp P=>cq "_law_draw" 590 148 2 3 250 (r 251) .none (r 252) (r 253) (r 254) 597
def JN:OF:=λp P=>fq p "_law_draw" 43 "law_stackwarden_k29_wrong_books" 588 255
noncomputable def MG:OF:=λp P=>di (de P "__name__" 165 (s "law_stackwarden_k29_wrong_books" 588)::dq3_ P) 69
noncomputable def Q9:OF:=λp P=>nf [(i 2),(i 0),(r 20),(i 4),(i 0),(r 33),(i 8),(i 0),(r 52),(i 13),(i 0),(r 71),(i 18),(i 0),(r 90),(i 25),(i 0),(r 109),(i 31),(i 0),(r 116),(i 36),(i 0),(r 123),(i 38),(i 0),(r 130),(i 46),(i 0),(r 137),(i 54),(i 0),(r 160),(i 56),(i 0),(r 167),(i 58),(i 0),(r 174),(i 64),(i 0),(r 179),(i 81),(i 0),(r 186),(i 83),(i 0),(r 191),(i 87),(i 0),(r 196),(i 93),(i 0),(r 201),(i 99),(i 0),(r 208),(i 111),(i 0),(r 215),(i 118),(i 0),(r 222),(i 126),(i 0),(r 229),(i 128),(i 0),(r 234),(i 132),(i 0),(r 241),(i 141),(i 0),(r 248),(i 148),(i 0),(r 255),(i 156),(i 0),(r 262),(i 165),(i 0),(r 267),(i 180),(i 0),(r 274),(i 186),(i 0),(r 281),(i 191),(i 0),(r 286),(i 193),(i 0),(r 293),(i 198),(i 0),(r 300),(i 201),(i 0),(r 307),(i 220),(i 0),(r 314),(i 222),(i 0),(r 321),(i 225),(i 0),(r 326),(i 240),(i 0),(r 331),(i 245),(i 0),(r 338),(i 258),(i 0),(r 345),(i 281),(i 0),(r 352),(i 302),(i 0),(r 359),(i 306),(i 0),(r 366),(i 321),(i 0),(r 373),(i 345),(i 0),(r 380),(i 357),(i 0),(r 387),(i 376),(i 0),(r 394),(i 383),(i 0),(r 399)]
def MI:OF:=λp P=>tu [(s "_law_cell" 603),(s "_law_sizes" 604),(s "_law_c" 605)]
def Ra:OF:=λp P=>nq p "_law_kind" 44
noncomputable def MJ:OF:=λp P=>cq "_law_kind" 600 156 2 3 257 (r 258) .none (r 259) (r 260) (r 261) 606
def MK:OF:=λp P=>fq p "_law_kind" 44 "law_stackwarden_k29_wrong_books" 588 262
def Rb:OF:=λp P=>nq p "_law_makes" 45
def ML:OF:=λp P=>cq "_law_makes" 609 165 2 3 264 (r 265) .none .none .none (r 266) 612
def MM:OF:=λp P=>fq p "_law_makes" 45 "law_stackwarden_k29_wrong_books" 588 267
def MN:OF:=λp P=>tu [(s "_law_makes_here" 618),(s "_law_c" 619),(s "_law_found" 620)]
def Rc:OF:=λp P=>nq p "_law_elders" 46
noncomputable def MO:OF:=λp P=>cq "_law_elders" 615 180 2 3 269 (r 270) .none (r 271) (r 272) (r 273) 621
def MP:OF:=λp P=>fq p "_law_elders" 46 "law_stackwarden_k29_wrong_books" 588 274
noncomputable def MQ:OF:=λp P=>tu [(s "_law_makes_here" 627),(s "_law_c" 628),(s "_law_found" 629),(s "_law_one" 630)]
def Rf:OF:=λp P=>nq p "_law_fields" 47
noncomputable def MR:OF:=λp P=>cq "_law_fields" 624 186 2 3 276 (r 277) .none (r 278) (r 279) (r 280) 631
def MS:OF:=λp P=>fq p "_law_fields" 47 "law_stackwarden_k29_wrong_books" 588 281
def Rg:OF:=λp P=>nq p "_law_copy" 48
def MT:OF:=λp P=>cq "_law_copy" 634 191 1 3 283 (r 284) .none .none .none (r 285) 637
def MU:OF:=λp P=>fq p "_law_copy" 48 "law_stackwarden_k29_wrong_books" 588 286
noncomputable def MV:OF:=λp P=>tu [(s "_law_book_here" 643),(s "_law_parts" 644),(s "_law_takes" 645),(s "_law_gives" 646),(s "_law_boxes" 647),(s "_law_height" 648),(s "_law_rows" 649),(s "_law_stretches" 650)]
def Rh:OF:=λp P=>nq p "_law_copied" 49
noncomputable def MW:OF:=λp P=>cq "_law_copied" 640 193 1 3 288 (r 289) .none (r 290) (r 291) (r 292) 651
def MX:OF:=λp P=>fq p "_law_copied" 49 "law_stackwarden_k29_wrong_books" 588 293
def MY:OF:=λp P=>tu [(s "_law_some" 657)]
def Ri:OF:=λp P=>nq p "_law_signs" 50
noncomputable def MZ:OF:=λp P=>cq "_law_signs" 654 198 0 3 295 (r 296) .none (r 297) (r 298) (r 299) 658
def M0:OF:=λp P=>fq p "_law_signs" 50 "law_stackwarden_k29_wrong_books" 588 300
noncomputable def M1:OF:=λp P=>tu [(s "_law_cell" 664),(s "_law_sizes" 665),(s "_law_parts" 666),(s "_law_boxes" 667),(s "_law_many" 668),(s "_law_sign" 669),(s "_law_rest" 670),(s "_law_c" 671)]
def Rj:OF:=λp P=>nq p "_law_row" 51
noncomputable def M3:OF:=λp P=>cq "_law_row" 661 201 5 3 302 (r 303) .none (r 304) (r 305) (r 306) 672
def M4:OF:=λp P=>fq p "_law_row" 51 "law_stackwarden_k29_wrong_books" 588 307
def M5:OF:=λp P=>tu [(s "_law_cell" 678),(s "_law_many" 679)]
def Rk:OF:=λp P=>nq p "_law_last" 52
noncomputable def M6:OF:=λp P=>cq "_law_last" 675 220 2 3 309 (r 310) .none (r 311) (r 312) (r 313) 680
def M7:OF:=λp P=>fq p "_law_last" 52 "law_stackwarden_k29_wrong_books" 588 314
noncomputable def M8:OF:=λp P=>tu [(s "_law_cell" 686),(s "_law_other" 687),(s "_law_many" 688),(s "_law_first" 689)]
def Rl:OF:=λp P=>nq p "_law_stretch" 53
noncomputable def M9:OF:=λp P=>cq "_law_stretch" 683 222 3 3 316 (r 317) .none (r 318) (r 319) (r 320) 690
def Na:OF:=λp P=>fq p "_law_stretch" 53 "law_stackwarden_k29_wrong_books" 588 321
def Rm:OF:=λp P=>nq p "_law_part" 54
def Nb:OF:=λp P=>cq "_law_part" 693 225 4 3 323 (r 324) .none .none .none (r 325) 696
def Nd:OF:=λp P=>fq p "_law_part" 54 "law_stackwarden_k29_wrong_books" 588 326
def Rn:OF:=λp P=>nq p "_law_book" 55
def Nf:OF:=λp P=>cq "_law_book" 699 240 2 3 328 (r 329) .none .none .none (r 330) 702
def Ng:OF:=λp P=>fq p "_law_book" 55 "law_stackwarden_k29_wrong_books" 588 331
def Nh:OF:=λp P=>tu [(s "_law_cell" 708),(s "_law_sizes" 709),(s "_law_c" 710)]
def Ro:OF:=λp P=>nq p "_law_no_kind" 56
noncomputable def Ni:OF:=λp P=>cq "_law_no_kind" 705 245 2 3 333 (r 334) .none (r 335) (r 336) (r 337) 711
def Nj:OF:=λp P=>fq p "_law_no_kind" 56 "law_stackwarden_k29_wrong_books" 588 338
noncomputable def Nk:OF:=λp P=>tu [(s "_law_cell" 717),(s "_law_makes_here" 718),(s "_law_sizes" 719),(s "_law_way" 720),(s "_law_c" 721),(s "_law_rest" 722),(s "_law_elder" 723),(s "_law_more" 724),(s "_law_own" 725),(s "_law_at" 726)]
def Rp:OF:=λp P=>nq p "_law_no_makes" 57
noncomputable def Nl:OF:=λp P=>cq "_law_no_makes" 714 258 3 3 340 (r 341) .none (r 342) (r 343) (r 344) 727
def Nm:OF:=λp P=>fq p "_law_no_makes" 57 "law_stackwarden_k29_wrong_books" 588 345
noncomputable def Nn:OF:=λp P=>tu [(s "_law_cell" 733),(s "_law_sizes" 734),(s "_law_parts" 735),(s "_law_part_here" 736),(s "_law_way" 737),(s "_law_rest" 738),(s "_law_below" 739),(s "_law_c" 740),(s "_law_sign" 741),(s "_law_some" 742)]
def Rq:OF:=λp P=>nq p "_law_no_row" 58
noncomputable def Np:OF:=λp P=>cq "_law_no_row" 730 281 4 3 347 (r 348) .none (r 349) (r 350) (r 351) 743
def Nq:OF:=λp P=>fq p "_law_no_row" 58 "law_stackwarden_k29_wrong_books" 588 352
noncomputable def Nr:OF:=λp P=>tu [(s "_law_cell" 749),(s "_law_many" 750),(s "_law_first" 751),(s "_law_some" 752)]
def Rr:OF:=λp P=>nq p "_law_no_stretch" 59
noncomputable def Nt:OF:=λp P=>cq "_law_no_stretch" 746 302 2 3 354 (r 355) .none (r 356) (r 357) (r 358) 753
def Nu:OF:=λp P=>fq p "_law_no_stretch" 59 "law_stackwarden_k29_wrong_books" 588 359
noncomputable def Nv:OF:=λp P=>tu [(s "_law_cell" 759),(s "_law_sizes" 760),(s "_law_part_here" 761),(s "_law_takes" 762),(s "_law_gives" 763),(s "_law_boxes" 764),(s "_law_height" 765),(s "_law_rows" 766),(s "_law_stretches" 767),(s "_law_way" 768),(s "_law_rest" 769),(s "_law_at" 770),(s "_law_more" 771)]
def Rt:OF:=λp P=>nq p "_law_no_head" 60
noncomputable def Nw:OF:=λp P=>cq "_law_no_head" 756 306 3 3 361 (r 362) .none (r 363) (r 364) (r 365) 772
def Ny:OF:=λp P=>fq p "_law_no_head" 60 "law_stackwarden_k29_wrong_books" 588 366
noncomputable def Nz:OF:=λp P=>tu [(s "_law_cell" 778),(s "_law_number" 779),(s "_law_book_here" 780),(s "_law_sizes" 781),(s "_law_takes" 782),(s "_law_gives" 783),(s "_law_boxes" 784),(s "_law_height" 785),(s "_law_rows" 786),(s "_law_stretches" 787),(s "_law_way" 788),(s "_law_rest" 789),(s "_law_at" 790),(s "_law_last_here" 791)]
def Ru:OF:=λp P=>nq p "_law_no_part" 61
noncomputable def NA:OF:=λp P=>cq "_law_no_part" 775 321 4 3 368 (r 369) .none (r 370) (r 371) (r 372) 792
def NB:OF:=λp P=>fq p "_law_no_part" 61 "law_stackwarden_k29_wrong_books" 588 373
noncomputable def NC:OF:=λp P=>tu [(s "_law_cell" 798),(s "_law_book_here" 799),(s "_law_sizes" 800),(s "_law_makes_here" 801),(s "_law_parts" 802),(s "_law_way" 803),(s "_law_rest" 804),(s "_law_many" 805),(s "_law_number" 806),(s "_law_part_here" 807),(s "_law_due" 808)]
def Rv:OF:=λp P=>nq p "_law_spoiled" 62
noncomputable def ND:OF:=λp P=>cq "_law_spoiled" 795 345 3 3 375 (r 376) .none (r 377) (r 378) (r 379) 809
def NF:OF:=λp P=>fq p "_law_spoiled" 62 "law_stackwarden_k29_wrong_books" 588 380
noncomputable def NG:OF:=λp P=>tu [(s "_law_book_here" 815),(s "_law_due" 816),(s "_law_handed" 817),(s "_law_caught" 818),(s "e" 819),(s "_law_found" 820),(s "_law_told" 821)]
def Rx:OF:=λp P=>nq p "_law_refused" 63
noncomputable def NH:OF:=λp P=>cq "_law_refused" 812 357 2 3 382 (r 383) .none (r 384) (r 385) (r 386) 822
def NI:OF:=λp P=>fq p "_law_refused" 63 "law_stackwarden_k29_wrong_books" 588 387
noncomputable def NJ:OF:=λp P=>tu [(s "_law_cell" 828),(s "_law_book_here" 829),(s "_law_due" 830),(s "_law_sizes" 831),(s "_law_part_here" 832),(s "_law_more" 833)]
def Ry:OF:=λp P=>nq p "_law_twice" 64
noncomputable def NK:OF:=λp P=>cq "_law_twice" 825 376 4 3 389 (r 390) .none (r 391) (r 392) (r 393) 834
def NL:OF:=λp P=>fq p "_law_twice" 64 "law_stackwarden_k29_wrong_books" 588 394
def Rz:OF:=λp P=>nq p "law" 65
def NM:OF:=λp P=>cq "law" 837 383 1 3 396 (r 397) .none .none .none (r 398) 840
def NN:OF:=λp P=>fq p "law" 65 "law_stackwarden_k29_wrong_books" 588 399
noncomputable def T0:TF:=(ak Qf (ak Qg (ak WT (av Ql) (av o0)) (ak Qj (av Qn) (av o2))) (ak Qh (ak Qi (av Qm) (av o1)) (ak Qk (av Gq) (av o3))))
noncomputable def T1:TF:=(ak Qf (ak Qg (ak o4 (ak Ql (ak o6 (ak o0 (av Oj) bC) (av ub)) (ak N6 (av Qv) (av o1))) (ak o0 (ak o1 (av o0) (av Qz)) (ak Qq (av Oc) (av Of)))) (ak Qj (ak Qn (ak o8 (ak Qt (av QE) bC) (av Qy)) (ak Gy (av N9) (av o0))) (ak o2 (ak Qo (av N7) (av QB)) (ak o7 (av Qw) (av Oh))))) (ak Qh (ak Qi (ak Qm (ak o7 (ak Qs (av QD) bC) (av o7)) (ak WU (av N8) (av Oe))) (ak o5 (ak o9 (av o1) (av QA)) (ak ub (av Od) (av Og)))) (ak Qk (ak Gq (ak o0 (av Qu) (av o0)) (ak Qp (av Oa) (av QC))) (ak o3 (ak o0 (av o0) (av o0)) (ak Qr (av Qx) (av Oi))))))
noncomputable def T2:TF:=(ak Qf (ak Qg (ak WV (ak Ql (ak o6 (ak o0 (ak Oj (av Q1) bC) (av o0)) (ak ub (av QI) (av o0))) (ak N6 (ak Qv (ak Sb (av o0) bC) (av So)) (ak o1 (av Si) (av o1)))) (ak o0 (ak o1 (ak o0 (ak o7 (av Q3) bC) (av QP)) (ak Qz (av Sf) (av Sr))) (ak Qq (ak Oc (ak QG (av Q7) bC) (av o0)) (ak Of (av Sl) (av QZ))))) (ak Qj (ak Qn (ak o8 (ak Qt (ak QE (av Su) bC) (av QN)) (ak Qy (av QK) (av QV))) (ak Gy (ak N9 (ak o0 (av Q5) bC) (av o1)) (ak o0 (av Sj) (av o0)))) (ak o2 (ak Qo (ak N7 (ak o0 (av o1) bC) (av QR)) (ak QB (av ub) (av QX))) (ak o7 (ak Qw (av Se) (av QT)) (ak Oh (av o1) (av o0)))))) (ak Qh (ak Qi (ak Qm (ak o7 (ak Qs (ak QD (av o0) bC) (av Sm)) (ak o7 (av QJ) (av o1))) (ak QF (ak N8 (ak Sd (av Sv) bC) (av o0)) (ak Oe (av o0) (av QY)))) (ak WW (ak o9 (ak o1 (ak R9 (av o0) bC) (av QQ)) (ak QA (av Sg) (av QW))) (ak ub (ak Od (ak o0 (av Q8) bC) (av Sq)) (ak Og (av o0) (av Q0))))) (ak Qk (ak Gq (ak o0 (ak Qu (ak ub (av Q2) bC) (av QO)) (ak o0 (av QL) (av o0))) (ak Qp (ak Oa (ak o1 (av Q6) bC) (av QS)) (ak QC (av Sk) (av Ss)))) (ak o3 (ak o0 (ak o0 (ak Sa (av Q4) bC) (av Sn)) (ak o0 (av o7) (av o0))) (ak Qr (ak Qx (av QH) (av QU)) (ak Oi (av QM) (av o1)))))))
noncomputable def T3:TF:=(ak Qf (ak Qg (ak WX (ak Ql (ak o6 (ak o0 (ak Oj (ak Q1 (av JM) bC) (av Jl)) (ak o0 (av Mq) (av Jz))) (ak ub (ak QI (av Sy) (av My)) (ak o0 (av Je) (av o0)))) (ak N6 (ak Qv (ak Sb (av o0) (av o1)) (ak So (av Ja) (av o0))) (ak o1 (ak Si (av IT) (av Jv)) (ak o1 (av Jh) (av ME))))) (ak o0 (ak o1 (ak o0 (ak o7 (av Q3) (av Mw)) (ak QP (av o1) (av o0))) (ak Qz (ak Sf (av IM) (av o1)) (ak Sr (av Jf) (av o0)))) (ak Qq (ak Oc (ak QG (av Q7) (av o0)) (ak o0 (av Jc) (av JE))) (ak Of (ak Sl (av o0) (av Jx)) (ak QZ (av Jk) (av o1)))))) (ak Qj (ak Qn (ak o8 (ak Qt (ak QE (av Su) (av o0)) (ak QN (av IZ) (av o1))) (ak Qy (ak QK (av IK) (av Jt)) (ak QV (av o1) (av JG)))) (ak Gy (ak N9 (ak o0 (av Q5) (av Jp)) (ak o1 (av o0) (av MC))) (ak o0 (ak Sj (av IV) (av o0)) (ak o0 (av Mu) (av JK))))) (ak o2 (ak Qo (ak N7 (ak o0 (av o1) (av Jo)) (ak QR (av o0) (av JB))) (ak QB (ak ub (av IQ) (av o0)) (ak QX (av o0) (av JI)))) (ak o7 (ak Qw (ak Se (av Sw) (av Jr)) (ak QT (av Ms) (av o1))) (ak Oh (ak o1 (av IX) (av MA)) (ak o0 (av o1) (av o0))))))) (ak Qh (ak Qi (ak Qm (ak o7 (ak Qs (ak QD (ak o0 (av JN) bC) (av Jm)) (ak Sm (av IY) (av o0))) (ak o7 (ak QJ (av Sz) (av Js)) (ak o1 (av o0) (av MD)))) (ak QF (ak N8 (ak Sd (av Sv) (av Mx)) (ak o0 (av Jb) (av o1))) (ak Oe (ak o0 (av IU) (av Jw)) (ak QY (av o0) (av JJ))))) (ak WY (ak o9 (ak o1 (ak R9 (av o0) (av Jn)) (ak QQ (av I0) (av MB))) (ak QA (ak Sg (av IP) (av Ju)) (ak QW (av Jg) (av o1)))) (ak ub (ak Od (ak o0 (av Q8) (av o1)) (ak Sq (av o0) (av o0))) (ak Og (ak o0 (av o1) (av o0)) (ak Q0 (av o0) (av JL)))))) (ak Qk (ak Gq (ak o0 (ak Qu (ak ub (av Q2) (av o1)) (ak QO (av o0) (av JA))) (ak o0 (ak QL (av IL) (av o0)) (ak o0 (av Mt) (av JH)))) (ak Qp (ak Oa (ak o1 (av Q6) (av Jq)) (ak QS (av o1) (av JD))) (ak QC (ak Sk (av IW) (av o1)) (ak Ss (av Ji) (av o0))))) (ak o3 (ak o0 (ak o0 (ak Sa (av Q4) (av o0)) (ak Sn (av Mr) (av JC))) (ak o0 (ak o7 (av IS) (av Mz)) (ak o0 (av o1) (av o0)))) (ak Qr (ak Qx (ak QH (av Sx) (av o0)) (ak QU (av Jd) (av JF))) (ak Oi (ak QM (av o0) (av Jy)) (ak o1 (av Mv) (av MF))))))))
noncomputable def T4:TF:=(ak Qf (ak Qg (ak MG (ak Ql (ak o6 (ak o0 (ak Oj (ak Q1 (av JM) (av o1)) (ak Jl (av o0) bC)) (ak o0 (ak Mq (av MU) bC) (ak Jz (av Rq) bC))) (ak ub (ak QI (ak Sy (av MN) (av NM)) (ak My (av Nh) bC)) (ak o0 (ak Je (av o1) bC) (ak o0 (av Ny) bC)))) (ak N6 (ak Qv (ak Sb (ak o0 (av MK) (av NJ)) (ak o1 (av Nd) bC)) (ak So (ak Ja (av o0) bC) (ak o0 (av Nt) bC))) (ak o1 (ak Si (ak IT (av o0) bC) (ak Jv (av o0) bC)) (ak o1 (ak Jh (av M5) bC) (ak ME (av o0) bC))))) (ak o0 (ak o1 (ak o0 (ak o7 (ak Q3 (av MI) (av NH)) (ak Mw (av o0) bC)) (ak QP (ak o1 (av o0) bC) (ak o0 (av o1) bC))) (ak Qz (ak Sf (ak IM (av MP) bC) (ak o1 (av Nj) bC)) (ak Sr (ak Jf (av M3) bC) (ak o0 (av o0) bC)))) (ak Qq (ak Oc (ak QG (ak Q7 (av ML) (av NL)) (ak o0 (av Nf) bC)) (ak o0 (ak Jc (av Ri) bC) (ak JE (av Nv) bC))) (ak Of (ak Sl (ak o0 (av o0) bC) (ak Jx (av o0) bC)) (ak QZ (ak Jk (av M7) bC) (ak o1 (av Rv) bC)))))) (ak Qj (ak Qn (ak o8 (ak Qt (ak QE (ak Su (av o0) (av o0)) (ak o0 (av M9) bC)) (ak QN (ak IZ (av o1) bC) (ak o1 (av Nq) bC))) (ak Qy (ak QK (ak IK (av Rc) bC) (ak Jt (av Ro) bC)) (ak QV (ak o1 (av o0) bC) (ak JG (av o1) bC)))) (ak Gy (ak N9 (ak o0 (ak Q5 (av o1) (av Ry)) (ak Jp (av o1) bC)) (ak o1 (ak o0 (av MY) bC) (ak MC (av o0) bC))) (ak o0 (ak Sj (ak IV (av MR) bC) (ak o0 (av Nl) bC)) (ak o0 (ak Mu (av Rk) bC) (ak JK (av NC) bC))))) (ak o2 (ak Qo (ak N7 (ak o0 (ak o1 (av Ra) (av o0)) (ak Jo (av Rm) bC)) (ak QR (ak o0 (av MW) bC) (ak JB (av o0) bC))) (ak QB (ak ub (ak IQ (av o1) bC) (ak o0 (av o1) bC)) (ak QX (ak o0 (av o0) bC) (ak JI (av NA) bC)))) (ak o7 (ak Qw (ak Se (ak Sw (av o0) (av o1)) (ak Jr (av o0) bC)) (ak QT (ak Ms (av M0) bC) (ak o1 (av Rt) bC))) (ak Oh (ak o1 (ak IX (av Rg) bC) (ak MA (av Nn) bC)) (ak o0 (ak o1 (av o1) bC) (ak o0 (av NF) bC))))))) (ak Qh (ak Qi (ak Qm (ak o7 (ak Qs (ak QD (ak o0 (av JN) (av NG)) (ak Jm (av Rl) bC)) (ak Sm (ak IY (av o0) bC) (ak o0 (av Np) bC))) (ak o7 (ak QJ (ak Sz (av o0) (av NN)) (ak Js (av o0) bC)) (ak o1 (ak o0 (av M1) bC) (ak MD (av o0) bC)))) (ak QF (ak N8 (ak Sd (ak Sv (av o0) (av o0)) (ak Mx (av o0) bC)) (ak o0 (ak Jb (av o1) bC) (ak o1 (av Nu) bC))) (ak Oe (ak o0 (ak IU (av Rf) bC) (ak Jw (av Rp) bC)) (ak QY (ak o0 (av o0) bC) (ak JJ (av o1) bC))))) (ak Q9 (ak o9 (ak o1 (ak R9 (ak o0 (av o0) (av NI)) (ak Jn (av o1) bC)) (ak QQ (ak I0 (av Rh) bC) (ak MB (av Nr) bC))) (ak QA (ak Sg (ak IP (av o0) bC) (ak Ju (av o0) bC)) (ak QW (ak Jg (av M4) bC) (ak o1 (av Ru) bC)))) (ak ub (ak Od (ak o0 (ak Q8 (av MM) (av o0)) (ak o1 (av Ng) bC)) (ak Sq (ak o0 (av MZ) bC) (ak o0 (av o0) bC))) (ak Og (ak o0 (ak o1 (av o1) bC) (ak o0 (av o1) bC)) (ak Q0 (ak o0 (av o0) bC) (ak JL (av ND) bC)))))) (ak Qk (ak Gq (ak o0 (ak Qu (ak ub (ak Q2 (av o1) (av Rx)) (ak o1 (av Na) bC)) (ak QO (ak o0 (av MV) bC) (ak JA (av o0) bC))) (ak o0 (ak QL (ak IL (av MO) bC) (ak o0 (av Ni) bC)) (ak o0 (ak Mt (av Rj) bC) (ak JH (av Nz) bC)))) (ak Qp (ak Oa (ak o1 (ak Q6 (av Rb) (av NK)) (ak Jq (av Rn) bC)) (ak QS (ak o1 (av o0) bC) (ak JD (av o1) bC))) (ak QC (ak Sk (ak IW (av MS) bC) (ak o1 (av Nm) bC)) (ak Ss (ak Ji (av M6) bC) (ak o0 (av o0) bC))))) (ak o3 (ak o0 (ak o0 (ak Sa (ak Q4 (av MJ) (av o1)) (ak o0 (av Nb) bC)) (ak Sn (ak Mr (av MX) bC) (ak JC (av Rr) bC))) (ak o0 (ak o7 (ak IS (av MQ) bC) (ak Mz (av Nk) bC)) (ak o0 (ak o1 (av o1) bC) (ak o0 (av NB) bC)))) (ak Qr (ak Qx (ak QH (ak Sx (av o1) (av Rz)) (ak o0 (av o1) bC)) (ak QU (ak Jd (av o0) bC) (ak JF (av Nw) bC))) (ak Oi (ak QM (ak o0 (av MT) bC) (ak Jy (av o0) bC)) (ak o1 (ak Mv (av M8) bC) (ak MF (av o0) bC))))))))
noncomputable def HF(p:Program)(P:Params):Heap:=⟨Array.mk [boot_o_0 P,boot_o_1 P,boot_o_2 P,MG p P,boot_o_4 P,boot_o_5 P,boot_o_6 P,boot_o_7 P,boot_o_8 P,boot_o_9 P,boot_o_10 P,o0 p P,Q9 p P,o2 p P,o3 p P,o6 p P,o7 p P,o8 p P,o0 p P,o1 p P,o9 p P,Qo p P,o0 p P,N6 p P,QF p P,Gy p P,Qp p P,Qq p P,ub p P,o7 p P,Qr p P,o0 p P,Qs p P,Qt p P,Qu p P,o0 p P,o1 p P,N7 p P,o0 p P,Qv p P,N8 p P,N9 p P,Oa p P,Oc p P,Od p P,Qw p P,Qx p P,ub p P,o7 p P,Qy p P,o0 p P,Qz p P,QA p P,QB p P,o0 p P,o1 p P,Oe p P,o0 p P,QC p P,Of p P,Og p P,Oh p P,Oi p P,Oj p P,QD p P,QE p P,ub p P,o7 p P,R9 p P,o0 p P,Sa p P,Sb p P,Sd p P,o0 p P,o1 p P,QG p P,o0 p P,Se p P,QH p P,QI p P,QJ p P,QK p P,QL p P,Sf p P,Sg p P,ub p P,o7 p P,Si p P,o0 p P,Sj p P,Sk p P,Sl p P,o0 p P,o1 p P,QM p P,o0 p P,Sm p P,QN p P,QO p P,QP p P,QQ p P,QR p P,Sn p P,So p P,o0 p P,o1 p P,QS p P,o0 p P,Sq p P,QT p P,QU p P,o0 p P,o1 p P,QV p P,o0 p P,Sr p P,QW p P,QX p P,o0 p P,o1 p P,QY p P,o0 p P,Ss p P,QZ p P,Q0 p P,o0 p P,o1 p P,Q1 p P,o0 p P,Su p P,Q2 p P,Q3 p P,o0 p P,o1 p P,Q4 p P,o0 p P,Sv p P,Q5 p P,Q6 p P,Q7 p P,Q8 p P,Sw p P,Sx p P,Sy p P,Sz p P,IK p P,IL p P,IM p P,IP p P,IQ p P,IS p P,IT p P,IU p P,IV p P,IW p P,o0 p P,o1 p P,IX p P,o0 p P,Mq p P,IY p P,IZ p P,o0 p P,o1 p P,I0 p P,o0 p P,Mr p P,Ja p P,Jb p P,o0 p P,o1 p P,Jc p P,o0 p P,Ms p P,Jd p P,Je p P,o0 p P,o1 p P,Mt p P,Jf p P,Jg p P,o0 p P,o1 p P,Jh p P,o0 p P,Mu p P,Ji p P,Jk p P,o0 p P,o1 p P,Mv p P,Jl p P,Jm p P,o0 p P,o1 p P,Mw p P,Jn p P,Jo p P,o0 p P,o1 p P,Mx p P,Jp p P,Jq p P,o0 p P,o1 p P,Jr p P,o0 p P,My p P,Js p P,Jt p P,o0 p P,o1 p P,Ju p P,o0 p P,Mz p P,Jv p P,Jw p P,o0 p P,o1 p P,Jx p P,o0 p P,MA p P,Jy p P,Jz p P,o0 p P,o1 p P,JA p P,o0 p P,MB p P,JB p P,JC p P,o0 p P,o1 p P,MC p P,JD p P,JE p P,o0 p P,o1 p P,JF p P,o0 p P,MD p P,JG p P,JH p P,o0 p P,o1 p P,JI p P,o0 p P,ME p P,JJ p P,JK p P,o0 p P,o1 p P,JL p P,o0 p P,MF p P,JM p P,JN p P,o0 p P,o1 p P,MI p P,o0 p P,Ra p P,MJ p P,MK p P,o0 p P,o1 p P,Rb p P,ML p P,MM p P,o0 p P,o1 p P,MN p P,o0 p P,Rc p P,MO p P,MP p P,o0 p P,o1 p P,MQ p P,o0 p P,Rf p P,MR p P,MS p P,o0 p P,o1 p P,Rg p P,MT p P,MU p P,o0 p P,o1 p P,MV p P,o0 p P,Rh p P,MW p P,MX p P,o0 p P,o1 p P,MY p P,o0 p P,Ri p P,MZ p P,M0 p P,o0 p P,o1 p P,M1 p P,o0 p P,Rj p P,M3 p P,M4 p P,o0 p P,o1 p P,M5 p P,o0 p P,Rk p P,M6 p P,M7 p P,o0 p P,o1 p P,M8 p P,o0 p P,Rl p P,M9 p P,Na p P,o0 p P,o1 p P,Rm p P,Nb p P,Nd p P,o0 p P,o1 p P,Rn p P,Nf p P,Ng p P,o0 p P,o1 p P,Nh p P,o0 p P,Ro p P,Ni p P,Nj p P,o0 p P,o1 p P,Nk p P,o0 p P,Rp p P,Nl p P,Nm p P,o0 p P,o1 p P,Nn p P,o0 p P,Rq p P,Np p P,Nq p P,o0 p P,o1 p P,Nr p P,o0 p P,Rr p P,Nt p P,Nu p P,o0 p P,o1 p P,Nv p P,o0 p P,Rt p P,Nw p P,Ny p P,o0 p P,o1 p P,Nz p P,o0 p P,Ru p P,NA p P,NB p P,o0 p P,o1 p P,NC p P,o0 p P,Rv p P,ND p P,NF p P,o0 p P,o1 p P,NG p P,o0 p P,Rx p P,NH p P,NI p P,o0 p P,o1 p P,NJ p P,o0 p P,Ry p P,NK p P,NL p P,o0 p P,o1 p P,Rz p P,NM p P,NN p P],{}⟩
noncomputable def K(P:Params):PySem.W.Frag:=(nat_lit 2,boot_o_2 P)::(nat_lit 3,MG pw P)::(nat_lit 15,o6 pw P)::(nat_lit 22,o0 pw P)::(nat_lit 23,N6 pw P)::(nat_lit 24,QF pw P)::(nat_lit 25,Gy pw P)::(nat_lit 28,ub pw P)::(nat_lit 35,o0 pw P)::(nat_lit 37,N7 pw P)::(nat_lit 38,o0 pw P)::(nat_lit 40,N8 pw P)::(nat_lit 41,N9 pw P)::(nat_lit 42,Oa pw P)::(nat_lit 43,Oc pw P)::(nat_lit 44,Od pw P)::(nat_lit 47,ub pw P)::(nat_lit 54,o0 pw P)::(nat_lit 56,Oe pw P)::(nat_lit 57,o0 pw P)::(nat_lit 59,Of pw P)::(nat_lit 60,Og pw P)::(nat_lit 61,Oh pw P)::(nat_lit 62,Oi pw P)::(nat_lit 63,Oj pw P)::(nat_lit 66,ub pw P)::(nat_lit 73,o0 pw P)::(nat_lit 75,QG pw P)::(nat_lit 76,o0 pw P)::(nat_lit 78,QH pw P)::(nat_lit 79,QI pw P)::(nat_lit 80,QJ pw P)::(nat_lit 81,QK pw P)::(nat_lit 82,QL pw P)::(nat_lit 85,ub pw P)::(nat_lit 92,o0 pw P)::(nat_lit 94,QM pw P)::(nat_lit 95,o0 pw P)::(nat_lit 97,QN pw P)::(nat_lit 98,QO pw P)::(nat_lit 99,QP pw P)::(nat_lit 100,QQ pw P)::(nat_lit 101,QR pw P)::(nat_lit 104,o0 pw P)::(nat_lit 106,QS pw P)::(nat_lit 107,o0 pw P)::(nat_lit 109,QT pw P)::(nat_lit 110,QU pw P)::(nat_lit 111,o0 pw P)::(nat_lit 113,QV pw P)::(nat_lit 114,o0 pw P)::(nat_lit 116,QW pw P)::(nat_lit 117,QX pw P)::(nat_lit 118,o0 pw P)::(nat_lit 120,QY pw P)::(nat_lit 121,o0 pw P)::(nat_lit 123,QZ pw P)::(nat_lit 124,Q0 pw P)::(nat_lit 125,o0 pw P)::(nat_lit 127,Q1 pw P)::(nat_lit 128,o0 pw P)::(nat_lit 130,Q2 pw P)::(nat_lit 131,Q3 pw P)::(nat_lit 132,o0 pw P)::(nat_lit 134,Q4 pw P)::(nat_lit 135,o0 pw P)::(nat_lit 137,Q5 pw P)::(nat_lit 138,Q6 pw P)::(nat_lit 139,Q7 pw P)::(nat_lit 140,Q8 pw P)::(nat_lit 141,Sw pw P)::(nat_lit 142,Sx pw P)::(nat_lit 143,Sy pw P)::(nat_lit 144,Sz pw P)::(nat_lit 145,IK pw P)::(nat_lit 146,IL pw P)::(nat_lit 147,IM pw P)::(nat_lit 148,IP pw P)::(nat_lit 149,IQ pw P)::(nat_lit 150,IS pw P)::(nat_lit 151,IT pw P)::(nat_lit 152,IU pw P)::(nat_lit 153,IV pw P)::(nat_lit 154,IW pw P)::(nat_lit 155,o0 pw P)::(nat_lit 157,IX pw P)::(nat_lit 158,o0 pw P)::(nat_lit 160,IY pw P)::(nat_lit 161,IZ pw P)::(nat_lit 162,o0 pw P)::(nat_lit 164,I0 pw P)::(nat_lit 165,o0 pw P)::(nat_lit 167,Ja pw P)::(nat_lit 168,Jb pw P)::(nat_lit 169,o0 pw P)::(nat_lit 171,Jc pw P)::(nat_lit 172,o0 pw P)::(nat_lit 174,Jd pw P)::(nat_lit 175,Je pw P)::(nat_lit 176,o0 pw P)::(nat_lit 179,Jf pw P)::(nat_lit 180,Jg pw P)::(nat_lit 181,o0 pw P)::(nat_lit 183,Jh pw P)::(nat_lit 184,o0 pw P)::(nat_lit 186,Ji pw P)::(nat_lit 187,Jk pw P)::(nat_lit 188,o0 pw P)::(nat_lit 191,Jl pw P)::(nat_lit 192,Jm pw P)::(nat_lit 193,o0 pw P)::(nat_lit 196,Jn pw P)::(nat_lit 197,Jo pw P)::(nat_lit 198,o0 pw P)::(nat_lit 201,Jp pw P)::(nat_lit 202,Jq pw P)::(nat_lit 203,o0 pw P)::(nat_lit 205,Jr pw P)::(nat_lit 206,o0 pw P)::(nat_lit 208,Js pw P)::(nat_lit 209,Jt pw P)::(nat_lit 210,o0 pw P)::(nat_lit 212,Ju pw P)::(nat_lit 213,o0 pw P)::(nat_lit 215,Jv pw P)::(nat_lit 216,Jw pw P)::(nat_lit 217,o0 pw P)::(nat_lit 219,Jx pw P)::(nat_lit 220,o0 pw P)::(nat_lit 222,Jy pw P)::(nat_lit 223,Jz pw P)::(nat_lit 224,o0 pw P)::(nat_lit 226,JA pw P)::(nat_lit 227,o0 pw P)::(nat_lit 229,JB pw P)::(nat_lit 230,JC pw P)::(nat_lit 231,o0 pw P)::(nat_lit 234,JD pw P)::(nat_lit 235,JE pw P)::(nat_lit 236,o0 pw P)::(nat_lit 238,JF pw P)::(nat_lit 239,o0 pw P)::(nat_lit 241,JG pw P)::(nat_lit 242,JH pw P)::(nat_lit 243,o0 pw P)::(nat_lit 245,JI pw P)::(nat_lit 246,o0 pw P)::(nat_lit 248,JJ pw P)::(nat_lit 249,JK pw P)::(nat_lit 250,o0 pw P)::(nat_lit 252,JL pw P)::(nat_lit 253,o0 pw P)::(nat_lit 255,JM pw P)::(nat_lit 256,JN pw P)::(nat_lit 257,o0 pw P)::(nat_lit 259,MI pw P)::(nat_lit 260,o0 pw P)::(nat_lit 262,MJ pw P)::(nat_lit 263,MK pw P)::(nat_lit 264,o0 pw P)::(nat_lit 267,ML pw P)::(nat_lit 268,MM pw P)::(nat_lit 269,o0 pw P)::(nat_lit 271,MN pw P)::(nat_lit 272,o0 pw P)::(nat_lit 274,MO pw P)::(nat_lit 275,MP pw P)::(nat_lit 276,o0 pw P)::(nat_lit 278,MQ pw P)::(nat_lit 279,o0 pw P)::(nat_lit 281,MR pw P)::(nat_lit 282,MS pw P)::(nat_lit 283,o0 pw P)::(nat_lit 286,MT pw P)::(nat_lit 287,MU pw P)::(nat_lit 288,o0 pw P)::(nat_lit 290,MV pw P)::(nat_lit 291,o0 pw P)::(nat_lit 293,MW pw P)::(nat_lit 294,MX pw P)::(nat_lit 295,o0 pw P)::(nat_lit 297,MY pw P)::(nat_lit 298,o0 pw P)::(nat_lit 300,MZ pw P)::(nat_lit 301,M0 pw P)::(nat_lit 302,o0 pw P)::(nat_lit 304,M1 pw P)::(nat_lit 305,o0 pw P)::(nat_lit 307,M3 pw P)::(nat_lit 308,M4 pw P)::(nat_lit 309,o0 pw P)::(nat_lit 311,M5 pw P)::(nat_lit 312,o0 pw P)::(nat_lit 314,M6 pw P)::(nat_lit 315,M7 pw P)::(nat_lit 316,o0 pw P)::(nat_lit 318,M8 pw P)::(nat_lit 319,o0 pw P)::(nat_lit 321,M9 pw P)::(nat_lit 322,Na pw P)::(nat_lit 323,o0 pw P)::(nat_lit 326,Nb pw P)::(nat_lit 327,Nd pw P)::(nat_lit 328,o0 pw P)::(nat_lit 331,Nf pw P)::(nat_lit 332,Ng pw P)::(nat_lit 333,o0 pw P)::(nat_lit 335,Nh pw P)::(nat_lit 336,o0 pw P)::(nat_lit 338,Ni pw P)::(nat_lit 339,Nj pw P)::(nat_lit 340,o0 pw P)::(nat_lit 342,Nk pw P)::(nat_lit 343,o0 pw P)::(nat_lit 345,Nl pw P)::(nat_lit 346,Nm pw P)::(nat_lit 347,o0 pw P)::(nat_lit 349,Nn pw P)::(nat_lit 350,o0 pw P)::(nat_lit 352,Np pw P)::(nat_lit 353,Nq pw P)::(nat_lit 354,o0 pw P)::(nat_lit 356,Nr pw P)::(nat_lit 357,o0 pw P)::(nat_lit 359,Nt pw P)::(nat_lit 360,Nu pw P)::(nat_lit 361,o0 pw P)::(nat_lit 363,Nv pw P)::(nat_lit 364,o0 pw P)::(nat_lit 366,Nw pw P)::(nat_lit 367,Ny pw P)::(nat_lit 368,o0 pw P)::(nat_lit 370,Nz pw P)::(nat_lit 371,o0 pw P)::(nat_lit 373,NA pw P)::(nat_lit 374,NB pw P)::(nat_lit 375,o0 pw P)::(nat_lit 377,NC pw P)::(nat_lit 378,o0 pw P)::(nat_lit 380,ND pw P)::(nat_lit 381,NF pw P)::(nat_lit 382,o0 pw P)::(nat_lit 384,NG pw P)::(nat_lit 385,o0 pw P)::(nat_lit 387,NH pw P)::(nat_lit 388,NI pw P)::(nat_lit 389,o0 pw P)::(nat_lit 391,NJ pw P)::(nat_lit 392,o0 pw P)::(nat_lit 394,NK pw P)::(nat_lit 395,NL pw P)::(nat_lit 396,o0 pw P)::(nat_lit 399,NM pw P)::(nat_lit 400,NN pw P)::[]
abbrev Kv:List Addr:=[2,3,15,22,23,24,25,28,35,37,38,40,41,42,43,44,47,54,56,57,59,60,61,62,63,66,73,75,76,78,79,80,81,82,85,92,94,95,97,98,99,100,101,104,106,107,109,110,111,113,114,116,117,118,120,121,123,124,125,127,128,130,131,132,134,135,137,138,139,140,141,142,143,144,145,146,147,148,149,150,151,152,153,154,155,157,158,160,161,162,164,165,167,168,169,171,172,174,175,176,179,180,181,183,184,186,187,188,191,192,193,196,197,198,201,202,203,205,206,208,209,210,212,213,215,216,217,219,220,222,223,224,226,227,229,230,231,234,235,236,238,239,241,242,243,245,246,248,249,250,252,253,255,256,257,259,260,262,263,264,267,268,269,271,272,274,275,276,278,279,281,282,283,286,287,288,290,291,293,294,295,297,298,300,301,302,304,305,307,308,309,311,312,314,315,316,318,319,321,322,323,326,327,328,331,332,333,335,336,338,339,340,342,343,345,346,347,349,350,352,353,354,356,357,359,360,361,363,364,366,367,368,370,371,373,374,375,377,378,380,381,382,384,385,387,388,389,391,392,394,395,396,399,400]
theorem qm:∀P,Kv=(K P).map (·.1):=λ_=>by kernel_rfl
abbrev hK:Hook:=kHook K Kv qm
theorem UX(w:World):(λos=>topGo treeTable pw w 11 (some (.ref 6)) 12 ⟨boot_heap w.params,Array.mk [],boot_drawn,boot_toks,os⟩ (topStub pw))=λos=>some (SH (H0 pw w.params) 187 os,(⟨denote treeTable (gn pw),gn pw,⟨0,0,0,0⟩,BF⟩:Thread)):=by
 walk_at "qk"
theorem NO(w:World):(λos=>segRun treeTable pw w 11 (some (.ref 6)) 1 1 (SH (H0 pw w.params) 187 os) (blockOf (behindTheImports pw) (zo pw) (gn pw) ⟨0,0,0,0⟩ BF))=λos=>some (.next,(ST (T0 pw w.params) 15 187 os).abs,gn pw,⟨0,0,0,0⟩):=by
 walk_at "qk"
theorem UY(w:World):(λos=>segRunT treeTable pw w 11 (some (.ref 6)) 1 688 (ST (T0 pw w.params) 15 187 os) (piecesOf (ql pw 0 4) (zo pw) (gn pw) ⟨0,0,0,0⟩ BF))=λos=>some (.next,ST (T1 pw w.params) 66 259 os,gn pw,⟨8,0,12,24⟩):=by
 walk_at "qk"
theorem UZ(w:World):(λos=>segRunT treeTable pw w 11 (some (.ref 6)) 1 742 (ST (T1 pw w.params) 66 259 os) (piecesOf (ql pw 4 14) (zo pw) (gn pw) ⟨8,0,12,24⟩ BF))=λos=>some (.next,ST (T2 pw w.params) 141 397 os,gn pw,⟨51,0,51,6⟩):=by
 walk_at "qk"
theorem U0(w:World):(λos=>segRunT treeTable pw w 11 (some (.ref 6)) 1 848 (ST (T2 pw w.params) 141 397 os) (piecesOf (ql pw 18 26) (zo pw) (gn pw) ⟨51,0,51,6⟩ BF))=λos=>some (.next,ST (T3 pw w.params) 257 600 os,gn pw,⟨148,0,155,97⟩):=by
 refine byRow2 "special-get-raises" (P:=λw=>(λos=>segRunT treeTable pw w 11 (some (.ref 6)) 1 848 (ST (T2 pw w.params) 141 397 os) (piecesOf (ql pw 18 26) (zo pw) (gn pw) ⟨51,0,51,6⟩ BF))=λos=>some (.next,ST (T3 pw w.params) 257 600 os,gn pw,⟨148,0,155,97⟩)) (λw=>?_) (λw=>?_) w<;>(show _=_;walk_at "qk")
theorem U1(w:World):(λos=>segRunT treeTable pw w 11 (some (.ref 6)) 1 718 (ST (T3 pw w.params) 257 600 os) (piecesOf (ql pw 44 22) (zo pw) (gn pw) ⟨148,0,155,97⟩ BF))=λos=>some (.next,ST (T4 pw w.params) 401 843 os,gn pw,⟨383,0,396,54⟩):=by
 walk_at "qk"
theorem U2(w:World):(λos=>topRun treeTable pw w 11 (some (.ref 6)) 2 (ST (T4 pw w.params) 401 843 os).abs ⟨doneF .next,gn pw,⟨383,0,396,54⟩,BF⟩)=λos=>some (SH (HF pw w.params) 843 os):=by
 walk_at "qk"
theorem RA:behindTheImports pw=ql pw 0 4++(ql pw 4 14++(ql pw 18 26++(ql pw 44 22++([])))):=by
 kernel_rfl
theorem U3(w:World)(os:OsState):topRun treeTable pw w 11 (some (.ref 6)) (12 + (1 + (688 + (742 + (848 + (718 + 2)))))) ⟨boot_heap w.params,Array.mk [],boot_drawn,boot_toks,os⟩ (topStub pw)=some (SH (HF pw w.params) 843 os):=by
 have k:topRun treeTable pw w 11 (some (.ref 6)) (688 + (742 + (848 + (718 + 2)))) (ST (T0 pw w.params) 15 187 os).abs (restOf (ql pw 0 4++(ql pw 4 14++(ql pw 18 26++(ql pw 44 22++([]))))) (zo pw) (gn pw) ⟨0,0,0,0⟩ BF)=some (SH (HF pw w.params) 843 os):=piece_app (segRun_of (congrFun (UY w) os)) (piece_app (segRun_of (congrFun (UZ w) os)) (piece_app (segRun_of (congrFun (U0 w) os)) (piece_app (segRun_of (congrFun (U1 w) os)) (congrFun (U2 w) os))))
 rw[← RA]at k
 exact go_top (congrFun (UX w) os) (piece_block (congrFun (NO w) os) k)
theorem l0(w:World):(λos=>staticsOk (importedModules pw.main.body) (boot_heap w.params) (HF pw w.params)&&namesBound pw (HF pw w.params)&&gensDone (SH (HF pw w.params) 843 os)&&laidKept (boot_heap w.params) (HF pw w.params))=λ_=>true:=by
 walk_at "qk"
theorem l1(w:World):(λos=>PyProof.Rows.seen ((PyProof.Rows.recsOf (cj pw)).map (·.name)) (PyProof.Rows.ownsOf (cj pw)) [] {(SH (HF pw w.params) 843 os)with gens:=#[]})=λ_=>PyProof.Rows.expectedOf (cj pw):=by
 walk_at "qk"
theorem l2(w:World):(λos=>(SH (HF pw w.params) 843 os).heap.bltView)=λ_=>bltViewBooted:=by
 walk_at "qk"
theorem l3(w:World):(λos=>(SH (HF pw w.params) 843 os).heap.keysOk (looseW (cj pw) ["WANTS","MOST"]) ((PyProof.Rows.recsOf (cj pw)).map (·.name)) ((PyProof.Rows.litsOf (cj pw)).map (·.1)) ((PyProof.Rows.clssOf (cj pw) (looseW (cj pw) ["WANTS","MOST"])).map (·.name))&&(SH (HF pw w.params) 843 os).heap.accountedOkI (importedModules pw.main.body)&&(SH (HF pw w.params) 843 os).heap.isNs mainGlobals&&(SH (HF pw w.params) 843 os).heap.isNs builtinsNs&&PyProof.Rows.tablesOk (cj pw) (SH (HF pw w.params) 843 os).heap&&(λs=>xlAt (cj pw) [] s&&recOk (RowW.records (OpenRow.toRowW PySem.Challenge.rw_stackwarden_k29_wrong_books.row)) s) (SH (HF pw w.params) 843 os)&&(if true then(SH (HF pw w.params) 843 os).gens.size == 0 else !leftWithCleanup (SH (HF pw w.params) 843 os).gens))=λ_=>true:=by
 walk_at "qk"
theorem l4(w:World):(λos=>PyProof.Rows.tabsOk (cj pw) (SH (HF pw w.params) 843 os))=λ_=>true:=by
 walk_at "qk"
theorem l5(w:World):(λos=>pinSeenD (cj pw) (PyProof.Rows.drecsOf (cj pw)) (SH (HF pw w.params) 843 os))=λ_=>pinGoodD (PyProof.Rows.drecsOf (cj pw)):=by
 walk_at "qk"
theorem l6(w:World):(λos=>PyProof.Rows.plainSeenE (cj pw) (looseW (cj pw) ["WANTS","MOST"]) (SH (HF pw w.params) 843 os))=λ_=>PyProof.Rows.plainGoodE (cj pw) (looseW (cj pw) ["WANTS","MOST"]):=by
 walk_at "qk"
theorem l7(w:World):(λos=>PyProof.Rows.plainSeenD (cj pw) ["WANTS","MOST"] (SH (HF pw w.params) 843 os))=λ_=>PyProof.Rows.plainGoodD (cj pw) ["WANTS","MOST"]:=by
 walk_at "qk"
theorem l8(w:World):(λos=>wideSeen (cj pw) (SH (HF pw w.params) 843 os))=λ_=>wideGood (cj pw):=by
 walk_at "qk"
theorem l9(w:World):(λos=>clsSeenW (cj pw) ["WANTS","MOST"] (SH (HF pw w.params) 843 os))=λ_=>clsGoodW (cj pw) ["WANTS","MOST"]:=by
 walk_at "qk"
theorem lY(w:World):(λos=>hK.obs (SH (HF pw w.params) 843 os))=λ_=>hK.val w:=by
 show(λos=>Kv.map (SH (HF pw w.params) 843 os).heap.get?)=λ_=>(K w.params).map λp=>some p.2
 unfold K
 walk_at "qk"
theorem hl:LeftO pw (cj pw) ["WANTS","MOST"] (λs=>xlAt (cj pw) [] s&&recOk (RowW.records (OpenRow.toRowW PySem.Challenge.rw_stackwarden_k29_wrong_books.row)) s) hK.obs hK.val 6110:=by
 refine LeftO.of_pieces (m₀:=11) (ann:=(some (.ref 6))) (M:=(12 + (1 + (688 + (742 + (848 + (718 + 2))))))) (boot_open (by kernel_rfl) (by decide) (λs=>by kernel_rfl)) (λw=>?_) U3 (by decide) (λw=>?_)
 ·walk_at "qk"
 ·funext os
  exact looks_pair (congrFun (l0 w) os) (looks_pair (looks_pair (congrFun (l1 w) os) (looks_pair (congrFun (l2 w) os) (looks_pair (congrFun (l3 w) os) (looks_pair (congrFun (l4 w) os) (looks_pair (congrFun (l5 w) os) (looks_pair (congrFun (l6 w) os) (looks_pair (congrFun (l7 w) os) (looks_pair (congrFun (l8 w) os) (congrFun (l9 w) os))))))))) (congrFun (lY w) os))
end MH
end
open PySem PySem.W PyProof.Rows
local macro_rules | `(tactic| walk_at "dk") => `(tactic| (refine' ⟨_, _, ?w, L2.vS ?x ?y ?z⟩; (case w => k_is); (case x => k_is); (case y => k_is); (case z => k_is)))
local macro_rules | `(tactic| walk_at "mk") => `(tactic| (refine' ⟨⟨_, L2.vS ?x ?y ?z⟩, ?w⟩; (case x => k_is); (case y => k_is); (case z => k_is); (case w => k_is)))
set_option maxRecDepth 100000 in
set_option maxHeartbeats 0 in
theorem PySem.Challenge.cw_stackwarden_k29_wrong_books_holds : PySem.Challenge.rw_stackwarden_k29_wrong_books.Holds := by
  w_on; refine PySem.W.holds_law SD.Oo fun Oo => ?_
  refine PySem.W.holds_open (q := (MH.cj PySem.Challenge.pw_stackwarden_k29_wrong_books)) (loose := ["WANTS", "MOST"]) (Xt := (fun s => xlAt (MH.cj PySem.Challenge.pw_stackwarden_k29_wrong_books) [] s && recOk (RowW.records (OpenRow.toRowW PySem.Challenge.rw_stackwarden_k29_wrong_books.row)) s)) (XP := XL (MH.cj PySem.Challenge.pw_stackwarden_k29_wrong_books) []) (Yf := Hook.obs (kHook MH.K MH.Kv MH.qm)) (Ya := Hook.val (kHook MH.K MH.Kv MH.qm)) (YP := Hook.says (kHook MH.K MH.Kv MH.qm)) (N := 6110) MH.hl (Hook.of (kHook MH.K MH.Kv MH.qm)) (Hook.keeps (kHook MH.K MH.Kv MH.qm)) (fun s e => xl_of s (Bool.and_eq_true_iff.mp e).1) XL.keeps (by rfl) (by rfl) (by rfl) (fun s e => recFacts_of (Bool.and_eq_true_iff.mp e).2) (by rfl) (by first | assumption | decide +kernel) (by decide +kernel) ⟨rfl, rfl, rfl, rfl, rfl, by decide +kernel⟩ ?hw ?hc
  case hw => w_witness2
  k_fill
  refine Mine.walk (l := PySem.Challenge.rw_stackwarden_k29_wrong_books) rfl rfl (fun w h Y => PySem.W.kIn_of Y) ?F
  case F =>
    intro w mg fa h KX G hmg
    refine' Mine.all_mk KX G hmg ?d0 ?d1 ?d2 ?d3 ?d4 ?d5 ?d6 ?d7 ?d8 ?d9 ?Uk ?Ul ?Um ?Uo ?Up ?Uq ?Ur ?Us ?Ut ?Uu ?Uv ?Uw ?Ux ?Uy ?Uz ?UA ?UB ?UC ?UD ?UE ?UG ?UH ?UI ?UJ ?UK ?UL ?UM ?UN ?UO ?UP ?UQ ?UR ?US ?UT ?UU ?UW ?g_HALF ?g_MOST_BOXES ?g_MOST_FIELDS ?g_MOST_HEIGHT ?g_MOST_MAKES ?g_MOST_PARTS ?g_MOST_ROWS ?g_MOST_STRETCHES ?cY ?fT ?lq ?oM ?lu ?oN ?oO ?rC ?dw ?fK ?dz ?nu ?nv ?ny ?nz ?nA ?nC ?nE ?nF ?lQ ?nG ?nI ?qe ?lh ?ig ?ij ?ik ?il ?ip ?bL ?m_BW ?fk ?ft ?Gh ?i_BV ?i_BP ?i_BR ?Gi ?lj ?lR ?tL ?AL ?tU ?tV ?lO ?oQ ?oG ?xt ?qh ?qi ?eR ?z_all ?z_bool ?z_enumerate ?z_int ?z_isinstance ?z_len ?z_list ?z_max ?z_min ?z_range ?z_reversed ?z_str ?z_tuple ?tM
    (case d0 | d1 | d2 | d3 | d4 | d5 | d6 | d7 | d8 | d9 | Uk | Ul | Um | Uo | Up | Uq | Ur | Us | Ut | Uu | Uv | Uw | Ux | Uy | Uz | UA | UB | UC | UD | UE | UG | UH | UI | UJ | UK | UL | UM | UN | UO | UP | UQ | UR => walk_at "dk")
    (case US | UT | UU | UW | g_HALF | g_MOST_BOXES | g_MOST_FIELDS | g_MOST_HEIGHT | g_MOST_MAKES | g_MOST_PARTS | g_MOST_ROWS | g_MOST_STRETCHES | cY => k_is)
    (case fT => kts_isx)
    (case lq => k_is)
    (case oM => kts_isx)
    (case lu => k_is)
    (case oN => kts_isx)
    (case oO => k_is)
    (case rC => kts_isx)
    (case dw => k_is)
    (case fK => k_exc)
    (case dz => kts_isx)
    (case nu | nv | ny | nz | nA | nC | nE | nF => k_is)
    (case lQ => kernel_rfl!)
    (case nG | nI => k_is)
    (case qe | lh => refine L2.LP ?_ ?_ ?_ ?_ ?_ ?_ <;> first | (show _ = some true; kit_is) | (show _ = some false; kit_is))
    (case ig | ij | ik | il | ip | bL | m_BW | fk | ft => k_is)
    (case Gh | i_BV | i_BP | i_BR | Gi => kit_is)
    (case lj => k_is)
    (case lR => kernel_rfl!)
    (case tL => k_is)
    (case AL => first | rfl | decide | k_is)
    (case tU | tV => kernel_rfl!)
    (case lO => k_is)
    (case oQ => kernel_rfl!)
    (case oG => k_is)
    (case xt => first | rfl | decide | k_is)
    (case qh | qi => kernel_rfl!)
    (case eR | z_all | z_bool | z_enumerate | z_int | z_isinstance | z_len | z_list | z_max | z_min | z_range | z_reversed | z_str | z_tuple | tM => k_is)
#print axioms PySem.Challenge.cw_stackwarden_k29_wrong_books_holds
