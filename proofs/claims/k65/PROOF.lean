import PyProof.Rows.All
import Wide.All
import OpenK.AllK
import Wide.FinOn
import Lean
import PyProof.EqAt
import PyProof.EqKinds
import PyProof.TupleCall
import PyProof.ZipIter
import KE.KTryDeep
import KE.KIsAll
import KE.KIntText
import PyProof.ExcArgsOwn
import PySem.Challenge.RW_stackwarden_k65_expressions_reckoned
def aab:=@PySem.Heap.get?_push_of_some
def aac:=@PySem.wpAny_bind
def aad:=@PySem.Heap.lt_size
def aae:=@List.mem_cons_self
def aaf:=@List.length_map
def aag:=@PySem.wpAny_pure
def aah:=@Nat.lt_of_lt_of_le
def aai:=@Nat.le_refl
def aaj:=@Bool.false_ne_true
def aak:=@Nat.ne_of_lt
def aal:=@List.mem_cons_of_mem
def aam:=@PySem.W.mg_of
def aan:=@if_neg
def aao:=@PySem.Heap.get?_push_size
def aap:=@if_pos
def aaq:=@Option.some.inj
def aar:=@Or.inl
def aas:=@List.getElem?_set_self
def aat:=@PySem.wpAny_mono
def aau:=@List.getElem?_set_ne
def aav:=@List.mem_append_right
def aaw:=@List.getElem?_append_left
def aax:=@List.getElem?_map
def aay:=@List.length_append
def aaz:=@List.mem_of_getElem?
def aaA:=@Nat.le_trans
def aaB:=@List.mem_cons
def aaC:=@List.size_toArray
def aaD:=@List.getElem?_append_right
def aaE:=@List.length_cons
def aaF:=@PySem.wpAny_loadPart_at
def aaG:=@Nat.lt_irrefl
def aaH:=@Nat.lt_of_le_of_lt
def aaI:=@PySem.W.mg_none_of
def aaJ:=@Nat.ne_of_gt
def aaK:=@List.mem_append
def aaL:=@List.append_nil
def aaM:=@List.length_set
def aaN:=@List.mem_singleton
def aaO:=@List.getElem?_of_mem
def aaP:=@PySem.wpAny_holding
def aaQ:=@Nat.zero_le
def aaR:=@PySem.F.plainAttrs_list
def aaS:=@PySem.wpAny_truthy_bool
def aaT:=@PyProof.Rows.callWith_type1
def aaU:=@List.map_append
def aaV:=@PySem.W.hideAll_get
def aaW:=@Nat.le_add_right
def aaX:=@PySem.wpAny_Call_Name_kw
def aaY:=@PySem.W.callWith_K
def aaZ:=@PySem.Heap.get?_update_self
def aa0:=@decide_eq_true
def aa1:=@List.drop_eq_getElem_cons
def aa2:=@decide_eq_false
def aa3:=@Nat.le_of_lt
def aa4:=@True.intro
def aa5:=@List.length_take
def aa6:=@List.mem_filterMap
def aa7:=@List.map_map
def aa8:=@PySem.W.kia_one
def aa9:=@List.take_append_drop
def aba:=@PySem.wpAny_standAt
def abb:=@congrArg
def abd:=@List.map_cons
def abe:=@PySem.wpAny_newObj_type
def abf:=@List.mem_append_left
def abg:=@Nat.le_succ
def abh:=@List.mem_flatten
def abi:=@PySem.F.slot_list_append
def abj:=@PySem.F.type_list_append
def abk:=@Nat.succ_ne_zero
def abl:=@PySem.mem_of_lookup
def abm:=@PyProof.Rows.slot_tuple_getitem
def abn:=@Nat.lt_add_of_pos_right
def abo:=@List.getElem?_cons_zero
def abp:=@PySem.wpAny_execs_nil
def abq:=@List.getElem?_drop
def abr:=@PySem.PassesOwn.never
def abt:=@PySem.Heap.get?_update_other
def abu:=@Ne.symm
def abv:=@PySem.Heap.size_push
def abw:=@PySem.codeAny_mono
def abx:=@List.pairwise_flatten
def aby:=@List.getElem_mem
def abz:=@List.drop_length
def abA:=@List.getD_eq_getElem?_getD
def abB:=@PySem.sizeLine_eq
def abC:=@Nat.add_lt_add_left
def abD:=@PySem.wpAny_passesOwn
def abE:=@PySem.Obj.data_mapFields
def abF:=@Nat.succ.inj
def abG:=@List.getElem?_cons_succ
def abH:=@of_decide_eq_true
def abI:=@Sum.inr.inj
def abJ:=@PySem.wpAny_nextOf_list_item
def abK:=@Int.le_refl
def abL:=@List.any_cons
def abM:=@PySem.wpAny_execs_cons
def abN:=@Bool.and_eq_true
def abO:=@Bool.not_eq_true
def abP:=@List.all_eq_true
def abQ:=@PySem.W.methodCall_KW
def abR:=@PySem.Obj.isFreed_of_fields
def abS:=@PySem.codeAny_handlers_test
def abT:=@PySem.plainObj_wpAny_Assign_Attribute
def abU:=@List.eraseIdx_eq_take_drop_succ
def abV:=@PySem.wpAny_call
def abW:=@Or.inr
def abX:=@Option.map_some
def abY:=@Nat.sub_self
def abZ:=@List.nodup_cons
def ab0:=@PySem.W.plainGet_of
def ab1:=@PySem.wpAny_isSubtype_exc
def ab2:=@PySem.wpAny_handleBy_cons
def ab3:=@List.mem_range
def ab4:=@PySem.W.funFrames_hide
def ab5:=@PySem.Calls.spliced_cons
def ab6:=@PySem.Heap.get?_some_iff
def ab7:=@List.contains_cons
def ab8:=@PySem.Calls.Name_function_global
def ab9:=@PySem.Calls.spliced_nil
def aca:=@PySem.wpAny_pyIter_list
def acb:=@List.take_add_one
def acd:=@List.append_assoc
def ace:=@List.length_range
def acf:=@List.mem_or_eq_of_mem_set
def acg:=@Option.isSome_iff_exists
def ach:=@List.getElem?_take_of_lt
def aci:=@PySem.F.args_tuple_add_2
def acj:=@List.length_drop
def ack:=@PySem.wpAny_call_entry
def acm:=@Nat.succ_le_succ
def acn:=@List.lookup_cons
def aco:=@PySem.wpAny_comprehension_free
def acp:=@PySem.W.looks_findIn
def acq:=@PySem.W.hideAll_none
def acr:=@List.mem_map
def acs:=@List.take_length
def acu:=@PySem.F.entry_tuple_add
def acv:=@PyProof.Rows.intBits_le
def acw:=@PySem.W.cellsFrom_some
def acx:=@PySem.F.slot_tuple_add
def acA:=@List.flatten_singleton
def acC:=@Int.fmod_nonneg_of_pos
def acE:=@List.length_singleton
def acH:=@List.cons.inj
def acI:=@beq_eq_false_iff_ne
def acL:=@Nat.le_of_eq
def acM:=@Bool.or_true
abbrev aJ:=PySem.W.Frag
theorem Vn:0<=PySem.sizeLine:=by decide
theorem OL:1<=PySem.sizeLine:=by decide
theorem FL:2<=PySem.sizeLine:=by decide
theorem OM:3<=PySem.sizeLine:=by decide
theorem pT{α:Type}{a b:α}(h:a∈[b]):a=b:=aaN.mp h
theorem eA{α:Type}{l:List α}{i:Nat}{a:α}(h:l[i]?=some a):∃h:i < l.length,l[i]=a:=List.getElem?_eq_some_iff.mp h
theorem gP{α:Type}{l:List α}{i:Nat}(h:i < l.length):l[i]?=some l[i]:=List.getElem?_eq_getElem h
set_option Elab.async false
set_option compiler.extract_closed false
set_option linter.all false
set_option maxRecDepth 100000
namespace L2
open PySem PySem.Spec PyProof.Rows
abbrev Key:=Sum Int Str
def sf:Key->Value->Bool
 | .inl k,v=>Value.isInt k v
 | .inr x,v=>Value.isStrOf x v
def RV(w:World):Key->Int
 | .inl k=>hashInt k
 | .inr x=>hashStr w x
theorem bW:∀{k:Key} {v:Value},sf k v=true->(∃i t,k=Sum.inl i/\v=Value.int i t)∨(∃x t,k=Sum.inr x/\v=Value.str x t)
 | .inl i,v,h=>by
  obtain⟨t,e⟩:=Value.isInt_shape (k:=i) (v:=v) h;exact .inl ⟨i,t,rfl,e⟩
 | .inr x,v,h=>by
  obtain⟨t,e⟩:=Value.isStrOf_shape (x:=x) (v:=v) h;exact .inr ⟨x,t,rfl,e⟩
theorem Av(i:Int)(t:Tok):sf (.inl i) (.int i t)=true:=by simp[sf,Value.isInt]
theorem Aw(x:Str)(t:Tok):sf (.inr x) (.str x t)=true:=by simp[sf,Value.isStrOf]
theorem KZ(a b:Int):decide ((Sum.inl a:Key)=Sum.inl b)=(a == b):=by
 by_cases e:a=b
 ·subst e;simp
 ·have h:¬ (Sum.inl a:Key)=Sum.inl b:=λq=>e (Sum.inl.inj q)
  rw[aa2 h];exact(acI.mpr e).symm
theorem K0(a b:Str):decide ((Sum.inr a:Key)=Sum.inr b)=decide (a=b):=by
 by_cases e:a=b
 ·subst e;simp
 ·have h:¬ (Sum.inr a:Key)=Sum.inr b:=λq=>e (abI q)
  rw[aa2 h,aa2 e]
theorem K1(a:Int)(b:Str):decide ((Sum.inl a:Key)=Sum.inr b)=false:=aa2 (λq=>nomatch q)
theorem K2(a:Str)(b:Int):decide ((Sum.inr a:Key)=Sum.inl b)=false:=aa2 (λq=>nomatch q)
def cK(prog:Program)(w:World):PySem.KeyKind prog w Key where
 is:=sf
 hash:=RV w
 inj:=λv a b ha hb=>by
  rcases bW ha with⟨i,t,rfl,rfl⟩ | ⟨x,t,rfl,rfl⟩
  ·rcases bW hb with⟨j,u,rfl,e⟩ | ⟨y,u,rfl,e⟩
   ·injection e with e1 _;rw[e1]
   ·exact nomatch e
  ·rcases bW hb with⟨j,u,rfl,e⟩ | ⟨y,u,rfl,e⟩
   ·exact nomatch e
   ·injection e with e1 _;rw[e1]
 byValue:=λk v h=>by
  rcases bW h with⟨i,t,rfl,rfl⟩ | ⟨x,t,rfl,rfl⟩<;>rfl
 pyHash:=λhv h=>by
  rcases bW hv with⟨i,t,rfl,rfl⟩ | ⟨x,t,rfl,rfl⟩
  ·exact wpAny_pyHash_int h
  ·exact wpAny_pyHash_str h
 eqBool:=λhu hv h=>by
  rcases bW hu with⟨i,t,rfl,rfl⟩ | ⟨x,t,rfl,rfl⟩
  ·rcases bW hv with⟨j,u,rfl,rfl⟩ | ⟨y,u,rfl,rfl⟩
   ·rw[KZ]at h;exact wpAny_eqBool_int h
   ·rw[K1]at h;exact SeqAt.EqAt.int_str i t y u _ _ _ _ h
  ·rcases bW hv with⟨j,u,rfl,rfl⟩ | ⟨y,u,rfl,rfl⟩
   ·rw[K2]at h;exact SeqAt.EqAt.str_int x t j u _ _ _ _ h
   ·rw[K0]at h;exact wpAny_eqBool_str h
 «strs»:=λk x t v h=>by
  rcases bW h with⟨i,u,rfl,e⟩ | ⟨y,u,rfl,e⟩
  ·exact nomatch e
  ·injection e with e1 _
   subst e1;cases v<;>rfl
theorem vC(prog:Program)(w:World)(i:Int)(t:Tok):(cK prog w).is (.inl i) (.int i t)=true:=Av i t
theorem oM(prog:Program)(w:World)(x:Str)(t:Tok):(cK prog w).is (.inr x) (.str x t)=true:=Aw x t
inductive V where
 | non | bl (b:Bool) | int (i:Int) | str (x:Str) | byt (b:Array UInt8) | flt (b:UInt64) | ref (a:Addr) | ty (n:String)
 deriving DecidableEq
def RelV:V->Value->Prop
 | .non,u=>u=Value.none
 | .bl b,u=>u=Value.bool b
 | .int i,u=>∃t,u=Value.int i t
 | .str x,u=>∃t,u=Value.str x t
 | .byt b,u=>∃t,u=Value.bytes b t
 | .flt b,u=>∃t,u=Value.float b t
 | .ref a,u=>u=Value.ref a
 | .ty n,u=>u=Value.type n
abbrev Vals:List V->List Value->Prop:=Paired RelV
theorem Vals.length{xs:List V}{us:List Value}(r:Vals xs us):xs.length=us.length:=Paired.length r
theorem Vals.get:∀{xs:List V} {us:List Value} {i:Nat} {x:V},Vals xs us->xs[i]?=some x->∃u,us[i]?=some u/\RelV x u
 | _,_,_,_,.nil,e=>by simp at e
 | _,_,0,_,.cons r _,e=>by simp at e;subst e;exact⟨_,rfl,r⟩
 | _,_,i + 1,x,.cons _ t,e=>by
  obtain⟨u,h1,h2⟩:=Vals.get (i:=i) (x:=x) t (by simpa using e);exact⟨u,by simpa using h1,h2⟩
theorem Vals.set{x:V}{u:Value}(r:RelV x u):∀{xs:List V} {us:List Value} (i:Nat),Vals xs us->Vals (xs.set i x) (us.set i u)
 | _,_,_,.nil=>.nil
 | _,_,0,.cons _ t=>.cons r t
 | _,_,i + 1,.cons q t=>.cons q (Vals.set r i t)
theorem Vals.append:∀{xs ys:List V} {us ws:List Value},Vals xs us->Vals ys ws->Vals (xs++ys) (us++ws)
 | _,_,_,_,.nil,s=>s
 | _,_,_,_,.cons r t,s=>.cons r (Vals.append t s)
theorem Vals.take:∀{xs:List V} {us:List Value} (n:Nat),Vals xs us->Vals (xs.take n) (us.take n)
 | _,_,0,_=>.nil
 | _,_,_ + 1,.nil=>.nil
 | _,_,n + 1,.cons r t=>.cons r (Vals.take n t)
theorem Vals.drop:∀{xs:List V} {us:List Value} (n:Nat),Vals xs us->Vals (xs.drop n) (us.drop n)
 | _,_,0,r=>r
 | _,_,_ + 1,.nil=>.nil
 | _,_,n + 1,.cons _ t=>Vals.drop n t
def jd:Option V->Option Value->Prop
 | some v,some u=>RelV v u
 | none,none=>True
 | _,_=>False
def KV{κ:Type}:List (κ×V)->List (κ×Value)->Prop:=Paired λ(p:κ×V) (q:κ×Value)=>p.1=q.1/\RelV p.2 q.2
def kV:Key->V
 | .inl i=>.int i
 | .inr x=>.str x
inductive HO where
 | lst (xs:List V)
 | tup (xs:List V)
 | dK (kvs:List (Key×V)) | dT (kvs:List (List Key×V))
 | set (S:Int->Bool) (n:Nat)
 | ins (C dx:Addr) (fs:List (Str×V))
 | own (x:Addr)
 | xd (fs:List (Str×V))
 | met (f x:Addr)
 | rng (lo hi:Int)
 | lj (o:Obj) (u:HO)
 | tbl (ps:Array Value)
 | ext (φ:Heap->Prop)
abbrev Hp:=Addr->Option HO
def upd(H:Hp)(a:Addr)(o:HO):Hp:=λb=>if b=a then some o else H b
theorem uS{H:Hp}{a:Addr}{o:HO}:upd H a o a=some o:=by unfold upd;rw[if_pos rfl]
theorem uN{H:Hp}{a b:Addr}{o:HO}(h:b≠a):upd H a o b=H b:=by unfold upd;rw[if_neg h]
theorem aX{H:Hp}{a b:Addr}{o u:HO}(h:H a=some o)(h':H b=some u)(d:o≠u):a≠b:=by
 intro e;subst e;rw[h]at h';exact d (aaq h')
theorem nN{H:Hp}{a b:Addr}{o:HO}(h:H a=some o)(h':H b=none):a≠b:=by
 intro e;subst e;rw[h]at h';cases h'
section
variable (P:Program) (w:World)
def du(H:Hp)(h:Heap)(a:Addr):HO->Prop
 | .lst xs=>xs.length<=sizeLine/\∃(its:List Value) (n:Nat),Vals xs its/\h.get? a=some {cls:=.type "list",data:=.seq its.toArray n}
 | .tup xs=>xs.length<=sizeLine/\∃its:List Value,Vals xs its/\IsTup h a its.toArray
 | .dK kvs=>kvs.length<=sizeLine/\(a == sysModules)=false/\∃vs,KV kvs vs/\h.DictOf (cK P w) a vs
 | .dT kvs=>kvs.length<=sizeLine/\(a == sysModules)=false/\∃xs:List (List Key×Addr×Value),
   Paired (λ(p:List Key×V) (q:List Key×Addr×Value)=>p.1=q.1/\H q.2.1=some (.tup (p.1.map kV))/\RelV p.2 q.2.2) kvs xs /\
   ∃o es ep,h.get? a=some o/\o.ExactDict/\o.data=.dict es ep/\es.toList=xs.map (entryOfKey (tupleKind (cK P w)))/\(xs.map (·.1)).Nodup
 | .set S n=>h.SetOf (intKind P w) a S n
 | .ins C dx fs=>H dx=some (.own a)/\fs.length<=1000/\dx≠a/\h.get? a=some (PySem.W.instObj C dx) /\
   ∃mA,h.Ns1 dx mA/\(∀f,jd (fs.lookup f) (mA f))/\PySem.Within mA (fs.map (·.1))
 | .own _=>∃o,h.get? a=some o
 | .xd fs=>∃mA,h.Ns1 a mA/\∀f,jd (fs.lookup f) (mA f)
 | .rng lo hi=>∃t u v,h.get? a=some {cls:=.type "range",data:=.fields #[.int lo t,.int hi u,.int 1 v]}
 | .lj o u=>h.get? a=some o/\du H h a u
 | .tbl ps=>h.get? a=some {cls:=.none,data:=.fields ps}
 | .met f x=>h.get? a=some (PySem.W.methodObj (.ref f) (.ref x))
 | .ext φ=>φ h/\(∃o,h.get? a=some o)/\∀h1 h2:Heap,φ h1->(∀o,h1.get? a=some o->h2.get? a=some o)->φ h2
def kc(H:Hp)(h:Heap):Prop:=∀a o,H a=some o->du P w H h a o
end
section
variable {P:Program} {w:World} {H H':Hp} {h h':Heap} {a:Addr} {o:HO}
theorem du.lt(x:du P w H h a o):a < h.objs.size:=by
 cases o with
 | lst xs=>obtain⟨_,_,_,_,e⟩:=x;exact aad e
 | tup xs=>obtain⟨_,_,_,p⟩:=x;exact p.lt
 | dK kvs=>obtain⟨_,_,_,_,o,_,_,e,_⟩:=x;exact aad e
 | dT kvs=>obtain⟨_,_,_,_,o,_,_,e,_⟩:=x;exact aad e
 | set S n=>obtain⟨o,_,_,_,e,_⟩:=x;exact aad e
 | ins C dx fs=>obtain⟨_,_,_,e,_⟩:=x;exact aad e
 | own y=>obtain⟨_,e⟩:=x;exact aad e
 | xd fs=>obtain⟨_,⟨_,_,_,e,_⟩,_⟩:=x;exact aad e
 | rng lo hi=>obtain⟨_,_,_,e⟩:=x;exact aad e
 | lj ob u=>obtain⟨e,_⟩:=x;exact aad e
 | tbl ps=>exact aad (show h.get? a=some _ from x)
 | met f y=>exact aad (show h.get? a=some _ from x)
 | ext φ=>obtain⟨_,⟨_,e⟩,_⟩:=x;exact aad e
theorem Paired.K3{α β:Type}{F G:α->β->Prop}:∀{l₁:List α} {l₂:List β},Paired F l₁ l₂->(∀a b,F a b->G a b)->Paired G l₁ l₂
 | _,_,.nil,_=>.nil
 | _,_,.cons r t,f=>.cons (f _ _ r) (Paired.K3 t f)
theorem du.m4(x:du P w H h a o)(k:∀b u,(b=a∨H b=some (.own a))->h.get? b=some u->h'.get? b=some u)
  (ho:∀b,H b=some (.own a)->H' b=some (.own a)) (ht:∀b xs,H b=some (.tup xs)->H' b=some (.tup xs)):du P w H' h' a o:=by
 induction o with
 | lst xs=>obtain⟨z,its,n,r,e⟩:=x;exact⟨z,its,n,r,k _ _ (.inl rfl) e⟩
 | tup xs=>obtain⟨z,its,r,ob,e,c⟩:=x;exact⟨z,its,r,ob,k _ _ (.inl rfl) e,c⟩
 | dK kvs=>obtain⟨z,y,vs,r,ob,es,ep,e,c⟩:=x;exact⟨z,y,vs,r,ob,es,ep,k _ _ (.inl rfl) e,c⟩
 | dT kvs =>
  obtain⟨z,y,xs,r,ob,es,ep,e,c⟩:=x;exact⟨z,y,xs,Paired.K3 r λp q z=>⟨z.1,ht _ _ z.2.1,z.2.2⟩,ob,es,ep,k _ _ (.inl rfl) e,c⟩
 | set S n=>obtain⟨ob,es,ep,t,e,c⟩:=x;exact⟨ob,es,ep,t,k _ _ (.inl rfl) e,c⟩
 | ins C dx fs =>
  obtain⟨d,z,ne,e,mA,⟨od,es,ep,e2,c⟩,r⟩:=x;exact⟨ho _ d,z,ne,k _ _ (.inl rfl) e,mA,⟨od,es,ep,k _ _ (.inr d) e2,c⟩,r⟩
 | own y=>obtain⟨ob,e⟩:=x;exact⟨ob,k _ _ (.inl rfl) e⟩
 | xd fs=>obtain⟨mA,⟨od,es,ep,e,c⟩,r⟩:=x;exact⟨mA,⟨od,es,ep,k _ _ (.inl rfl) e,c⟩,r⟩
 | rng lo hi=>obtain⟨t,u,v,e⟩:=x;exact⟨t,u,v,k _ _ (.inl rfl) e⟩
 | lj ob u ih=>obtain⟨e,q⟩:=x;exact⟨k _ _ (.inl rfl) e,ih q⟩
 | tbl ps =>
  have e:h.get? a=some {cls:=.none,data:=.fields ps}:=x;show h'.get? a=some {cls:=.none,data:=.fields ps};exact k a _ (.inl rfl) e
 | met f y =>
  have e:h.get? a=some (PySem.W.methodObj (.ref f) (.ref y)):=x;show h'.get? a=some (PySem.W.methodObj (.ref f) (.ref y));exact k a _ (.inl rfl) e
 | ext φ=>obtain⟨p,⟨o,e⟩,st⟩:=x;exact⟨st _ _ p λo q=>k _ _ (.inl rfl) q,⟨o,k _ _ (.inl rfl) e⟩,st⟩
theorem kc.lt(x:kc P w H h)(e:H a=some o):a < h.objs.size:=(x a o e).lt
theorem kc.fresh(x:kc P w H h)(e:h.objs.size<=a):H a=none:=by
 cases q:H a with
 | none=>rfl
 | some u=>exact absurd (aah (x.lt q) e) (aaG _)
theorem kc.kept(x:kc P w H h)(k:∀b u,h.get? b=some u->h'.get? b=some u):kc P w H h':=λa o e =>
 (x a o e).m4 (λb u _ q=>k b u q) (λ_ q=>q) λ_ _ q=>q
theorem kc.laid(x:kc P w H h)(k:∀b u,h.get? b=some u->h'.get? b=some u)(hp:h.objs.size<=a)(new:du P w (upd H a o) h' a o):kc P w (upd H a o) h':=λb u e=>by
 have hn:=x.fresh hp;by_cases hb:b=a
 ·subst hb;rw[uS]at e;cases e;exact new
 ·rw[uN hb]at e;exact(x b u e).m4 (λc v _ q=>k c v q) (λc q=>by rw[uN (nN q hn)];exact q) λc xs q=>by rw[uN (nN q hn)];exact q
end
def Rd(H:Hp)(a:Addr)(u:HO):Prop:=H a=some u∨∃o,H a=some (.lj o u)
theorem Rd.ok{P:Program}{w:World}{H:Hp}{h:Heap}{a:Addr}{u:HO}(r:Rd H a u)(x:kc P w H h):du P w H h a u:=by
 rcases r with r | ⟨o,r⟩
 ·exact x a u r
 ·obtain⟨_,q⟩:=x a _ r;exact q
def ON:Option HO->Prop
 | some (.lst _)=>True
 | some (.dK _)=>True
 | some (.dT _)=>True
 | some (.set _ _)=>True
 | some (.ins _ _ _)=>True
 | some (.ext _)=>True
 | _=>False
section
variable {P:Program} {w:World} {H:Hp} {h h':Heap} {x e:Addr} {o':HO}
theorem kc.write(ok:kc P w H h)(mu:ON (H x))(he:e=x∨H e=some (.own x))(k:∀b u,b≠e->h.get? b=some u->h'.get? b=some u)(heo:∃u,h'.get? e=some u)
  (new:du P w (upd H x o') h' x o'):kc P w (upd H x o') h':=λb u q=>by
 have nown:∀c y,H c=some (.own y)->c≠x:=λc y r z=>by subst z;rw[r]at mu;exact mu
 have ntup:∀c xs,H c=some (.tup xs)->c≠x:=λc xs r z=>by subst z;rw[r]at mu;exact mu
 by_cases hb:b=x
 ·subst hb;rw[uS]at q;cases q;exact new
 ·rw[uN hb]at q;by_cases hbe:b=e
  ·have q':H b=some (.own x):=by
    rcases he with z | z
    ·exact absurd (hbe.trans z) hb
    ·rw[hbe];exact z
   rw[q]at q';cases q';obtain⟨v,hv⟩:=heo;exact⟨v,by rw[hbe];exact hv⟩
  ·refine(ok b u q).m4 (λc v hc r=>k c v ?_ r) (λc r=>by rw[uN (nown c b r)];exact r) λc xs r=>by rw[uN (ntup c xs r)];exact r
   rcases hc with rfl | hc
   ·exact hbe
   ·rintro rfl;rcases he with z | z
    ·exact nown c b hc z
    ·rw[hc]at z;cases z;exact hb rfl
end
structure Un(fs ex:List Addr)(H H':Hp)(h h':Heap):Prop where
 keep:∀b o,h.get? b=some o->H b=none->b∉fs->b∉ex->h'.get? b=some o
 slot:∀b o,h.get? b=some o->H b=none->b∈fs->b∉ex->∃sl,h'.get? b=some {o with slots:=sl}
 free:∀b o,h.get? b=some o->H b=none->b∉ex->H' b=none
 there:∀b o,h.get? b=some o->b∉ex->∃o',h'.get? b=some o'
 tups:∀b xs,H b=some (.tup xs)->H' b=some (.tup xs)
 eQ:∀b o u,H b=some (.lj o u)->H' b=some (.lj o u)
 tbls:∀b ps,H b=some (.tbl ps)->∃more,H' b=some (.tbl (ps++more))
section
variable {fs fs' ex ex':List Addr} {H H1 H2:Hp} {h h1 h2 h':Heap} {a x e:Addr} {o:HO}
theorem Un.any(u:Un fs ex H H1 h h1){b:Addr}{ob:Obj}(q:h.get? b=some ob)(n:H b=none)(hx:b∉ex):∃sl,h1.get? b=some {ob with slots:=sl}:=by
 by_cases hb:b∈fs
 ·exact u.slot b ob q n hb hx
 ·exact⟨ob.slots,u.keep b ob q n hb hx⟩
theorem Un.kept(k:∀b u,h.get? b=some u->h'.get? b=some u):Un fs ex H H h h' :=
 ⟨λb ob q _ _ _=>k b ob q,λb ob q _ _ _=>⟨ob.slots,k b ob q⟩,λ_ _ _ n _=>n,λb ob q _=>⟨ob,k b ob q⟩,λ_ _ q=>q,λ_ _ _ q=>q,λ_ ps q=>⟨#[],by rw[q];simp⟩⟩
theorem Un.refl:Un fs ex H H h h:=Un.kept λ_ _ q=>q
theorem Un.laid(k:∀b u,h.get? b=some u->h'.get? b=some u)(hp:h.objs.size<=a)(hn:H a=none):Un fs ex H (upd H a o) h h' where
 keep:=λb u q _ _ _=>k b u q
 slot:=λb u q _ _ _=>⟨u.slots,k b u q⟩
 free:=λb u q n _=>by rw[uN (aak (aah (aad q) hp))];exact n
 there:=λb u q _=>⟨u,k b u q⟩
 tups:=λb xs q=>by rw[uN (nN q hn)];exact q
 eQ:=λb u xs q=>by rw[uN (nN q hn)];exact q
 tbls:=λb ps q=>⟨#[],by rw[uN (nN q hn),q];simp⟩
theorem Un.write(mu:ON (H x))(he:e=x∨H e=some (.own x))(k:∀b u,b≠e->h.get? b=some u->h'.get? b=some u)(heo:∃u,h'.get? e=some u):Un fs ex H (upd H x o) h h':=by
 have hx:∀b,H b=none->b≠x:=λb n z=>by subst z;rw[n]at mu;exact mu
 have hb:∀b,H b=none->b≠e:=λb n z=>by
  subst z;rcases he with r | r
  ·exact hx b n r
  ·rw[n]at r;cases r
 have hm:∀b u,H b=some u->¬ ON (some u)->b≠x:=λb u q nm z=>by subst z;rw[q]at mu;exact nm mu
 refine⟨λb u q n _ _=>k b u (hb b n) q,λb u q n _ _=>⟨u.slots,k b u (hb b n) q⟩,λb u q n _=>by rw[uN (hx b n)];exact n,λb u q _=>?_,
  λb xs q=>by rw[uN (hm b _ q λz=>z)];exact q,λb u xs q=>by rw[uN (hm b _ q λz=>z)];exact q,λb ps q=>⟨#[],by rw[uN (hm b _ q λz=>z),q];simp⟩⟩
 by_cases hbe:b=e
 ·subst hbe;exact heo
 ·exact⟨u,k b u hbe q⟩
end
def Rn(h:Heap)(H:Hp):List Addr:=(List.range h.objs.size).filter λa=>(H a).isSome
def tO(h:Heap)(H:Hp):Heap:=PySem.W.hideAll h (Rn h H)
theorem Ax(h:Heap)(H:Hp):(tO h H).objs.size=h.objs.size:=PySem.W.hideAll_size _ _
theorem Cp{h:Heap}{H:Hp}{b:Addr}{o:Obj}(e:h.get? b=some o)(n:H b=none):(tO h H).get? b=some o :=
 PySem.W.hideAll_get _ e λhm=>by
  have q:(H b).isSome=true:=(List.mem_filter.mp hm).2;rw[n]at q;simp at q
theorem Gs{h:Heap}{H:Hp}{b:Addr}{o:Obj}(e:(tO h H).get? b=some o):h.get? b=some o/\H b=none:=by
 have e':h.get? b=some o:=PySem.W.of_hideAll (Rn h H) e;refine⟨e',?_⟩
 cases q:H b with
 | none=>rfl
 | some x =>
  have hm:b∈Rn h H:=List.mem_filter.mpr ⟨List.mem_range.mpr (Heap.lt_size e'),by simp[q]⟩;have z:(tO h H).get? b=none:=PySem.W.hideAll_none (Rn h H) hm;rw[z]at e;cases e
def Gu(g h:Heap)(L:Addr):List (Addr×Obj):=(List.range h.objs.size).filterMap λa=>if a=L∨(g.get? a).isSome=true then none else(h.get? a).map λo=>(a,o)
def rest(g h:Heap)(L d:Addr):List (Addr×Obj):=(Gu g h L).filter λp=>decide (p.1≠d)
structure Mod(K:aJ)(mg:Str->Option Value)(base:Heap):Prop where
 kin:K.In base
 glob:base.Ns mainGlobals mg
 blt:∃mb,base.Ns builtinsNs mb/\∀x:Str,x≠"__name__"->mb x=bootBuiltins x
 nolimit:base.NoLimit
structure Cx where
 prog:Program
 w:World
 K:aJ
 mg:Str->Option Value
 base:Heap
 A:Around
 N:List Str
 s₀:Shared
 H₀:Hp
 env:Env
 outer:List Env
 stack:List Env
 ex:List Addr
 fn:Str->Bool
 calm:Bool
 pn:List (Addr×Obj)
 xe:Value->Shared->Prop
def ia(l:List Env):List Addr:=l.filterMap (·.frame)
abbrev Cx.fs(X:Cx):List Addr:=ia X.outer
def Ro(sc:Scope)(x:Str):Prop:=sc.names.lookup x=some .local∨sc.names.lookup x=some .cell∨sc.names.lookup x=some .free
def Loc(sc:Scope)(x:Str):Prop:=sc.names.lookup x=some .local∨sc.names.lookup x=some .cell
def Look(env:Env)(h:Heap)(m:Str->Option Value)(x:Str)(u:Value):Prop :=
 (env.kindOf x=some .local/\m x=some u)∨((env.kindOf x=some .cell∨env.kindOf x=some .free)/\∃c,env.cells.lookup x=some c/\h.IsCell c (some u))
structure Cx.Ok(X:Cx):Prop where
 mod:Mod X.K X.mg X.base
 kind:X.env.scope.kind=.function
 glob:X.env.globals=mainGlobals
 blt:X.env.builtins=builtinsNs
 above:X.s₀.heap.objs.size<=X.env.locals
 inj:∀x y c,X.env.cells.lookup x=some c->X.env.cells.lookup y=some c->x=y
 has:∀x,(X.env.kindOf x=some .cell∨X.env.kindOf x=some .free)->∃c,X.env.cells.lookup x=some c
 cab:∀x c,X.fn x=true->X.env.cells.lookup x=some c->X.s₀.heap.objs.size<=c
 hd:X.calm=true->X.A.handled=none
 frames:X.A.frames=some X.stack
 stk:X.stack=X.outer∨(X.stack=X.env::X.outer/\X.env.frame=some X.env.locals)
 exf:∀b∈X.ex,b≠X.env.locals/\∀x c,X.env.cells.lookup x=some c->c≠b
 bs:∀b o,X.base.get? b=some o->X.s₀.heap.get? b=some o/\X.H₀ b=none
 bsz:X.base.objs.size<=X.s₀.heap.objs.size
 noex:∀b o,X.base.get? b=some o->b∉X.ex
 exfs:∀b∈X.ex,b∉X.fs
 m5:X.s₀.heap.FunFrames X.base X.outer
 frf:∀b∈X.fs,X.H₀ b=none
structure Inv(X:Cx)(pins:List (Addr×Obj))(σ:List (Option V))(H:Hp)(s:Shared):Prop where
 ok:X.Ok
 os:s.os=X.s₀.os
 bare:AllBare s.gens
 base:Un X.fs X.ex X.H₀ H X.s₀.heap s.heap
 loc:∃m,s.heap.Ns X.env.locals m/\∀(i:Nat) (x:Str) (v:V),X.N[i]?=some x->σ[i]?=some (some v)->Ro X.env.scope x->∃u,RelV v u/\Look X.env s.heap m x u
 cell:∀x c,X.env.cells.lookup x=some c->∃v,s.heap.IsCell c v
 free:H X.env.locals=none
 freeC:∀x c,X.env.cells.lookup x=some c->H c=none
 pin:∀p∈X.pn++pins,s.heap.get? p.1=some p.2/\H p.1=none/\p.1≠X.env.locals/\p.1∉X.fs/\∀v,p.2.data≠.cell v
 hok:kc X.prog X.w H s.heap
 len:σ.length=X.N.length
section
variable {X:Cx} {pins:List (Addr×Obj)} {σ:List (Option V)} {H H':Hp} {s:Shared} {h':Heap}
theorem Cx.Ok.RX(ok:X.Ok){b:Addr}{o:Obj}(e:X.base.get? b=some o):b∉X.fs:=λhb=>by
 have:=(ok.m5.mem hb).1;rw[e]at this;cases this
theorem Inv.bs(I:Inv X pins σ H s):∀b o,X.base.get? b=some o->s.heap.get? b=some o/\H b=none:=λb o e =>
 ⟨I.base.keep b o (I.ok.bs b o e).1 (I.ok.bs b o e).2 (I.ok.RX e) (I.ok.noex b o e),I.base.free b o (I.ok.bs b o e).1 (I.ok.bs b o e).2 (I.ok.noex b o e)⟩
theorem Inv.bk(I:Inv X pins σ H s):∀b o,X.base.get? b=some o->s.heap.get? b=some o:=λb o e=>(I.bs b o e).1
theorem Inv.mod(I:Inv X pins σ H s):Mod X.K X.mg X.base:=I.ok.mod
theorem Inv.iL(I:Inv X pins σ H s):X.K.In s.heap:=I.ok.mod.kin.keeps I.bk
theorem Inv.lt(I:Inv X pins σ H s):X.env.locals < s.heap.objs.size:=let ⟨_,hn,_⟩:=I.loc;hn.lt
theorem Inv.sz(I:Inv X pins σ H s):X.s₀.heap.objs.size<=s.heap.objs.size:=aaA I.ok.above (aa3 I.lt)
theorem Inv.RY(I:Inv X pins σ H s){a:Addr}(h:s.heap.objs.size<=a):a∉X.fs:=λhb=>by
 obtain⟨_,o,ho,_⟩:=I.ok.m5.mem hb;exact absurd (aah (aad ho) (aaA I.sz h)) (aaG _)
theorem Inv.Gv(I:Inv X pins σ H s):∀x c,X.env.cells.lookup x=some c->c≠X.env.locals:=λx c e z=>by
 obtain⟨v,o,ho,hd⟩:=I.cell x c e;obtain⟨m,⟨o',es,ep,ho',hd',_⟩,_⟩:=I.loc;rw[z,ho']at ho;cases ho;rw[hd']at hd;cases hd
theorem Inv.m5(I:Inv X pins σ H s):s.heap.FunFrames X.base X.outer:=by
 have all:∀(l:List Env),(∀b∈ia l,b∈X.fs)->X.s₀.heap.FunFrames X.base l->s.heap.FunFrames X.base l:=by
  intro l
  induction l with
  | nil=>intro _ _;trivial
  | cons env r ih =>
   intro hs hl;obtain⟨hk,⟨L,o,hf,hn,ho,hd⟩,hr⟩:=hl;have hL:L∈X.fs:=hs L (by unfold ia;rw[List.filterMap_cons,hf];exact List.mem_cons_self);obtain⟨sl,e⟩:=I.base.slot L o ho (I.ok.frf L hL) hL λz=>I.ok.exfs L z hL
   exact⟨hk,⟨L,_,hf,hn,e,hd⟩,ih (λb hb=>hs b (by unfold ia;rw[List.filterMap_cons,hf];exact List.mem_cons_of_mem _ hb)) hr⟩
 exact all X.outer (λ_ hb=>hb) I.ok.m5
theorem Inv.stack(I:Inv X pins σ H s):s.heap.FunFrames X.base X.stack:=by
 rcases I.ok.stk with e | ⟨e,hf⟩
 ·rw[e];exact I.m5
 ·rw[e];obtain⟨m,hn,_⟩:=I.loc;refine .cons (by rw[I.ok.kind];decide) hf hn ?_ I.m5;exact Heap.get?_none_of_le (aaA I.ok.bsz I.ok.above)
theorem Inv.xr(I:Inv X pins σ H s):∀b∈ia X.stack,b∈X.env.locals::X.fs:=λb hb=>by
 rcases I.ok.stk with e | ⟨e,hf⟩
 ·rw[e]at hb;exact aal _ hb
 ·rw[e]at hb;unfold ia at hb;rw[List.filterMap_cons,hf]at hb;exact hb
theorem Inv.iM(I:Inv X pins σ H s):∀b∈ia X.stack,H b=none:=λb hb=>by
 rcases aaB.mp (I.xr b hb)with e | hb
 ·rw[e];exact I.free
 ·obtain⟨_,o,ho,_⟩:=I.ok.m5.mem hb;exact I.base.free b o ho (I.ok.frf b hb) λz=>I.ok.exfs b z hb
theorem Inv.step{g':Array GenState}{t':Nat}{d':Drawn}{ch:List Addr}(I:Inv X pins σ H s)
  (hch:∀b∈ch,(b∈X.ex∨X.s₀.heap.objs.size<=b)/\b≠X.env.locals/\(∀x c,X.env.cells.lookup x=some c->c≠b)/\∀p∈X.pn++pins,p.1≠b)
  (keep:∀b o,b≠X.env.locals->b∉X.fs->b∉ch->s.heap.get? b=some o->H b=none->h'.get? b=some o)
  (slot:∀b o,b≠X.env.locals->b∈X.fs->b∉ch->s.heap.get? b=some o->H b=none->∃sl,h'.get? b=some {o with slots:=sl}) (free:∀b o,b∉ch->s.heap.get? b=some o->H b=none->H' b=none)
  (there:∀b o,b∉ch->s.heap.get? b=some o->∃o',h'.get? b=some o')
  (tups:∀b xs,H b=some (.tup xs)->H' b=some (.tup xs)) (eQ:∀b o u,H b=some (.lj o u)->H' b=some (.lj o u)) (tbls:∀b ps,H b=some (.tbl ps)->∃more,H' b=some (.tbl (ps++more)))
  (ns:∀m,s.heap.Ns X.env.locals m->h'.Ns X.env.locals m) (hok:kc X.prog X.w H' h') (hg:AllBare g') :
  Inv X pins σ H' {s with heap:=h',gens:=g',drawn:=d',toks:=t'}:=by
 have neL:∀b o,X.s₀.heap.get? b=some o->b≠X.env.locals:=λb o e=>aak (aah (aad e) I.ok.above)
 have neC:∀b o,X.s₀.heap.get? b=some o->b∉X.ex->b∉ch:=λb o e hx hb=>by
  rcases (hch b hb).1 with z | z
  ·exact hx z
  ·exact absurd (aah (aad e) z) (aaG _)
 have cellK:∀x c,X.env.cells.lookup x=some c->∀v,s.heap.IsCell c v->h'.IsCell c v:=λx c e v ⟨o,ho,hd⟩=>by
  have nch:c∉ch:=λz=>(hch c z).2.2.1 x c e rfl
  by_cases hc:c∈X.fs
  ·obtain⟨sl,q⟩:=slot c o (I.Gv x c e) hc nch ho (I.freeC x c e);exact⟨_,q,hd⟩
  ·exact⟨o,keep c o (I.Gv x c e) hc nch ho (I.freeC x c e),hd⟩
 refine⟨I.ok,I.os,hg,⟨λb o e n hb hx=>?_,λb o e n hb hx=>?_,λb o e n hx=>?_,λb o e hx=>?_,λb xs e=>tups b xs (I.base.tups b xs e),λb o xs e=>eQ b o xs (I.base.eQ b o xs e),λb ps e=>?_⟩,?_,λx c e=>?_,?_,λx c e=>?_,λp hp=>?_,hok,I.len⟩
 ·exact keep b o (neL b o e) hb (neC b o e hx) (I.base.keep b o e n hb hx) (I.base.free b o e n hx)
 ·obtain⟨sl,e1⟩:=I.base.slot b o e n hb hx;obtain⟨sl',e2⟩:=slot b _ (neL b o e) hb (neC b o e hx) e1 (I.base.free b o e n hx);exact⟨sl',e2⟩
 ·obtain⟨o',e1⟩:=I.base.there b o e hx;exact free b o' (neC b o e hx) e1 (I.base.free b o e n hx)
 ·obtain⟨o',e1⟩:=I.base.there b o e hx;exact there b o' (neC b o e hx) e1
 ·obtain⟨m1,e1⟩:=I.base.tbls b ps e;obtain⟨m2,e2⟩:=tbls b _ e1;exact⟨m1++m2,by rw[e2,Array.append_assoc]⟩
 ·obtain⟨m,hn,hl⟩:=I.loc;refine⟨m,ns m hn,λi x v e1 e2 e3=>?_⟩;obtain⟨u,r,l⟩:=hl i x v e1 e2 e3;refine⟨u,r,?_⟩;rcases l with l | ⟨k,c,e,z⟩
  ·exact .inl l
  ·exact .inr ⟨k,c,e,cellK x c e _ z⟩
 ·obtain⟨v,z⟩:=I.cell x c e;exact⟨v,cellK x c e v z⟩
 ·obtain⟨m,⟨o,_,_,ho,_⟩,_⟩:=I.loc;exact free _ o (λz=>(hch _ z).2.1 rfl) ho I.free
 ·obtain⟨v,o,ho,hd⟩:=I.cell x c e;exact free c o (λz=>(hch c z).2.2.1 x c e rfl) ho (I.freeC x c e)
 ·obtain⟨e,n,ne,nf,d⟩:=I.pin p hp;have nch:p.1∉ch:=λz=>(hch p.1 z).2.2.2 p hp rfl
  exact⟨keep p.1 p.2 ne nf nch e n,free p.1 p.2 nch e n,ne,nf,d⟩
theorem Inv.un{t':Nat}(I:Inv X pins σ H s)(u:Un X.fs [] H H' s.heap h')(hok:kc X.prog X.w H' h'):Inv X pins σ H' {s with heap:=h',toks:=t'}:=by
 obtain⟨m,⟨o,es,ep,ho,r⟩,_⟩:=id I.loc;obtain⟨sl,hL⟩:=u.any ho I.free (by simp)
 exact I.step (g':=s.gens) (d':=s.drawn) (ch:=[]) (λ_ z=>nomatch z) (λb o _ hb _ e n=>u.keep b o e n hb (by simp)) (λb o _ hb _ e n=>u.slot b o e n hb (by simp)) (λb o _ e n=>u.free b o e n (by simp)) (λb o _ e=>u.there b o e (by simp)) u.tups u.eQ u.tbls (λm' hm=>by
  obtain⟨o',es',ep',ho',r'⟩:=hm;rw[ho]at ho';cases ho';exact⟨_,es',ep',hL,r'⟩) hok I.bare
theorem Inv.call{g':Array GenState}{t':Nat}{d':Drawn}{ch:List Addr}(I:Inv X pins σ H s)(u:Un (ia X.stack) ch H H' s.heap h')(hok:kc X.prog X.w H' h')(hg:AllBare g')
  (hch:∀b∈ch,(b∈X.ex∨X.s₀.heap.objs.size<=b)/\b≠X.env.locals/\(∀x c,X.env.cells.lookup x=some c->c≠b)/\∀p∈X.pn++pins,p.1≠b) :
  Inv X pins σ H' {s with heap:=h',gens:=g',drawn:=d',toks:=t'}:=by
 obtain⟨m,⟨o,es,ep,ho,r⟩,_⟩:=id I.loc;obtain⟨sl,hL⟩:=u.any ho I.free λz=>(hch _ z).2.1 rfl
 exact I.step (ch:=ch) hch (λb o hL hb hc e n=>u.keep b o e n (λz=>(aaB.mp (I.xr b z)).elim hL hb) hc) (λb o _ _ hc e n=>u.any e n hc) (λb o hc e n=>u.free b o e n hc) (λb o hc e=>u.there b o e hc) u.tups u.eQ u.tbls (λm' hm=>by
  obtain⟨o',es',ep',ho',r'⟩:=hm;rw[ho]at ho';cases ho';exact⟨_,es',ep',hL,r'⟩) hok hg
theorem Inv.turned{t':Nat}{it:Addr}(I:Inv X pins σ H s)(k:∀b o,b≠it->s.heap.get? b=some o->h'.get? b=some o)(hn:H it=none)(hL:it≠X.env.locals)
  (h1:it∈X.ex∨X.s₀.heap.objs.size<=it) (h2:∀x c,X.env.cells.lookup x=some c->c≠it) (h3:∀p∈X.pn++pins,p.1≠it):Inv X pins σ H {s with heap:=h',toks:=t'}:=by
 have nit:∀b u,H b=some u->b≠it:=λb u e z=>by rw[z,hn]at e;cases e
 refine I.step (g':=s.gens) (d':=s.drawn) (ch:=[it]) (λb hb=>?_) (λb o _ _ hc e _=>k b o (λz=>hc (by simp[z])) e) (λb o _ _ hc e _=>⟨o.slots,k b o (λz=>hc (by simp[z])) e⟩) (λ_ _ _ _ n=>n)
  (λb o hc e=>⟨o,k b o (λz=>hc (by simp[z])) e⟩) (λ_ _ e=>e) (λ_ _ _ e=>e) (λb ps e=>⟨#[],by rw[e];simp⟩) (λm hm=>?_) (λb u e=>?_) I.bare
 ·have e:b=it:=by simpa using hb
  subst e;exact⟨h1,hL,h2,h3⟩
 ·obtain⟨o,es,ep,ho,r⟩:=hm;exact⟨o,es,ep,k _ o (abu hL) ho,r⟩
 ·refine(I.hok b u e).m4 (λc v hc q=>k c v ?_ q) (λ_ q=>q) λ_ _ q=>q
  rcases hc with z | z
  ·rw[z];exact nit b u e
  ·exact nit c _ z
theorem Inv.tok(I:Inv X pins σ H s)(t:Nat):Inv X pins σ H {s with toks:=t}:=I.un (h':=s.heap) (t':=t) Un.refl I.hok
theorem Inv.kept{t':Nat}(I:Inv X pins σ H s)(k:∀b u,s.heap.get? b=some u->h'.get? b=some u):Inv X pins σ H {s with heap:=h',toks:=t'}:=I.un (Un.kept k) (I.hok.kept k)
theorem Inv.laid{a:Addr}{o:HO}{t':Nat}(I:Inv X pins σ H s)(k:∀b u,s.heap.get? b=some u->h'.get? b=some u)(hp:s.heap.objs.size<=a)(new:du X.prog X.w (upd H a o) h' a o):
  Inv X pins σ (upd H a o) {s with heap:=h',toks:=t'}:=I.un (Un.laid k hp (I.hok.fresh hp)) (I.hok.laid k hp new)
theorem Inv.write{x e:Addr}{o:HO}{t':Nat}(I:Inv X pins σ H s)(mu:ON (H x))(he:e=x∨H e=some (.own x))(k:∀b u,b≠e->s.heap.get? b=some u->h'.get? b=some u)(heo:∃u,h'.get? e=some u)
  (new:du X.prog X.w (upd H x o) h' x o):Inv X pins σ (upd H x o) {s with heap:=h',toks:=t'}:=I.un (Un.write mu he k heo) (I.hok.write mu he k heo new)
theorem Inv.weak{σ':List (Option V)}(I:Inv X pins σ H s)(hl:σ'.length=σ.length)(w:∀(i:Nat) v,σ'[i]?=some (some v)->σ[i]?=some (some v)):Inv X pins σ' H s :=
 ⟨I.ok,I.os,I.bare,I.base,let ⟨m,hn,hl'⟩:=I.loc;⟨m,hn,λi x v e1 e2 e3=>hl' i x v e1 (w i v e2) e3⟩,I.cell,I.free,I.freeC,I.pin,I.hok,hl.trans I.len⟩
theorem Inv.zo{pins':List (Addr×Obj)}(I:Inv X pins σ H s)(h:∀p∈pins',s.heap.get? p.1=some p.2/\H p.1=none/\p.1≠X.env.locals/\p.1∉X.fs/\∀v,p.2.data≠.cell v):Inv X pins' σ H s :=
 ⟨I.ok,I.os,I.bare,I.base,I.loc,I.cell,I.free,I.freeC,λp hp=>(aaK.mp hp).elim (λz=>I.pin p (abf _ z)) (h p),I.hok,I.len⟩
theorem pU{N:List Str}(hN:N.Nodup){i j:Nat}{x:Str}(a:N[i]?=some x)(b:N[j]?=some x):i=j:=by
 obtain⟨h1,e1⟩:=eA a;obtain⟨h2,e2⟩:=eA b;exact(List.getElem_inj hN).mp (e1.trans e2.symm)
theorem m6{M:Model}{A:Around}{E:Value->Shared->Prop}{i:Nat}{x:Str}{v:V}{u:Value}{Q:Unit->Shared->Prop}(I:Inv X pins σ H s)(hN:X.N.Nodup)(hi:X.N[i]?=some x)(hx:Loc X.env.scope x)(r:RelV v u)
  (h:∀s',Inv X pins (σ.set i (some v)) H s'->(∃a,Heap.SameBut a s.heap s'.heap/\(a=X.env.locals∨X.env.cells.lookup x=some a))->Q () s') (hf:X.fn x=true∨X.env.scope.names.lookup x=some .local:=by first | exact .inl rfl | exact .inr rfl | assumption):wpAny M A (storeName X.env x u) Q E s:=by
 obtain⟨m,hn,hl⟩:=id I.loc;have hcls:(X.env.scope.kind == .class||(X.env.scope.kind == .module&&X.env.locals != X.env.globals))=false:=by rw[I.ok.kind];rfl
 have hiσ:i < σ.length:=by rw[I.len];exact(eA hi).1
 have Gv:=I.Gv
 have tracked:∀{a:Addr} {h':Heap},(∃o,s.heap.get? a=some o/\H a=none)->Heap.SameBut a s.heap h'->kc X.prog X.w H h':=λ{a h'} ha hs b ob e=>by
  obtain⟨_,_,hfree⟩:=ha;refine(I.hok b ob e).m4 (λc w' hc q=>(hs.2 c ?_).trans q) (λ_ q=>q) λ_ _ q=>q
  rintro rfl;rcases hc with rfl | hc
  ·rw[hfree]at e;cases e
  ·rw[hfree]at hc;cases hc
 rcases hx with hk | hk
 ·refine wpAny_storeName_local hk hn (λh' hn' hs=>?_) hcls;obtain⟨oL,_,_,hoL,_⟩:=id hn;refine h _ ⟨I.ok,I.os,I.bare,⟨λb o e n hb hx=>?_,λb o e n hb hx=>?_,I.base.free,λb o e hx=>?_,I.base.tups,I.base.eQ,I.base.tbls⟩,⟨_,hn',λj y v' e1 e2 e3=>?_⟩,λy c e=>?_,I.free,I.freeC,λp hp=>?_,tracked ⟨oL,hoL,I.free⟩ hs,by simpa using I.len⟩ ⟨_,hs,.inl rfl⟩
  ·exact(hs.2 b (aak (aah (aad e) I.ok.above))).trans (I.base.keep b o e n hb hx)
  ·obtain⟨sl,e1⟩:=I.base.slot b o e n hb hx;exact⟨sl,(hs.2 b (aak (aah (aad e) I.ok.above))).trans e1⟩
  ·obtain⟨o',e1⟩:=I.base.there b o e hx;exact⟨o',(hs.2 b (aak (aah (aad e) I.ok.above))).trans e1⟩
  ·by_cases hj:j=i
   ·subst hj;rw[hi]at e1;cases e1;rw[List.getElem?_set_self hiσ]at e2;cases e2;exact⟨u,r,.inl ⟨hk,by simp⟩⟩
   ·rw[aau (abu hj)]at e2;obtain⟨u',r',q⟩:=hl j y v' e1 e2 e3;refine⟨u',r',?_⟩;rcases q with⟨k,e⟩ | ⟨k,c,e,z⟩
    ·refine .inl ⟨k,?_⟩;have:y≠x:=λe=>hj (pU hN e1 (e ▸ hi))
     simp[this,e]
    ·exact .inr ⟨k,c,e,z.sameBut hs (Gv y c e)⟩
  ·obtain⟨w',z⟩:=I.cell y c e;exact⟨w',z.sameBut hs (Gv y c e)⟩
  ·obtain⟨e,n,ne,nf,d⟩:=I.pin p hp;exact⟨(hs.2 p.1 ne).trans e,n,ne,nf,d⟩
 ·have hfn:X.fn x=true:=by
   rcases hf with z | z
   ·exact z
   ·rw[z]at hk;cases hk
  obtain⟨c,hc⟩:=I.ok.has x (.inl hk);obtain⟨w',z⟩:=I.cell x c hc;refine wpAny_storeName_cell I.ok.kind hk hc z (λh' hc' hs=>?_);obtain⟨oc,hoc,hocd⟩:=id z;refine h {s with heap:=h'} ⟨I.ok,I.os,I.bare,⟨λb o e n hb hx=>?_,λb o e n hb hx=>?_,I.base.free,λb o e hx=>?_,I.base.tups,I.base.eQ,I.base.tbls⟩,⟨m,hn.sameBut hs (Ne.symm (Gv x c hc)),λj y v' e1 e2 e3=>?_⟩,λy c' e=>?_,I.free,I.freeC,λp hp=>?_,tracked ⟨oc,hoc,I.freeC x c hc⟩ hs,by simpa using I.len⟩ ⟨c,hs,.inr hc⟩
  ·exact(hs.2 b (aak (aah (aad e) (I.ok.cab x c hfn hc)))).trans (I.base.keep b o e n hb hx)
  ·obtain⟨sl,e1⟩:=I.base.slot b o e n hb hx;exact⟨sl,(hs.2 b (aak (aah (aad e) (I.ok.cab x c hfn hc)))).trans e1⟩
  ·obtain⟨o',e1⟩:=I.base.there b o e hx;exact⟨o',(hs.2 b (aak (aah (aad e) (I.ok.cab x c hfn hc)))).trans e1⟩
  ·by_cases hj:j=i
   ·subst hj;rw[hi]at e1;cases e1;rw[aas hiσ]at e2;cases e2;exact⟨u,r,.inr ⟨.inl hk,c,hc,hc'⟩⟩
   ·rw[aau (abu hj)]at e2;obtain⟨u',r',q⟩:=hl j y v' e1 e2 e3;refine⟨u',r',?_⟩;rcases q with q | ⟨k,c',e,z'⟩
    ·exact .inl q
    ·refine .inr ⟨k,c',e,z'.sameBut hs ?_⟩;rintro rfl;exact hj (pU hN e1 (I.ok.inj _ _ _ e hc ▸ hi))
  ·by_cases hcc:c'=c
   ·subst hcc;exact⟨_,hc'⟩
   ·obtain⟨w2,z2⟩:=I.cell y c' e;exact⟨w2,z2.sameBut hs hcc⟩
  ·obtain⟨e,n,ne,nf,d⟩:=I.pin p hp;refine⟨(hs.2 p.1 ?_).trans e,n,ne,nf,d⟩;intro q;rw[q,hoc]at e;have q':oc=p.2:=aaq e;exact d w' (by rw[← q'];exact hocd)
theorem vD{M:Model}{A:Around}{E:Value->Shared->Prop}{i:Nat}{x:Str}{v:V}{u:Value}{Q:Unit->Shared->Prop}(I:Inv X pins σ H s)(hN:X.N.Nodup)(hi:X.N[i]?=some x)(hx:Loc X.env.scope x)(r:RelV v u)
  (h:∀s',Inv X pins (σ.set i (some v)) H s'->Q () s') (hf:X.fn x=true∨X.env.scope.names.lookup x=some .local:=by first | exact .inl rfl | exact .inr rfl | assumption):wpAny M A (storeName X.env x u) Q E s :=
 m6 I hN hi hx r (λs' I' _=>h s' I') hf
theorem Inv.zp{s':Shared}{ch:List Addr}(I:Inv X pins σ H s)(ho:s'.os=s.os)(u:Un (ia X.stack) ch H H' s.heap s'.heap)(hok:kc X.prog X.w H' s'.heap)(hg:AllBare s'.gens)
  (hch:∀b∈ch,(b∈X.ex∨X.s₀.heap.objs.size<=b)/\b≠X.env.locals/\(∀x c,X.env.cells.lookup x=some c->c≠b)/\∀p∈X.pn++pins,p.1≠b):Inv X pins σ H' s':=by
 obtain⟨h',g',d',t',o'⟩:=s';have e:o'=s.os:=ho;subst e;exact I.call (g':=g') (t':=t') (d':=d') u hok hg hch
end
abbrev XK:=Value->Option Addr->Hp->Prop
abbrev St:=List (Option V)
abbrev VK:=V->Hp->Prop
abbrev TE:=St->Hp->VK->Prop
abbrev TT:=St->Hp->(Bool->Hp->Prop)->Prop
abbrev TA:=St->Hp->(List V->Hp->Prop)->Prop
structure Ends where
 nx:St->Hp->Prop
 rt:VK
 bk:St->Hp->Prop:=λ_ _=>False
 ct:St->Hp->Prop:=λ_ _=>False
abbrev TS:=Ends->St->Hp->Prop
def EP(X:Cx)(pins:List (Addr×Obj))(σ:St)(Q:VK)(u:Value)(s':Shared):Prop:=∃v H',Inv X pins σ H' s'/\RelV v u/\Q v H'
def TP(X:Cx)(pins:List (Addr×Obj))(σ:St)(Q:Bool->Hp->Prop)(b:Bool)(s':Shared):Prop:=∃H',Inv X pins σ H' s'/\Q b H'
def AP(X:Cx)(pins:List (Addr×Obj))(σ:St)(Q:List V->Hp->Prop)(us:List Value)(s':Shared):Prop:=∃vs H',Inv X pins σ H' s'/\Vals vs us/\Q vs H'
def SP(X:Cx)(pins:List (Addr×Obj))(D:Ends)(f:Flow)(s':Shared):Prop :=
 match f with
 | .next=>∃σ' H',Inv X pins σ' H' s'/\D.nx σ' H'
 | .brk=>∃σ' H',Inv X pins σ' H' s'/\D.bk σ' H'
 | .cont=>∃σ' H',Inv X pins σ' H' s'/\D.ct σ' H'
 | .ret u=>∃v σ' H',Inv X pins σ' H' s'/\RelV v u/\D.rt v H'
def PE(X:Cx)(e:Expr)(t:TE):Prop :=
 ∀(pins:List (Addr×Obj)) (s:Shared) (σ:St) (H:Hp) (Q:VK),Inv X pins σ H s->t σ H Q->wpAny (model X.prog X.w) X.A (eval e X.env) (EP X pins σ Q) X.xe s
def PT(X:Cx)(e:Expr)(t:TT):Prop :=
 ∀(pins:List (Addr×Obj)) (s:Shared) (σ:St) (H:Hp) (Q:Bool->Hp->Prop),Inv X pins σ H s->t σ H Q->wpAny (model X.prog X.w) X.A (isTrue e X.env (eval e X.env)) (TP X pins σ Q) X.xe s
def PW(X:Cx)(e:Expr)(t:TT):Prop :=
 ∀(whole:Sem Value) (pins:List (Addr×Obj)) (s:Shared) (σ:St) (H:Hp) (Q:Bool->Hp->Prop),Inv X pins σ H s->t σ H Q->wpAny (model X.prog X.w) X.A (isTrue e X.env whole) (TP X pins σ Q) X.xe s
theorem PW.pt{X:Cx}{e:Expr}{t:TT}(h:PW X e t):PT X e t:=h _
def PA(X:Cx)(es:List Expr)(t:TA):Prop :=
 ∀(pos:Pos) (pins:List (Addr×Obj)) (s:Shared) (σ:St) (H:Hp) (Q:List V->Hp->Prop),Inv X pins σ H s->t σ H Q->wpAny (model X.prog X.w) X.A (spliced (backTo pos (starEach es X.env))) (AP X pins σ Q) X.xe s
def PS(X:Cx)(st:Stmt)(t:TS):Prop :=
 ∀(pins:List (Addr×Obj)) (s:Shared) (σ:St) (H:Hp) (D:Ends),Inv X pins σ H s->t D σ H->wpAny (model X.prog X.w) X.A (exec st X.env) (SP X pins D) X.xe s
def pV(X:Cx)(st:List Stmt)(t:TS):Prop :=
 ∀(pins:List (Addr×Obj)) (s:Shared) (σ:St) (H:Hp) (D:Ends),Inv X pins σ H s->t D σ H->wpAny (model X.prog X.w) X.A (execs st X.env) (SP X pins D) X.xe s
theorem bF{α:Type}{t:Sem α}{Q Q':α->Shared->Prop}{M:Model}{A:Around}{E:Value->Shared->Prop}{s:Shared}(h:wpAny M A t Q E s)(hQ:∀a s,Q a s->Q' a s):wpAny M A t Q' E s:=aat h hQ λ_ _ x=>x
section
variable {X:Cx}
inductive OO(i:Nat)(σ:St)(H:Hp)(Q:VK):Prop where
 | mk (v:V) (h:σ[i]?=some (some v)) (q:Q v H):OO i σ H Q
def Gw(i:Nat):TE:=λσ H Q=>OO i σ H Q
def tC(v:V):TE:=λ_ H Q=>Q v H
theorem Cq{i:Nat}{x:Str}{pos:Pos}(hN:X.N[i]?=some x)(hv:Ro X.env.scope x)(hd:(x == ("__debug__" : Str))=false:=by decide)(hcd:(x == ("__classdict__" : Str))=false:=by decide):PE X (.Name x pos) (Gw i):=by
 intro pins s σ H Q I h;obtain⟨v,e,h⟩:=h;obtain⟨m,hn,hl⟩:=I.loc;obtain⟨u,r,l⟩:=hl i x v hN e hv;have fin:EP X pins σ Q u s:=⟨v,H,I,r,h⟩;rcases l with⟨hk,hm⟩ | ⟨hk,c,hc,hcell⟩
 ·exact wpAny_Name (wpAny_loadName_local I.ok.kind hk hn hm fin) hd
 ·rcases hk with hk | hk
  ·exact wpAny_Name (wpAny_loadName_cell I.ok.kind hk hc hcell fin) hd
  ·exact wpAny_Name (wpAny_loadName_free I.ok.kind hk hc hcell fin hcd) hd
theorem pI{i j pos}:PE X (.Constant (.int i) j pos) (tC (.int i)):=λ_ _ _ H _ I h=>wpAny_Constant_int ⟨.int i,H,I.tok _,⟨_,rfl⟩,h⟩
theorem Cr{b j pos}:PE X (.Constant (.bool b) j pos) (tC (.bl b)):=λ_ _ _ H _ I h=>Constant_bool ⟨.bl b,H,I,rfl,h⟩
theorem lz{j pos}:PE X (.Constant .none j pos) (tC .non):=λ_ _ _ H _ I h=>Constant_none ⟨.non,H,I,rfl,h⟩
theorem aP{x j pos}:PE X (.Constant (.str x) j pos) (tC (.str x)):=λ_ _ _ H _ I h=>Calls.Constant_str ⟨.str x,H,I.tok _,⟨_,rfl⟩,h⟩
def Gl(X:Cx)(x:Str):Prop:=X.env.kindOf x=some .globalImplicit
theorem fM{E:Value->Shared->Prop}{pins:List (Addr×Obj)}{s:Shared}{σ:St}{H:Hp}{x:Str}{u:Value}{pos:Pos}{Q:Value->Shared->Prop}(I:Inv X pins σ H s)(hg:Gl X x)(hm:X.mg x=some u)(h:Q u s)
  (hd:(x == ("__debug__" : Str))=false:=by decide):wpAny (model X.prog X.w) X.A (eval (.Name x pos) X.env) Q E s :=
 ab8 I.ok.kind hg (Calls.loadGlobal_global (by rw[I.ok.glob];exact I.mod.glob.keeps I.bk) hm h) hd
theorem lA{E:Value->Shared->Prop}{pins:List (Addr×Obj)}{s:Shared}{σ:St}{H:Hp}{x:Str}{u:Value}{pos:Pos}{Q:Value->Shared->Prop}(I:Inv X pins σ H s)(hg:Gl X x)(hm:X.mg x=none)(hv:bootBuiltins x=some u)(h:Q u s)
  (hn:x≠"__name__":=by decide) (hd:(x == ("__debug__" : Str))=false:=by decide):wpAny (model X.prog X.w) X.A (eval (.Name x pos) X.env) Q E s:=by
 obtain⟨mb,h1,h2⟩:=I.mod.blt;exact ab8 I.ok.kind hg (Calls.loadGlobal_builtin (by rw[I.ok.glob];exact I.mod.glob.keeps I.bk) hm (by rw[I.ok.blt];exact h1.keeps I.bk) ((h2 x hn).trans hv) h) hd
theorem kT{x:Str}{v:V}{u:Value}{pos:Pos}(hg:Gl X x)(hm:X.mg x=some u)(r:RelV v u)(hd:(x == ("__debug__" : Str))=false:=by decide):PE X (.Name x pos) (tC v) :=
 λ_ _ _ H _ I h=>fM I hg hm ⟨v,H,I,r,h⟩ hd
theorem Gx{x:Str}{v:V}{u:Value}{pos:Pos}(hg:Gl X x)(hm:X.mg x=none)(hv:bootBuiltins x=some u)(r:RelV v u)(hn:x≠"__name__":=by decide)(hd:(x == ("__debug__" : Str))=false:=by decide):PE X (.Name x pos) (tC v) :=
 λ_ _ _ H _ I h=>lA I hg hm hv ⟨v,H,I,r,h⟩ hn hd
variable {a b:Expr} {ta tb:TE} {pos:Pos}
inductive RZ(x:V)(H:Hp)(Q:Bool->Hp->Prop):Prop where
 | mk (c:Bool) (e:x=.bl c) (q:Q c H):RZ x H Q
def tB(t:TE):TT:=λσ H Q=>t σ H λx H1=>RZ x H1 Q
theorem xt{e:Expr}{t:TE}(h:PE X e t)(he:∀whole,isTrue e X.env whole=(do let v ← whole;standAt e.pos;holding [v] (truthy v)):=by intro _;rfl):PT X e (tB t):=by
 intro pins s σ H Q I hw;refine isTrue_plain (bF (h pins s σ H _ I hw) λv s1 ⟨x,H1,I1,r1,q1⟩=>?_) (he _);obtain⟨d,rfl,q⟩:=q1;cases r1;exact aaS ⟨H1,I1,q⟩
variable {tA tB':TT} {rest:List Expr}
def OP(t u:TT):TT:=λσ H Q=>t σ H λc H1=>if c=true then u σ H1 Q else Q false H1
def Vo(t u:TT):TT:=λσ H Q=>t σ H λc H1=>if c=true then Q true H1 else u σ H1 Q
def R0(t:TT):TT:=λσ H Q=>t σ H λc H1=>Q (!c) H1
theorem pw_and1(ha:PT X a tA):PW X (.BoolOp .And [a] pos) tA:=by
 intro wh pins s σ H Q I h;refine isTrue_and (bF (ha pins s σ H Q I h) λc s1 e=>?_)
 cases c with
 | true=>exact isTrue_and_nil e
 | false=>exact e
theorem pw_or1(ha:PT X a tA):PW X (.BoolOp .Or [a] pos) tA:=by
 intro wh pins s σ H Q I h;refine isTrue_or (bF (ha pins s σ H Q I h) λc s1 e=>?_)
 cases c with
 | false=>exact isTrue_or_nil e
 | true=>exact e
theorem pw_and(ha:PT X a tA)(hb:PW X (.BoolOp .And (b::rest) pos) tB'):PW X (.BoolOp .And (a::b::rest) pos) (OP tA tB'):=by
 intro wh pins s σ H Q I h;refine isTrue_and (bF (ha pins s σ H _ I h) λc s1 ⟨H1,I1,q1⟩=>?_)
 cases c with
 | true=>exact hb wh pins s1 σ H1 Q I1 q1
 | false=>exact⟨H1,I1,q1⟩
theorem pw_or(ha:PT X a tA)(hb:PW X (.BoolOp .Or (b::rest) pos) tB'):PW X (.BoolOp .Or (a::b::rest) pos) (Vo tA tB'):=by
 intro wh pins s σ H Q I h;refine isTrue_or (bF (ha pins s σ H _ I h) λc s1 ⟨H1,I1,q1⟩=>?_)
 cases c with
 | true=>exact⟨H1,I1,q1⟩
 | false=>exact hb wh pins s1 σ H1 Q I1 q1
theorem xu(ha:PT X a tA):PT X (.UnaryOp .Not a pos) (R0 tA):=by
 intro pins s σ H Q I h;exact isTrue_not (ha pins s σ H (λc H1=>Q (!c) H1) I h)
def OQ(ta tb:TE):TE:=λσ H Q=>ta σ H λx H1=>∃c,x=.bl c/\if c=true then tb σ H1 Q else Q (.bl false) H1
def R3(ta tb:TE):TE:=λσ H Q=>ta σ H λx H1=>∃c,x=.bl c/\if c=true then Q (.bl true) H1 else tb σ H1 Q
def OR(ta:TE):TE:=λσ H Q=>ta σ H λx H1=>∃c,x=.bl c/\Q (.bl (!c)) H1
theorem tP{op}{t:TE}(h:PE X a t):PE X (.BoolOp op [a] pos) t:=λpins s σ H Q I hw=>BoolOp_one (h pins s σ H Q I hw)
theorem xv(ha:PE X a ta)(hb:PE X (.BoolOp .And (b::rest) pos) tb):PE X (.BoolOp .And (a::b::rest) pos) (OQ ta tb):=by
 intro pins s σ H Q I h;refine BoolOp_and (bF (ha pins s σ H _ I h) λv s1 ⟨x,H1,I1,r1,q1⟩=>?_);obtain⟨c,rfl,q1⟩:=q1;cases r1;refine aaS ?_
 cases c with
 | true=>exact hb pins s1 σ H1 Q I1 q1
 | false=>exact⟨.bl false,H1,I1,rfl,q1⟩
theorem OS(ha:PE X a ta)(hb:PE X (.BoolOp .Or (b::rest) pos) tb):PE X (.BoolOp .Or (a::b::rest) pos) (R3 ta tb):=by
 intro pins s σ H Q I h;refine BoolOp_or (bF (ha pins s σ H _ I h) λv s1 ⟨x,H1,I1,r1,q1⟩=>?_);obtain⟨c,rfl,q1⟩:=q1;cases r1;refine aaS ?_
 cases c with
 | false=>exact hb pins s1 σ H1 Q I1 q1
 | true=>exact⟨.bl true,H1,I1,rfl,q1⟩
theorem K4(ha:PE X a ta):PE X (.UnaryOp .Not a pos) (OR ta):=by
 intro pins s σ H Q I h;refine UnaryOp_ (bF (ha pins s σ H _ I h) λv s1 ⟨x,H1,I1,r1,q1⟩=>?_);obtain⟨c,rfl,q1⟩:=q1;cases r1;exact not_of (aaS ⟨.bl (!c),H1,I1,rfl,q1⟩)
def W6(t:TT)(ta tb:TE):TE:=λσ H Q=>t σ H λc H1=>if c=true then ta σ H1 Q else tb σ H1 Q
theorem pW{c:Expr}(hc:PT X c tA)(ha:PE X a ta)(hb:PE X b tb):PE X (.IfExp c a b pos) (W6 tA ta tb):=by
 intro pins s σ H Q I h;refine wpAny_IfExp (bF (hc pins s σ H _ I h) λd s1 ⟨H1,I1,q1⟩=>?_)
 cases d with
 | true=>exact ha pins s1 σ H1 Q I1 q1
 | false=>exact hb pins s1 σ H1 Q I1 q1
end
def bu(K:aJ)(H:Hp)(a:Addr)(xs:List V):Prop :=
 Rd H a (.lst xs) ∨
  ∃(o:Obj) (its:Array Value) (n:Nat),K.lookup a=some o/\o.cls=.type "list"/\o.dict=none/\o.data=.seq its n/\its.size<=sizeLine/\Vals xs its.toList
def bV(K:aJ)(H:Hp)(a:Addr)(xs:List V):Prop :=
 Rd H a (.tup xs) ∨
  ∃(o:Obj) (its:Array Value) (n:Nat),K.lookup a=some o/\o.cls=.type "tuple"/\o.data=.seq its n/\its.size<=sizeLine/\Vals xs its.toList
def R4:Value->Option V
 | .none=>some .non
 | .bool b=>some (.bl b)
 | .int i _=>some (.int i)
 | .str x _=>some (.str x)
 | .bytes b _=>some (.byt b)
 | .float b _=>some (.flt b)
 | .ref a=>some (.ref a)
 | .type n=>some (.ty n)
 | _=>none
theorem RelV.abs{x:V}{u:Value}(r:RelV x u):R4 u=some x:=by
 cases x with
 | non=>cases r;rfl
 | bl _=>cases r;rfl
 | int _=>obtain⟨t,rfl⟩:=r;rfl
 | str _=>obtain⟨t,rfl⟩:=r;rfl
 | byt _=>obtain⟨t,rfl⟩:=r;rfl
 | flt _=>obtain⟨t,rfl⟩:=r;rfl
 | ref _=>cases r;rfl
 | ty _=>cases r;rfl
theorem RelV.inj{x y:V}{u:Value}(r:RelV x u)(q:RelV y u):x=y:=aaq (r.abs.symm.trans q.abs)
theorem Vals.inj:∀{xs ys:List V} {us:List Value},Vals xs us->Vals ys us->xs=ys
 | _,_,_,.nil,.nil=>rfl
 | _,_,_,.cons r t,.cons r' t'=>by rw[r.inj r',Vals.inj t t']
section
variable {X:Cx} {pins:List (Addr×Obj)} {σ:St} {H:Hp} {s:Shared} {a:Addr} {xs ys:List V}
theorem bu.of{K:aJ}(h:H a=some (.lst xs)):bu K H a xs:=.inl (.inl h)
theorem bV.of{K:aJ}(h:H a=some (.tup xs)):bV K H a xs:=.inl (.inl h)
theorem Inv.list(I:Inv X pins σ H s)(h:bu X.K H a xs):∃its:List Value,Vals xs its/\PlainL s.heap a its.toArray/\xs.length<=sizeLine:=by
 rcases h with h | ⟨o,its,n,hk,hc,hd,hs,hz,r⟩
 ·obtain⟨z,its,n,r,e⟩:=h.ok I.hok;exact⟨its,r,⟨_,n,e,rfl,rfl,rfl⟩,z⟩
 ·refine⟨its.toList,r,⟨o,n,I.iL a o hk,hc,hd,by simpa using hs⟩,?_⟩;have e:=r.length;simp only[Array.length_toList]at e;omega
theorem Inv.tuple(I:Inv X pins σ H s)(h:bV X.K H a xs):∃its:List Value,Vals xs its/\IsTup s.heap a its.toArray/\xs.length<=sizeLine:=by
 rcases h with h | ⟨o,its,n,hk,hc,hs,hz,r⟩
 ·obtain⟨z,its,r,p⟩:=h.ok I.hok;exact⟨its,r,p,z⟩
 ·refine⟨its.toList,r,⟨o,I.iL a o hk,hc,n,by simpa using hs⟩,?_⟩;have e:=r.length;simp only[Array.length_toList]at e;omega
theorem Inv.Cs(I:Inv X pins σ H s)(h:bu X.K H a xs)(h':bu X.K H a ys):xs=ys:=by
 obtain⟨its,r,⟨o,n,e,_,_,d⟩,_⟩:=I.list h;obtain⟨its',r',⟨o',n',e',_,_,d'⟩,_⟩:=I.list h';rw[e]at e';cases e';rw[d]at d'
 injection d' with d1 _
 have:its=its':=by simpa using congrArg Array.toList d1
 subst this;exact r.inj r'
theorem Inv.Ay(I:Inv X pins σ H s)(h:bV X.K H a xs)(h':bV X.K H a ys):xs=ys:=by
 obtain⟨its,r,⟨o,e,_,n,d⟩,_⟩:=I.tuple h;obtain⟨its',r',⟨o',e',_,n',d'⟩,_⟩:=I.tuple h';rw[e]at e';cases e';rw[d]at d'
 injection d' with d1 _
 have:its=its':=by simpa using congrArg Array.toList d1
 subst this;exact r.inj r'
end
abbrev Cx.eR(X:Cx)(E:Value->Shared->Prop):Cx:={X with xe:=E}
abbrev Cx.Rp(X:Cx):Cx:=X.eR λ_ _=>False
theorem Cx.Ok.eR{X:Cx}(ok:X.Ok)(E:Value->Shared->Prop):(X.eR E).Ok :=
 ⟨ok.mod,ok.kind,ok.glob,ok.blt,ok.above,ok.inj,ok.has,ok.cab,ok.hd,ok.frames,ok.stk,ok.exf,ok.bs,ok.bsz,ok.noex,ok.exfs,ok.m5,ok.frf⟩
theorem Cx.Ok.fA{X:Cx}{E:Value->Shared->Prop}(ok:(X.eR E).Ok):X.Ok :=
 ⟨ok.mod,ok.kind,ok.glob,ok.blt,ok.above,ok.inj,ok.has,ok.cab,ok.hd,ok.frames,ok.stk,ok.exf,ok.bs,ok.bsz,ok.noex,ok.exfs,ok.m5,ok.frf⟩
section
variable {X:Cx} {pins:List (Addr×Obj)} {σ:St} {H:Hp} {s:Shared} {E:Value->Shared->Prop}
theorem Inv.eR(I:Inv X pins σ H s)(E:Value->Shared->Prop):Inv (X.eR E) pins σ H s:=⟨I.ok.eR E,I.os,I.bare,I.base,I.loc,I.cell,I.free,I.freeC,I.pin,I.hok,I.len⟩
theorem Inv.fA(I:Inv (X.eR E) pins σ H s):Inv X pins σ H s:=⟨I.ok.fA,I.os,I.bare,I.base,I.loc,I.cell,I.free,I.freeC,I.pin,I.hok,I.len⟩
theorem SP.fA{D:Ends}{f:Flow}{s':Shared}(h:SP (X.eR E) pins D f s'):SP X pins D f s':=by
 cases f with
 | next=>obtain⟨σ',H',I,q⟩:=h;exact⟨σ',H',I.fA,q⟩
 | brk=>obtain⟨σ',H',I,q⟩:=h;exact⟨σ',H',I.fA,q⟩
 | cont=>obtain⟨σ',H',I,q⟩:=h;exact⟨σ',H',I.fA,q⟩
 | ret u=>obtain⟨v,σ',H',I,r,q⟩:=h;exact⟨v,σ',H',I.fA,r,q⟩
theorem pV.Rp{st:List Stmt}{t:TS}(h:pV X.Rp st t):pV X st t:=λpins s σ H D I hw =>
 aat (h pins s σ H D (I.eR _) hw) (λ_ _ q=>q.fA) λ_ _ z=>False.elim z
end
section
variable {X:Cx} {st:Stmt} {rest:List Stmt} {t u:TS} {e:Expr} {te:TE} {pos:Pos}
def pX:TS:=λD σ H=>D.nx σ H
def Gy(t u:TS):TS:=λD σ H=>t {D with nx:=u D} σ H
theorem aM:pV X [] pX:=λ_ _ σ H _ I h=>abp ⟨σ,H,I,h⟩
theorem qK(h1:PS X st t)(h2:pV X rest u):pV X (st::rest) (Gy t u):=by
 intro pins s σ H D I h;refine abM (bF (h1 pins s σ H {D with nx:=u D} I h) λf s1 q=>?_)
 cases f with
 | next =>
  obtain⟨σ',H',I',q⟩:=q;exact h2 pins s1 σ' H' D I' q
 | ret v=>exact q
 | brk=>exact q
 | cont=>exact q
theorem qO(h1:PS X st t):pV X [st] t:=by
 intro pins s σ H D I h;refine abM (bF (h1 pins s σ H D I h) λf s1 q=>?_)
 cases f with
 | next=>exact abp q
 | ret v=>exact q
 | brk=>exact q
 | cont=>exact q
theorem Inv.quiet{pins:List (Addr×Obj)}{σ:St}{H:Hp}{s:Shared}(I:Inv X pins σ H s):interactive X.env=false:=by simp[interactive,I.ok.kind]
def JV(te:TE):TS:=λD σ H=>te σ H λ_ H1=>D.nx σ H1
theorem gQ(he:PE X e te)(hs:swapsWith e none pos.line X.env=pure false:=by rfl):PS X (.Expr e pos) (JV te):=by
 intro pins s σ H D I h;exact wpAny_Expr_any (bF (he pins s σ H _ I h) λv s1 ⟨x,H1,I1,r1,q1⟩=>⟨σ,H1,I1,q1⟩) I.quiet hs
def K5(te:TE):TS:=λD σ H=>te σ H D.rt
theorem aL(he:PE X e te):PS X (.Return (some e) pos) (K5 te):=by
 intro pins s σ H D I h;exact wpAny_Return_some (bF (he pins s σ H _ I h) λv s1 ⟨x,H1,I1,r1,q1⟩=>⟨x,σ,H1,I1,r1,q1⟩)
def R5(c:TT)(t u:TS):TS:=λD σ H=>c σ H λb H1=>if b=true then t D σ H1 else u D σ H1
theorem bg{c:Expr}{a b:List Stmt}{tc:TT}(hc:PT X c tc)(ha:pV X a t)(hb:pV X b u):PS X (.If c a b pos) (R5 tc t u):=by
 intro pins s σ H D I h;refine wpAny_If (bF (hc pins s σ H _ I h) λd s1 ⟨H1,I1,q1⟩=>?_)
 cases d with
 | true=>exact ha pins s1 σ H1 D I1 q1
 | false=>exact hb pins s1 σ H1 D I1 q1
def K6:TS:=λ_ _ _=>False
theorem vF:PS X st K6:=λ_ _ _ _ _ _ h=>h.elim
end
abbrev TG:=V->St->Hp->(St->Hp->Prop)->Prop
abbrev B1:=List V->St->Hp->(St->Hp->Prop)->Prop
def PG(X:Cx)(target:Expr)(t:TG):Prop :=
 ∀(pins:List (Addr×Obj)) (s:Shared) (σ:St) (H:Hp) (v:V) (u:Value) (Q:St->Hp->Prop),Inv X pins σ H s->RelV v u->t v σ H Q ->
  wpAny (model X.prog X.w) X.A (assign target X.env u) (λ_ s'=>∃σ' H',Inv X pins σ' H' s'/\Q σ' H') X.xe s
def Oh(X:Cx)(ts:List Expr)(t:B1):Prop :=
 ∀(pins:List (Addr×Obj)) (s:Shared) (σ:St) (H:Hp) (vs:List V) (us:List Value) (Q:St->Hp->Prop),Inv X pins σ H s->Vals vs us->t vs σ H Q ->
  wpAny (model X.prog X.w) X.A (assignInOrder ((assignEach ts X.env).map (·.2)) us) (λ_ s'=>∃σ' H',Inv X pins σ' H' s'/\Q σ' H') X.xe s
abbrev K7:=V->V->V->Hp->(Hp->Prop)->Prop
def OT(X:Cx)(t:K7):Prop :=
 ∀(pins:List (Addr×Obj)) (s:Shared) (σ:St) (H:Hp) (o i v:V) (ov iv u:Value) (Q:Hp->Prop),Inv X pins σ H s->RelV o ov->RelV i iv->RelV v u->t o i v H Q ->
  wpAny (model X.prog X.w) X.A (setItem ov iv u) (λ_ s'=>∃H',Inv X pins σ H' s'/\Q H') X.xe s
section
variable {X:Cx} {pos:Pos}
def sj(i:Nat):TG:=λv σ H Q=>Q (σ.set i (some v)) H
theorem bf{i:Nat}{x:Str}(hN:X.N.Nodup)(hi:X.N[i]?=some x)(hx:Loc X.env.scope x)(hf:X.fn x=true∨X.env.scope.names.lookup x=some .local:=by first | exact .inl rfl | exact .inr rfl | assumption):PG X (.Name x pos) (sj i):=by
 intro pins s σ H v u Q I r h;exact wpAny_assign_Name (vD I hN hi hx r (λs' I'=>⟨_,H,I',h⟩) hf)
def R6:B1:=λvs σ H Q=>vs=[]/\Q σ H
def JW(t:TG)(u:B1):B1:=λvs σ H Q=>∃v r,vs=v::r/\t v σ H λσ' H'=>u r σ' H' Q
theorem tQ:Oh X [] R6:=by
 intro pins s σ H vs us Q I r h;obtain⟨e,h⟩:=h;subst e;cases r;exact assignInOrder_nil ⟨σ,H,I,h⟩
theorem ke{e:Expr}{es:List Expr}{t:TG}{u:B1}(h1:PG X e t)(h2:Oh X es u)
  (hs:(assignEach (e::es) X.env).map (·.2)=assign e X.env::(assignEach es X.env).map (·.2):=by rfl):Oh X (e::es) (JW t u):=by
 intro pins s σ H vs us Q I r h;obtain⟨v,vr,e1,h⟩:=h;subst e1
 cases r with
 | cons r rr =>
  rw[hs];refine assignInOrder_cons (bF (h1 pins s σ H _ _ _ I r h) λ_ s1 ⟨σ1,H1,I1,q1⟩=>?_);exact h2 pins s1 σ1 H1 _ _ Q I1 rr q1
def OU(K:aJ)(n:Nat)(t:B1):TG:=λv σ H Q=>∃a xs,v=.ref a/\bV K H a xs/\xs.length=n/\t xs σ H Q
theorem Ct{es:List Expr}{k:Nat}{t:B1}{n:Nat}(hc:X.calm=true)(h:Oh X es t)
  (hn:(assignEach es X.env).length=n:=by rfl) (hst:(assignEach es X.env).findIdx? (·.1)=none:=by rfl):PG X (.Tuple es k pos) (OU X.K n t):=by
 intro pins s σ H v u Q I r hw;obtain⟨a,xs,e1,hq,hl,hw⟩:=hw;subst e1;cases r;obtain⟨its,rv,ht,hz⟩:=I.tuple hq;refine assign_Tuple_tuple (I.ok.hd hc) ht (by simp[hn,← hl,rv.length]) hst λh' hx=>?_
 have I1:Inv X pins σ H {s with heap:=h'}:=I.kept (t':=s.toks) λb o e=>hx b o (aak (aad e)) e
 exact h pins _ σ H xs _ Q I1 (by simpa using rv) hw
def OV(to ti:TE)(t:K7):TG:=λv σ H Q=>to σ H λo H1=>ti σ H1 λi H2=>t o i v H2 λH3=>Q σ H3
theorem m7{o i:Expr}{to ti:TE}{t:K7}(ho:PE X o to)(hi:PE X i ti)(hs:OT X t)
  (ha:∀v,assign (.Subscript o i pos) X.env v=(do
   let ov ← holding [v] (eval o X.env)
   let iv ← holding [v,ov] (eval i X.env)
   standAt pos
   holding [v,ov,iv] (setItem ov iv v)
   release [v,ov,iv] []):=by intro _;rfl):PG X (.Subscript o i pos) (OV to ti t):=by
 intro pins s σ H v u Q I r h;rw[ha];refine aac (aaP (bF (ho pins s σ H _ I h) λov s1 ⟨x,H1,I1,r1,q1⟩=>?_));refine aac (aaP (bF (hi pins s1 σ H1 _ I1 q1) λiv s2 ⟨y,H2,I2,r2,q2⟩=>?_));refine aac (aba (aac (aaP (bF (hs pins s2 σ H2 x y v ov iv u _ I2 r1 r2 r q2) λ_ s3 ⟨H3,I3,q3⟩=>?_))));exact wpAny_release ⟨σ,H3,I3,q3⟩
def Gz(te:TE)(g:TG):TS:=λD σ H=>te σ H λx H1=>g x σ H1 D.nx
theorem lB{tg e:Expr}{te:TE}{g:TG}(he:PE X e te)(hg:PG X tg g)(hs:swapsWithSole [tg] e pos.line X.env=pure false:=by rfl)(hw:swappedStores [tg] e X.env=pure none:=by rfl)
  (h1:(assignEach [tg] X.env).map (·.2)=[assign tg X.env]:=by rfl):PS X (.Assign [tg] e pos) (Gz te g):=by
 intro pins s σ H D I h;refine wpAny_Assign_stores (bF (he pins s σ H _ I h) λv s1 ⟨x,H1,I1,r1,q1⟩=>?_) hs hw;rw[h1];exact bF (hg pins s1 σ H1 x v _ I1 r1 q1) λ_ s2 q=>q
theorem cy{i:Nat}{x:Str}{e:Expr}{te:TE}{pos':Pos}(hN:X.N.Nodup)(hi:X.N[i]?=some x)(hx:Loc X.env.scope x)(he:PE X e te)(hs:swapsWith e (some (.Name x pos')) pos.line X.env=pure false:=by rfl)(hf:X.fn x=true∨X.env.scope.names.lookup x=some .local:=by first | exact .inl rfl | exact .inr rfl | assumption):
  PS X (.Assign [.Name x pos'] e pos) (Gz te (sj i)):=by
 intro pins s σ H D I h;refine wpAny_Assign_Name (bF (he pins s σ H _ I h) λv s1 ⟨y,H1,I1,r1,q1⟩=>?_) hs;exact vD I1 hN hi hx r1 (λs2 I2=>⟨_,H1,I2,q1⟩) hf
end
section
variable {X:Cx} {pos:Pos}
end
structure It where
 go:Nat->Hp->Prop
 yld:Nat->Hp->V->Hp->Prop
 stop:Nat->Hp->Prop
def j7(X:Cx)(pins:List (Addr×Obj))(H:Hp)(b:Addr):Prop :=
 H b=none/\b≠X.env.locals/\b∉X.fs/\(b∈X.ex∨X.s₀.heap.objs.size<=b)/\(∀x c,X.env.cells.lookup x=some c->c≠b)/\∀p∈X.pn++pins,p.1≠b
theorem Inv.GA{X:Cx}{pins:List (Addr×Obj)}{σ:St}{H H':Hp}{s:Shared}{b:Addr}(I:Inv X pins σ H s)(hb:s.heap.objs.size<=b)(hn:H' b=none):j7 X pins H' b:=by
 refine⟨hn,aaJ (aah I.lt hb),I.RY hb,.inr (aaA I.sz hb),λx c e z=>?_,λp hp z=>?_⟩
 ·obtain⟨v,q⟩:=I.cell x c e;exact absurd (aah q.lt (by rw[z];exact hb)) (aaG _)
 ·exact absurd (aah (aad (I.pin p hp).1) (by rw[z];exact hb)) (aaG _)
structure Turn(P:Program)(w:World)(K:aJ)(tg:Expr)(J:It)(fp:List Addr)(it:Addr)(tn:Nat->Heap->Prop):Prop where
 mem:it∈fp
 obj:∀i h,tn i h->∀b∈fp,∃o,h.get? b=some o/\∀v,o.data≠.cell v
 keep:∀i h h',tn i h->(∀b∈fp,∀o,h.get? b=some o->h'.get? b=some o)->tn i h'
 item:∀(X:Cx),X.prog=P->X.w=w->X.K=K->X.calm=true->∀(i:Nat) (pins:List (Addr×Obj)) (s:Shared) (σ:St) (H:Hp) (E:Value->Shared->Prop),Inv X pins σ H s->(∀b∈fp,j7 X pins H b)->tn i s.heap->J.go i H ->
  wpAny (model P w) X.A (pyNext (.ref it)) (λr s1=>∃u,r=some u /\
   wpAny (model P w) X.A (letOwnedTupleGo tg (.ref it) u) (λ_ s2=>∃x H',Inv X pins σ H' s2/\RelV x u/\J.yld i H x H'/\tn (i + 1) s2.heap/\∀b∈fp,H' b=none) E s1) E s
 done:∀(X:Cx),X.prog=P->X.w=w->X.K=K->X.calm=true->∀(i:Nat) (pins:List (Addr×Obj)) (s:Shared) (σ:St) (H:Hp) (E:Value->Shared->Prop),Inv X pins σ H s->(∀b∈fp,j7 X pins H b)->tn i s.heap->J.stop i H ->
  wpAny (model P w) X.A (pyNext (.ref it)) (λr s1=>r=none/\Inv X pins σ H s1) E s
 self:∀(A:Around) (i:Nat) (s:Shared) (Q:Value->Shared->Prop) (E:Value->Shared->Prop),tn i s.heap->Q (.ref it) s->wpAny (model P w) A (pyIter (.ref it)) Q E s
abbrev TI:=St->Hp->(It->Hp->Prop)->Prop
def Vp(X:Cx)(pins:List (Addr×Obj))(σ:St)(tg:Expr)(R:It->Hp->Prop)(itv:Value)(s2:Shared):Prop :=
 ∃(it:Addr) (fp:List Addr) (tn:Nat->Heap->Prop) (J:It) (H':Hp),itv=.ref it/\Inv X pins σ H' s2/\Turn X.prog X.w X.K tg J fp it tn/\tn 0 s2.heap/\(∀b∈fp,j7 X pins H' b)/\R J H'
def PI(X:Cx)(tg iter:Expr)(wi:TI):Prop :=
 ∀(pins:List (Addr×Obj)) (s:Shared) (σ:St) (H:Hp) (R:It->Hp->Prop),Inv X pins σ H s->wi σ H R ->
  wpAny (model X.prog X.w) X.A (eval iter X.env) (λv s1=>wpAny (model X.prog X.w) X.A (pyIter v) (Vp X pins σ tg R) X.xe s1) X.xe s
theorem Cu{M:Model}{A:Around}{E:Value->Shared->Prop}{s:Shared}{tg:Expr}{it:Addr}{u:Value}{o:Obj}{n:String}{vs:Array Value}{Q:Unit->Shared->Prop}(ho:s.heap.get? it=some o)(hc:o.cls=.type n)(hd:o.data=.fields vs)
  (hn:["enumerate","zip","dict_itemiterator","dict_reverseitemiterator","odict_iterator","itertools.zip_longest","itertools.pairwise"].contains n=false) (hQ:Q () s):wpAny M A (letOwnedTupleGo tg (.ref it) u) Q E s:=by
 unfold letOwnedTupleGo;cases tg<;>first
  | exact aag hQ
  | (cases u<;>first
    | exact aag hQ
    | (refine aac (wpAny_load ho ?_)
       rw[hc,hd];show wpAny M A (if (["enumerate","zip","dict_itemiterator","dict_reverseitemiterator","odict_iterator","itertools.zip_longest","itertools.pairwise"].contains n&&vs[0]? == some (rawInt _))=true then _ else _) Q E s;rw[aan (by intro h;rw[hn,Bool.false_and]at h;cases h)];exact aag hQ))
def FN(K:aJ)(a:Addr):It :=
 ⟨λi H=>∃xs x,bu K H a xs/\xs[i]?=some x,λi H x H'=>H'=H/\∀xs,bu K H a xs->xs[i]?=some x,λi H=>∃xs,bu K H a xs/\xs.length<=i⟩
def Oi(K:aJ)(a:Addr):It :=
 ⟨λi H=>∃xs x,bV K H a xs/\xs[i]?=some x,λi H x H'=>H'=H/\∀xs,bV K H a xs->xs[i]?=some x,λi H=>∃xs,bV K H a xs/\xs.length<=i⟩
def Rq(lo:Int)(n:Nat):It:=⟨λi _=>i < n,λi H x H'=>H'=H/\x=.int (lo + i),λi _=>n<=i⟩
theorem sk{P:Program}{w:World}{K:aJ}{tg:Expr}(a it:Addr):Turn P w K tg (FN K a) [it] it (λi h=>h.IsListIter it a i) where
 mem:=by simp
 obj:=λi h st b hb=>by
  have e:b=it:=by simpa using hb
  subst e;obtain⟨o,e,c,d⟩:=st;exact⟨o,e,λv z=>by rw[d]at z;cases z⟩
 keep:=λi h h' st k=>st.at λo e=>k it (by simp) o e
 item:=by
  intro X hP hw hK hc i pins s σ H E I hf st hg;subst hP hw hK;obtain⟨xs,x,hq,hx⟩:=hg;obtain⟨its,rv,p,hz⟩:=I.list hq;obtain⟨u,hu,ru⟩:=rv.get hx;obtain⟨f0,f1,f2,f3,f4,f5⟩:=hf it (by simp);refine wpAny_pyNext_list_item st p.isList (x:=u) (by simpa using hu) λh' st' sb=>?_
  have I1:Inv X pins σ H {s with heap:=h'}:=I.turned (t':=s.toks) (λb o hb e=>(sb.2 b hb).trans e) f0 f1 f3 f4 f5;obtain⟨o,e,c,d⟩:=id st';exact⟨u,rfl,Cu (s:={s with heap:=h'}) e c d (by decide) ⟨x,H,I1,ru,⟨rfl,λys hy=>by rw[I.Cs hy hq];exact hx⟩,st',λb hb=>(hf b hb).1⟩⟩
 done:=by
  intro X hP hw hK hc i pins s σ H E I hf st hg;subst hP hw hK;obtain⟨xs,hq,hx⟩:=hg;obtain⟨its,rv,p,hz⟩:=I.list hq;obtain⟨f0,f1,f2,f3,f4,f5⟩:=hf it (by simp);have hl:=rv.length;exact wpAny_pyNext_list_end (I.ok.hd hc) st p.isList (by simp;omega) λh' eb=>⟨rfl,I.turned (t':=s.toks) (λb o hb e=>eb b o hb e) f0 f1 f3 f4 f5⟩
 self:=λ_ _ _ _ _ st h=>wpAny_pyIter_listiter st h
theorem xw{P:Program}{w:World}{K:aJ}{tg:Expr}(a it:Addr):Turn P w K tg (Oi K a) [it] it (λi h=>h.IsTupleIter it a i) where
 mem:=by simp
 obj:=λi h st b hb=>by
  have e:b=it:=by simpa using hb
  subst e;obtain⟨o,e,c,d⟩:=st;exact⟨o,e,λv z=>by rw[d]at z;cases z⟩
 keep:=λi h h' st k=>st.at λo e=>k it (by simp) o e
 item:=by
  intro X hP hw hK hc i pins s σ H E I hf st hg;subst hP hw hK;obtain⟨xs,x,hq,hx⟩:=hg;obtain⟨its,rv,p,hz⟩:=I.tuple hq;obtain⟨u,hu,ru⟩:=rv.get hx;obtain⟨f0,f1,f2,f3,f4,f5⟩:=hf it (by simp);refine wpAny_pyNext_tuple_item st (show s.heap.IsTuple a its.toArray from p) (x:=u) (by simpa using hu) λh' st' sb=>?_
  have I1:Inv X pins σ H {s with heap:=h'}:=I.turned (t':=s.toks) (λb o hb e=>(sb.2 b hb).trans e) f0 f1 f3 f4 f5;obtain⟨o,e,c,d⟩:=id st';exact⟨u,rfl,Cu (s:={s with heap:=h'}) e c d (by decide) ⟨x,H,I1,ru,⟨rfl,λys hy=>by rw[I.Ay hy hq];exact hx⟩,st',λb hb=>(hf b hb).1⟩⟩
 done:=by
  intro X hP hw hK hc i pins s σ H E I hf st hg;subst hP hw hK;obtain⟨xs,hq,hx⟩:=hg;obtain⟨its,rv,p,hz⟩:=I.tuple hq;obtain⟨f0,f1,f2,f3,f4,f5⟩:=hf it (by simp);have hl:=rv.length;exact wpAny_pyNext_tuple_end (I.ok.hd hc) st (show s.heap.IsTuple a its.toArray from p) (by simp;omega) λh' eb=>⟨rfl,I.turned (t':=s.toks) (λb o hb e=>eb b o hb e) f0 f1 f3 f4 f5⟩
 self:=λ_ _ _ _ _ st h=>wpAny_pyIter_tupleiter st h
theorem xy{P:Program}{w:World}{K:aJ}{tg:Expr}(it:Addr)(lo:Int)(n:Nat):Turn P w K tg (Rq lo n) [it] it (λi h=>IsRangeIter h it (lo + (i:Nat) * 1) ((n:Int) - (i:Nat)) 1) where
 mem:=by simp
 obj:=λi h st b hb=>by
  have e:b=it:=by simpa using hb
  subst e
  exact⟨_,st,λv z=>by
   have z':Data.fields _=Data.cell v:=z;cases z'⟩
 keep:=λi h h' st k=>k it (by simp) _ st
 item:=by
  intro X hP hw hK hc i pins s σ H E I hf st hg;subst hP hw hK;obtain⟨f0,f1,f2,f3,f4,f5⟩:=hf it (by simp);have W:=Walks.range (prog:=X.prog) (w:=X.w) (I.ok.hd hc) it lo 1 n;refine W.item i s _ _ hg st λv h' tk hv st' kk=>?_
  obtain⟨t,rfl⟩:=hv;have I1:Inv X pins σ H {s with heap:=h',toks:=tk}:=I.turned (λb o hb e=>kk b o (by simpa using hb) e) f0 f1 f3 f4 f5;refine⟨_,rfl,Cu (s:={s with heap:=h',toks:=tk}) (n:="range_iterator") st' rfl rfl (by decide) ⟨.int (lo + i),H,I1,⟨t,?_⟩,⟨rfl,rfl⟩,st',λb hb=>(hf b hb).1⟩⟩;rw[Int.mul_one]
 done:=by
  intro X hP hw hK hc i pins s σ H E I hf st hg;subst hP hw hK;obtain⟨f0,f1,f2,f3,f4,f5⟩:=hf it (by simp);exact wpAny_pyNext_range_end (I.ok.hd hc) st (by have:n<=i:=hg;omega) λh' eb=>⟨rfl,I.turned (t':=s.toks) (λb o hb e=>eb b o hb e) f0 f1 f3 f4 f5⟩
 self:=λ_ _ _ _ _ st h=>wpAny_pyIter_rangeiter st h
section
variable {X:Cx} {tg:Expr}
def OW(K:aJ)(tl:TE):TI:=λσ H R=>tl σ H λx H1=>∃a,x=.ref a/\(∃xs,bu K H1 a xs)/\R (FN K a) H1
theorem me{l:Expr}{tl:TE}(hl:PE X l tl):PI X tg l (OW X.K tl):=by
 intro pins s σ H R I h;refine bF (hl pins s σ H _ I h) λv s1 ⟨x,H1,I1,r1,q1⟩=>?_
 obtain⟨a,e,⟨xs,hq⟩,q⟩:=q1;subst e;cases r1;obtain⟨its,rv,p,hz⟩:=I1.list hq;refine wpAny_pyIter_list p.isList ?_;refine⟨s1.heap.objs.size,[s1.heap.objs.size],_,_,H1,rfl,I1.kept (t':=s1.toks) λb o e=>Heap.get?_push_of_some _ e,sk a _,⟨_,Heap.get?_push_size _ rfl,rfl,rfl⟩,λb hb=>?_,q⟩;have e:b=s1.heap.objs.size:=by simpa using hb
 subst e;exact I1.GA (aai _) (I1.hok.fresh (aai _))
theorem Cv{pins:List (Addr×Obj)}{σ:St}{H:Hp}{s:Shared}{R:It->Hp->Prop}{E:Value->Shared->Prop}{lo hi:Int}{t u v:Tok}{tk:Nat}(I:Inv X pins σ H s)(h1:-(2 ^ 62)<=lo)(h2:lo < 2 ^ 62)(h3:-(2 ^ 62)<=hi)(h4:hi < 2 ^ 62)
  (q:R (Rq lo (hi - lo).toNat) H):wpAny (model X.prog X.w) X.A (pyIter (.ref s.heap.objs.size)) (Vp X pins σ tg R) E {s with heap:=s.heap.push {cls:=.type "range",data:=.fields #[.int lo t,.int hi u,.int 1 v]},toks:=tk}:=by
 refine wpAny_pyIter_range (IsRange.new ..) (small_one h1 h2 h3 h4) ?_;have I1:Inv X pins σ H {s with heap:=s.heap.push {cls:=.type "range",data:=.fields #[.int lo t,.int hi u,.int 1 v]},toks:=tk}:=I.kept λb o e=>aab _ e
 refine⟨(s.heap.push {cls:=.type "range",data:=.fields #[.int lo t,.int hi u,.int 1 v]}).objs.size,[(s.heap.push {cls:=.type "range",data:=.fields #[.int lo t,.int hi u,.int 1 v]}).objs.size],_,_,H,rfl,
  I1.kept (t':=tk) λb o e=>aab _ e,xy _ lo (hi - lo).toNat,?_,λb hb=>?_,q⟩
 ·have e1:lo + ((0:Nat):Int) * 1=lo:=by simp
  have e2:(((hi - lo).toNat:Nat):Int) - ((0:Nat):Int)=Builtin.Range.rangeSize lo hi 1:=by rw[rangeSize_one];split<;>omega
  show IsRangeIter _ _ (lo + ((0:Nat):Int) * 1) ((((hi - lo).toNat:Nat):Int) - ((0:Nat):Int)) 1;rw[e1,e2];exact aao _ rfl
 ·have e:b=(s.heap.push {cls:=.type "range",data:=.fields #[.int lo t,.int hi u,.int 1 v]}).objs.size:=by simpa using hb
  subst e;exact I1.GA (aai _) (I1.hok.fresh (aai _))
def OX(ta:TA):TI:=λσ H R=>ta σ H λvs H1=>∃j:Int,vs=[.int j]/\-(2 ^ 62)<=j/\j < 2 ^ 62/\R (Rq 0 j.toNat) H1
theorem Az{a:Expr}{ta:TA}{p pos:Pos}(hg:Gl X "range")(hm:X.mg "range"=none)(ha:PA X [a] ta)(hs:starEach [a] X.env=[(false,eval a X.env)]:=by rfl):PI X tg (.Call (.Name "range" p) [a] [] pos) (OX ta):=by
 intro pins s σ H R I h;refine Call_ (lA I hg hm boot_range (aaT (bF (ha pos pins s σ H _ I h) λus s1 ⟨vs,H1,I1,r1,q1⟩=>?_) hs rfl));obtain⟨j,e,q1,q2,q⟩:=q1;subst e
 cases r1 with
 | cons r rr =>
  cases rr;obtain⟨t,rfl⟩:=r;exact call_range_1 (Cv I1 (by omega) (by omega) q1 q2 (by simpa using q))
def R7(wi:TI)(g:TG)(tb:TS):TS:=λD σ H=>wi σ H λJ H1=>∃W:Nat->Nat->St->Hp->Prop,(∃m,W 0 m σ H1)/\∀i m σ H,W i m σ H ->
 (J.stop i H/\D.nx σ H)∨(J.go i H/\∃N:St->Hp->Prop,(∀σ' H',N σ' H'->∃m',m' < m/\W (i + 1) m' σ' H')/\∀x H',J.yld i H x H'->g x σ H' λσ2 H2=>tb {D with nx:=N,ct:=N,bk:=D.nx} σ2 H2)
def m8(fp:List Addr)(h:Heap):List (Addr×Obj):=fp.filterMap λb=>(h.get? b).map λo=>(b,o)
theorem fB{fp:List Addr}{h:Heap}{b:Addr}{o:Obj}(hb:b∈fp)(e:h.get? b=some o):(b,o)∈m8 fp h:=aa6.mpr ⟨b,hb,by rw[e];rfl⟩
theorem AD{fp:List Addr}{h:Heap}{p:Addr×Obj}(hp:p∈m8 fp h):p.1∈fp/\h.get? p.1=some p.2:=by
 obtain⟨b,hb,e⟩:=aa6.mp hp
 cases q:h.get? b with
 | none=>rw[q]at e;cases e
 | some o =>
  rw[q]at e;have e':(b,o)=p:=aaq e;subst e';exact⟨hb,q⟩
theorem Inv.pinned{pins:List (Addr×Obj)}{σ:St}{H:Hp}{s:Shared}{fp:List Addr}(I:Inv X pins σ H s)(hf:∀b∈fp,j7 X pins H b)(ho:∀b∈fp,∃o,s.heap.get? b=some o/\∀v,o.data≠.cell v):Inv X (pins++m8 fp s.heap) σ H s :=
 I.zo λp hp=>(aaK.mp hp).elim (λz=>I.pin p (aav _ z)) λz=>by
  obtain⟨hb,e⟩:=AD z;obtain⟨f0,f1,f2,_⟩:=hf p.1 hb;obtain⟨o,e',d⟩:=ho p.1 hb;rw[e]at e';cases e';exact⟨e,f0,f1,f2,d⟩
theorem Inv.kg{pins pl:List (Addr×Obj)}{σ:St}{H:Hp}{s:Shared}(I:Inv X (pins++pl) σ H s):Inv X pins σ H s:=I.zo λp hp=>I.pin p (aav _ (abf _ hp))
theorem pY{iter:Expr}{body:List Stmt}{wi:TI}{g:TG}{tb:TS}{pos:Pos}(hp:PassesOwn (model X.prog X.w) X.A X.env X.xe)(hc:X.calm=true)(hi:PI X tg iter wi)(hg:PG X tg g)(hb:pV X body tb)
  (hs:∀x,foldedSetIterable iter X.env x=pure x:=by intro _;rfl):PS X (.For tg iter body [] pos) (R7 wi g tb):=by
 intro pins s σ H D I h;refine wpAny_For (bF (hi pins s σ H _ I h) λv s1 h1=>bF h1 λitv s2 h2=>?_) hs;obtain⟨it,fp,tn,J,H2,e,I2,T,bq,f2,W,⟨m0,w0⟩,turn⟩:=h2;subst e;have stat:∀{H':Hp},(∀b∈fp,H' b=none)->∀b∈fp,j7 X pins H' b:=λhn b hb=>⟨hn b hb,(f2 b hb).2⟩
 refine codeAny_forLoop_any (λn s'=>∃i σ' H',Inv X pins σ' H' s'/\tn i s'.heap/\(∀b∈fp,H' b=none)/\W i n σ' H') ?_ m0 ⟨0,σ,H2,I2,bq,λb hb=>(f2 b hb).1,w0⟩;rintro n s3 ⟨i,σ3,H3,I3,je,Vq,w3⟩;rcases turn i n σ3 H3 w3 with⟨stop,qn⟩ | ⟨go,N,hN,step⟩
 ·refine abD hp (bF (T.done X rfl rfl rfl hc i pins s3 σ3 H3 X.xe I3 (stat Vq) je stop) λr s4 ⟨hr,I4⟩=>?_);subst hr;exact abp ⟨σ3,H3,I4,qn⟩
 ·refine abD hp (bF (T.item X rfl rfl rfl hc i pins s3 σ3 H3 X.xe I3 (stat Vq) je go) λr s4 ⟨u,hr,h4⟩=>?_);subst hr;refine abD hp (bF h4 λ_ s5 ⟨x,H5,I5,r5,y5,xq,K8⟩=>?_);have I5':=I5.pinned (stat K8) (T.obj _ _ xq);refine abD hp (bF (hg _ s5 σ3 H5 x u _ I5' r5 (step x H5 y5)) λ_ s6 ⟨σ6,H6,I6,q6⟩=>?_);refine abD hp (bF (hb _ s6 σ6 H6 _ I6 q6) λf s7 q7=>?_)
  have again:∀{σ7:St} {H7:Hp},Inv X (pins++m8 fp s5.heap) σ7 H7 s7->N σ7 H7->∃m,m < n/\∃i σ' H',Inv X pins σ' H' s7/\tn i s7.heap/\(∀b∈fp,H' b=none)/\W i m σ' H':=λ{σ7 H7} I7 n7=>by
   obtain⟨m',hm,w7⟩:=hN σ7 H7 n7;refine⟨m',hm,i + 1,σ7,H7,I7.kg,T.keep _ _ _ xq λb hb o e=>(I7.pin (b,o) (aav _ (aav _ (fB hb e)))).1,λb hb=>?_,w7⟩;obtain⟨o,e,d⟩:=T.obj _ _ xq b hb;exact(I7.pin (b,o) (aav _ (aav _ (fB hb e)))).2.1
  cases f with
  | next=>obtain⟨σ7,H7,I7,n7⟩:=q7;exact again I7 n7
  | cont=>obtain⟨σ7,H7,I7,n7⟩:=q7;exact again I7 n7
  | brk=>obtain⟨σ7,H7,I7,q7⟩:=q7;exact⟨σ7,H7,I7.kg,q7⟩
  | ret v=>obtain⟨x7,σ7,H7,I7,r7,q7⟩:=q7;exact⟨x7,σ7,H7,I7.kg,r7,q7⟩
end
theorem pZ{K:aJ}{a:Addr}{xs:List V}{g:TG}{tb:TS}{D:Ends}{σ:St}{H:Hp}(Pv:Nat->St->Hp->Prop)(h0:Pv 0 σ H)(hl:∀i σ H,i<=xs.length->Pv i σ H->bu K H a xs)
  (hs:∀i x σ H,xs[i]?=some x->Pv i σ H->g x σ H λσ2 H2=>tb {D with nx:=Pv (i + 1),ct:=Pv (i + 1),bk:=D.nx} σ2 H2) (hd:∀σ H,Pv xs.length σ H->D.nx σ H) :
  ∃W:Nat->Nat->St->Hp->Prop,(∃m,W 0 m σ H)/\∀i m σ H,W i m σ H ->
   ((FN K a).stop i H/\D.nx σ H)∨((FN K a).go i H/\∃N:St->Hp->Prop,(∀σ' H',N σ' H'->∃m',m' < m/\W (i + 1) m' σ' H')/\∀x H',(FN K a).yld i H x H'->g x σ H' λσ2 H2=>tb {D with nx:=N,ct:=N,bk:=D.nx} σ2 H2):=by
 refine⟨λi m σ H=>m=xs.length - i/\i<=xs.length/\Pv i σ H,⟨xs.length,by simp,Nat.zero_le _,h0⟩,?_⟩;rintro i m σ H ⟨rfl,hi,p⟩;have q:=hl i σ H hi p;by_cases hlt:i < xs.length
 ·refine .inr ⟨⟨xs,xs[i],q,by simp[hlt]⟩,Pv (i + 1),λσ' H' p'=>⟨xs.length - (i + 1),by omega,rfl,hlt,p'⟩,λx H' y=>?_⟩;obtain⟨e,y⟩:=y;subst e;exact hs i x σ _ (y xs q) p
 ·have e:i=xs.length:=by omega
  subst e;exact .inl ⟨⟨xs,q,aai _⟩,hd σ H p⟩
abbrev R2:=V->V->Hp->VK->Prop
def jf(X:Cx)(f:Value->Value->Sem Value)(r:R2):Prop :=
 ∀(pins:List (Addr×Obj)) (s:Shared) (σ:St) (H:Hp) (x y:V) (v u:Value) (Q:VK),Inv X pins σ H s->RelV x v->RelV y u->r x y H Q ->
  wpAny (model X.prog X.w) X.A (f v u) (EP X pins σ Q) X.xe s
def R8(X:Cx)(f:Value->Sem Value)(r:V->Hp->VK->Prop):Prop :=
 ∀(pins:List (Addr×Obj)) (s:Shared) (σ:St) (H:Hp) (x:V) (v:Value) (Q:VK),Inv X pins σ H s->RelV x v->r x H Q ->
  wpAny (model X.prog X.w) X.A (f v) (EP X pins σ Q) X.xe s
def iN(X:Cx)(f:Value)(r:List V->Hp->VK->Prop):Prop :=
 ∀(pins:List (Addr×Obj)) (s:Shared) (σ:St) (H:Hp) (xs:List V) (us:List Value) (Q:VK),Inv X pins σ H s->Vals xs us->r xs H Q ->
  wpAny (model X.prog X.w) X.A (call f us) (EP X pins σ Q) X.xe s
def OY(r:R2)(ta tb:TE):TE:=λσ H Q=>ta σ H λx H1=>tb σ H1 λy H2=>r x y H2 Q
def W7(r:V->Hp->VK->Prop)(ta:TE):TE:=λσ H Q=>ta σ H λx H1=>r x H1 Q
inductive RI(C:Int->Int->Prop)(g:Int->Int->V)(x y:V)(H:Hp)(Q:VK):Prop where
 | mk (i j:Int) (e:x=.int i) (f:y=.int j) (c:C i j) (q:Q (g i j) H):RI C g x y H Q
def rI(C:Int->Int->Prop)(g:Int->Int->V):R2:=λx y H Q=>RI C g x y H Q
inductive Vr(g:Int->Int->V)(x y:V)(H:Hp)(Q:VK):Prop where
 | mk (i j:Int) (e:x=.int i) (f:y=.int j) (q:Q (g i j) H):Vr g x y H Q
def FO(g:Int->Int->V):R2:=λx y H Q=>Vr g x y H Q
def rU(g:Int->V):V->Hp->VK->Prop:=λx H Q=>∃i,x=.int i/\Q (g i) H
section
variable {X:Cx} {a b c:Expr} {ta tb tc:TE} {pos:Pos}
theorem K9(ha:PE X a ta)(hb:PE X b tb){pins:List (Addr×Obj)}{s:Shared}{σ:St}{H:Hp}{R:V->V->Hp->Prop}(I:Inv X pins σ H s)
  (h:ta σ H λx H1=>tb σ H1 λy H2=>R x y H2) {Q:Value->Shared->Prop} {f:Value->Value->Sem Value}
  (hf:∀v u s2 x y H2,Inv X pins σ H2 s2->RelV x v->RelV y u->R x y H2->wpAny (model X.prog X.w) X.A (f v u) Q X.xe s2) :
  wpAny (model X.prog X.w) X.A (eval a X.env) (λv s₁=>wpAny (model X.prog X.w) X.A (eval b X.env) (λu s₂=>wpAny (model X.prog X.w) X.A (f v u) Q X.xe s₂) X.xe s₁) X.xe s:=by
 refine bF (ha pins s σ H _ I h) λv s1 ⟨x,H1,I1,r1,q1⟩=>?_
 refine bF (hb pins s1 σ H1 _ I1 q1) λu s2 ⟨y,H2,I2,r2,q2⟩=>?_
 exact hf v u s2 x y H2 I2 r1 r2 q2
theorem cz{op:Operator}{r:R2}(ho:jf X (binaryOp op) r)(ha:PE X a ta)(hb:PE X b tb):PE X (.BinOp a op b pos) (OY r ta tb):=by
 intro pins s σ H Q I h;exact wpAny_BinOp (K9 ha hb I h λv u s2 x y H2 I2 rx ry q=>ho pins s2 σ H2 x y v u Q I2 rx ry q)
theorem JX{op:UnaryOp}{r:V->Hp->VK->Prop}(ho:R8 X (unaryOp op) r)(ha:PE X a ta):PE X (.UnaryOp op a pos) (W7 r ta):=by
 intro pins s σ H Q I h;exact UnaryOp_ (bF (ha pins s σ H _ I h) λv s1 ⟨x,H1,I1,r1,q1⟩=>ho pins s1 σ H1 x v Q I1 r1 q1)
theorem La{f:Value->Value->Sem Value}{C:Int->Int->Prop}{g:Int->Int->Int}
  (rule:∀(i j:Int) (t u:Tok) (s:Shared) (Q:Value->Shared->Prop) (E:Value->Shared->Prop),C i j->Q (.int (g i j) s.toks) {s with toks:=s.toks + 1}->wpAny (model X.prog X.w) X.A (f (.int i t) (.int j u)) Q E s) :
  jf X f (rI C λi j=>.int (g i j)):=by
 intro pins s σ H x y v u Q I rx ry h;obtain⟨i,j,rfl,rfl,hc,q⟩:=h;obtain⟨t,rfl⟩:=rx;obtain⟨t',rfl⟩:=ry;exact rule i j t t' s _ _ hc ⟨.int (g i j),H,I.tok _,⟨_,rfl⟩,q⟩
theorem OZ{f:Value->Value->Sem Value}{g:Int->Int->Int}
  (rule:∀(i j:Int) (t u:Tok) (s:Shared) (Q:Value->Shared->Prop) (E:Value->Shared->Prop),Q (.int (g i j) s.toks) {s with toks:=s.toks + 1}->wpAny (model X.prog X.w) X.A (f (.int i t) (.int j u)) Q E s) :
  jf X f (FO λi j=>.int (g i j)):=by
 intro pins s σ H x y v u Q I rx ry h;obtain⟨i,j,rfl,rfl,q⟩:=h;obtain⟨t,rfl⟩:=rx;obtain⟨t',rfl⟩:=ry;exact rule i j t t' s _ _ ⟨.int (g i j),H,I.tok _,⟨_,rfl⟩,q⟩
theorem GC{f:Value->Value->Sem Value}{g:Int->Int->Bool}
  (rule:∀(i j:Int) (t u:Tok) (s:Shared) (Q:Value->Shared->Prop) (E:Value->Shared->Prop),Q (.bool (g i j)) s->wpAny (model X.prog X.w) X.A (f (.int i t) (.int j u)) Q E s) :
  jf X f (FO λi j=>.bl (g i j)):=by
 intro pins s σ H x y v u Q I rx ry h;obtain⟨i,j,rfl,rfl,q⟩:=h;obtain⟨t,rfl⟩:=rx;obtain⟨t',rfl⟩:=ry;exact rule i j t t' s _ _ ⟨.bl (g i j),H,I,rfl,q⟩
def O0(i j:Int):Prop:=0 < j/\j < 1073741824
def O1(i j:Int):Prop:=0<=j/\j<=1000000/\i.natAbs < 2 ^ 64
def Cw(i j:Int):Prop:=(-(2 ^ 64) < i/\i < 2 ^ 64)∨(-(2 ^ 64) < j/\j < 2 ^ 64)
theorem Cw.ok{i j:Int}(h:Cw i j):IntMulOk i j:=by
 rcases h with⟨h1,h2⟩ | ⟨h1,h2⟩
 ·exact .of_left (intBits_le_64 h1 h2)
 ·exact .of_right (intBits_le_64 h1 h2)
theorem m9:jf X (binaryOp .Add) (FO λi j=>.int (i + j)):=OZ λ_ _ _ _ _ _ _ q=>add_int q
theorem ik:jf X (binaryOp .Sub) (FO λi j=>.int (i - j)):=OZ λ_ _ _ _ _ _ _ q=>sub_int q
theorem xA:jf X (binaryOp .Mult) (rI Cw λi j=>.int (i * j)):=La λ_ _ _ _ _ _ _ hc q=>mul_int q hc.ok
theorem xB:jf X (binaryOp .Mod) (rI (λ_ j=>0 < j) λi j=>.int (i % j)):=La λi j _ _ _ _ _ hc q=>by
 have h1:(0:Int) < j:=hc;exact mod_int' (by omega) (by rw[Int.fmod_eq_emod_of_nonneg i (by omega)];exact q)
theorem GD:jf X (binaryOp .Mod) (rI (λ_ j=>j≠0) λi j=>.int (i.fmod j)):=La λ_ _ _ _ _ _ _ hc q=>mod_int' hc q
theorem Lb:jf X (binaryOp .Pow) (rI O1 λi j=>.int (i ^ j.toNat)):=La λ_ _ _ _ _ _ _ hc q=>pow_int_small hc.1 hc.2.1 hc.2.2 q
theorem W8{f:Value->Sem Value}{g:Int->Int}
  (rule:∀(i:Int) (t:Tok) (s:Shared) (Q:Value->Shared->Prop) (E:Value->Shared->Prop),Q (.int (g i) s.toks) {s with toks:=s.toks + 1}->wpAny (model X.prog X.w) X.A (f (.int i t)) Q E s) :
  R8 X f (rU λi=>.int (g i)):=by
 intro pins s σ H x v Q I rx h;obtain⟨i,rfl,q⟩:=h;obtain⟨t,rfl⟩:=rx;exact rule i t s _ _ ⟨.int (g i),H,I.tok _,⟨_,rfl⟩,q⟩
theorem Cy:R8 X (unaryOp .USub) (rU λi=>.int (-i)):=W8 λ_ _ _ _ _ q=>neg_int q
end
def O2:V->V->Bool
 | .non,.non=>true | .non,.int _=>true | .int _,.non=>true | .non,.bl _=>true | .bl _,.non=>true | .non,.str _=>true | .str _,.non=>true
 | .int _,.int _=>true | .bl _,.bl _=>true | .str _,.str _=>true | .byt _,.byt _=>true
 | .int _,.str _=>true | .str _,.int _=>true | .bl _,.str _=>true | .str _,.bl _=>true
 | _,_=>false
def Vs:R2:=λx y H Q=>O2 x y=true/\Q (.bl (decide (x=y))) H
def Vt:R2:=λx y H Q=>O2 x y=true/\Q (.bl (!decide (x=y))) H
theorem zq{i j:Int}:decide (V.int i=V.int j)=(i == j):=by
 rw[Bool.eq_iff_iff];simp
theorem Cz{i j:Bool}:decide (V.bl i=V.bl j)=(i == j):=by
 rw[Bool.eq_iff_iff];simp
theorem zr{i j:Str}:decide (V.str i=V.str j)=(i == j):=by
 rw[Bool.eq_iff_iff];simp
theorem zt{i j:Array UInt8}:decide (V.byt i=V.byt j)=(i.toList == j.toList):=by
 rw[Bool.eq_iff_iff];cases i;cases j;simp
section
variable {X:Cx} {a b c:Expr} {ta tb tc:TE} {pos:Pos}
theorem aZ{pins:List (Addr×Obj)}{σ:St}{H:Hp}{s:Shared}{Q:VK}{k k':Bool}(I:Inv X pins σ H s)(q:Q (.bl k) H)(e:k=k'):EP X pins σ Q (.bool k') s:=by
 subst e;exact⟨.bl k,H,I,rfl,q⟩
theorem bo:jf X (compareOp .Eq) Vs:=by
 intro pins s σ H x y v u Q I rx ry h;obtain⟨hs,q⟩:=h
 cases x with
 | non =>
  cases rx
  cases y with
  | non=>cases ry;exact PySem.EqNone.eq_none_none (aZ I q (by simp))
  | bl j=>cases ry;exact PySem.EqNone.eq_none_bool (aZ I q (by simp))
  | int j=>obtain⟨t',rfl⟩:=ry;exact PySem.EqNone.eq_none_int (aZ I q (by simp))
  | str j=>obtain⟨t',rfl⟩:=ry;exact PySem.EqNone.eq_none_str (aZ I q (by simp))
  | _=>exact absurd (show false=true from hs) aaj
 | bl i =>
  cases rx
  cases y with
  | non=>cases ry;exact PySem.EqNone.eq_bool_none (aZ I q (by simp))
  | bl j=>cases ry;exact eq_bool (aZ I q Cz)
  | str j=>obtain⟨t',rfl⟩:=ry;exact PySem.EqMixed.eq_bool_str (aZ I q (by simp))
  | _=>exact absurd (show false=true from hs) aaj
 | int i =>
  obtain⟨t,rfl⟩:=rx
  cases y with
  | non=>cases ry;exact PySem.EqNone.eq_int_none (aZ I q (by simp))
  | int j=>obtain⟨t',rfl⟩:=ry;exact eq_int (aZ I q zq)
  | str j=>obtain⟨t',rfl⟩:=ry;exact PySem.EqMixed.eq_int_str (aZ I q (by simp))
  | _=>exact absurd (show false=true from hs) aaj
 | str i =>
  obtain⟨t,rfl⟩:=rx
  cases y with
  | non=>cases ry;exact PySem.EqNone.eq_str_none (aZ I q (by simp))
  | bl j=>cases ry;exact PySem.EqMixed.eq_str_bool (aZ I q (by simp))
  | int j=>obtain⟨t',rfl⟩:=ry;exact PySem.EqMixed.eq_str_int (aZ I q (by simp))
  | str j=>obtain⟨t',rfl⟩:=ry;exact eq_str (aZ I q zr)
  | _=>exact absurd (show false=true from hs) aaj
 | byt i =>
  obtain⟨t,rfl⟩:=rx
  cases y with
  | byt j=>obtain⟨t',rfl⟩:=ry;exact PySem.W.eq_bytes (aZ I q zt)
  | _=>exact absurd (show false=true from hs) aaj
 | _=>cases y<;>exact absurd (show false=true from hs) aaj
theorem zu:jf X (compareOp .NotEq) Vt:=by
 intro pins s σ H x y v u Q I rx ry h;obtain⟨hs,q⟩:=h
 cases x with
 | non =>
  cases rx
  cases y with
  | non=>cases ry;exact PySem.EqNone.ne_none_none (aZ I q (by simp))
  | bl j=>cases ry;exact PySem.EqNone.ne_none_bool (aZ I q (by simp))
  | int j=>obtain⟨t',rfl⟩:=ry;exact PySem.EqNone.ne_none_int (aZ I q (by simp))
  | str j=>obtain⟨t',rfl⟩:=ry;exact PySem.EqNone.ne_none_str (aZ I q (by simp))
  | _=>exact absurd (show false=true from hs) aaj
 | bl i =>
  cases rx
  cases y with
  | non=>cases ry;exact PySem.EqNone.ne_bool_none (aZ I q (by simp))
  | bl j=>cases ry;exact ne_bool (aZ I q (abb not Cz))
  | str j=>obtain⟨t',rfl⟩:=ry;exact PySem.EqMixed.ne_bool_str (aZ I q (by simp))
  | _=>exact absurd (show false=true from hs) aaj
 | int i =>
  obtain⟨t,rfl⟩:=rx
  cases y with
  | non=>cases ry;exact PySem.EqNone.ne_int_none (aZ I q (by simp))
  | int j=>obtain⟨t',rfl⟩:=ry;exact ne_int (aZ I q (abb not zq))
  | str j=>obtain⟨t',rfl⟩:=ry;exact PySem.EqMixed.ne_int_str (aZ I q (by simp))
  | _=>exact absurd (show false=true from hs) aaj
 | str i =>
  obtain⟨t,rfl⟩:=rx
  cases y with
  | non=>cases ry;exact PySem.EqNone.ne_str_none (aZ I q (by simp))
  | bl j=>cases ry;exact PySem.EqMixed.ne_str_bool (aZ I q (by simp))
  | int j=>obtain⟨t',rfl⟩:=ry;exact PySem.EqMixed.ne_str_int (aZ I q (by simp))
  | str j=>obtain⟨t',rfl⟩:=ry;exact ne_str (aZ I q (abb not zr))
  | _=>exact absurd (show false=true from hs) aaj
 | byt i =>
  obtain⟨t,rfl⟩:=rx
  cases y with
  | byt j=>obtain⟨t',rfl⟩:=ry;exact PySem.W.ne_bytes (aZ I q (abb not zt))
  | _=>exact absurd (show false=true from hs) aaj
 | _=>cases y<;>exact absurd (show false=true from hs) aaj
theorem zv:jf X (compareOp .Lt) (FO λi j=>.bl (decide (i < j))):=GC λ_ _ _ _ _ _ _ q=>lt_int q
theorem JY:jf X (compareOp .LtE) (FO λi j=>.bl (decide (i<=j))):=GC λ_ _ _ _ _ _ _ q=>le_int q
theorem O3:jf X (compareOp .Gt) (FO λi j=>.bl (decide (j < i))):=GC λ_ _ _ _ _ _ _ q=>gt_int q
theorem O4:jf X (compareOp .GtE) (FO λi j=>.bl (decide (j<=i))):=GC λ_ _ _ _ _ _ _ q=>ge_int q
theorem xC:jf X (compareOp .Is) (λx y H Q=>y=.non/\Q (.bl (decide (x=.non))) H):=by
 intro pins s σ H x y v u Q I rx ry h;obtain⟨rfl,q⟩:=h;cases ry;refine is_none_gen (aZ I q ?_);cases x<;>first
  | (cases rx;rfl)
  | (obtain⟨t,rfl⟩:=rx;rfl)
theorem zw:jf X (compareOp .IsNot) (λx y H Q=>y=.non/\Q (.bl (!decide (x=.non))) H):=by
 intro pins s σ H x y v u Q I rx ry h;obtain⟨rfl,q⟩:=h;cases ry;refine isnot_none_gen (aZ I q ?_);cases x<;>first
  | (cases rx;rfl)
  | (obtain⟨t,rfl⟩:=rx;rfl)
theorem aF(b:Expr){op:CmpOp}(h:op≠.In:=by decide)(h2:op≠.NotIn:=by decide):behindInMarks op b=false:=by
 have e1:(op == CmpOp.In)=false:=by cases op<;>first | rfl | exact absurd rfl h
 have e2:(op == CmpOp.NotIn)=false:=by cases op<;>first | rfl | exact absurd rfl h2
 cases b<;>simp[behindInMarks,e1,e2]
theorem jE{op:CmpOp}{r:R2}(ho:jf X (compareOp op) r)(ha:PE X a ta)(hb:PE X b tb)(hm:behindInMarks op b=false):PE X (.Compare a [op] [b] pos) (OY r ta tb):=by
 intro pins s σ H Q I h;exact wpAny_Compare1 (K9 ha hb I h λv u s2 x y H2 I2 rx ry q=>ho pins s2 σ H2 x y v u Q I2 rx ry q) hm
def CA(t:TE):TT:=λσ H Q=>t σ H λx H'=>RZ x H' Q
theorem tR{op:CmpOp}{r:R2}(ho:jf X (compareOp op) r)(ha:PE X a ta)(hb:PE X b tb)(hm:behindInMarks op b=false):PT X (.Compare a [op] [b] pos) (CA (OY r ta tb)):=by
 intro pins s σ H Q I h
 refine wpAny_isTrue_Compare1 (bF (ha pins s σ H _ I h) λv s1 ⟨x,H1,I1,r1,q1⟩=>bF (hb pins s1 σ H1 _ I1 q1) λu s2 ⟨y,H2,I2,r2,q2⟩ =>
  bF (ho pins s2 σ H2 x y v u _ I2 r1 r2 q2) λc s3 ⟨z,H3,I3,r3,k,e,q3⟩=>?_) hm
 subst e;cases r3;exact aaS ⟨H3,I3,q3⟩
def CB(r r':R2)(ta tb tc:TE):TE:=λσ H Q=>ta σ H λx H1=>tb σ H1 λy H2=>r x y H2 λz H3=>∃k,z=.bl k /\
 (if k=true then tc σ H3 λw' H4=>r' y w' H4 Q else Q (.bl false) H3)
theorem CD{op op':CmpOp}{r r':R2}(ho:jf X (compareOp op) r)(ho':jf X (compareOp op') r')(ha:PE X a ta)(hb:PE X b tb)(hc:PE X c tc)
  (hm:lastMarks [op,op'] [b,c]=false:=by with_unfolding_all rfl):PT X (.Compare a [op,op'] [b,c] pos) (CA (CB r r' ta tb tc)):=by
 intro pins s σ H Q I h
 refine isTrue_chain (bF (ha pins s σ H _ I h) λv s1 ⟨x,H1,I1,r1,q1⟩=>test_link (bF (hb pins s1 σ H1 _ I1 q1) λu s2 ⟨y,H2,I2,r2,q2⟩ =>
  bF (ho pins s2 σ H2 x y v u _ I2 r1 r2 q2) λd s3 ⟨z,H3,I3,r3,k,e,q3⟩=>?_)) hm
 subst e;cases r3;refine aaS ?_
 cases k with
 | false =>
  obtain⟨k',e',q'⟩:=q3;cases e';exact ite_ff ⟨H3,I3,q'⟩
 | true =>
  refine ite_tt (test_last (bF (hc pins s3 σ H3 _ I3 q3) λw' s4 ⟨z',H4,I4,r4,q4⟩=>bF (ho' pins s4 σ H4 y z' u w' _ I4 r2 r4 q4) λd' s5 ⟨z2,H5,I5,r5,k2,e2,q5⟩=>?_));subst e2;cases r5;exact aaS ⟨H5,I5,q5⟩
theorem nc:(sizeLine:Nat) < 2 ^ 63:=by rw[abB];decide
theorem xD:jf X (binaryOp .Add) (λx y H Q=>∃i j,x=.str i/\y=.str j/\i.length + j.length<=sizeLine/\Q (.str (i++j)) H):=by
 intro pins s σ H x y v u Q I rx ry h;obtain⟨i,j,rfl,rfl,hz,q⟩:=h;obtain⟨t,rfl⟩:=rx;obtain⟨t',rfl⟩:=ry;exact add_str (λt' tk=>⟨.str (i++j),H,I.tok _,⟨_,rfl⟩,q⟩) hz
theorem vals1{x:V}{us:List Value}(r:Vals [x] us):∃u,us=[u]/\RelV x u:=by
 cases r with
 | cons r1 r2=>cases r2;exact⟨_,rfl,r1⟩
theorem vals2{x y:V}{us:List Value}(r:Vals [x,y] us):∃u w',us=[u,w']/\RelV x u/\RelV y w':=by
 cases r with
 | cons r1 r2 =>
  cases r2 with
  | cons r3 r4=>cases r4;exact⟨_,_,rfl,r1,r3⟩
theorem AF:iN X (.type "int") (λxs H Q=>(∃i,xs=[.int i]/\Q (.int i) H)∨∃k,xs=[.bl k]/\Q (.int (if k then 1 else 0)) H):=by
 intro pins s σ H xs us Q I r h;rcases h with⟨i,rfl,q⟩ | ⟨k,rfl,q⟩
 ·obtain⟨u,rfl,t,rfl⟩:=vals1 r;exact call_int_int ⟨.int i,H,I,⟨_,rfl⟩,q⟩
 ·obtain⟨u,rfl,r1⟩:=vals1 r;cases r1;exact call_int_bool ⟨.int (if k then 1 else 0),H,I.tok _,⟨_,rfl⟩,q⟩
theorem vG:iN X (.builtin "divmod") (λxs H Q=>∃i j,xs=[.int i,.int j]/\O0 i j/\∀p,H p=none->Q (.ref p) (upd H p (.tup [.int (i / j),.int (i % j)]))):=by
 intro pins s σ H xs us Q I r h;obtain⟨i,j,rfl,⟨h1,h2⟩,q⟩:=h;obtain⟨u,w',rfl,⟨t,rfl⟩,⟨t',rfl⟩⟩:=vals2 r;refine divmod_int (by omega) ?_ (.inl (PyProof.noPylong_small (by omega)));rw[Int.fdiv_eq_ediv_of_nonneg i (by omega),Int.fmod_eq_emod_of_nonneg i (by omega)];have hn:H s.heap.objs.size=none:=I.hok.fresh (Nat.le_refl _);refine⟨.ref s.heap.objs.size,_,?_,rfl,q _ hn⟩;refine I.laid (λb o e=>Heap.get?_push_of_some _ e) (Nat.le_refl _) ⟨by simp only[List.length_cons,List.length_nil];rw[sizeLine_eq];decide,[.int (i / j) s.toks,.int (i % j) (s.toks + 1)],.cons ⟨_,rfl⟩ (.cons ⟨_,rfl⟩ .nil),?_⟩;exact⟨_,Heap.get?_push_size s.heap rfl,rfl,0,rfl⟩
end
structure xE(h:Heap)(x dx C:Addr)(mA:Str->Option Value):Prop where
 obj:h.get? x=some (PySem.W.instObj C dx)
 ns:h.Ns1 dx mA
 ne:dx≠x
theorem so{h:Heap}{dx:Addr}{mA:Str->Option Value}(n:h.Ns1 dx mA):∃od,h.get? dx=some od/\∀name,PySem.W.lookIn name od=some (mA name):=by
 obtain⟨o,es,ep,ho,hd,hk,_,hm⟩:=n;refine⟨o,ho,λname=>?_⟩;have e:=hm name;unfold nsFind findBy at e;rw[← Array.find?_toList]at e;unfold PySem.W.lookIn;rw[hd];dsimp only;split
 ·rename_i y q;rw[q]at e;exact abb some e
 ·rename_i q;rw[q]at e
  have a:es.toList.any (·.refKey)=false:=by
   rw[List.any_eq_false];intro y hy;obtain⟨z,t,hkey⟩:=hk y (Array.mem_toList_iff.mp hy);simp[DictEntry.refKey,hkey]
  have a':¬ es.toList.any (·.refKey)=true:=by rw[a];exact aaj
  rw[aan a'];exact abb some e
theorem xE.look{h:Heap}{x dx C:Addr}{mA:Str->Option Value}(I:xE h x dx C mA):∃od,PySem.W.InstAt h x (PySem.W.instObj C dx) C (some od)/\∀name,PySem.W.lookIn name od=some (mA name) :=
 let ⟨od,ho,hl⟩:=so I.ns
 ⟨od,⟨I.obj,rfl,rfl,ho⟩,hl⟩
section
variable {prog:Program} {w:World} {A:Around} {E:Value->Shared->Prop} {s:Shared} {K:aJ} {x dx C f:Addr} {mA:Str->Option Value} {name:Str} {v:Value}
theorem get_map{expr:Bool}{Q:Value->Shared->Prop}(X:K.In s.heap)(I:xE s.heap x dx C mA)(hg:PySem.W.plainGet K C name=true)(hh:PySem.W.hasDictIn K C=true)
  (ha:PySem.W.findIn K (.ref C) name=some none) (hv:mA name=some v) (hv':PySem.W.handedIn v=true) (h:Q v {s with toks:=s.toks + 1}) :
  wpAny (model prog w) A (getAttr (.ref x) name expr) Q E s:=by
 obtain⟨od,J,hl⟩:=I.look;exact PySem.W.get_value X J (ab0 hg).1 (PySem.W.findObj_own hh ha rfl (by rw[hl,hv])) hv' h
theorem CF{pl:Sem Bool}{Q:Value×List Value->Shared->Prop}(X:K.In s.heap)(I:xE s.heap x dx C mA)(hg:PySem.W.plainGet K C name=true)
  (hf:PySem.W.findIn K (.ref C) name=some (some (.ref f))) (ht:PySem.W.isFn K (.ref f)=true) (hv:mA name=none) (h:Q (.ref f,[.ref x]) s) :
  wpAny (model prog w) A (getMethod (.ref x) name pl) Q E s:=by
 obtain⟨od,J,hl⟩:=I.look;exact PySem.W.method_fn X J (ab0 hg).1 (ab0 hg).2 hf (beq_iff_eq.mp ht) (by show(PySem.W.lookIn name od).map (·.isSome)=some false;rw[hl,hv];rfl) h
theorem GF{ns:List Str}{Q:Unit->Shared->Prop}(X:K.In s.heap)(I:xE s.heap x dx C mA)
  (hs:PySem.W.findIn K (.ref C) "__setattr__"=some (some (.builtin "object.__setattr__"))) (hp:PySem.W.plainOver K C=true) (ht:PySem.W.takerIn K C name=some none) (hh:PySem.W.hasDictIn K C=true)
  (hw:PySem.Within mA ns) (hsz:ns.length<=sizeLine)
  (h:∀h',xE h' x dx C (λy=>if y=name then some v else mA y)->Heap.SameBut dx s.heap h'->Q () {s with heap:=h',toks:=s.toks + 2}) :
  wpAny (model prog w) A (setAttr (.ref x) name v) Q E s:=by
 obtain⟨od,J,hl⟩:=I.look;refine PySem.W.set_plain X J hs (PySem.W.osa_open (s:={s with toks:=s.toks + 1}) (r:=none) X J hp ht λb=>?_);obtain⟨cd,hc,hd'⟩:=PySem.W.any_some hh;have hx:s.heap.get? x=some ⟨.ref C,some dx,.plain,#[]⟩:=I.obj;refine aac (aag (aac (aac (wpAny_loadPart hx (aac (PySem.W.Looks.here (s:={s with toks:=s.toks + 1}) (PySem.W.looks_clsIn X hc) ?_))))));rw[hd'];refine aag (a:=some dx) (aac (aag (aac ?_)));refine wpAny_nsSet1 (s:={s with toks:=s.toks + 1}) I.ns λh' Rr zx=>?_
 obtain⟨oD,esD,epD,hoD,zy,hcD⟩:=Rr.count (PySem.Within.cons name v hw);refine aac (wpAny_lookBehind hoD (by rw[zy];exact pastItsLine_dict (aaA hcD (by rw[aaE];omega))) ?_);exact aag (h _ ⟨(zx.2 _ (abu I.ne)).trans I.obj,Rr,I.ne⟩ zx)
theorem CG{R:Result->Shared->Prop}{vs:List Value}{kw:List (Str×Value)}(X:K.In s.heap)(hm:PySem.W.makesIn K C=true)
  (hi:PySem.W.findIn K (.ref C) "__init__"=some (some (.ref f))) (hf:PySem.W.typeIn K (.ref f)=some (.type "function"))
  (h:codeAny (model prog w) (A.under (.builtin "type.__call__" ⟨.ref C::vs,kw⟩)) (.call (.ref f) ⟨.ref (s.heap.objs.size + 1)::vs,kw⟩) (PySem.W.InitBack (s.heap.objs.size + 1) R)
   {s with heap:=(s.heap.push PySem.W.emptyDict).push (PySem.W.instObj C s.heap.objs.size)}) :
  codeAny (model prog w) A (.call (.ref C) ⟨vs,kw⟩) R s:=by
 obtain⟨hh,g,d,t,os⟩:=s;exact PySem.W.make_core (PySem.W.makes_of X hm) (PySem.W.looks_findIn X hi) (λself=>PySem.W.bind_fn X self hf) (.inl rfl) h
end
def cV(f:Str)(v:V):List (Str×V)->List (Str×V)
 | []=>[(f,v)]
 | (g,x)::r=>if g=f then(g,v)::r else(g,x)::cV f v r
theorem kh(f g:Str)(v:V):∀fs:List (Str×V),(cV f v fs).lookup g=if g=f then some v else fs.lookup g
 | []=>by
  show List.lookup g [(f,v)]=_;by_cases h:g=f
  ·have hb:(g == f)=true:=beq_iff_eq.mpr h;simp only[List.lookup,hb,if_pos h]
  ·have hb:(g == f)=false:=beq_eq_false_iff_ne.mpr h;simp only[List.lookup,hb,if_neg h]
 | (k,x)::r=>by
  have ih:=kh f g v r;rw[show cV f v ((k,x)::r)=(if k=f then(k,v)::r else(k,x)::cV f v r)from rfl];by_cases hk:k=f
  ·rw[aap hk];by_cases h:g=k
   ·have hb:(g == k)=true:=beq_iff_eq.mpr h;simp only[List.lookup,hb,if_pos (h.trans hk)]
   ·have hb:(g == k)=false:=beq_eq_false_iff_ne.mpr h;simp only[List.lookup,hb,if_neg (λe:g=f=>h (e.trans hk.symm))]
  ·rw[aan hk];by_cases h:g=k
   ·have hb:(g == k)=true:=beq_iff_eq.mpr h;simp only[List.lookup,hb,if_neg (λe:g=f=>hk (h.symm.trans e))]
   ·have hb:(g == k)=false:=beq_eq_false_iff_ne.mpr h;simp only[List.lookup,hb];exact ih
theorem jg(f:Str)(v:V):∀fs:List (Str×V),f∈(cV f v fs).map (·.1)/\∀g,g∈fs.map (·.1)->g∈(cV f v fs).map (·.1)
 | []=>⟨by simp[cV],λg h=>by simp at h⟩
 | (k,x)::r=>by
  obtain⟨i1,i2⟩:=jg f v r;rw[show cV f v ((k,x)::r)=(if k=f then(k,v)::r else(k,x)::cV f v r)from rfl];by_cases hk:k=f
  ·rw[if_pos hk];subst hk;exact⟨by simp,λg h=>by simpa using h⟩
  ·rw[aan hk];refine⟨?_,λg h=>?_⟩
   ·rw[abd];exact aal _ i1
   ·rw[abd]at h ⊢;rcases aaB.mp h with e | e
    ·exact aaB.mpr (.inl e)
    ·exact aal _ (i2 g e)
theorem dw(f:Str)(v:V):∀fs:List (Str×V),(cV f v fs).length<=fs.length + 1
 | []=>by simp[cV]
 | (k,x)::r=>by
  have ih:=dw f v r;rw[show cV f v ((k,x)::r)=(if k=f then(k,v)::r else(k,x)::cV f v r)from rfl];by_cases hk:k=f
  ·rw[aap hk,aaE,aaE];omega
  ·rw[aan hk,aaE,aaE];omega
theorem jd.some_of{v:V}{o:Option Value}(r:jd (some v) o):∃u,o=some u/\RelV v u:=by
 cases o with
 | none=>exact(show False from r).elim
 | some u=>exact⟨u,rfl,r⟩
theorem jd.none_of{o:Option Value}(r:jd none o):o=none:=by
 cases o with
 | none=>rfl
 | some u=>exact(show False from r).elim
theorem sq{v:V}{u:Value}(r:RelV v u):PySem.W.handedIn u=true:=by
 cases v with
 | non=>cases (show u=Value.none from r);rfl
 | bl b=>cases (show u=Value.bool b from r);rfl
 | int i=>obtain⟨t,e⟩:=(show ∃t,u=Value.int i t from r);cases e;rfl
 | str x=>obtain⟨t,e⟩:=(show ∃t,u=Value.str x t from r);cases e;rfl
 | byt b=>obtain⟨t,e⟩:=(show ∃t,u=Value.bytes b t from r);cases e;rfl
 | flt b=>obtain⟨t,e⟩:=(show ∃t,u=Value.float b t from r);cases e;rfl
 | ref a=>cases (show u=Value.ref a from r);rfl
 | ty n=>cases (show u=Value.type n from r);rfl
section
variable {P:Program} {w:World} {H H':Hp} {h h':Heap} {a C dx:Addr} {fs fs':List (Str×V)}
theorem tS(hok:kc P w H h)(e:H a=some (.ins C dx fs)):∃mA,xE h a dx C mA/\(∀f,jd (fs.lookup f) (mA f))/\PySem.Within mA (fs.map (·.1))/\fs.length<=1000/\H dx=some (.own a):=by
 obtain⟨d,z,ne,ob,mA,n,r,q⟩:=(show du P w H h a (.ins C dx fs)from hok a _ e);exact⟨mA,⟨ob,n,ne⟩,r,q,z,d⟩
end
structure zz(K:aJ)(C:Addr):Prop where
 pg:PySem.W.plainGet K C Str.empty=true
 hd:PySem.W.hasDictIn K C=true
 po:PySem.W.plainOver K C=true
 sa:PySem.W.findIn K (.ref C) "__setattr__"=some (some (.builtin "object.__setattr__"))
theorem zz.get{K:aJ}{C:Addr}(c:zz K C)(f:Str):PySem.W.plainGet K C f=true:=c.pg
def dC(K:aJ)(C:Addr)(f:Str):Prop:=PySem.W.findIn K (.ref C) f=some none
theorem dC.O5{K:aJ}{C:Addr}{f:Str}(n:dC K C f):PySem.W.takerIn K C f=some none:=by
 unfold PySem.W.takerIn;rw[show PySem.W.findIn K (.ref C) f=some none from n];rfl
structure Zy(K:aJ)(C:Addr)(f:Str)(v:V)(u:Value):Prop where
 at_:PySem.W.findIn K (.ref C) f=some (some u)
 rel:RelV v u
 get:PySem.W.specialIn K u "__get__"=some none
 cp:PySem.W.copiedNames.contains f=false
structure Meth(K:aJ)(C:Addr)(m:Str)(f:Addr):Prop where
 at_:PySem.W.findIn K (.ref C) m=some (some (.ref f))
 fn:PySem.W.isFn K (.ref f)=true
 kp:PySem.W.keepIn K (.ref f)=true
section
variable {X:Cx} {pins:List (Addr×Obj)} {σ:St} {H:Hp} {s:Shared} {a C dx:Addr} {fs:List (Str×V)} {f:Str} {v:V} {A:Around} {E:Value->Shared->Prop}
theorem xF{b:Bool}{Q:Value->Shared->Prop}(I:Inv X pins σ H s)(e:H a=some (.ins C dx fs))(c:zz X.K C)(n:dC X.K C f)(l:fs.lookup f=some v)
  (h:∀u s',Inv X pins σ H s'->RelV v u->Q u s'):wpAny (model X.prog X.w) A (getAttr (.ref a) f b) Q E s:=by
 obtain⟨mA,O,r,_,_,_⟩:=tS I.hok e;obtain⟨u,hu,ru⟩:=jd.some_of (v:=v) (o:=mA f) (by rw[← l];exact r f);exact get_map I.iL O (c.get f) c.hd n hu (sq ru) (h u _ (I.tok _) ru)
theorem lC{m:Str}{g:Addr}{pl:Sem Bool}{Q:Value×List Value->Shared->Prop}(I:Inv X pins σ H s)(e:H a=some (.ins C dx fs))(c:zz X.K C)(k:Meth X.K C m g)(l:fs.lookup m=none)
  (h:Q (.ref g,[.ref a]) s):wpAny (model X.prog X.w) A (getMethod (.ref a) m pl) Q E s:=by
 obtain⟨mA,O,r,_,_,_⟩:=tS I.hok e;have hn:mA m=none:=jd.none_of (by rw[← l];exact r m);exact CF I.iL O (c.get m) k.at_ k.fn hn h
theorem xG{y:V}{u:Value}{Q:Unit->Shared->Prop}(I:Inv X pins σ H s)(e:H a=some (.ins C dx fs))(c:zz X.K C)(n:dC X.K C f)(hl:fs.length < 1000)(ry:RelV y u)
  (h:∀s',Inv X pins σ (upd H a (.ins C dx (cV f y fs))) s'->Q () s'):wpAny (model X.prog X.w) A (setAttr (.ref a) f u) Q E s:=by
 obtain⟨mA,O,r,wi,_,ho⟩:=tS I.hok e;have hz:(fs.map (·.1)).length<=sizeLine:=by rw[aaf,abB];omega
 refine GF I.iL O c.sa c.po n.O5 c.hd wi hz λh' O' sb=>h _ ?_
 have hd:∃o,h'.get? dx=some o:=let ⟨o,_,_,e',_⟩:=O'.ns;⟨o,e'⟩
 refine I.write (x:=a) (e:=dx) (by rw[e];exact aa4) (.inr ho) (λb q hb z=>(sb.2 b hb).trans z) hd ?_;refine⟨by rw[uN O.ne];exact ho,?_,O.ne,O'.obj,_,O'.ns,λg=>?_,λg hg=>?_⟩
 ·have:=dw f y fs;omega
 ·show jd ((cV f y fs).lookup g) (if g=f then some u else mA g);rw[kh];by_cases q:g=f
  ·rw[aap q,aap q];exact ry
  ·rw[aan q,aan q];exact r g
 ·by_cases q:g=f
  ·rw[q];exact(jg f y fs).1
  ·refine(jg f y fs).2 g (wi g λz=>hg ?_);show(if g=f then some u else mA g)=none;rw[aan q];exact z
theorem Inv.made(I:Inv X pins σ H s):Inv X pins σ (upd (upd H s.heap.objs.size (.own (s.heap.objs.size + 1))) (s.heap.objs.size + 1) (.ins C s.heap.objs.size []))
  {s with heap:=(s.heap.push PySem.W.emptyDict).push (PySem.W.instObj C s.heap.objs.size)}:=by
 have e1:(s.heap.push PySem.W.emptyDict).get? s.heap.objs.size=some PySem.W.emptyDict:=aao s.heap rfl
 have e2:((s.heap.push PySem.W.emptyDict).push (PySem.W.instObj C s.heap.objs.size)).get? (s.heap.objs.size + 1)=some (PySem.W.instObj C s.heap.objs.size):=by
  have:=aao (s.heap.push PySem.W.emptyDict) (o:=PySem.W.instObj C s.heap.objs.size) rfl
  rwa [abv]at this
 have e3:(s.heap.push PySem.W.emptyDict).Ns s.heap.objs.size (λ_=>none):=⟨PySem.W.emptyDict,#[],_,e1,rfl,(λe he=>absurd he (by simp)),λ_=>rfl⟩;have I1:=I.laid (a:=s.heap.objs.size) (o:=.own (s.heap.objs.size + 1)) (h':=s.heap.push PySem.W.emptyDict) (t':=s.toks) (λb u q=>Heap.get?_push_of_some _ q) (Nat.le_refl _) ⟨_,e1⟩;refine I1.laid (a:=s.heap.objs.size + 1) (o:=.ins C s.heap.objs.size []) (t':=s.toks) (λb u q=>Heap.get?_push_of_some _ q) (Nat.le_of_eq (Heap.size_push _ _)) ?_;have ne:s.heap.objs.size≠s.heap.objs.size + 1:=Nat.ne_of_lt (Nat.lt_succ_self _);refine⟨by rw[uN ne,uS],Nat.zero_le _,ne,e2,λ_=>none,(Heap.Ns1.of_empty e3).at λo q=>Heap.get?_push_of_some _ q,λ_=>True.intro,λy hy=>absurd rfl hy⟩
theorem zA{prog:Program}{w:World}{env:Env}{e:Expr}{f:Str}{pos:Pos}{s:Shared}{Q:Value->Shared->Prop}(hb:attributeBase e f env (eval e env)=eval e env)
  (h:wpAny (model prog w) A (eval e env) (λo s₁=>wpAny (model prog w) A (getAttr o f true) Q E s₁) E s):wpAny (model prog w) A (eval (.Attribute e f pos) env) Q E s :=
 Attribute_any_ h (by rw[arm_eval_Attribute,hb])
end
inductive O6(K:aJ)(f:Str)(x:V)(H:Hp)(Q:VK):Prop where
 | mk (a C dx:Addr) (fs:List (Str×V)) (v:V) (e:x=.ref a) (h:H a=some (.ins C dx fs)) (c:zz K C) (n:dC K C f) (l:fs.lookup f=some v) (q:Q v H):O6 K f x H Q
def R9(K:aJ)(ta:TE)(f:Str):TE:=λσ H Q=>ta σ H λx H1=>O6 K f x H1 Q
def Sa(K:aJ)(ta tv:TE)(f:Str):TS:=λD σ H=>tv σ H λy H1=>ta σ H1 λx H2=>∃a C dx fs,x=.ref a/\H2 a=some (.ins C dx fs)/\zz K C/\dC K C f/\fs.length < 1000 /\
 D.nx σ (upd H2 a (.ins C dx (cV f y fs)))
section
variable {X:Cx} {o e value:Expr} {f:Str} {pos pos' tpos:Pos} {ta tv:TE}
theorem gc(he:PE X e ta)(hb:attributeBase e f X.env (eval e X.env)=eval e X.env):PE X (.Attribute e f pos) (R9 X.K ta f):=by
 intro pins s σ H Q I h;refine zA hb (bF (he pins s σ H _ I h) λu s1 ⟨x,H1,I1,rx,a,C,dx,fs,v,ex,ea,c,n,l,q⟩=>?_);subst ex;obtain rfl:u=Value.ref a:=rx;exact xF I1 ea c n l λu' s2 I2 ru=>⟨v,H1,I2,ru,q⟩
theorem ki(ha:PE X o ta)(hv:PE X value tv)(hs:swapsWith value (some (.Attribute o f pos')) pos.line X.env=pure false):PS X (.Assign [.Attribute o f pos'] value pos) (Sa X.K ta tv f):=by
 intro pins s σ H D I h;refine abT (bF (hv pins s σ H _ I h) λu s1 ⟨y,H1,I1,ry,q⟩=>bF (ha pins s1 σ H1 _ I1 q) λov s2 ⟨x,H2,I2,rx,a,C,dx,fs,ex,ea,c,n,l,q2⟩=>?_) hs;subst ex;obtain rfl:ov=Value.ref a:=rx;exact xG I2 ea c n l ry λs3 I3=>⟨σ,_,I3,q2⟩
end
section
variable {X:Cx} {pins:List (Addr×Obj)} {σ:St} {H:Hp} {s:Shared} {A:Around} {E:Value->Shared->Prop} {Q:Value->Shared->Prop} {c:Value} {b:Bool}
inductive p0(K:aJ)(H:Hp):V->Value->Prop where
 | non:p0 K H .non (.type "NoneType")
 | bl (x:Bool):p0 K H (.bl x) (.type "bool")
 | int (i:Int):p0 K H (.int i) (.type "int")
 | str (x:Str):p0 K H (.str x) (.type "str")
 | flt (x:UInt64):p0 K H (.flt x) (.type "float")
 | lst {a:Addr} {xs:List V} (e:H a=some (.lst xs)):p0 K H (.ref a) (.type "list")
 | lj {a:Addr} {o:Obj} {xs:List V} (e:H a=some (.lj o (.lst xs))):p0 K H (.ref a) (.type "list")
 | tup {a:Addr} {xs:List V} (e:H a=some (.tup xs)):p0 K H (.ref a) (.type "tuple")
 | dK {a:Addr} {kvs:List (Key×V)} (e:H a=some (.dK kvs)):p0 K H (.ref a) (.type "dict")
 | dT {a:Addr} {kvs:List (List Key×V)} (e:H a=some (.dT kvs)):p0 K H (.ref a) (.type "dict")
 | ins {a C dx:Addr} {fs:List (Str×V)} (e:H a=some (.ins C dx fs)) (cl:zz K C) (ha:PySem.W.findIn K (.ref C) "__class__"=some (some (.builtin "object.__class__")))
   (hn:PySem.W.specialIn K (.builtin "object.__class__") "__get__"=some (some (.builtin "getset_descriptor.__get__"))) (htk:PySem.W.takesIn K (.builtin "object.__class__")=some true)
   (hm:PySem.W.mroIn K C (.type "object")=some true):p0 K H (.ref a) (.ref C)
end
structure cg(k:Nat)(A:Around)(cm:Bool:=true):Prop where
 hd:cm=true->A.handled=none
 dp:A.depth + 3 * k + 5 < recursionLimit
 un:A.units + 16 * k + 200 < cLine
 gd:A.guards=some []
theorem cg.mono{j k:Nat}{A:Around}{cm:Bool}(r:cg k A cm)(h:j<=k):cg j A cm:=⟨r.hd,by have:=r.dp;omega,by have:=r.un;omega,r.gd⟩
theorem cg.low{k:Nat}{A:Around}{cm:Bool}(r:cg k A cm):cg k A false:=⟨(λz=>nomatch z),r.dp,r.un,r.gd⟩
theorem cg.deeper{k:Nat}{A:Around}{cm:Bool}(r:cg (k + 1) A cm)(env:Env):cg k (A.deeper env) cm :=
 ⟨r.hd,by have:=r.dp;show A.depth + 1 + 3 * k + 5 < _;omega,by have:=r.un;show A.units + 3 + 16 * k + 200 < _;omega,r.gd⟩
theorem xH{A:Around}{C:Addr}{us:List Value}{kw:List (Str×Value)}:(A.under (.builtin "type.__call__" ⟨.ref C::us,kw⟩)).depth=A.depth + 1:=by
 first | rfl | simp[Around.under,Code.weight,Code.isCreation,Code.isGuard,Code.isCaller,Code.frames,Code.isFrame,guardIds]
theorem xI{A:Around}{C:Addr}{us:List Value}{kw:List (Str×Value)}:(A.under (.builtin "type.__call__" ⟨.ref C::us,kw⟩)).units=A.units + 1:=by
 first | rfl | simp[Around.under,Code.cUnits,Code.frames,Code.isFrame]
theorem cg.make{k:Nat}{A:Around}{cm:Bool}(r:cg (k + 1) A cm)(C:Addr)(us:List Value)(kw:List (Str×Value)):cg k (A.under (.builtin "type.__call__" ⟨.ref C::us,kw⟩)) cm :=
 ⟨r.hd,by have:=r.dp;rw[xH];omega,by have:=r.un;rw[xI];omega,r.gd⟩
theorem cg.depth{k:Nat}{A:Around}{cm:Bool}(r:cg k A cm):A.depth < recursionLimit:=by have:=r.dp;omega
theorem cg.units{k:Nat}{A:Around}{cm:Bool}(r:cg k A cm):A.units + 64 < cLine:=by have:=r.un;omega
def mf:TA:=λ_ H Q=>Q [] H
def CH(ta:TE)(tr:TA):TA:=λσ H Q=>ta σ H λx H1=>tr σ H1 λxs H2=>Q (x::xs) H2
section
variable {X:Cx} {e:Expr} {es:List Expr} {te:TE} {t:TA} {pos:Pos}
theorem pN:PA X [] mf:=λ_ _ _ _ H Q I h=>ab9 ⟨[],H,I,.nil,h⟩
theorem pK(ha:PE X e te)(hr:PA X es t)(hs:starEach (e::es) X.env=(false,eval e X.env)::starEach es X.env:=by rfl):PA X (e::es) (CH te t):=by
 intro pos pins s σ H Q I h;rw[hs];show wpAny _ _ (spliced ((false,eval e X.env)::backTo pos (starEach es X.env))) _ _ s;refine ab5 (bF (ha pins s σ H _ I h) λu s1 ⟨x,H1,I1,r1,q1⟩=>?_);exact bF (hr pos pins s1 σ H1 _ I1 q1) λus s2 ⟨xs,H2,I2,r2,q2⟩=>⟨x::xs,H2,I2,.cons r1 r2,q2⟩
def Lc(t:TA):TE:=λσ H Q=>t σ H λxs H1=>xs.length<=sizeLine/\∀p,H1 p=none->Q (.ref p) (upd H1 p (.tup xs))
def Ld(t:TA):TE:=λσ H Q=>t σ H λxs H1=>xs.length<=sizeLine/\∀p,H1 p=none->Q (.ref p) (upd H1 p (.lst xs))
theorem gf{x1}(h:PA X es t):PE X (.Tuple es x1 pos) (Lc t):=by
 intro pins s σ H Q I hq;refine wpAny_Tuple_spliced (bF (h pos pins s σ H _ I hq) λus s1 ⟨xs,H1,I1,r,z,q⟩=>⟨by rw[← r.length];exact z,?_⟩);have hf:H1 s1.heap.objs.size=none:=I1.hok.fresh (aai _);refine⟨.ref s1.heap.objs.size,upd H1 s1.heap.objs.size (.tup xs),I1.laid (t':=s1.toks) (λb u e=>aab _ e) (aai _) ?_,rfl,q _ hf⟩;exact⟨z,us,r,⟨_,aao _ rfl,rfl,_,rfl⟩⟩
theorem ip(h:PA X es t):PE X (.List es pos) (Ld t):=by
 intro pins s σ H Q I hq;refine wpAny_List_spliced (bF (h pos pins s σ H _ I hq) λus s1 ⟨xs,H1,I1,r,z,q⟩=>⟨by rw[← r.length];exact z,?_⟩);have hf:H1 s1.heap.objs.size=none:=I1.hok.fresh (aai _);refine⟨.ref s1.heap.objs.size,upd H1 s1.heap.objs.size (.lst xs),I1.laid (t':=s1.toks) (λb u e=>aab _ e) (aai _) ?_,rfl,q _ hf⟩;exact⟨z,us,0,r,aao _ rfl⟩
end
abbrev Sp:=List V->Hp->VK->XK->Prop
abbrev vA:=List Env->Hp->Shared->XK->Value->Shared->Prop
structure xJ(P:Program)(w:World)(K:aJ)(mg:Str->Option Value)(base:Heap)(A:Around)(outer:List Env)(s:Shared)(H:Hp):Prop where
 frames:A.frames=some outer
 mod:Mod K mg base
 bs:∀b o,base.get? b=some o->s.heap.get? b=some o/\H b=none
 bsz:base.objs.size<=s.heap.objs.size
 m5:s.heap.FunFrames base outer
 frf:∀b∈ia outer,H b=none
 hok:kc P w H s.heap
 bare:AllBare s.gens
def CE(outer:List Env)(P:Program)(w:World)(H:Hp)(s:Shared)(Q:VK)(u:Value)(s':Shared):Prop :=
 ∃v H',s'.os=s.os/\AllBare s'.gens/\Un (ia outer) [] H H' s.heap s'.heap/\kc P w H' s'.heap/\RelV v u/\Q v H'
def CR(CX:vA)(outer:List Env)(P:Program)(w:World)(H:Hp)(s:Shared)(Q:VK)(E:XK)(r:Result)(s':Shared):Prop :=
 match r with
 | .ok (.ret u)=>CE outer P w H s Q u s'
 | .ok _=>False
 | .error e=>CX outer H s E e s'
structure bJ(P:Program)(w:World)(K:aJ)(mg:Str->Option Value)(base:Heap)(CX:vA)(k:Nat)(f:Addr)(fd:FuncData)(ps:List Str)(sp:Sp)(cm:Bool:=true):Prop where
 len:∀vs H Q E,sp vs H Q E->vs.length=ps.length
 run:∀(A:Around) (outer:List Env) (s:Shared) (H:Hp) (args:Args) (us:List Value) (vs:List V) (Q:VK) (E:XK),cg k A cm->xJ P w K mg base A outer s H->BindsTo s fd args (ps.zip us)->Vals vs us->sp vs H Q E ->
  codeAny (model P w) A (.call (.ref f) args) (CR CX outer P w H s Q E) s
theorem xJ.make{P:Program}{w:World}{K:aJ}{mg:Str->Option Value}{base:Heap}{A:Around}{outer:List Env}{s:Shared}{H:Hp}(e:xJ P w K mg base A outer s H)(C:Addr)(us:List Value)(kw:List (Str×Value)):
  xJ P w K mg base (A.under (.builtin "type.__call__" ⟨.ref C::us,kw⟩)) outer s H:=⟨by first | exact e.frames | (simpa [Around.under,Code.envs,Code.isFrame,pushEnvs]using e.frames),e.mod,e.bs,e.bsz,e.m5,e.frf,e.hok,e.bare⟩
section
variable {X:Cx} {pins:List (Addr×Obj)} {σ:St} {H:Hp} {s s':Shared}
theorem Inv.CI(I:Inv X pins σ H s):xJ X.prog X.w X.K X.mg X.base X.A X.stack s H :=
 ⟨I.ok.frames,I.ok.mod,I.bs,aaA I.ok.bsz I.sz,I.stack,I.iM,I.hok,I.bare⟩
theorem Inv.after{Q:VK}{u:Value}(I:Inv X pins σ H s)(h:CE X.stack X.prog X.w H s Q u s'):EP X pins σ Q u s':=by
 obtain⟨v,H',os,bare,un,hok,r,q⟩:=h;obtain⟨hh,g,d,t,os'⟩:=s';obtain rfl:os'=s.os:=os;exact⟨v,H',I.call (h':=hh) (g':=g) (d':=d) (t':=t) (ch:=[]) un hok bare (λb z=>absurd z (by simp)),r,q⟩
end
def vH(sp:Sp)(dvs:List V)(E:XK)(t:TA):TE:=λσ H Q=>t σ H λvs H1=>sp (vs++dvs) H1 Q E
inductive JZ(C:Addr)(m:Str)(x:V)(H:Hp)(R:Prop):Prop where
 | mk (a dx:Addr) (fs:List (Str×V)) (e:x=.ref a) (h:H a=some (.ins C dx fs)) (l:fs.lookup m=none) (r:R):JZ C m x H R
def sr(C:Addr)(m:Str)(sp:Sp)(dvs:List V)(E:XK)(ta:TE)(t:TA):TE:=λσ H Q=>ta σ H λx H1=>JZ C m x H1 (t σ H1 λvs H2=>sp (x::(vs++dvs)) H2 Q E)
def J0(C:Addr)(sp:Sp)(dvs:List V)(E:XK)(t:TA):TE:=λσ H Q=>t σ H λvs H1=>∀x dx,H1 x=none->H1 dx=none->dx≠x ->
 sp (.ref x::(vs++dvs)) (upd (upd H1 dx (.own x)) x (.ins C dx [])) (λv H2=>v=.non/\Q (.ref x) H2) E
def Binds(K:aJ)(fd:FuncData)(ps:List Str)(ds:List Value):Prop :=
 ∀(s:Shared) (us:List Value),K.In s.heap->(us++ds).length=ps.length->BindsTo s fd ⟨us,[]⟩ (ps.zip (us++ds))
theorem Binds.all{K:aJ}{fd:FuncData}{ps:List Str}(h:∀us:List Value,us.length=ps.length->bindArgs fd ⟨us,[]⟩=pure (ps.zip us)):Binds K fd ps []:=λs us _ hl=>by
 rw[aaL]at hl ⊢;exact .of_eq (h us hl)
def Passes(CX:vA)(X:Cx)(E:XK):Prop:=∀(pins:List (Addr×Obj)) (σ:St) (H:Hp) (s:Shared) (e:Value) (s':Shared),Inv X pins σ H s->CX X.stack H s E e s'->X.xe e s'
section
variable {X:Cx} {CX:vA} {k:Nat} {f C:Addr} {fd:FuncData} {ps:List Str} {sp:Sp} {dvs:List V} {ds:List Value} {E:XK} {x m:Str} {p pos apos:Pos} {e o:Expr} {es:List Expr} {ta:TE} {t:TA}
theorem xK{pins:List (Addr×Obj)}{σ:St}{H:Hp}{s:Shared}{Q:VK}{us:List Value}{vs:List V}(F:bJ X.prog X.w X.K X.mg X.base CX k f fd ps sp)(hr:cg k X.A)(hb:Binds X.K fd ps ds)(hd:Vals dvs ds)(hx:Passes CX X E)
  (I:Inv X pins σ H s) (r:Vals vs us) (h:sp (vs++dvs) H Q E):wpAny (model X.prog X.w) X.A (call (.ref f) us) (EP X pins σ Q) X.xe s:=by
 have r2:Vals (vs++dvs) (us++ds):=r.append hd;have hl:(us++ds).length=ps.length:=by rw[← r2.length];exact F.len _ _ _ _ h
 refine abV (abw (F.run X.A X.stack s H ⟨us,[]⟩ (us++ds) (vs++dvs) Q E hr I.CI (hb s us I.iL hl) r2 h) λr s' hq=>?_)
 cases r with
 | error e=>exact hx pins σ H s e s' I hq
 | ok fl =>
  cases fl with
  | ret u=>exact I.after hq
  | next=>exact False.elim hq
  | brk=>exact False.elim hq
  | cont=>exact False.elim hq
theorem zB(F:bJ X.prog X.w X.K X.mg X.base CX k f fd ps sp)(hr:cg k X.A)(hg:Gl X x)(hm:X.mg x=some (.ref f))(hk:PySem.W.keepIn X.K (.ref f)=true)(hb:Binds X.K fd ps ds)(hd:Vals dvs ds)(hx:Passes CX X E)
  (ha:PA X (e::es) t) (hdb:(x == ("__debug__" : Str))=false:=by decide) (he:starEach (e::es) X.env=(false,eval e X.env)::starEach es X.env:=by rfl) (hpl:(backTo pos (starEach es X.env)).any (·.1)=false:=by rfl) :
  PE X (.Call (.Name x p) (e::es) [] pos) (vH sp dvs E t):=by
 intro pins s σ H Q I h;refine aaX (fM I hg hm ?_ hdb);refine aaY (h₀:=X.base) I.ok.mod.kin hk (bF (ha pos pins s σ H _ I h) λus s1 ⟨vs,H1,I1,r,q⟩=>⟨I1.iL,?_⟩) he hpl;exact xK F hr hb hd hx I1 r q
theorem GH{pl:Sem Bool}(he:PE X o ta)(c:zz X.K C)(hm:Meth X.K C m f)(F:bJ X.prog X.w X.K X.mg X.base CX k f fd ps sp)(hr:cg k X.A)(hb:Binds X.K fd ps ds)(hd:Vals dvs ds)(hx:Passes CX X E)(ha:PA X (e::es) t)
  (hst:starEach (e::es) X.env=(false,eval e X.env)::starEach es X.env:=by rfl) (hpl:(backTo pos (starEach es X.env)).any (·.1)=false:=by rfl)
  (ht:eval (.Call (.Attribute o m apos) (e::es) [] pos) X.env=(do
   let ov ← eval o X.env
   standAt apos.atName
   let (f,first) ← holding [ov] (getMethod ov m pl)
   callWith pos f first (backTo pos (starEach (e::es) X.env)) (backToKw pos (keywordEach [] X.env))):=by rfl) :
  PE X (.Call (.Attribute o m apos) (e::es) [] pos) (sr C m sp dvs E ta t):=by
 intro pins s σ H Q I h;refine abQ (pl:=pl) (bF (he pins s σ H _ I h) λu s1 ⟨x,H1,I1,rx,a,dx,fs,ex,ea,l,q⟩=>?_) ht;subst ex;obtain rfl:u=Value.ref a:=rx;refine lC I1 ea c hm l ?_;refine aaY (first:=[.ref a]) (h₀:=X.base) I.ok.mod.kin hm.kp (bF (ha pos pins s1 σ H1 _ I1 q) λus s2 ⟨vs,H2,I2,r,q2⟩=>⟨I2.iL,?_⟩) hst hpl;exact xK (us:=.ref a::us) (vs:=.ref a::vs) F hr hb hd hx I2 (.cons rfl r) q2
theorem CJ{pl:Sem Bool}(he:PE X o ta)(c:zz X.K C)(hm:Meth X.K C m f)(F:bJ X.prog X.w X.K X.mg X.base CX k f fd ps sp)(hr:cg k X.A)(hb:Binds X.K fd ps ds)(hd:Vals dvs ds)(hx:Passes CX X E)
  (ht:eval (.Call (.Attribute o m apos) [] [] pos) X.env=(do
   let ov ← eval o X.env
   standAt apos.atName
   let (f,first) ← holding [ov] (getMethod ov m pl)
   callWith pos f first (backTo pos (starEach [] X.env)) (backToKw pos (keywordEach [] X.env))):=by rfl) :
  PE X (.Call (.Attribute o m apos) [] [] pos) (sr C m sp dvs E ta mf):=by
 intro pins s σ H Q I h;refine abQ (pl:=pl) (bF (he pins s σ H _ I h) λu s1 ⟨x,H1,I1,rx,a,dx,fs,ex,ea,l,q⟩=>?_) ht;subst ex;obtain rfl:u=Value.ref a:=rx;refine lC I1 ea c hm l ?_;exact PySem.W.callWith_K0 (first:=[.ref a]) I1.iL hm.kp (xK (us:=[.ref a]) (vs:=[.ref a]) F hr hb hd hx I1 (.cons rfl .nil) q)
structure Mk(K:aJ)(C f:Addr):Prop where
 makes:PySem.W.makesIn K C=true
 init:PySem.W.findIn K (.ref C) "__init__"=some (some (.ref f))
 fn:PySem.W.isFn K (.ref f)=true
 kp:PySem.W.keepIn K (.ref C)=true
theorem CK{pins:List (Addr×Obj)}{σ:St}{H:Hp}{s:Shared}{Q:VK}{us:List Value}{vs:List V}(M:Mk X.K C f)(F:bJ X.prog X.w X.K X.mg X.base CX k f fd ps sp)(hr:cg (k + 1) X.A)(hb:Binds X.K fd ps ds)(hd:Vals dvs ds)
  (hx:Passes CX X E) (I:Inv X pins σ H s) (r:Vals vs us)
  (h:∀x dx,H x=none->H dx=none->dx≠x->sp (.ref x::(vs++dvs)) (upd (upd H dx (.own x)) x (.ins C dx [])) (λv H2=>v=.non/\Q (.ref x) H2) E) :
  wpAny (model X.prog X.w) X.A (call (.ref C) us) (EP X pins σ Q) X.xe s:=by
 have hq:=h (s.heap.objs.size + 1) s.heap.objs.size (I.hok.fresh (abg _)) (I.hok.fresh (aai _)) (aak (Nat.lt_succ_self _));have I2:=Inv.made (C:=C) I;have r2:Vals (V.ref (s.heap.objs.size + 1)::(vs++dvs)) (Value.ref (s.heap.objs.size + 1)::(us++ds)):=.cons rfl (r.append hd)
 have hl:(Value.ref (s.heap.objs.size + 1)::us++ds).length=ps.length:=by
  have e:=r2.length;rw[F.len _ _ _ _ hq]at e;exact e.symm
 refine abV (CG (f:=f) I.iL M.makes M.init (beq_iff_eq.mp M.fn) (abw (F.run _ X.stack _ _ ⟨Value.ref (s.heap.objs.size + 1)::us,[]⟩ (Value.ref (s.heap.objs.size + 1)::(us++ds)) _ _ E (hr.make C us [])
  (I2.CI.make C us []) (hb _ (Value.ref (s.heap.objs.size + 1)::us) I2.iL hl) r2 hq) λr s' hq'=>?_))
 cases r with
 | error e=>exact hx pins σ _ _ e s' I2 hq'
 | ok fl =>
  cases fl with
  | ret u =>
   obtain⟨v,H',I3,rv,ev,q3⟩:=I2.after hq';subst ev;exact⟨rv,⟨V.ref (s.heap.objs.size + 1),H',I3,rfl,q3⟩⟩
  | next=>exact False.elim hq'
  | brk=>exact False.elim hq'
  | cont=>exact False.elim hq'
theorem GI(M:Mk X.K C f)(F:bJ X.prog X.w X.K X.mg X.base CX k f fd ps sp)(hr:cg (k + 1) X.A)(hg:Gl X x)(hm:X.mg x=some (.ref C))(hb:Binds X.K fd ps ds)(hd:Vals dvs ds)(hx:Passes CX X E)
  (ha:PA X (e::es) t) (hdb:(x == ("__debug__" : Str))=false:=by decide) (he:starEach (e::es) X.env=(false,eval e X.env)::starEach es X.env:=by rfl) (hpl:(backTo pos (starEach es X.env)).any (·.1)=false:=by rfl) :
  PE X (.Call (.Name x p) (e::es) [] pos) (J0 C sp dvs E t):=by
 intro pins s σ H Q I h;refine aaX (fM I hg hm ?_ hdb);refine aaY (h₀:=X.base) I.ok.mod.kin M.kp (bF (ha pos pins s σ H _ I h) λus s1 ⟨vs,H1,I1,r,q⟩=>⟨I1.iL,?_⟩) he hpl;exact CK M F hr hb hd hx I1 r q
end
section
variable {X:Cx} {CX:vA} {k:Nat} {f C:Addr} {fd:FuncData} {ps ks:List Str} {sp:Sp} {E:XK} {x m:Str} {p pos apos kpos:Pos} {e o:Expr} {es:List Expr} {kws:List Keyword} {te ta:TE} {t tk:TA} {nm:Option Str}
structure Sb(K:aJ)(fd:FuncData)(ps ks:List Str)(g:List Value->List Value->List Value)(gV:List V->List V->List V):Prop where
 to:∀(s:Shared) (us ws:List Value),K.In s.heap->(g us ws).length=ps.length->BindsTo s fd ⟨us,ks.zip ws⟩ (ps.zip (g us ws))
 rel:∀{vs:List V} {us:List Value} {zs:List V} {ws:List Value},Vals vs us->Vals zs ws->Vals (gV vs zs) (g us ws)
variable {g:List Value->List Value->List Value} {gV:List V->List V->List V}
end
structure aO(N P:List Str)(sc:Scope):Prop where
 kind:sc.kind=.function
 co:sc.isCoroutine=false
 gen:sc.isGenerator=false
 nd:N.Nodup
 pre:N.take P.length=P
 par:∀x∈P,sc.names.lookup x=some .local∨sc.names.lookup x=some .cell
 nofree:∀y∈sc.names,y.2≠.free
theorem su{kindOf:Str->Option NameKind}{x:Str}:∀{binds:List (Str×Value)} {m:Str->Option Value},(∀v,(x,v)∉binds)->bindL kindOf binds m x=m x
 | [],_,_=>rfl
 | (n,v)::r,m,h=>by
  unfold bindL;rw[su λw hw=>h w (List.mem_cons_of_mem _ hw)];split
  ·have:x≠n:=by rintro rfl;exact h v aae
   simp[this]
  ·rfl
theorem sv{kindOf:Str->Option NameKind}{x:Str}:∀{binds:List (Str×Value)} {m:Str->Option Value},(∀v,(x,v)∉binds)->bindC kindOf binds m x=m x
 | [],_,_=>rfl
 | (n,v)::r,m,h=>by
  unfold bindC;rw[sv λw hw=>h w (List.mem_cons_of_mem _ hw)];split
  ·rfl
  ·have:x≠n:=by rintro rfl;exact h v aae
   simp[this]
theorem sy{kindOf:Str->Option NameKind}{x:Str}{v:Value}:∀{P:List Str} {vs:List Value} {i:Nat} {m:Str->Option Value},P.Nodup->P[i]?=some x->vs[i]?=some v->kindOf x=some .local ->
  bindL kindOf (P.zip vs) m x=some v
 | [],_,_,_,_,h,_,_=>by simp at h
 | _::_,[],_,_,_,_,h,_=>by simp at h
 | p::P,w::vs,0,m,nd,h1,h2,hk=>by
  simp at h1 h2;subst h1;subst h2;show bindL kindOf ((p,w)::P.zip vs) m p=_;unfold bindL;rw[su λv hv=>(List.nodup_cons.mp nd).1 (List.of_mem_zip hv).1,if_pos hk];simp
 | p::P,w::vs,i + 1,m,nd,h1,h2,hk=>by
  show bindL kindOf ((p,w)::P.zip vs) m x=_;unfold bindL;exact sy (i:=i) (List.nodup_cons.mp nd).2 (by simpa using h1) (by simpa using h2) hk
theorem sA{kindOf:Str->Option NameKind}{x:Str}{v:Value}:∀{P:List Str} {vs:List Value} {i:Nat} {m:Str->Option Value},P.Nodup->P[i]?=some x->vs[i]?=some v->kindOf x≠some .local ->
  bindC kindOf (P.zip vs) m x=some v
 | [],_,_,_,_,h,_,_=>by simp at h
 | _::_,[],_,_,_,_,h,_=>by simp at h
 | p::P,w::vs,0,m,nd,h1,h2,hk=>by
  simp at h1 h2;subst h1;subst h2;show bindC kindOf ((p,w)::P.zip vs) m p=_;unfold bindC;rw[sv λv hv=>(List.nodup_cons.mp nd).1 (List.of_mem_zip hv).1,if_neg hk];simp
 | p::P,w::vs,i + 1,m,nd,h1,h2,hk=>by
  show bindC kindOf ((p,w)::P.zip vs) m x=_;unfold bindC;exact sA (i:=i) (List.nodup_cons.mp nd).2 (by simpa using h1) (by simpa using h2) hk
def start(N:List Str)(vs:List V):St:=vs.map some++List.replicate (N.length - vs.length) none
def j8(CX:vA)(P:Program)(w:World)(K:aJ)(mg:Str->Option Value)(base:Heap)(N:List Str)(qual:Str)(scope:Scope)(f:Addr)(cd:Value)(A:Around)(outer:List Env)(s:Shared)(H:Hp)(E:XK)(cm:Bool:=true):Cx where
 prog:=P
 w:=w
 K:=K
 mg:=mg
 base:=base
 A:=A.deeper (envOfC qual scope s.heap.objs.size f cd)
 N:=N
 s₀:=s
 H₀:=H
 env:=envOfC qual scope s.heap.objs.size f cd
 outer:=outer
 stack:=envOfC qual scope s.heap.objs.size f cd::outer
 ex:=[]
 calm:=cm
 fn:=λ_=>true
 pn:=[]
 xe:=λe s'=>wpAny (model P w) (A.deeper (envOfC qual scope s.heap.objs.size f cd)) (leaving (envOfC qual scope s.heap.objs.size f cd) e) (λ_ s''=>CX outer H s E e s'') (λe' s''=>CX outer H s E e' s'') s'
theorem vI{sc:Scope}{n:Nat}{x:Str}(h:sc.names.lookup x=some .cell):∃c,(cellsFrom n sc.names []).lookup x=some c:=by
 have q:=acw sc.names n [] (.inl h);exact acg.mp q
theorem AH{cm:Bool}{CX:vA}{P:Program}{w:World}{K:aJ}{mg:Str->Option Value}{base:Heap}{N ps:List Str}{qual:Str}{scope:Scope}{f:Addr}{cd:Value}{A:Around}{outer:List Env}{s s1:Shared}{H:Hp}{E:XK}{us:List Value}{vs:List V}
  (S:aO N ps scope) (hd:cm=true->A.handled=none) (e0:xJ P w K mg base A outer s H) (hl:vs.length=ps.length) (r:Vals vs us)
  (x:InCallC s s.heap.objs.size (bindL (envOfC qual scope s.heap.objs.size f cd).kindOf (ps.zip us) λ_=>none) (cellsFrom (s.heap.objs.size + 1) scope.names []) (bindC (envOfC qual scope s.heap.objs.size f cd).kindOf (ps.zip us) λ_=>none) s1) :
  Inv (j8 CX P w K mg base N qual scope f cd A outer s H E cm) [] (start N vs) H s1:=by
 have hpl:ps.length<=N.length:=by have:=abb List.length S.pre;rw[aa5]at this;omega
 obtain⟨h1,tk,rfl,hk⟩:=x.done;have noA:∀b:Addr,b∉(j8 CX P w K mg base N qual scope f cd A outer s H E cm).ex:=λb z=>absurd (show b∈([]:List Addr)from z) (by simp)
 refine⟨⟨e0.mod,S.kind,rfl,rfl,aai _,λy z c h1 h2=>?_,λy hy=>?_,λy c _ h=>?_,hd,Around.frames_deeper e0.frames,.inr ⟨rfl,rfl⟩,λb z=>absurd z (noA b),e0.bs,e0.bsz,λb _ _=>noA b,λb z=>absurd z (noA b),e0.m5,e0.frf⟩,
  rfl,e0.bare,Un.kept hk,⟨_,x.toInCall.ns,λi y v h1 h2 h3=>?_⟩,λy c h=>⟨_,x.cell y c h⟩,e0.hok.fresh (Nat.le_refl _),λy c h=>?_,λp hp=>absurd (show p∈([]:List (Addr×Obj))from hp) (by simp),e0.hok.kept hk,?_⟩
 ·exact name_of_addr x.apart (abl h1) (abl h2)
 ·have hy:scope.names.lookup y=some .cell∨scope.names.lookup y=some .free:=hy;rcases hy with hy | hy
  ·exact vI hy
  ·exact absurd rfl (S.nofree _ (abl hy))
 ·exact aa3 (x.above y c (abl h))
 ·have hi:i < vs.length:=by
   unfold start at h2;by_cases hi:i < vs.length
   ·exact hi
   ·rw[List.getElem?_append_right (by simpa using hi)]at h2;rw[List.getElem?_replicate]at h2;split at h2<;>cases h2
  have ha:vs[i]?=some v:=by
   unfold start at h2;rw[List.getElem?_append_left (by simpa using hi),List.getElem?_map]at h2
   cases e:vs[i]? with
   | none=>rw[e]at h2;cases h2
   | some a=>rw[e]at h2;cases h2;rfl
  obtain⟨u,hu,rv⟩:=r.get ha
  have hp:ps[i]?=some y:=by
   rw[← S.pre,ach (by omega)];exact h1
  have ndP:ps.Nodup:=by rw[← S.pre];exact S.nd.sublist (List.take_sublist _ _)
  refine⟨u,rv,?_⟩;rcases S.par y (aaz hp)with k | k
  ·exact .inl ⟨k,sy ndP hp hu k⟩
  ·obtain⟨c,e⟩:=vI (n:=s.heap.objs.size + 1) k;refine .inr ⟨.inl k,c,e,?_⟩;have q:=x.cell y c e;rw[sA ndP hp hu (by show scope.names.lookup y≠_;rw[k];decide)]at q;exact q
 ·exact e0.hok.fresh (aa3 (x.above y c (abl h)))
 ·unfold start;show _=N.length;rw[List.length_append,List.length_map,List.length_replicate];omega
theorem J5{cm:Bool}{CX:vA}{P:Program}{w:World}{K:aJ}{mg:Str->Option Value}{base:Heap}{k:Nat}{f:Addr}{name qual:Str}{params:Arguments}{body:List Stmt}{scope:Scope}{dV kV doc pm cdv ct oc:Value}{an od:Option Addr}
  {osl:Array (Option Value)} {N ps:List Str} {sp:Sp} (lk:K.lookup f=some ⟨oc,od,.func (PySem.W.fnOf name qual params body scope dV kV doc pm an cdv ct),osl⟩) (hcd:PySem.W.codeIn K cdv qual=true) (S:aO N ps scope)
  (len:∀vs H Q E,sp vs H Q E->vs.length=ps.length)
  (hbody:∀(A:Around) (outer:List Env) (s:Shared) (H:Hp) (vs:List V) (Q:VK) (E:XK),cg k (A.deeper (envOfC qual scope s.heap.objs.size f cdv)) cm->sp vs H Q E ->
   ∃t,pV (j8 CX P w K mg base N qual scope f cdv A outer s H E cm) body t/\t {nx:=λ_ H'=>Q .non H',rt:=Q} (start N vs) H) :
  bJ P w K mg base CX (k + 1) f (PySem.W.fnOf name qual params body scope dV kV doc pm an cdv ct) ps sp cm:=by
 refine⟨len,λA outer s H args us vs Q E hr e0 hb r hsp=>?_⟩;have hl:=len _ _ _ _ hsp;have KX:K.In s.heap:=e0.mod.kin.keeps λb o e=>(e0.bs b o e).1
 have lim:s.heap.NoLimit:=e0.mod.nolimit.keeps λb o e=>(e0.bs b o e).1
 have hkind:∀y∈ps.zip us,scope.names.lookup y.1=some .local∨(scope.names.lookup y.1=some .cell/\((cellsFrom (s.heap.objs.size + 1) scope.names []).lookup y.1).isSome=true):=λ⟨n,v⟩ hy=>by
  rcases S.par n (List.of_mem_zip hy).1 with q | q
  ·exact .inl q
  ·exact .inr ⟨q,acw _ _ _ (.inl q)⟩
 refine codeAny_call_function hr.depth (KX _ _ lk) rfl S.co S.gen rfl (PySem.W.codeRec_of KX hcd) (hb _ _ _ _ ?_);refine wpAny_newFunctionEnv_cells S.kind hkind λenv he s1 x=>?_
 subst he;refine⟨lim.keeps x.toInCall.keep,codeAny_func ?_⟩;obtain⟨t,ht,hq⟩:=hbody A outer s H vs Q E (hr.deeper _) hsp;have I:Inv (j8 CX P w K mg base N qual scope f cdv A outer s H E cm) [] (start N vs) H s1:=AH S hr.hd e0 hl r x;refine aat (ht [] s1 (start N vs) H _ I hq) (λfl s' hs=>?_) λe s' hs=>hs
 have fin:∀{σ':St} {H':Hp} {v:V} {u:Value},Inv (j8 CX P w K mg base N qual scope f cdv A outer s H E cm) [] σ' H' s'->RelV v u->Q v H'->CE outer P w H s Q u s' :=
  λ{σ' H' v u} J rv q=>⟨v,H',J.os,J.bare,J.base,J.hok,rv,q⟩
 cases fl with
 | ret u =>
  obtain⟨v,σ',H',J,rv,q⟩:=hs;exact fin J rv q
 | next =>
  obtain⟨σ',H',J,q⟩:=hs;exact fin (v:=V.non) (u:=Value.none) J rfl q
 | brk =>
  obtain⟨_,_,_,q⟩:=hs;exact False.elim q
 | cont =>
  obtain⟨_,_,_,q⟩:=hs;exact False.elim q
section
variable {X:Cx} {x:Str} {p pos:Pos} {e:Expr} {es:List Expr} {t:TA} {id T:String} {r:List V->Hp->VK->Prop}
def Sd(r:List V->Hp->VK->Prop)(t:TA):TE:=λσ H Q=>t σ H λvs H1=>r vs H1 Q
theorem p5(hc:iN X (.builtin id) r)(hg:Gl X x)(hm:X.mg x=none)(hv:bootBuiltins x=some (.builtin id))(ha:PA X (e::es) t)(hn:x≠"__name__":=by decide)(hdb:(x == ("__debug__" : Str))=false:=by decide)
  (he:starEach (e::es) X.env=(false,eval e X.env)::starEach es X.env:=by rfl) (hpl:(backTo pos (starEach es X.env)).any (·.1)=false:=by rfl):PE X (.Call (.Name x p) (e::es) [] pos) (Sd r t):=by
 intro pins s σ H Q I h;refine aaX (lA I hg hm hv ?_ hn hdb);exact PyProof.Rows.callWith_builtin1 (bF (ha pos pins s σ H _ I h) λus s1 ⟨vs,H1,I1,r1,q1⟩=>hc pins s1 σ H1 vs us Q I1 r1 q1) he hpl
theorem jh(hc:iN X (.type T) r)(hg:Gl X x)(hm:X.mg x=none)(hv:bootBuiltins x=some (.type T))(ha:PA X (e::es) t)(hn:x≠"__name__":=by decide)(hdb:(x == ("__debug__" : Str))=false:=by decide)
  (he:starEach (e::es) X.env=(false,eval e X.env)::starEach es X.env:=by rfl) (hpl:(backTo pos (starEach es X.env)).any (·.1)=false:=by rfl):PE X (.Call (.Name x p) (e::es) [] pos) (Sd r t):=by
 intro pins s σ H Q I h;refine aaX (lA I hg hm hv ?_ hn hdb);exact aaT (bF (ha pos pins s σ H _ I h) λus s1 ⟨vs,H1,I1,r1,q1⟩=>hc pins s1 σ H1 vs us Q I1 r1 q1) he hpl
end
end L2
namespace HT
open PySem PyProof.Rows
section
open PySem.SeqAt
open PySem.AutoSeq1 (wpAny_loadPart')
open PySem.MeetsSeq PySem.MeetsSeq2 PySem.MeetsSeq3
end
section
variable {prog:Program} {w:World} {A:Around} {E:Value->Shared->Prop} {s:Shared}
theorem GJ{t b:Addr}{vs ws:List Value}{Q:Value->Shared->Prop}(ht:IsTup s.heap t vs.toArray)(hb:IsTup s.heap b ws.toArray)(hv:vs≠[])
  (h1:ws=[]->Q (.ref t) s) (h2:ws≠[]->Q (.ref s.heap.objs.size) {s with heap:=s.heap.push {cls:=.type "tuple",data:=.seq (vs++ws).toArray}})
  (hsz:vs.length + ws.length<=sizeLine):wpAny (model prog w) A (binaryOp .Add (.ref t) (.ref b)) Q E s:=by
 obtain⟨⟨cls,dd,data,sl⟩,ho,hc,n,hd⟩:=id ht;obtain⟨⟨W9,Vu,data2,Le⟩,AJ,O7,n2,hd2⟩:=id hb;simp only at hc hd O7 hd2;subst hc hd O7 hd2;have e:vs.toArray++ws.toArray=(vs++ws).toArray:=by simp
 by_cases hw:ws=[]
 ·exact concat_meets ⟨_,ho,rfl⟩ ⟨_,AJ,rfl⟩ noFill_tuple_add seq_tuple_add acx acu (aci _ _)
   (tuple_addW1 t b vs.toArray ws.toArray n n2 dd Vu sl Le (by simpa using hv) (by simp[hw])) ⟨ho,AJ,h1 hw⟩
 ·refine concat_meets ⟨_,ho,rfl⟩ ⟨_,AJ,rfl⟩ noFill_tuple_add seq_tuple_add acx acu (aci _ _)
   (tuple_addW2 t b vs.toArray ws.toArray n n2 dd Vu sl Le (by simpa using hv) (by simpa using hw) (by rw[List.size_toArray,List.size_toArray];exact hsz)) ⟨ho,AJ,?_⟩
  rw[e];exact h2 hw
def dJ(n d:Nat):Option Int->Nat
 | none=>d
 | some v=>if v < 0 then(v + (n:Int)).toNat else min v.toNat n
theorem Lf(n d:Nat)(hd:d<=n)(o:Option Int):dJ n d o<=n:=by
 cases o with
 | none=>exact hd
 | some v =>
  show(if v < 0 then(v + (n:Int)).toNat else min v.toNat n)<=n;by_cases hv:v < 0
  ·rw[aap hv];omega
  ·rw[aan hv];exact Nat.min_le_right _ _
theorem zC(v:Int)(n d:Nat):(if v < 0 then max (v + (n:Int)) 0 else min v (n:Int))=((dJ n d (some v):Nat):Int):=by
 show(if v < 0 then max (v + (n:Int)) 0 else min v (n:Int))=(((if v < 0 then(v + (n:Int)).toNat else min v.toNat n):Nat):Int);by_cases hv:v < 0
 ·simp only[if_pos hv];omega
 ·simp only[if_neg hv];omega
theorem xM(lo hi:Option Int)(n:Nat):Builtin.Slice.sliceAdjust lo hi 1 (n:Int)=(((dJ n 0 lo:Nat):Int),((dJ n n hi:Nat):Int)):=by
 have h1:¬ ((1:Int) < 0):=by omega
 unfold Builtin.Slice.sliceAdjust;simp only[h1,if_false];refine Prod.ext ?_ ?_
 ·cases lo with
  | none=>rfl
  | some v=>exact zC v n 0
 ·cases hi with
  | none=>rfl
  | some v=>exact zC v n n
theorem xN(i j:Nat):Builtin.Slice.slicePlaces (i:Int) (j:Int) 1=j - i:=by
 unfold Builtin.Slice.slicePlaces;have h1:(1:Int) > 0:=by omega
 simp only[h1,if_true,Int.ediv_one];split<;>omega
theorem p6{v:Value}{o:Option Int}{Q:Option Int->Shared->Prop}(p:IsPart v o)(h:Q o s):wpAny (model prog w) A (Builtin.Slice.slicePartIndex v) Q E s:=by
 cases p with
 | none=>exact slicePart_none h
 | int i t=>exact slicePart_int h
theorem ji{sl:Addr}{vl vu:Value}{lo hi:Option Int}{n:Nat}{Q:Int×Int×Nat->Shared->Prop}(hs:s.heap.IsSliceOf sl vl vu .none)(pl:IsPart vl lo)(pu:IsPart vu hi)
  (h:Q (((dJ n 0 lo:Nat):Int),1,dJ n n hi - dJ n 0 lo) s):wpAny (model prog w) A (Builtin.Slice.sliceApplied (.ref sl) (pure (n:Int))) Q E s:=by
 obtain⟨os,hos,hcs,hds⟩:=id hs;unfold Builtin.Slice.sliceApplied Builtin.Slice.sliceFields;refine wpAny_bind (wpAny_bind (wpAny_field hos hds (x:=vl) rfl (wpAny_bind (wpAny_field hos hds (x:=vu) rfl (wpAny_bind (wpAny_field hos hds (x:=.none) rfl (wpAny_pure ?_)))))));refine wpAny_bind (slicePart_none ?_);show wpAny _ _ (if ((1:Int) == 0)=true then _ else _) _ _ s;rw[if_neg (by decide)];refine wpAny_bind (p6 pl (wpAny_bind (p6 pu (wpAny_bind (wpAny_pure ?_)))));show wpAny _ _ (match Builtin.Slice.sliceAdjust lo hi 1 (n:Int)with | (lo,hi)=>pure (lo,(1:Int),Builtin.Slice.slicePlaces lo hi 1)) _ _ s;rw[xM lo hi n];show wpAny _ _ (pure (((dJ n 0 lo:Nat):Int),(1:Int),Builtin.Slice.slicePlaces ((dJ n 0 lo:Nat):Int) ((dJ n n hi:Nat):Int) 1)) _ _ s;rw[xN];exact wpAny_pure h
theorem CM(xs:Array Value)(i k:Nat):((List.range k).filterMap λ(m:Nat)=>xs[((i:Int) + (m:Int) * 1).toNat]?).toArray=((xs.toList.drop i).take k).toArray:=by
 have e:(λ(m:Nat)=>xs[((i:Int) + (m:Int) * 1).toNat]?)=λm=>xs[i + m]?:=by
  funext m
  have:((i:Int) + (m:Int) * 1).toNat=i + m:=by omega
  rw[this]
 rw[e];have:=pick_run xs i k;rw[List.filterMap_map]at this;have e2:((λx=>xs[x]?) ∘ λx=>i + x)=λm=>xs[i + m]?:=rfl
 rw[e2]at this;rw[this]
theorem mh{t sl:Addr}{items:Array Value}{vl vu:Value}{lo hi:Option Int}{Q:Value->Shared->Prop}(ht:IsTup s.heap t items)(hs:s.heap.IsSliceOf sl vl vu .none)(pl:IsPart vl lo)(pu:IsPart vu hi)
  (hw:¬ (dJ items.size 0 lo=0/\dJ items.size items.size hi=items.size))
  (h:Q (.ref s.heap.objs.size) {s with heap:=s.heap.push {cls:=.type "tuple",data:=.seq ((items.toList.drop (dJ items.size 0 lo)).take (dJ items.size items.size hi - dJ items.size 0 lo)).toArray}})
  (hsz:items.size<=sizeLine):wpAny (model prog w) A (getItem (.ref t) (.ref sl)) Q E s:=by
 have htake:sizeOk (.seq ((items.toList.drop (dJ items.size 0 lo)).take (dJ items.size items.size hi - dJ items.size 0 lo)).toArray):=by
  show((items.toList.drop (dJ items.size 0 lo)).take (dJ items.size items.size hi - dJ items.size 0 lo)).toArray.size<=sizeLine;rw[aaC,aa5,acj,Array.length_toList];omega
 have hj:dJ items.size items.size hi<=items.size:=Lf _ _ (Nat.le_refl _) hi;obtain⟨os,hos,hcs,hds⟩:=id hs;have hTs:s.TypeIs (.ref sl) "slice":=⟨os,hos,hcs⟩;unfold getItem
 try with_reducible refine aaP ?_
 first | refine aac (aag ?_) | skip
 refine aac (wpAny_sequenceKey ht.typeIs (by decide) ?_);refine aac (wpAny_callSpecial?_slot (name:=Str.ofString "__getitem__") ht.typeIs abm
  (ack abm ht.typeIs entry_tuple_getitem ?_ (args_tuple_getitem _ _)))
 show wpAny _ _ (Builtin.Tuple.tupleItemsOf (.ref t) >>= _) _ _ s;refine aac (tupleItemsOf_ ht ?_);refine aac (wpAny_typeOf hTs ?_);rw[aap (by decide)];refine aac (ji hs pl pu ?_)
 have hno:¬ ((((dJ items.size 0 lo:Nat):Int) == 0&&(1:Int) == 1&&(dJ items.size items.size hi - dJ items.size 0 lo) == items.size)=true):=by
  intro q;rw[abN,abN]at q;have q1:((dJ items.size 0 lo:Nat):Int)=0:=eq_of_beq q.1.1;have q2:dJ items.size items.size hi - dJ items.size 0 lo=items.size:=eq_of_beq q.2;exact hw ⟨by omega,by omega⟩
 show wpAny _ _ (if (((dJ items.size 0 lo:Nat):Int) == 0&&(1:Int) == 1&&(dJ items.size items.size hi - dJ items.size 0 lo) == items.size)=true then _ else _) _ _ s;rw[aan hno,CM]
 first
  | exact aac (m:=Builtin.Tuple.tupleExact _) (abe (aag ⟨_,rfl,aag h⟩) htake)
  | exact aac (m:=Builtin.Tuple.tupleExact _) (abe (aac (aag (aag ⟨_,rfl,aag h⟩))) htake)
  | exact aac (aac (m:=Builtin.Tuple.tupleExact _) (abe (aag (aag ⟨_,rfl,aag h⟩)) htake))
  | exact aac (aac (m:=Builtin.Tuple.tupleExact _) (abe (aag ⟨_,rfl,aag h⟩) htake))
end
end HT
namespace L2
open PySem PySem.Spec PyProof.Rows
abbrev TO:=St->Hp->(Option Int->Hp->Prop)->Prop
def PO(X:Cx)(e:Option Expr)(t:TO):Prop :=
 ∀(pins:List (Addr×Obj)) (s:Shared) (σ:St) (H:Hp) (Q:Option Int->Hp->Prop),Inv X pins σ H s->t σ H Q ->
  wpAny (model X.prog X.w) X.A (evalPart e X.env) (λu s'=>∃o H',Inv X pins σ H' s'/\IsPart u o/\Q o H') X.xe s
def GK:TO:=λ_ H Q=>Q none H
def O8(t:TE):TO:=λσ H Q=>t σ H λx H1=>∃i,x=.int i/\Q (some i) H1
section
variable {X:Cx} {e:Expr} {te:TE} {lo hi:Option Expr} {tl th:TO} {pos p2:Pos}
theorem tU:PO X none GK:=by
 intro pins s σ H Q I h;rw[evalPart_none];exact aag ⟨none,H,I,.none,h⟩
theorem tV(h:PE X e te):PO X (some e) (O8 te):=by
 intro pins s σ H Q I hw;rw[evalPart_some];refine bF (h pins s σ H _ I hw) λu s1 ⟨x,H1,I1,r1,q1⟩=>?_
 obtain⟨i,rfl,q⟩:=q1;obtain⟨t,rfl⟩:=r1;exact⟨some i,H1,I1,.int i t,q⟩
def FP(X:Cx)(r:V->Option Int->Option Int->Hp->VK->Prop):Prop :=
 ∀(pins:List (Addr×Obj)) (s:Shared) (σ:St) (H:Hp) (x:V) (v vl vu:Value) (lo hi:Option Int) (sl:Addr) (Q:VK),Inv X pins σ H s->RelV x v->s.heap.IsSliceOf sl vl vu .none->IsPart vl lo->IsPart vu hi->r x lo hi H Q ->
  ∃T id,typeLookup (.type T) "__getitem__"=pure (some (.builtin id))/\s.TypeIs v T/\wpAny (model X.prog X.w) X.A (getItem v (.ref sl)) (EP X pins σ Q) X.xe s
def Xa(r:V->Option Int->Option Int->Hp->VK->Prop)(te:TE)(tl th:TO):TE:=λσ H Q=>te σ H λx H1=>tl σ H1 λl H2=>th σ H2 λu H3=>r x l u H3 Q
theorem p7{r:V->Option Int->Option Int->Hp->VK->Prop}(hr:FP X r)(he:PE X e te)(hl:PO X lo tl)(hu:PO X hi th):PE X (.Subscript e (.Slice lo hi none p2) pos) (Xa r te tl th):=by
 intro pins s σ H Q I h;refine Subscript_ (bF (he pins s σ H _ I h) λv s1 ⟨x,H1,I1,r1,q1⟩=>?_);refine wpAny_Slice (bF (hl pins s1 σ H1 _ I1 q1) λvl s2 ⟨l,H2,I2,pl,q2⟩=>bF (hu pins s2 σ H2 _ I2 q2) λvu s3 ⟨u,H3,I3,pu,q3⟩=>?_);rw[evalPart_none];refine aag ?_;have I4:Inv X pins σ H3 {s3 with heap:=s3.heap.push {cls:=.type "slice",data:=.fields #[vl,vu,.none]}}:=I3.kept (t':=s3.toks) λb ob q=>aab _ q
 obtain⟨T,id,hT,ht,hg⟩:=hr pins {s3 with heap:=s3.heap.push {cls:=.type "slice",data:=.fields #[vl,vu,.none]}} σ H3 x v vl vu l u s3.heap.objs.size Q I4 r1 (Heap.IsSliceOf.new ..) pl pu q3;show wpAny (model X.prog X.w) X.A (subscriptTail e (.Slice lo hi none p2) v (.ref s3.heap.objs.size)) (EP X pins σ Q) X.xe {s3 with heap:=s3.heap.push {cls:=.type "slice",data:=.fields #[vl,vu,.none]}};exact tail_any (ops:=[.ref s3.heap.objs.size,v]) ht hT hg (by with_unfolding_all rfl)
def p8(xs:List V)(lo hi:Option Int):List V:=(xs.drop (HT.dJ xs.length 0 lo)).take (HT.dJ xs.length xs.length hi - HT.dJ xs.length 0 lo)
theorem oN(xs:List V)(lo hi:Option Int):(p8 xs lo hi).length<=xs.length:=by
 unfold p8;rw[List.length_take,List.length_drop];omega
def Se(K:aJ):V->Option Int->Option Int->Hp->VK->Prop:=λx lo hi H Q=>∃a xs,x=.ref a/\bV K H a xs /\
 ¬ (HT.dJ xs.length 0 lo=0/\HT.dJ xs.length xs.length hi=xs.length)/\∀p,H p=none->Q (.ref p) (upd H p (.tup (p8 xs lo hi)))
theorem xO:FP X (Se X.K):=by
 intro pins s σ H x v vl vu lo hi sl Q I rx hs pl pu h;obtain⟨a,xs,rfl,hx,hw,q⟩:=h;cases rx;obtain⟨its,r,ht,hz⟩:=I.tuple hx;have hlen:its.toArray.size=xs.length:=by rw[aaC];exact r.length.symm
 refine⟨"tuple",_,abm.lookup,ht.typeIs,?_⟩;refine HT.mh ht hs pl pu (by rw[hlen];exact hw) ?_ (by rw[hlen];exact hz);rw[hlen];refine⟨.ref s.heap.objs.size,_,I.laid (t':=s.toks) (o:=.tup (p8 xs lo hi)) (λb ob q=>aab _ q) (aai _) ?_,rfl,q _ (I.hok.fresh (aai _))⟩;exact⟨aaA (oN xs lo hi) hz,_,(r.drop (HT.dJ xs.length 0 lo)).take (HT.dJ xs.length xs.length hi - HT.dJ xs.length 0 lo),IsTup.new _ _⟩
def O9(K:aJ):R2:=λx y H Q=>∃a b xs ys,x=.ref a/\y=.ref b/\bV K H a xs/\bV K H b ys/\xs≠[]/\xs.length + ys.length<=sizeLine /\
 (ys=[]->Q (.ref a) H)/\(ys≠[]->∀p,H p=none->Q (.ref p) (upd H p (.tup (xs++ys))))
theorem Vals.tW{xs:List V}{us:List Value}(r:Vals xs us):us=[]↔xs=[]:=by
 cases r with
 | nil=>simp
 | cons _ _=>simp
theorem GL:jf X (binaryOp .Add) (O9 X.K):=by
 intro pins s σ H x y v u Q I rx ry h;obtain⟨a,b,xs,ys,rfl,rfl,ha,hb,hx,hz,q1,q2⟩:=h;cases rx;cases ry;obtain⟨its,r1,p1,_⟩:=I.tuple ha;obtain⟨p9,r2,p2,_⟩:=I.tuple hb;refine HT.GJ p1 p2 (λz=>hx (r1.tW.mp z)) (λz=>⟨.ref a,H,I,rfl,q1 (r2.tW.mp z)⟩) (λz=>?_) (by rw[← r1.length,← r2.length];exact hz);refine⟨.ref s.heap.objs.size,_,I.laid (t':=s.toks) (o:=.tup (xs++ys)) (λb ob q=>aab _ q) (aai _) ?_,rfl,q2 (λw=>z (r2.tW.mpr w)) _ (I.hok.fresh (aai _))⟩;exact⟨by rw[aay];exact hz,_,r1.append r2,IsTup.new _ _⟩
end
def xP(n:Nat)(i:Int):Option Nat:=if 0<=i then(if i < n then some i.toNat else none)else if -(n:Int)<=i then some (i + n).toNat else none
def lD{α:Type}(xs:List α)(i:Int):Option α:=(xP xs.length i).bind λj=>xs[j]?
theorem zD{n:Nat}{i:Int}{j:Nat}(h:xP n i=some j):seqIndex? i n=some j/\j < n/\-(n:Int)<=i/\i < n:=by
 unfold xP at h;by_cases h0:0<=i
 ·rw[aap h0]at h;by_cases h1:i < n
  ·rw[aap h1]at h;have e:i.toNat=j:=aaq h;exact⟨by rw[seqIndex_of h0 h1,e],by omega,by omega,h1⟩
  ·rw[aan h1]at h;cases h
 ·rw[aan h0]at h;by_cases h1:-(n:Int)<=i
  ·rw[aap h1]at h;have e:(i + n).toNat=j:=aaq h;exact⟨by rw[seqIndex_neg (by omega) h1,e],by omega,h1,by omega⟩
  ·rw[aan h1]at h;cases h
theorem tX{α:Type}{xs:List α}{i:Int}{v:α}(h:lD xs i=some v):∃j,seqIndex? i xs.length=some j/\xs[j]?=some v/\j < xs.length/\-(xs.length:Int)<=i/\i < xs.length:=by
 unfold lD at h
 cases e:xP xs.length i with
 | none=>rw[e]at h;cases h
 | some j =>
  rw[e]at h;obtain⟨h1,h2,h3,h4⟩:=zD e;exact⟨j,h1,h,h2,h3,h4⟩
theorem aN{α:Type}{xs:List α}{j:Nat}{v:α}(h:xs[j]?=some v):lD xs (j:Int)=some v:=by
 have hj:j < xs.length:=(eA h).1
 have e:xP xs.length (j:Int)=some j:=by
  unfold xP;rw[if_pos (by omega),if_pos (by omega)];simp
 unfold lD;rw[e];exact h
theorem vJ{α:Type}(xs:List α)(v:α):lD (xs++[v]) (-1)=some v:=by
 have hl:(xs++[v]).length=xs.length + 1:=by simp
 have e:xP (xs++[v]).length (-1)=some xs.length:=by
  unfold xP;rw[hl,if_neg (by decide),if_pos (by omega)]
  congr 1
  omega
 unfold lD;rw[e];show(xs++[v])[xs.length]?=some v;simp
def tY(b:Expr):Prop:=∀o i,subscripted b false o i=operate [o,i] (getItem o i)
def GN(X:Cx)(r:R2):Prop :=
 ∀(value slice:Expr) (pins:List (Addr×Obj)) (s:Shared) (σ:St) (H:Hp) (x y:V) (v u:Value) (Q:VK),Inv X pins σ H s->RelV x v->RelV y u->r x y H Q ->
  subscripted slice false v u=operate [v,u] (getItem v u)->wpAny (model X.prog X.w) X.A (subscriptTail value slice v u) (EP X pins σ Q) X.xe s
def Xc(X:Cx)(id:String)(r:V->List V->Hp->VK->Prop):Prop :=
 ∀(pins:List (Addr×Obj)) (s:Shared) (σ:St) (H:Hp) (x:V) (xs:List V) (v:Value) (us:List Value) (Q:VK),Inv X pins σ H s->RelV x v->Vals xs us->r x xs H Q ->
  wpAny (model X.prog X.w) X.A (call (.builtin id) (v::us)) (EP X pins σ Q) X.xe s
section
variable {X:Cx} {a b:Expr} {ta tb:TE} {pos:Pos}
theorem GN.or{r r':R2}(h:GN X r)(h':GN X r'):GN X (λx y H Q=>r x y H Q∨r' x y H Q):=by
 intro value slice pins s σ H x y v u Q I rx ry q hs;rcases q with q | q
 ·exact h value slice pins s σ H x y v u Q I rx ry q hs
 ·exact h' value slice pins s σ H x y v u Q I rx ry q hs
theorem aI{r:R2}(hr:GN X r)(ha:PE X a ta)(hb:PE X b tb)(hs:tY b):PE X (.Subscript a b pos) (OY r ta tb):=by
 intro pins s σ H Q I h;exact Subscript_ (K9 ha hb I h λv u s2 x y H2 I2 rx ry q=>hr a b pins s2 σ H2 x y v u Q I2 rx ry q (hs _ _))
inductive Pa(K:aJ)(x y:V)(H:Hp)(Q:VK):Prop where
 | mk (p:Addr) (xs:List V) (i:Int) (v:V) (e:x=.ref p) (f:y=.int i) (s:bu K H p xs) (a:lD xs i=some v) (q:Q v H):Pa K x y H Q
def GO(K:aJ):R2:=λx y H Q=>Pa K x y H Q
inductive Pb(K:aJ)(x y:V)(H:Hp)(Q:VK):Prop where
 | mk (p:Addr) (xs:List V) (i:Int) (v:V) (e:x=.ref p) (f:y=.int i) (s:bV K H p xs) (a:lD xs i=some v) (q:Q v H):Pb K x y H Q
def CN(K:aJ):R2:=λx y H Q=>Pb K x y H Q
def Pc:R2:=λx y H Q=>∃z i c,x=.str z/\y=.int i/\z.length<=sizeLine/\lD z.cps.toList i=some c/\Q (.str ⟨#[c]⟩) H
theorem bT:GN X (GO X.K):=by
 intro value slice pins s σ H x y v u Q I rx ry h hs;obtain⟨p,xs,i,z,rfl,rfl,hq,he,q⟩:=h;cases rx;obtain⟨t,rfl⟩:=ry;obtain⟨its,r,pl,hz⟩:=I.list hq;obtain⟨j,h1,h2,h3,h4,h5⟩:=tX he;obtain⟨w,ew,rw'⟩:=r.get h2;have hl:=r.length;have hn:=nc;have fin:EP X pins σ Q w s:=⟨z,H,I,rw',q⟩;by_cases h0:0<=i
 ·have hj:i.toNat=j:=by
   rw[seqIndex_of h0 h5]at h1;exact aaq h1
  exact item_listR pl.isList h0 (by omega) (by rw[hj];simpa using ew) fin hs
 ·have hj:(i + (its.toArray.size:Int)).toNat=j:=by
   rw[seqIndex_neg (by omega) h4]at h1;rw[aaC,← hl];exact aaq h1
  exact subscriptTail_builtinR (x:=w) pl.isList.typeIs slot_list_getitem.lookup
   (wpAny_getItem_list_neg (Q:=λr s'=>r=w/\EP X pins σ Q r s') pl.isList (by omega) (by rw[List.size_toArray]<;>omega) (by omega) (by rw[hj];simpa using ew) ⟨rfl,fin⟩) hs
theorem aH:GN X (CN X.K):=by
 intro value slice pins s σ H x y v u Q I rx ry h hs;obtain⟨p,xs,i,z,rfl,rfl,hq,he,q⟩:=h;cases rx;obtain⟨t,rfl⟩:=ry;obtain⟨its,r,pl,hz⟩:=I.tuple hq;obtain⟨j,h1,h2,h3,h4,h5⟩:=tX he;obtain⟨w,ew,rw'⟩:=r.get h2;have hl:=r.length;have hn:=nc;have fin:EP X pins σ Q w s:=⟨z,H,I,rw',q⟩;exact subscriptTail_builtinR (x:=w) pl.typeIs slot_tuple_getitem.lookup
  (getItem_tuple (j:=j) (Q:=λr s'=>r=w/\EP X pins σ Q r s') pl (by omega) (by omega) (by rw[List.size_toArray,← hl];exact h1) (by simpa using ew) ⟨rfl,fin⟩) hs
theorem Lg:GN X Pc:=by
 intro value slice pins s σ H x y v u Q I rx ry h hs;obtain⟨z,i,c,rfl,rfl,hz,he,q⟩:=h;obtain⟨t,rfl⟩:=rx;obtain⟨t',rfl⟩:=ry;obtain⟨j,h1,h2,h3,h4,h5⟩:=tX he;have hl:z.cps.toList.length=z.length:=by simp[Str.length]
 rw[hl]at h1 h4 h5;have hn:=nc
 exact tail_any (typeIs_str s z t) slot_str_getitem.lookup (getItem_str (c:=c) (by
  have e1:decide (i < -(2 ^ 63:Int))=false:=decide_eq_false (by omega);have e2:decide (i ≥ 2 ^ 63)=false:=decide_eq_false (by omega);rw[e1,e2,Bool.or_false]) (by rw[h1];simpa using h2) ⟨.str ⟨#[c]⟩,H,I.tok _,⟨_,rfl⟩,q⟩) hs
def Vv(K:aJ):R2:=λx y H Q=>GO K x y H Q∨CN K x y H Q∨Pc x y H Q
theorem CO:GN X (Vv X.K):=bT.or (aH.or Lg)
theorem xQ(its:List Value)(n j:Nat)(u:Value):Obj.mapSeq (·.setIfInBounds j u) {cls:=.type "list",data:=.seq its.toArray n}={cls:=.type "list",data:=.seq (its.set j u).toArray n}:=by
 simp[Obj.mapSeq]
theorem Inv.lst{pins:List (Addr×Obj)}{σ:St}{H:Hp}{s:Shared}{p:Addr}{xs:List V}(I:Inv X pins σ H s)(h:H p=some (.lst xs)):
  ∃(its:List Value) (n:Nat),Vals xs its/\s.heap.get? p=some {cls:=.type "list",data:=.seq its.toArray n}/\xs.length<=sizeLine:=by
 obtain⟨z,its,n,r,e⟩:=I.hok p _ h;exact⟨its,n,r,e,z⟩
theorem Inv.Lh{pins:List (Addr×Obj)}{σ:St}{H:Hp}{s:Shared}{p:Addr}{xs ys:List V}{its its':List Value}{n n':Nat}{f:Obj->Obj}(I:Inv X pins σ H s)(h:H p=some (.lst xs))
  (ho:s.heap.get? p=some {cls:=.type "list",data:=.seq its.toArray n}) (hf:f {cls:=.type "list",data:=.seq its.toArray n}={cls:=.type "list",data:=.seq its'.toArray n'}) (r:Vals ys its') (hz:ys.length<=sizeLine) (t:Nat) :
  Inv X pins σ (upd H p (.lst ys)) {s with heap:=s.heap.update p f,toks:=t}:=by
 have e:(s.heap.update p f).get? p=some {cls:=.type "list",data:=.seq its'.toArray n'}:=by
  rw[aaZ f ho (by rw[hf]<;>rfl),hf]
 refine I.write (x:=p) (e:=p) (by rw[h];trivial) (.inl rfl) (λb u hb q=>(abt _ _ (abu hb)).trans q) ⟨_,e⟩ ?_;exact⟨hz,its',n',r,e⟩
def J6:V->V->V->Hp->(Hp->Prop)->Prop:=λo i v H Q=>∃p xs k j,o=.ref p/\i=.int k/\H p=some (.lst xs)/\xP xs.length k=some j/\Q (upd H p (.lst (xs.set j v)))
theorem set_list:OT X J6:=by
 intro pins s σ H o i v ov iv u Q I ro ri rv h;obtain⟨p,xs,k,j,rfl,rfl,hp,hj,q⟩:=h;cases ro;obtain⟨t,rfl⟩:=ri;obtain⟨its,n,r,ho,hz⟩:=I.lst hp;obtain⟨h1,h2,h3,h4⟩:=zD hj;have hl:=r.length;have hn:=nc
 have I':Inv X pins σ (upd H p (.lst (xs.set j v))) {s with heap:=s.heap.update p (Obj.mapSeq (·.setIfInBounds j u))} :=
  I.Lh hp ho (xQ its n j u) (r.set rv j) (by rw[aaM];exact hz) s.toks
 by_cases h0:0<=k
 ·have hk:k.toNat=j:=by
   rw[seqIndex_of h0 h4]at h1;exact aaq h1
  exact PySem.W.ki_setAt ho h0 (by omega) (by rw[aaC,← hl];exact h4) (by rw[hk];exact⟨_,I',q⟩)
 ·have hk:(k + (its.toArray.size:Int)).toNat=j:=by
   rw[seqIndex_neg (by omega) h3]at h1;rw[aaC,← hl];exact aaq h1
  exact PySem.W.ki_setBack ho (by omega) (by rw[aaC,← hl];exact h3) (by omega) (by rw[hk];exact⟨_,I',q⟩)
theorem tZ(lo hi:Option Int)(n:Nat):(sliceBounds lo hi none n).1=((HT.dJ n 0 lo:Nat):Int)/\(sliceBounds lo hi none n).2.1=((HT.dJ n n hi:Nat):Int)/\(sliceBounds lo hi none n).2.2=1:=by
 refine⟨?_,?_,rfl⟩
 ·cases lo with
  | none=>simp[sliceBounds,HT.dJ]
  | some i =>
   simp only[sliceBounds,HT.dJ,Option.getD_none,show(1:Int) > 0 by decide,if_true];by_cases h:i < 0
   ·simp only[h,if_true]<;>omega
   ·simp only[h,if_false]<;>omega
 ·cases hi with
  | none=>simp[sliceBounds,HT.dJ]
  | some i =>
   simp only[sliceBounds,HT.dJ,Option.getD_none,show(1:Int) > 0 by decide,if_true];by_cases h:i < 0
   ·simp only[h,if_true]<;>omega
   ·simp only[h,if_false]<;>omega
theorem rq(its:List Value)(lo hi:Option Int):slicePick its.toArray lo hi none=((its.drop (HT.dJ its.length 0 lo)).take (HT.dJ its.length its.length hi - HT.dJ its.length 0 lo)).toArray:=by
 obtain⟨h1,h2,h3⟩:=tZ lo hi its.toArray.size;unfold slicePick;rw[h1,h2,h3];simp only[sliceRange_one,pick_run,List.size_toArray]<;>rfl
def Pd(K:aJ):V->Option Int->Option Int->Hp->VK->Prop:=λx lo hi H Q=>∃a xs,x=.ref a/\bu K H a xs/\∀p,H p=none->Q (.ref p) (upd H p (.lst (p8 xs lo hi)))
theorem GP:FP X (Pd X.K):=by
 intro pins s σ H x v vl vu lo hi sl Q I rx hs pl pu h;obtain⟨a,xs,rfl,hx,q⟩:=h;cases rx;obtain⟨its,r,ht,hz⟩:=I.list hx;have hlen:=r.length;refine⟨"list",_,slot_list_getitem.lookup,ht.isList.typeIs,?_⟩;refine wpAny_getItem_list_slice ht.isList hs pl pu .none (by simp) ?_ (by rw[List.size_toArray]<;>omega)
 rw[rq,← hlen];refine⟨.ref s.heap.objs.size,_,I.laid (t':=s.toks) (o:=.lst (p8 xs lo hi)) (λb ob q=>aab _ q) (aai _) ?_,rfl,q _ (I.hok.fresh (aai _))⟩;exact⟨aaA (oN xs lo hi) hz,_,0,(r.drop (HT.dJ xs.length 0 lo)).take (HT.dJ xs.length xs.length hi - HT.dJ xs.length 0 lo),aao _ rfl⟩
def oO:V->Bool
 | .non=>true
 | .bl _=>true
 | .int _=>true
 | .str _=>true
 | _=>false
def J7:V->V->Bool
 | .non,.non=>true
 | .bl a,.bl b=>a == b
 | .bl a,.int b=>(if a then 1 else 0) == b
 | .int a,.bl b=>a == (if b then 1 else 0)
 | .int a,.int b=>a == b
 | .str a,.str b=>a == b
 | _,_=>false
theorem Li{A:Around}{s:Shared}{y x:V}{u v:Value}(ry:RelV y u)(rx:RelV x v)(fy:oO y=true)(fx:oO x=true):SeqAt.EqAt A s u v (J7 y x):=by
 cases y with
 | non =>
  cases ry
  cases x with
  | non=>cases rx;exact SeqAt.EqAt.same _
  | bl b=>cases rx;exact SeqAt.EqAt.none_bool b
  | int b=>obtain⟨t,rfl⟩:=rx;exact SeqAt.EqAt.none_int b t
  | str b=>obtain⟨t,rfl⟩:=rx;exact SeqAt.EqAt.none_str b t
  | _=>exact absurd (show false=true from fx) aaj
 | bl a =>
  cases ry
  cases x with
  | non=>cases rx;exact SeqAt.EqAt.bool_none a
  | bl b=>cases rx;exact SeqAt.EqAt.bool_bool a b
  | int b=>obtain⟨t,rfl⟩:=rx;exact SeqAt.EqAt.bool_int a b t
  | str b=>obtain⟨t,rfl⟩:=rx;exact SeqAt.EqAt.bool_str a b t
  | _=>exact absurd (show false=true from fx) aaj
 | int a =>
  obtain⟨t',rfl⟩:=ry
  cases x with
  | non=>cases rx;exact SeqAt.EqAt.int_none a t'
  | bl b=>cases rx;exact SeqAt.EqAt.int_bool a t' b
  | int b=>obtain⟨t,rfl⟩:=rx;exact SeqAt.EqAt.int_int a t' b t
  | str b=>obtain⟨t,rfl⟩:=rx;exact SeqAt.EqAt.int_str a t' b t
  | _=>exact absurd (show false=true from fx) aaj
 | str a =>
  obtain⟨t',rfl⟩:=ry
  cases x with
  | non=>cases rx;exact SeqAt.EqAt.str_none a t'
  | bl b=>cases rx;exact SeqAt.EqAt.str_bool a t' b
  | int b=>obtain⟨t,rfl⟩:=rx;exact SeqAt.EqAt.str_int a t' b t
  | str b=>obtain⟨t,rfl⟩:=rx;exact SeqAt.EqAt.str_str a t' b t
  | _=>exact absurd (show false=true from fx) aaj
 | _=>exact absurd (show false=true from fy) aaj
def GQ(x:V)(u:Value):Bool:=match u with
 | .none=>J7 .non x
 | .bool b=>J7 (.bl b) x
 | .int i _=>J7 (.int i) x
 | .str z _=>J7 (.str z) x
 | _=>false
theorem CP{x y:V}{u:Value}(r:RelV y u)(f:oO y=true):GQ x u=J7 y x:=by
 cases y with
 | non=>cases r;rfl
 | bl b=>cases r;rfl
 | int i=>obtain⟨t,rfl⟩:=r;rfl
 | str z=>obtain⟨t,rfl⟩:=r;rfl
 | _=>exact absurd (show false=true from f) aaj
theorem t6{x:V}:∀{xs:List V} {us:List Value},Vals xs us->xs.all oO=true->us.any (GQ x)=xs.any λy=>J7 y x
 | _,_,.nil,_=>rfl
 | y::xs,u::us,.cons r t,f=>by
  rw[List.all_cons,abN]at f;rw[abL,abL,CP r f.1,t6 t f.2]
theorem qa{A:Around}{s:Shared}{x:V}{v:Value}(rx:RelV x v)(fx:oO x=true):∀{xs:List V} {us:List Value},Vals xs us->xs.all oO=true->∀u∈us,SeqAt.EqAt A s u v (GQ x u)
 | _,_,.nil,_=>λu hu=>by cases hu
 | y::xs,u::us,.cons r t,f=>λu' hu=>by
  rw[List.all_cons,abN]at f;rcases aaB.mp hu with rfl | hu
  ·rw[CP r f.1];exact Li r rx f.1 fx
  ·exact qa rx fx t f.2 u' hu
def GR(x:V)(xs:List V):Bool:=xs.any λy=>J7 y x
def Xd(K:aJ)(neg:Bool):R2:=λx y H Q=>∃p xs,y=.ref p/\(bu K H p xs∨bV K H p xs)/\oO x=true/\xs.all oO=true/\Q (.bl (if neg then !GR x xs else GR x xs)) H
theorem AK:jf X (compareOp .In) (Xd X.K false):=by
 intro pins s σ H x y v u Q I rx ry h;obtain⟨p,xs,rfl,hq,fx,fs,q⟩:=h;cases ry;rcases hq with hq | hq
 ·obtain⟨its,r,pl,hz⟩:=I.list hq;refine SeqAt.in_listAt (GQ x) pl.isList (λw hw=>qa rx fx r fs w (by simpa using hw)) ⟨.bl _,H,I,rfl,?_⟩;rw[show its.toArray.any (GQ x)=its.any (GQ x)by simp,t6 r fs];exact q
 ·obtain⟨its,r,pl,hz⟩:=I.tuple hq;refine SeqAt.in_tupleAt (GQ x) pl (λw hw=>qa rx fx r fs w (by simpa using hw)) ⟨.bl _,H,I,rfl,?_⟩;rw[show its.toArray.any (GQ x)=its.any (GQ x)by simp,t6 r fs];exact q
theorem t7:iN X (.builtin "len") (λxs H Q=>∃p ys,xs=[.ref p]/\(bu X.K H p ys∨bV X.K H p ys)/\Q (.int ys.length) H):=by
 intro pins s σ H xs us Q I r h;obtain⟨p,ys,rfl,hq,q⟩:=h;obtain⟨u,rfl,rx⟩:=vals1 r;cases rx;have hn:=nc;rcases hq with hq | hq
 ·obtain⟨its,r',pl,hz⟩:=I.list hq;have hlen:=r'.length;exact Calls.call_len_list pl.isList (by simp only[List.size_toArray]<;>omega) ⟨.int ys.length,H,I.tok _,⟨s.toks + 1,by rw[List.size_toArray,hlen]⟩,q⟩
 ·obtain⟨its,r',pl,hz⟩:=I.tuple hq;have hlen:=r'.length;exact len_tuple pl (by simp only[List.size_toArray]<;>omega) ⟨.int ys.length,H,I.tok _,⟨s.toks + 1,by rw[List.size_toArray,hlen]⟩,q⟩
theorem t8:iN X (.builtin "len") (λxs H Q=>∃z,xs=[.str z]/\z.length<=sizeLine/\Q (.int z.length) H):=by
 intro pins s σ H xs us Q I r h;obtain⟨z,rfl,hz,q⟩:=h;obtain⟨u,rfl,t,rfl⟩:=vals1 r;have hn:=nc;exact len_str (by omega) ⟨.int z.length,H,I.tok _,⟨_,rfl⟩,q⟩
theorem gU:iN X (.type "list") (λxs H Q=>∃p ys,xs=[.ref p]/\(bu X.K H p ys∨bV X.K H p ys)/\∀l,H l=none->Q (.ref l) (upd H l (.lst ys))):=by
 intro pins s σ H xs us Q I r h;obtain⟨p,ys,rfl,hq,q⟩:=h;obtain⟨u,rfl,rx⟩:=vals1 r;cases rx;have fin:∀(its:List Value),Vals ys its->ys.length<=sizeLine->∀(h':Heap) (c':Nat),(∀b o',s.heap.get? b=some o'->h'.get? b=some o') ->
   h'.get? s.heap.objs.size=some {cls:=.type "list",dict:=none,data:=.seq its.toArray c',slots:=#[]}->EP X pins σ Q (.ref s.heap.objs.size) {s with heap:=h'}:=λits r' hz h' c' kp e =>
  ⟨.ref s.heap.objs.size,_,I.laid (t':=s.toks) kp (aai _) (show du X.prog X.w _ h' _ (.lst ys)from ⟨hz,its,c',r',e⟩),rfl,q _ (I.hok.fresh (aai _))⟩
 rcases hq with hq | hq
 ·obtain⟨its,r',pl,hz⟩:=I.list hq;have hlen:=r'.length;obtain⟨o,ho,hc,n,hd⟩:=pl.isList;exact call_list_seq p (.inl rfl) ho hc hd (λh' c' kp e=>fin its r' hz h' c' kp e) (by simp only[List.size_toArray]<;>omega)
 ·obtain⟨its,r',pl,hz⟩:=I.tuple hq;have hlen:=r'.length;obtain⟨o,ho,hc,n,hd⟩:=pl;exact call_list_seq p (.inr rfl) ho hc hd (λh' c' kp e=>fin its r' hz h' c' kp e) (by simp only[List.size_toArray]<;>omega)
def Sf(K:aJ)(T:String)(x:V)(H:Hp):Prop:=match x with
 | .str _=>T="str"
 | .int _=>T="int"
 | .ref p=>(T="list"/\∃xs,bu K H p xs)∨(T="tuple"/\∃o,K.lookup p=some o/\o.cls=.type "tuple"/\o.dict=none) ∨
   (T="dict"/\((∃kvs,H p=some (.dK kvs))∨∃kvs,H p=some (.dT kvs)))∨(T="set"/\∃S n,H p=some (.set S n))
 | _=>False
theorem Lj{pins:List (Addr×Obj)}{σ:St}{H:Hp}{s:Shared}{T:String}{x:V}{v:Value}(I:Inv X pins σ H s)(r:RelV x v)(ty:Sf X.K T x H):
  s.TypeIs v T/\∀a,v=.ref a->∃ob,s.heap.get? a=some ob/\ob.dict=none:=by
 cases x with
 | str z =>
  obtain⟨t,rfl⟩:=r;cases (show T="str" from ty);exact⟨typeIs_str s z t,λ_ e=>nomatch e⟩
 | int i =>
  obtain⟨t,rfl⟩:=r;cases (show T="int" from ty);exact⟨typeIs_int s i t,λ_ e=>nomatch e⟩
 | ref p =>
  cases r;rcases ty with⟨rfl,xs,hq⟩ | ⟨rfl,o,hk,hc,hd⟩ | ⟨rfl,hk⟩ | ⟨rfl,S,n,hk⟩
  ·obtain⟨its,_,pl,_⟩:=I.list hq;refine⟨pl.isList.typeIs,λa e=>?_⟩;cases e;obtain⟨o,n,e,c,hd,_⟩:=pl;exact⟨o,e,hd⟩
  ·refine⟨⟨o,I.iL p o hk,hc⟩,λa e=>?_⟩;cases e;exact⟨o,I.iL _ o hk,hd⟩
  ·have z:∃o,s.heap.get? p=some o/\o.ExactDict:=by
    rcases hk with⟨kvs,hk⟩ | ⟨kvs,hk⟩
    ·obtain⟨_,_,_,_,o,_,_,e,ex,_⟩:=I.hok p _ hk;exact⟨o,e,ex⟩
    ·obtain⟨_,_,_,_,o,_,_,e,ex,_⟩:=I.hok p _ hk;exact⟨o,e,ex⟩
   obtain⟨o,e,ex⟩:=z;refine⟨⟨o,e,ex.1⟩,λa e2=>?_⟩;cases e2;exact⟨o,e,ex.2.1⟩
  ·obtain⟨o,_,_,_,e,ex,_⟩:=I.hok p _ hk;refine⟨⟨o,e,ex.1⟩,λa e2=>?_⟩;cases e2;exact⟨o,e,ex.2.1⟩
 | _=>exact False.elim ty
def Xe(K:aJ)(T:String)(r:V->List V->Hp->VK->Prop)(to:TE)(t:TA):TE:=λσ H Q=>to σ H λx H1=>Sf K T x H1/\t σ H1 λxs H2=>r x xs H2 Q
variable {o e:Expr} {es:List Expr} {to:TE} {t:TA} {name:Str} {apos cpos:Pos} {T id:String} {r:V->List V->Hp->VK->Prop}
theorem sC(pa:PlainAttrs T)(slot:Slot T name id)(hty:typeOf (.builtin id)=pure (.type "method_descriptor"))(hm:Xc X id r)(ho:PE X o to)(ha:PA X (e::es) t)
  (hbase:attributeBase o name X.env (eval o X.env)=eval o X.env:=by rfl)
  (hfew:((backTo cpos (starEach (e::es) X.env)).all (λx=>!x.1)&&(backToKw cpos (keywordEach [] X.env)).all (λx=>x.1.isSome)
   && decide ((e::es).length + ([]:List Keyword).length + (if ([]:List Keyword).isEmpty then 0 else 1) < 30))=true:=by rfl)
  (hline:(apos.endLine == cpos.line)=true:=by rfl) (hs:starEach (e::es) X.env=(false,eval e X.env)::starEach es X.env:=by rfl) (hplain:(backTo cpos (starEach es X.env)).any (·.1)=false:=by rfl) :
  PE X (.Call (.Attribute o name apos) (e::es) [] cpos) (Xe X.K T r to t):=by
 intro pins s σ H Q I h;refine wpAny_Call_method_late hbase hfew hline rfl (bF (ho pins s σ H _ I h) λv s1 ⟨x,H1,I1,r1,ty,q1⟩=>?_);obtain⟨h1,h2⟩:=Lj I1 r1 ty;refine⟨T,id,pa,slot,hty,h1,h2,?_⟩;have hA:=ha cpos pins s1 σ H1 _ I1 q1;rw[hs]at hA ⊢;refine Calls.callWith_builtin (by show(false||(backTo cpos (starEach es X.env)).any (·.1))=false;rw[hplain]<;>rfl) (Calls.evalArgs_plain ?_)
 exact bF hA λus s2 ⟨vs,H2,I2,r2,q2⟩=>hm pins s2 σ H2 x vs v us Q I2 r1 r2 q2
end
def Si(X:Cx)(id:String)(r:V->List V->Hp->VK->Prop):Prop :=
 ∀(pins:List (Addr×Obj)) (s:Shared) (σ:St) (H:Hp) (x:V) (xs:List V) (v:Value) (us:List Value) (Q:VK),Inv X pins σ H s->RelV x v->Vals xs us->r x xs H Q ->
  wpAny (model X.prog X.w) X.A (call (.builtin id) (v::us)) (EP X pins σ Q) X.xe s
theorem Vals.one:∀{x:V} {us:List Value},Vals [x] us->∃u,us=[u]/\RelV x u
 | _,_,.cons r .nil=>⟨_,rfl,r⟩
theorem Vals.eraseIdx:∀{xs:List V} {us:List Value} (i:Nat),Vals xs us->Vals (xs.eraseIdx i) (us.eraseIdx i)
 | _,_,_,.nil=>.nil
 | _,_,0,.cons _ t=>t
 | _,_,i + 1,.cons r t=>.cons r (Vals.eraseIdx i t)
theorem sD{α:Type}:∀(l:List α) (i:Nat),(l.eraseIdx i).length<=l.length
 | [],_=>aai _
 | _::_,0=>abg _
 | _::r,i + 1=>acm (sD r i)
section
variable {X:Cx} {pins:List (Addr×Obj)} {σ:St} {H:Hp} {s:Shared} {l b:Addr} {xs ys zs:List V}
theorem Inv.Lk{its its':List Value}{n:Nat}{f:Array Value->Array Value}{t':Nat}(I:Inv X pins σ H s)(hH:H l=some (.lst xs))
  (e:s.heap.get? l=some {cls:=.type "list",data:=.seq its.toArray n}) (hf:f its.toArray=its'.toArray) (hv:Vals ys its') (hz:ys.length<=sizeLine) :
  Inv X pins σ (upd H l (.lst ys)) {s with heap:=s.heap.update l (Obj.mapSeq f),toks:=t'}:=by
 have q:=PySem.IsL.update e f;rw[hf]at q;refine I.write (x:=l) (e:=l) (by rw[hH];exact trivial) (.inl rfl) (λb' u hb hu=>(abt s.heap (Obj.mapSeq f) (abu hb)).trans hu) ⟨_,q⟩ ?_;exact⟨hz,its',_,hv,q⟩
theorem Inv.Ll{its:List Value}{t':Nat}(I:Inv X pins σ H s)(hv:Vals ys its)(hz:ys.length<=sizeLine):
  Inv X pins σ (upd H s.heap.objs.size (.lst ys)) {s with heap:=s.heap.push {cls:=.type "list",data:=.seq its.toArray},toks:=t'} :=
 I.laid (λ_ _ q=>aab _ q) (aai _) ⟨hz,its,0,hv,aao _ rfl⟩
theorem Inv.fresh(I:Inv X pins σ H s):H s.heap.objs.size=none:=I.hok.fresh (aai _)
theorem Inv.GS(I:Inv X pins σ H s)(hH:H l=some (.lst xs)):xs.length<=sizeLine/\∃(its:List Value) (n:Nat),Vals xs its/\xs.length=its.length/\s.heap.get? l=some {cls:=.type "list",data:=.seq its.toArray n}:=by
 obtain⟨z,its,n,r,e⟩:=I.hok l _ hH;exact⟨z,its,n,r,r.length,e⟩
theorem CQ{n:Nat}(h:n<=sizeLine):Builtin.List.listTooLong n=false:=by
 unfold Builtin.List.listTooLong;exact decide_eq_false (by omega)
end
section
variable {X:Cx}
def GU:V->List V->Hp->VK->Prop:=λx vs H Q=>∃l xs y,x=.ref l/\vs=[y]/\H l=some (.lst xs)/\xs.length < sizeLine/\Q .non (upd H l (.lst (xs++[y])))
theorem ib:Si X "list.append" GU:=by
 intro pins s σ H x vs v us Q I rx rv h;obtain⟨l,xs,y,rfl,rfl,hH,hz,q⟩:=h;cases rx;obtain⟨u,rfl,ru⟩:=rv.one;obtain⟨z,its,n,r,hl,e⟩:=I.GS hH;refine call_meets F.slot_list_append ⟨_,e,rfl⟩ F.entry_list_append (F.args_list_append_2 _ _) (PySem.list_append l its.toArray n u (by rw[List.size_toArray];omega)) ⟨e,?_⟩;refine⟨.non,_,I.Lk (its':=its++[u]) hH e (by simp) (r.append (.cons ru .nil)) ?_,rfl,q⟩;rw[List.length_append,List.length_singleton];omega
def GV:V->List V->Hp->VK->Prop:=λx vs H Q=>∃l b xs zs,x=.ref l/\vs=[.ref b]/\H l=some (.lst xs)/\H b=some (.lst zs)/\xs.length + zs.length<=sizeLine/\Q .non (upd H l (.lst (xs++zs)))
theorem AL:Si X "list.extend" GV:=by
 intro pins s σ H x vs v us Q I rx rv h;obtain⟨l,b,xs,zs,rfl,rfl,hH,hB,hz,q⟩:=h;cases rx;obtain⟨u,rfl,ru⟩:=rv.one;cases ru;obtain⟨z,its,n,r,hl,e⟩:=I.GS hH;obtain⟨z2,p9,n2,r2,sE,e2⟩:=I.GS hB;have hsz:its.toArray.size + p9.toArray.size<=sizeLine:=by rw[aaC,aaC];omega
 have hlong:¬ (!its.toArray.isEmpty&&Builtin.List.listTooLong (its.toArray.size + p9.toArray.size))=true:=by
  rw[CQ hsz,Bool.and_false];exact aaj
 refine call_meets F.slot_list_extend ⟨_,e,rfl⟩ F.entry_list_extend (F.args_list_extend_2 _ _)
  (AutoSeq1.list_extend_list_list_0 l its.toArray n b p9.toArray n2 hlong (by rw[aaC];omega) (by omega)) ⟨e,e2,?_⟩
 refine⟨.non,_,I.Lk (its':=its++p9) hH e (by simp) (r.append r2) ?_,rfl,q⟩;rw[List.length_append];omega
def Lm:V->List V->Hp->VK->Prop:=λx vs H Q=>∃l xs i k y,x=.ref l/\vs=[.int i]/\H l=some (.lst xs)/\-(2 ^ 63)<=i/\i < 2 ^ 63/\seqIndex? i xs.length=some k/\xs[k]?=some y/\Q y (upd H l (.lst (xs.eraseIdx k)))
theorem CS:Si X "list.pop" Lm:=by
 intro pins s σ H x vs v us Q I rx rv h;obtain⟨l,xs,i,k,y,rfl,rfl,hH,h1,h2,hk,hy,q⟩:=h;cases rx;obtain⟨u,rfl,ru⟩:=rv.one;obtain⟨t,rfl⟩:=ru;obtain⟨z,its,n,r,hl,e⟩:=I.GS hH;obtain⟨w,hw,rw'⟩:=r.get hy;refine call_meets F.slot_list_pop ⟨_,e,rfl⟩ F.entry_list_pop (F.args_list_pop_2 _ _)
  (MeetsSeq.list_pop_at l its.toArray n i t k w (fitsIndex_both h1 h2) (by rw[aaC,← hl];exact hk) (by rw[← Array.getElem?_toList];exact hw) (by rw[aaC];omega)) ⟨e,?_⟩
 refine⟨y,_,I.Lk (its':=its.eraseIdx k) hH e ?_ (r.eraseIdx k) ?_,rw',q⟩
 ·show its.toArray.eraseIdxIfInBounds k=(its.eraseIdx k).toArray;rw[List.eraseIdxIfInBounds_toArray]
 ·have:=sD xs k;omega
end
section
variable {prog:Program} {w:World} {A:Around} {E:Value->Shared->Prop} {s:Shared}
set_option maxRecDepth 100000 in
end
section
variable {X:Cx}
end
end L2
namespace Att
open PySem PySem.W PySem.Calls PyProof.Rows
theorem ph{P:Params}{h:Heap}:∀(ns:List Int) (vs:List Value),WellAll P h vs (ns.map WData.int)->IntsAre vs ns:=by
 intro ns
 induction ns with
 | nil =>
  intro vs w;rw[List.map_nil]at w;cases w;exact .nil
 | cons n ns ih =>
  intro vs w;rw[abd]at w
  cases w with
  | cons a b =>
   cases a;exact .cons _ _ (ih _ b)
theorem AM{l:OpenLaw}{n:Nat}(hn:l.most=some n){P:Params}{h:Heap}{args:List WData}{vals:List Value}
  (hpre:l.row.toRowW.claim.pre args=true) (hwl:WellAll P h vals args) :
  ∃a vs ns,vals=[Value.ref a]/\args=[WData.list (ns.map WData.int)]/\h.get? a=some {cls:=.type "list",data:=.seq vs.toArray}/\IntsAre vs ns/\ns.length<=n:=by
 have hsh:WShape.hasAll [] args [.list .int]=true:=(pre_splitW hpre).1;have hc:l.pre.holds [] {args:=args}=true:=(pre_splitW hpre).2;obtain⟨d,r,rfl,h1,h2⟩:=hasAllW_cons hsh;obtain rfl:=hasAllW_nil h2;obtain⟨xs,rfl,h3⟩:=hasW_list h1;obtain⟨ns,rfl⟩:=items_int h3
 have hlen:ns.length<=n:=by
  unfold OpenLaw.pre at hc
  have h4:(WTm.not (.lt (.lit (.int (n:Int))) (.len (.arg 0)))).holds [] {args:=[.list (ns.map .int)]}=true:=by
   have h4:=(holds_andW hc).1;rw[hn]at h4;exact h4
  have h5:=condW_of h4 (w_not (w_lt w_lit (w_len_list (w_arg rfl))));rw[aaf]at h5;refine Nat.le_of_not_lt λq=>?_
  have q':(n:Int) < ((ns.length:Nat):Int):=by omega
  first
   | (rw[aa0 q']at h5;exact absurd h5 (by decide))
   | (simp at h5;omega)
 cases hwl with
 | cons w1 w2 =>
  cases w2
  cases w1 with
  | list ho hall=>exact⟨_,_,ns,rfl,rfl,ho,ph ns _ hall,hlen⟩
theorem AN(l:OpenLaw)(args:List WData):l.row.toRowW.claim.post args (.bool true) args=true :=
 postW_of (r:=l.row.toRowW) (X:=(true == true))
  (show WShape.has [] (.bool true) .bool=true by first | rfl | decide | simp[WShape.has,WShape.arms,WShape.armsAll])
  (show(WTm.eq .res (.lit (.bool true))).value [] {args:=args,res:=some (.bool true),after:=args}=some (.bool (true == true))from w_eq_bool (w_res rfl) w_lit) rfl
theorem vK{l:OpenLaw}{n:Nat}{q:Program}{loose:List Str}{XP:(Str->Option Value)->Heap->Prop}{YP:World->Heap->Prop}{d:DefRec}
  (hn:l.most=some n) (hdf:d.params.defaults=[])
  (call:∀(w:World) (s₀ s₁:Shared) (mg mb:Str->Option Value) (fa:Addr) (o:Obj) (pm cd doc:Value) (a:Addr) (vs:List Value) (ns:List Int),
   Ground q loose [] XP w s₀ mg mb s₁.heap->YP w s₁.heap ->
   s₁.heap.get? fa=some o->o.data=.func (docDef d.name d.params d.body d.scope pm cd doc)->s₁.heap.CodeRec cd d.name->mg d.name=some (.ref fa) ->
   s₁.heap.get? a=some {cls:=.type "list",data:=.seq vs.toArray}->IntsAre vs ns->ns.length<=n->s₁.gens=#[] ->
   codeAny (model l.prog w) callerA (.call (.ref fa) ⟨[.ref a],[]⟩) (λr s'=>r=.ok (.ret (.bool true))/\OldK s₁.heap s'.heap/\s'.os=s₁.os/\AllBare s'.gens) s₁) :
  WalkO q loose XP YP l.row.toRowW d [] (λf vs=>PySem.call f vs):=by
 intro w s₀ s₁ mg mb G Y fa o pm cd doc dV kV ho hd hcd hD hmg hg args vals as hpre hlay hrd hwl hlo;obtain rfl:dV=.none:=Dflts.none hD hdf;obtain rfl:kV=.none:=Dflts.noKw hD;obtain⟨a,vs,ns,rfl,rfl,hobj,hints,hlen⟩:=AM hn hpre hwl;refine enter_call (abw (call w s₀ s₁ mg mb fa o pm cd doc a vs ns G Y ho (fd_plain hd) hcd hmg hobj hints hlen hg) λr s' hq=>?_);obtain⟨rfl,h2,h3,h4⟩:=hq;exact⟨.inl ⟨.bool true,.bool true,[],rfl,λ_=>rfl,.bool true,AN l _,λ_=>⟨List.Pairwise.nil,λ_ hm=>(nomatch hm)⟩⟩,h2,h3,h4⟩
section
variable {prog:Program} {w:World} {A:Around} {E:Value->Shared->Prop} {s:Shared} {K:Frag}
end
end Att
namespace L2
open PySem PySem.Spec PyProof.Rows
theorem sF:∀{vs:List Value} {ns:List Int},IntsAre vs ns->Vals (ns.map V.int) vs
 | _,_,.nil=>.nil
 | _,_,.cons n t h=>.cons ⟨t,rfl⟩ (sF h)
def Ln(H:Hp):Prop:=∀b,H b=none∨∃o xs,H b=some (.lj o (.lst xs))
theorem CT{P:Program}{w:World}{K:aJ}{mg mb:Str->Option Value}{CX:vA}{k:Nat}{fa a:Addr}{fd:FuncData}{x:Str}{sp:Sp}{s₁:Shared}{vs:List Value}{ns:List Int}
  (KX:K.In s₁.heap) (hns:s₁.heap.Ns mainGlobals mg) (hb:s₁.heap.Ns builtinsNs mb) (hbb:∀x:Str,x≠"__name__"->mb x=bootBuiltins x) (hlim:s₁.heap.NoLimit) (hg:s₁.gens=#[])
  (ha:s₁.heap.get? a=some {cls:=.type "list",data:=.seq vs.toArray}) (hi:IntsAre vs ns) (hl:ns.length<=sizeLine) (hr:cg k callerA)
  (F:∀base:Heap,K.In base->base.Ns mainGlobals mg->bJ P w K mg base CX k fa fd [x] sp) (hbind:∀(s:Shared) (u:Value),BindsTo s fd ⟨[u],[]⟩ [(x,u)])
  (hsp:∀H:Hp,Ln H->bu K H a (ns.map V.int)->sp [.ref a] H (λv _=>v=.bl true) λ_ _ _=>False)
  (hCX:∀H e s',CX [] H s₁ (λ_ _ _=>False) e s'->False) :
  codeAny (model P w) callerA (.call (.ref fa) ⟨[.ref a],[]⟩) (λr s'=>r=.ok (.ret (.bool true))/\OldK s₁.heap s'.heap/\s'.os=s₁.os/\AllBare s'.gens) s₁:=by
 have rv:=sF hi;have lenV:=hi.length;have core:∀H:Hp,Ln H->bu K H a (ns.map V.int)->kc P w H s₁.heap->(∀b,H b≠none->b=a)->(H a≠none->K.lookup a=none) ->
   codeAny (model P w) callerA (.call (.ref fa) ⟨[.ref a],[]⟩) (λr s'=>r=.ok (.ret (.bool true))/\OldK s₁.heap s'.heap/\s'.os=s₁.os/\AllBare s'.gens) s₁:=by
  intro H hO hS hok hA hK;have base_of:∀{b:Addr} {o:Obj},s₁.heap.get? b=some o->H b=none->(tO s₁.heap H).get? b=some o:=λe n=>Cp e n
  have noA:∀{b:Addr} {o:Obj} {es:Array DictEntry} {ep:Nat},s₁.heap.get? b=some o->o.data=.dict es ep->H b=none:=λ{b o es ep} e d=>by
   cases q:H b with
   | none=>rfl
   | some u =>
    have e':b=a:=hA b (by rw[q];simp);subst e';rw[ha]at e;cases e;have d':Data.seq vs.toArray _=Data.dict es ep:=d;cases d'
  have nsK:∀{b:Addr} {m:Str->Option Value},s₁.heap.Ns b m->(tO s₁.heap H).Ns b m:=λ{b m} ⟨o,es,ep,e,d,r⟩=>⟨o,es,ep,base_of e (noA e d),d,r⟩
  have hKb:K.In (tO s₁.heap H):=λb o e=>base_of (KX b o e) (by
   cases q:H b with
   | none=>rfl
   | some u =>
    have e':b=a:=hA b (by rw[q];simp);subst e';rw[hK (by rw[q];simp)]at e;cases e)
  have hM:Mod K mg (tO s₁.heap H):=⟨hKb,nsK hns,⟨mb,nsK hb,hbb⟩,let ⟨mc,h1,h2⟩:=hlim;⟨mc,nsK h1,h2⟩⟩;have e0:xJ P w K mg (tO s₁.heap H) callerA [] s₁ H:=⟨rfl,hM,λb o e=>Gs e,Nat.le_of_eq (Ax _ _),trivial,λb hb=>absurd (show b∈([]:List Addr)from hb) (by simp),hok,.of_eq hg⟩;refine codeAny_mono ((F _ hKb (nsK hns)).run callerA [] s₁ H ⟨[.ref a],[]⟩ [.ref a] [.ref a] _ _ hr e0 (hbind s₁ (.ref a)) (.cons rfl .nil) (hsp H hO hS)) λr s' h=>?_
  cases r with
  | error e=>exact(hCX H e s' h).elim
  | ok fl =>
   cases fl with
   | next=>exact False.elim h
   | brk=>exact False.elim h
   | cont=>exact False.elim h
   | ret u =>
    obtain⟨v,H',os,bare,un,hok',r',q⟩:=h;have q':v=.bl true:=q;subst q';obtain rfl:u=Value.bool true:=r';refine⟨rfl,OldK.of_keep λb o e=>?_,os,bare⟩
    cases q:H b with
    | none=>exact un.keep b o e q (by intro z;exact absurd (show b∈([]:List Addr)from z) (by simp)) (by simp)
    | some u =>
     rcases hO b with z | ⟨ob,xs,z⟩
     ·rw[q]at z;cases z
     ·have z2:=un.eQ b ob _ z;obtain⟨e1,_⟩:=hok b _ z;obtain⟨e2,_⟩:=hok' b _ z2;rw[e]at e1;cases e1;exact e2
 cases hk:K.lookup a with
 | some o =>
  have e:=KX a o hk;rw[ha]at e;cases e;refine core (λ_=>none) (λ_=>.inl rfl) (.inr ⟨_,vs.toArray,_,hk,rfl,rfl,rfl,by rw[List.size_toArray,lenV];exact hl,by simpa using rv⟩) (λb u z=>by have z':(none:Option HO)=some u:=z;cases z') (λb z=>absurd rfl z) λz=>absurd rfl z
 | none =>
  refine core (λb=>if b=a then some (.lj {cls:=.type "list",data:=.seq vs.toArray} (.lst (ns.map V.int)))else none) (λb=>?_) (.inl (.inr ⟨{cls:=.type "list",data:=.seq vs.toArray},aap rfl⟩)) (λb u z=>?_) (λb z=>?_) λ_=>hk
  ·by_cases hb:b=a
   ·exact .inr ⟨_,_,aap hb⟩
   ·exact .inl (aan hb)
  ·by_cases hb:b=a
   ·have z':=(aap hb).symm.trans z;cases z';subst hb;exact⟨ha,by rw[aaf];exact hl,vs,_,rv,ha⟩
   ·have z':=(aan hb).symm.trans z;cases z'
  ·by_cases hb:b=a
   ·exact hb
   ·exact absurd (aan hb) z
theorem GW{l:PySem.W.OpenLaw}{n k:Nat}{q:Program}{loose:List Str}{XP:(Str->Option Value)->Heap->Prop}{YP:World->Heap->Prop}{d:DefRec}{K:Params->aJ}{CX:World->vA}{sp:World->Sp}{x:Str}
  (hn:l.most=some n) (Rr:n<=sizeLine) (hdf:d.params.defaults=[]) (hr:cg k callerA)
  (hY:∀(w:World) (h:Heap),YP w h->(K w.params).In h)
  (F:∀(w:World) (mg:Str->Option Value) (fa:Addr) (h:Heap),(K w.params).In h->h.Ns mainGlobals mg->mg d.name=some (.ref fa) ->
   ∃fd:FuncData,(∀(s:Shared) (u:Value),BindsTo s fd ⟨[u],[]⟩ [(x,u)]) /\
    ∀base:Heap,(K w.params).In base->base.Ns mainGlobals mg->bJ l.prog w (K w.params) mg base (CX w) k fa fd [x] (sp w))
  (hsp:∀(w:World) (H:Hp) (a:Addr) (ns:List Int),ns.length<=n->Ln H->bu (K w.params) H a (ns.map V.int)->sp w [.ref a] H (λv _=>v=.bl true) λ_ _ _=>False)
  (hCX:∀(w:World) (H:Hp) (s:Shared) (e:Value) (s':Shared),CX w [] H s (λ_ _ _=>False) e s'->False) :
  PySem.W.WalkO q loose XP YP l.row.toRowW d [] (λf vs=>PySem.call f vs):=by
 refine Att.vK hn hdf λw s₀ s₁ mg mb fa o pm cd doc a vs ns G Y ho hd hcd hmg hobj hints hlen hg=>?_
 have KX:=hY w _ Y;obtain⟨fd,hb,hF⟩:=F w mg fa _ KX G.T.g hmg;exact CT KX G.T.g G.T.b G.T.builtins G.T.nolimit hg hobj hints (aaA hlen Rr) hr hF hb (λH hO hS=>hsp w H a ns hlen hO hS) λH e s'=>hCX w H s₁ e s'
def iC(s:Stmt)(j:Nat):Stmt:=match s with
 | .ClassDef _ _ _ body _ _ _ _ _ _ _=>body.getD j (.Pass ⟨0,0,0,0⟩)
 | _=>.Pass ⟨0,0,0,0⟩
def dA(s:Stmt):Arguments:=match s with
 | .FunctionDef _ a _ _ _ _ _ _ _ _=>a
 | _=>{posonlyargs:=[],args:=[],vararg:=none,kwonlyargs:=[],kw_defaults:=[],kwarg:=none,defaults:=[]}
def dB(s:Stmt):List Stmt:=match s with
 | .FunctionDef _ _ b _ _ _ _ _ _ _=>b
 | _=>[]
def dS(s:Stmt):Scope:=match s with
 | .FunctionDef _ _ _ _ _ _ sc _ _ _=>sc
 | _=>{kind:=.function,names:=[],isGenerator:=false,isCoroutine:=false}
abbrev c6:vA:=λ_ _ _ _ _ _=>False
abbrev E0:XK:=λ_ _ _=>False
theorem qb{X:Cx}:Passes c6 X E0:=λ_ _ _ _ _ _ _ h=>h.elim
structure jj(K:aJ)(x qual:Str)(st:Stmt)(f:Addr)(fd:FuncData):Prop where
 ex:∃(oc:Value) (od:Option Addr) (kV doc pm:Value) (an:Option Addr) (cdv ct:Value) (osl:Array (Option Value)),
  fd=PySem.W.fnOf x qual (dA st) (dB st) (dS st) .none kV doc pm an cdv ct/\K.lookup f=some ⟨oc,od,.func fd,osl⟩/\PySem.W.codeIn K cdv qual=true
 kp:PySem.W.keepIn K (.ref f)=true
section
variable {P:Program} {w:World} {K:aJ} {mg:Str->Option Value} {base:Heap}
theorem jj.ok{cm:Bool}{x qual:Str}{st:Stmt}{f:Addr}{fd:FuncData}{N ps:List Str}{k:Nat}{sp:Sp}(F:jj K x qual st f fd)(S:aO N ps (dS st))(len:∀vs H Q E,sp vs H Q E->vs.length=ps.length)
  (hbody:∀(cdv:Value) (A:Around) (outer:List Env) (s:Shared) (H:Hp) (vs:List V) (Q:VK) (E:XK),cg k (A.deeper (envOfC qual (dS st) s.heap.objs.size f cdv)) cm->sp vs H Q E ->
   ∃t,pV (j8 c6 P w K mg base N qual (dS st) f cdv A outer s H E cm).Rp (dB st) t/\t {nx:=λ_ H'=>Q .non H',rt:=Q} (start N vs) H):bJ P w K mg base c6 (k + 1) f fd ps sp cm:=by
 obtain⟨oc,od,kV,doc,pm,an,cdv,ct,osl,rfl,lk,hcd⟩:=F.ex;refine J5 lk hcd S len λA outer s H vs Q E hr hsp=>?_
 obtain⟨t,h,q⟩:=hbody cdv A outer s H vs Q E hr hsp;exact⟨t,h.Rp,q⟩
theorem jj.binds{x qual:Str}{st:Stmt}{f:Addr}{fd:FuncData}{ps:List Str}(F:jj K x qual st f fd)
  (h:∀(kV doc pm:Value) (an:Option Addr) (cdv ct:Value) (us:List Value),us.length=ps.length->bindArgs (PySem.W.fnOf x qual (dA st) (dB st) (dS st) .none kV doc pm an cdv ct) ⟨us,[]⟩=pure (ps.zip us)):Binds K fd ps []:=by
 obtain⟨oc,od,kV,doc,pm,an,cdv,ct,osl,rfl,lk,hcd⟩:=F.ex;exact .all (h kV doc pm an cdv ct)
theorem t9{x qual:Str}{st:Stmt}{f:Addr}{oc:Value}{od an:Option Addr}{osl:Array (Option Value)}{kV doc pm cdv ct:Value}(l:K.lookup f=some ⟨oc,od,.func (PySem.W.fnOf x qual (dA st) (dB st) (dS st) .none kV doc pm an cdv ct),osl⟩)
  (c:PySem.W.codeIn K cdv qual=true) (k:PySem.W.keepIn K (.ref f)=true):jj K x qual st f (PySem.W.fnOf x qual (dA st) (dB st) (dS st) .none kV doc pm an cdv ct):=⟨⟨oc,od,kV,doc,pm,an,cdv,ct,osl,rfl,l,c⟩,k⟩
end
theorem vL{A:Around}{k:Nat}(hr:cg k A):A.units + 1 < cLine:=aaH (Nat.add_le_add_left (by decide:1<=64) _) hr.units
theorem sK{n:Nat}(h:n<=1000):n < sizeLine:=aaH h (by decide)
section
variable {X:Cx}
theorem pv(i:Nat){x:Str}{pos:Pos}(hN:X.N[i]?=some x:=by rfl)(hv:Ro X.env.scope x:=by first | exact aar rfl | exact abW (aar rfl) | exact abW (abW rfl))(hd:(x == ("__debug__" : Str))=false:=by decide)
  (hcd:(x == ("__classdict__" : Str))=false:=by decide):PE X (.Name x pos) (Gw i):=Cq hN hv hd hcd
end
theorem cM{A B:Prop}(h:B):if false=true then A else B:=by
 rw[aan aaj];exact h
theorem iJ{A B:Prop}(h:A):if true=true then A else B:=by
 rw[aap rfl];exact h
def aS(H H':Hp):Prop:=∀b o,H b=some o->H' b=some o
theorem aS.refl(H:Hp):aS H H:=λ_ _ h=>h
theorem aS.trans{H H1 H2:Hp}(a:aS H H1)(b:aS H1 H2):aS H H2:=λc o h=>b c o (a c o h)
theorem aS.seq{K:aJ}{H H':Hp}{a:Addr}{xs:List V}(e:aS H H')(h:bu K H a xs):bu K H' a xs:=by
 rcases h with(h | ⟨o,h⟩) | h
 ·exact .inl (.inl (e _ _ h))
 ·exact .inl (.inr ⟨o,e _ _ h⟩)
 ·exact .inr h
open PySem PySem.Spec
theorem Lo:bootBuiltins "len"=some (.builtin "len"):=by decide +kernel
theorem rz:bootBuiltins "isinstance"=some (.builtin "isinstance"):=by decide +kernel
theorem Lp:bootBuiltins "all"=some (.builtin "all"):=by decide +kernel
theorem CU:bootBuiltins "int"=some (.type "int"):=by decide +kernel
theorem GX:bootBuiltins "bool"=some (.type "bool"):=by decide +kernel
theorem mi:bootBuiltins "list"=some (.type "list"):=by decide +kernel
theorem CV:bootBuiltins "tuple"=some (.type "tuple"):=by decide +kernel
theorem CY:bootBuiltins "zip"=some (.type "zip"):=by decide +kernel
theorem GY:bootBuiltins "dict"=some (.type "dict"):=by decide +kernel
theorem bj{c A B:Prop}[Decidable c](h:¬ c)(b:B):if decide c=true then A else B:=by rw[aa2 h];exact cM b
theorem fP{c A B:Prop}[Decidable c](h:c)(a:A):if decide c=true then A else B:=by rw[aa0 h];exact iJ a
theorem vM{c A B:Prop}[Decidable c](h:c)(b:B):if (!decide c)=true then A else B:=by rw[aa0 h];exact cM b
theorem rA{c A B:Prop}[Decidable c](h:¬ c)(a:A):if (!decide c)=true then A else B:=by rw[aa2 h];exact iJ a
theorem Sj{b:Bool}{A B:Prop}(h:b=false)(a:B):if b=true then A else B:=by rw[h];exact cM a
structure ic(P:Program)(w:World)(K:aJ)(mg:Str->Option Value)(base:Heap)(CX:vA)(x:Str)(k:Nat)(ps:List Str)(sp:Sp):Prop where
 ex:∃(f:Addr) (fd:FuncData),bJ P w K mg base CX k f fd ps sp/\Binds K fd ps []/\PySem.W.keepIn K (.ref f)=true/\mg x=some (.ref f)
section
variable {X:Cx} {x:Str} {k:Nat} {ps:List Str} {sp:Sp} {e:Expr} {es:List Expr} {t:TA} {p pos:Pos}
theorem cI(h:ic X.prog X.w X.K X.mg X.base c6 x k ps sp)(hr:cg k X.A)(hg:Gl X x)(ha:PA X (e::es) t)(hdb:(x == ("__debug__" : Str))=false:=by decide)
  (he:starEach (e::es) X.env=(false,eval e X.env)::starEach es X.env:=by rfl) (hpl:(backTo pos (starEach es X.env)).any (·.1)=false:=by rfl) :
  PE X (.Call (.Name x p) (e::es) [] pos) (vH sp [] E0 t):=by
 obtain⟨f,fd,F,b,kp,m⟩:=h.ex;exact zB F hr hg m kp b .nil qb ha hdb he hpl
end
theorem aS.tup{K:aJ}{H H':Hp}{a:Addr}{xs:List V}(e:aS H H')(h:bV K H a xs):bV K H' a xs:=by
 rcases h with(h | ⟨o,h⟩) | h
 ·exact .inl (.inl (e _ _ h))
 ·exact .inl (.inr ⟨o,e _ _ h⟩)
 ·exact .inr h
inductive aQ(K:aJ)(H:Hp):V->PyData->Prop
 | non:aQ K H .non .none
 | bl (b:Bool):aQ K H (.bl b) (.bool b)
 | int (i:Int):aQ K H (.int i) (.int i)
 | str (x:Str):aQ K H (.str x) (.str x)
 | lst {a:Addr} {xs:List V} {ds:List PyData} (h:bu K H a xs) (hl:xs.length=ds.length) (hi:∀(i:Nat) (x:V) (d:PyData),xs[i]?=some x->ds[i]?=some d->aQ K H x d):aQ K H (.ref a) (.list ds)
 | tup {a:Addr} {xs:List V} {ds:List PyData} (h:bV K H a xs) (hl:xs.length=ds.length) (hi:∀(i:Nat) (x:V) (d:PyData),xs[i]?=some x->ds[i]?=some d->aQ K H x d):aQ K H (.ref a) (.tuple ds)
def da(K:aJ)(H:Hp)(xs:List V)(ds:List PyData):Prop:=xs.length=ds.length/\∀(i:Nat) (x:V) (d:PyData),xs[i]?=some x->ds[i]?=some d->aQ K H x d
theorem da.nil{K:aJ}{H:Hp}:da K H [] []:=⟨rfl,λi x d h=>by simp at h⟩
theorem da.cons{K:aJ}{H:Hp}{x:V}{d:PyData}{xs:List V}{ds:List PyData}(h:aQ K H x d)(r:da K H xs ds):da K H (x::xs) (d::ds) :=
 ⟨by simp[r.1],λi y e h1 h2=>by
  cases i with
  | zero=>simp at h1 h2;subst h1;subst h2;exact h
  | succ i=>exact r.2 i y e (by simpa using h1) (by simpa using h2)⟩
theorem aQ.AQ{K:aJ}{H:Hp}{a:Addr}{xs:List V}{ds:List PyData}(h:bu K H a xs)(r:da K H xs ds):aQ K H (.ref a) (.list ds):=.lst h r.1 r.2
theorem aQ.CZ{K:aJ}{H:Hp}{a:Addr}{xs:List V}{ds:List PyData}(h:bV K H a xs)(r:da K H xs ds):aQ K H (.ref a) (.tuple ds):=.tup h r.1 r.2
theorem aQ.same{K:aJ}{H H':Hp}(e:aS H H'){v:V}{d:PyData}(h:aQ K H v d):aQ K H' v d:=by
 induction h with
 | non=>exact .non
 | bl b=>exact .bl b
 | int i=>exact .int i
 | str x=>exact .str x
 | lst h hl hi ih=>exact .lst (e.seq h) hl ih
 | tup h hl hi ih=>exact .tup (e.tup h) hl ih
theorem kj{h:Heap}:∀{xs:List V} {us:List Value} {ds:List PyData},Vals xs us->xs.length=ds.length->(∀(i:Nat) (x:V) (d:PyData) (u:Value),xs[i]?=some x->ds[i]?=some d->RelV x u->∃as,Reads h u d as)->∃as,ReadsAll h us ds as
 | [],_,[],.nil,_,_=>⟨[],.nil⟩
 | [],_,_::_,_,hl,_=>nomatch hl
 | _::_,_,[],_,hl,_=>nomatch hl
 | x::xs,u::us,d::ds,.cons r t,hl,hi=>by
  obtain⟨as,ha⟩:=hi 0 x d u rfl rfl r;obtain⟨bs,hb⟩:=kj t (by simpa using hl) λi y e w h1 h2=>hi (i + 1) y e w (by simpa using h1) (by simpa using h2)
  exact⟨as++bs,.cons ha hb⟩
section
variable {X:Cx} {pins:List (Addr×Obj)} {σ:St} {H:Hp} {s:Shared}
theorem aQ.reads(I:Inv X pins σ H s){v:V}{d:PyData}(h:aQ X.K H v d):∀{u:Value},RelV v u->∃as,Reads s.heap u d as:=by
 induction h with
 | non=>intro u r;cases r;exact⟨_,.none⟩
 | bl b=>intro u r;cases r;exact⟨_,.bool b⟩
 | int i=>intro u r;obtain⟨t,rfl⟩:=r;exact⟨_,.int i t⟩
 | str x=>intro u r;obtain⟨t,rfl⟩:=r;exact⟨_,.str x t⟩
 | lst h hl hi ih =>
  intro u r;cases r;obtain⟨its,rv,⟨o,n,e,c,_,d⟩,hz⟩:=I.list h;obtain⟨as,ha⟩:=kj (h:=s.heap) rv hl λi x d u h1 h2 r=>ih i x d h1 h2 r
  exact⟨_,.list e c d ha⟩
 | tup h hl hi ih =>
  intro u r;cases r;obtain⟨its,rv,⟨o,e,c,n,d⟩,hz⟩:=I.tuple h;obtain⟨as,ha⟩:=kj (h:=s.heap) rv hl λi x d u h1 h2 r=>ih i x d h1 h2 r
  exact⟨_,.tuple e c d ha⟩
end
section
variable {X:Cx}
def Lq(K:aJ):R2:=λx y H Q=>∃d d',aQ K H x d/\aQ K H y d'/\PySem.SeqAt.shaped d=true/\PySem.SeqAt.shaped d'=true/\Q (.bl (PyData.eqv d d')) H
def Pe(K:aJ):R2:=λx y H Q=>∃d d',aQ K H x d/\aQ K H y d'/\PySem.SeqAt.shaped d=true/\PySem.SeqAt.shaped d'=true/\Q (.bl (!PyData.eqv d d')) H
theorem ua(hu:X.A.units + 64 < cLine):jf X (compareOp .Eq) (Lq X.K):=by
 intro pins s σ H x y v u Q I rx ry h;obtain⟨d,d',h1,h2,s1,s2,q⟩:=h;obtain⟨as,r1⟩:=h1.reads I rx;obtain⟨bs,r2⟩:=h2.reads I ry;exact eq_dataH r1 r2 s1 s2 hu ⟨.bl _,H,I,rfl,q⟩
theorem Lr(hu:X.A.units + 64 < cLine):jf X (compareOp .NotEq) (Pe X.K):=by
 intro pins s σ H x y v u Q I rx ry h;obtain⟨d,d',h1,h2,s1,s2,q⟩:=h;obtain⟨as,r1⟩:=h1.reads I rx;obtain⟨bs,r2⟩:=h2.reads I ry;exact ne_dataH r1 r2 s1 s2 hu ⟨.bl _,H,I,rfl,q⟩
def Pf(a:Addr):Heap->Prop:=λh=>∃o,h.get? a=some o/\o.cls=.type "dict"
inductive GZ(K:aJ)(H:Hp):V->String->Prop
 | non:GZ K H .non "NoneType"
 | bl (b:Bool):GZ K H (.bl b) "bool"
 | int (i:Int):GZ K H (.int i) "int"
 | str (x:Str):GZ K H (.str x) "str"
 | lst {a:Addr} {xs:List V} (h:bu K H a xs):GZ K H (.ref a) "list"
 | tup {a:Addr} {xs:List V} (h:bV K H a xs):GZ K H (.ref a) "tuple"
 | dct {a:Addr} (h:H a=some (.ext (Pf a))):GZ K H (.ref a) "dict"
def Sk(K:aJ):List V->Hp->VK->Prop:=λvs H Q=>∃x n t b,vs=[x,.ty n]/\GZ K H x t/\PySem.W.kitOne K (.type t) (.type n)=some b/\Q (.bl b) H
theorem C0:iN X (.builtin "isinstance") (Sk X.K):=by
 intro pins s σ H xs us Q I r h;obtain⟨x,n,t,b,rfl,ty,e,q⟩:=h;obtain⟨u,w',rfl,rx,rw'⟩:=vals2 r;cases rw';have fin:∀tk,EP X pins σ Q (.bool b) {s with toks:=tk}:=λtk=>⟨.bl b,H,I.tok tk,rfl,q⟩
 cases ty with
 | non=>cases rx;exact aa8 PySem.W.kitx_none I.iL aa4 e (λz=>nomatch z) fin
 | bl y=>cases rx;exact aa8 PySem.W.kitx_bool I.iL aa4 e (λz=>nomatch z) fin
 | int i=>obtain⟨t,rfl⟩:=rx;exact aa8 PySem.W.kitx_int I.iL aa4 e (λz=>nomatch z) fin
 | str y=>obtain⟨t,rfl⟩:=rx;exact aa8 PySem.W.kitx_str I.iL aa4 e (λz=>nomatch z) fin
 | lst h =>
  cases rx;obtain⟨its,rv,⟨o,n,e1,c,_,d⟩,hz⟩:=I.list h;exact aa8 PySem.W.kitx_list I.iL ⟨o,e1,c⟩ e (λz=>nomatch z) fin
 | dct h =>
  cases rx;obtain⟨⟨o,e1,c⟩,_⟩:=I.hok _ _ h;exact aa8 PySem.W.kitx_dict I.iL ⟨o,e1,c⟩ e (λz=>nomatch z) fin
 | tup h =>
  cases rx;obtain⟨its,rv,⟨o,e1,c,n,d⟩,hz⟩:=I.tuple h;exact aa8 PySem.W.kitx_tuple I.iL ⟨o,e1,c⟩ e (λz=>nomatch z) fin
def C2(i j:Int):Prop:=(-340282366920938463463374607431768211456 < i/\i < 340282366920938463463374607431768211456)/\(-340282366920938463463374607431768211456 < j/\j < 340282366920938463463374607431768211456)
theorem C2.ok{i j:Int}(h:C2 i j):IntMulOk i j:=by
 have e:(2:Nat) ^ 128=340282366920938463463374607431768211456:=by decide
 obtain⟨⟨h1,h2⟩,h3,h4⟩:=h;have a:i.natAbs < 2 ^ 128:=by rw[e];omega
 have b:j.natAbs < 2 ^ 128:=by rw[e];omega
 exact IntMulOk.of_bits (aaA (acv a) (by decide)) (aaA (acv b) (by decide))
end
def lE(cells:List (Str×Addr)):List (Str×NameKind)->List (Str×Addr)->List (Str×Addr)
 | [],cs=>cs
 | (n,k)::r,cs=>lE cells r (if k == .free then(match cells.lookup n with | some c=>(n,c)::cs | none=>cs)else cs)
theorem vN{cells:List (Str×Addr)}:∀(names:List (Str×NameKind)) (cs:List (Str×Addr)),(∀x c,cs.lookup x=some c->cells.lookup x=some c)->∀x c,(lE cells names cs).lookup x=some c->cells.lookup x=some c
 | [],_,h=>h
 | (n,k)::r,cs,h=>by
  refine vN r _ λx c e=>?_
  split at e
  ·split at e
   ·rename_i c' hc;rw[acn]at e;by_cases z:(x == n)=true
    ·rw[z]at e;have z':x=n:=by simpa using z
     rw[z'];exact hc.trans e
    ·rw[abO]at z;rw[z]at e;exact h x c e
   ·exact h x c e
  ·exact h x c e
theorem sH{cells:List (Str×Addr)}{x:Str}{c:Addr}(hx:cells.lookup x=some c):∀(names:List (Str×NameKind)) (cs:List (Str×Addr)),cs.lookup x=some c->(lE cells names cs).lookup x=some c
 | [],_,h=>h
 | (n,k)::r,cs,h=>by
  refine sH hx r _ ?_;split
  ·split
   ·rename_i c' hc;rw[acn];by_cases z:(x == n)=true
    ·rw[z];have z':x=n:=by simpa using z
     rw[z']at hx;exact hc.symm.trans hx
    ·rw[abO]at z;rw[z];exact h
   ·exact h
  ·exact h
theorem qc{cells:List (Str×Addr)}{x:Str}{c:Addr}(hx:cells.lookup x=some c):∀(names:List (Str×NameKind)) (cs:List (Str×Addr)),(x,NameKind.free)∈names->(lE cells names cs).lookup x=some c
 | [],_,h=>nomatch h
 | (n,k)::r,cs,h=>by
  rcases aaB.mp h with e | h
  ·cases e;refine sH hx r _ ?_;simp[hx,List.lookup_cons]
  ·exact qc hx r _ h
theorem iZ{env:Env}{scope:Scope}(h:∀y∈scope.names,y.2=NameKind.free->∃c,env.cells.lookup y.1=some c):closureFor scope env=pure (lE env.cells scope.names []):=by
 have go:∀(names:List (Str×NameKind)) (cs:List (Str×Addr)),(∀y∈names,y.2=NameKind.free->∃c,env.cells.lookup y.1=some c) ->
   (forIn names cs λx (r:List (Str×Addr))=>if (x.2 == NameKind.free)=true then do let c ← cellOf env x.1;pure (ForInStep.yield ((x.1,c)::r))else pure (ForInStep.yield r):Sem (List (Str×Addr)))=pure (lE env.cells names cs):=by
  intro names
  induction names with
  | nil=>intro cs _;rfl
  | cons y r ih =>
   intro cs hy;obtain⟨n,k⟩:=y;rw[List.forIn_cons];by_cases hk:k=NameKind.free
   ·subst hk;obtain⟨c,hc⟩:=hy _ List.mem_cons_self rfl;have hc':env.cells.lookup n=some c:=hc;have hcell:cellOf env n=pure c:=by simp only[cellOf,hc']
    simp only[hcell,beq_self_eq_true,if_true,pure_bind];rw[ih _ λy hm=>hy y (List.mem_cons_of_mem _ hm)];simp only[lE,beq_self_eq_true,if_true,hc']
   ·have hb:(k == NameKind.free)=false:=by simpa using hk
    simp only[hb,Bool.false_eq_true,if_false,pure_bind];rw[ih _ λy hm=>hy y (List.mem_cons_of_mem _ hm)];simp only[lE,hb,Bool.false_eq_true,if_false]
 have e:=go scope.names [] h;unfold closureFor;simp only[bind_pure]at e ⊢;exact e
theorem qe{scope:Scope}{env:Env}(x:Str):(relabel scope env).names.lookup x=(scope.names.lookup x).map λk=>if (k == NameKind.free&&env.scope.kind == .function&&env.kindOf x == some .cell)=true then .cell else k:=by
 show(scope.names.map λ(n,k)=>if (k == NameKind.free&&env.scope.kind == .function&&env.kindOf n == some .cell)=true then(n,NameKind.cell)else(n,k)).lookup x=_
 induction scope.names with
 | nil=>rfl
 | cons y r ih =>
  obtain⟨n,k⟩:=y;rw[abd];by_cases z:(x == n)=true
  ·have z':x=n:=by simpa using z
   subst z';by_cases hc:(k == NameKind.free&&env.scope.kind == .function&&env.kindOf x == some .cell)=true
   ·simp only[hc,if_true,List.lookup_cons,beq_self_eq_true,Option.map_some]
   ·simp only[hc,if_false,List.lookup_cons,beq_self_eq_true,Option.map_some,Bool.false_eq_true]
  ·rw[abO]at z;by_cases hc:(k == NameKind.free&&env.scope.kind == .function&&env.kindOf n == some .cell)=true
   ·simp only[hc,if_true,List.lookup_cons,z];exact ih
   ·simp only[hc,if_false,List.lookup_cons,z,Bool.false_eq_true];exact ih
theorem eJ{α β:Type}[BEq α][LawfulBEq α]{x:α}{b:β}:∀{l:List (α×β)},l.lookup x=some b->(x,b)∈l
 | [],h=>by simp at h
 | (n,k)::r,h=>by
  rw[acn]at h;by_cases z:(x == n)=true
  ·rw[z]at h;have z':x=n:=by simpa using z
   cases h;rw[z'];exact aae
  ·rw[abO]at z;rw[z]at h;exact aal _ (eJ h)
def Cx.iO(X:Cx)(N:List Str)(scope:Scope)(C:Addr)(ex:List Addr)(s:Shared)(H:Hp):Cx where
 prog:=X.prog
 w:=X.w
 K:=X.K
 mg:=X.mg
 base:=X.base
 A:=X.A
 N:=N
 s₀:=s
 H₀:=H
 env:=compEnvC scope (lE X.env.cells scope.names []) C X.env
 outer:=X.stack
 stack:=X.stack
 ex:=ex
 fn:=λ_=>false
 calm:=X.calm
 pn:=[]
 xe:=λ_ _=>False
structure jY(X:Cx)(own:Nat)(N:List Str)(ix:List Nat)(scope:Scope):Prop where
 kind:scope.kind=.function
 calm:X.calm=true
 free:scope.names.all (λy=>y.2 != .free||X.env.kindOf y.1 == some .cell)=true
 cell:scope.names.all (λy=>y.2 != .cell)=true
 loc:scope.names.all (λy=>y.2 != .local||scope.names.lookup y.1 == some .local)=true
 ixs:(ix.map λi=>X.N[i]?)=(N.drop own).map some
 fr:(N.drop own).all (λx=>scope.names.lookup x == some .free)=true
 len:N.length=own + ix.length
def df(own:Nat)(ix:List Nat)(σ:St):St:=List.replicate own none++ix.map λi=>(σ[i]?).getD none
theorem xR(own:Nat)(ix:List Nat)(σ:St):(df own ix σ).drop own=ix.map λi=>(σ[i]?).getD none:=by
 unfold df;rw[List.drop_left' (by simp)]
theorem sI{own:Nat}{ix:List Nat}{σ:St}{j:Nat}{v:V}(h:(df own ix σ)[j]?=some (some v)):∃i,own<=j/\ix[j - own]?=some i/\σ[i]?=some (some v):=by
 unfold df at h;by_cases hj:j < own
 ·rw[List.getElem?_append_left (by simpa using hj)]at h;rw[List.getElem?_replicate]at h;simp[hj]at h
 ·rw[List.getElem?_append_right (by simpa using hj)]at h;rw[List.length_replicate,List.getElem?_map]at h
  cases e:ix[j - own]? with
  | none=>rw[e]at h;simp at h
  | some i =>
   rw[e]at h;refine⟨i,by omega,rfl,?_⟩;have h':(σ[i]?).getD none=some v:=by simpa using h
   cases q:σ[i]? with
   | none=>rw[q]at h';simp at h'
   | some o=>rw[q]at h';simp at h';rw[h']
theorem qf{own:Nat}{ix:List Nat}{σ σ2:St}(hd:σ2.drop own=ix.map λi=>(σ[i]?).getD none):∀(j:Nat) v,(df own ix σ)[j]?=some (some v)->σ2[j]?=some (some v):=λj v h=>by
 by_cases hj:j < own
 ·obtain⟨i,h1,_⟩:=sI h;omega
 ·have e:(df own ix σ)[j]?=((df own ix σ).drop own)[j - own]?:=by rw[abq];congr 1;omega
  have e2:σ2[j]?=(σ2.drop own)[j - own]?:=by rw[abq];congr 1;omega
  rw[e,xR,← hd,← e2]at h;exact h
section
variable {X:Cx} {pins:List (Addr×Obj)} {σ:St} {H:Hp} {s:Shared} {own:Nat} {N:List Str} {ix:List Nat} {scope:Scope}
theorem jY.has(B:jY X own N ix scope)(I:Inv X pins σ H s):∀y∈scope.names,y.2=NameKind.free->X.env.kindOf y.1=some .cell/\∃c,X.env.cells.lookup y.1=some c:=λy hy e=>by
 have z:=List.all_eq_true.mp B.free y hy;rw[e]at z;have z':X.env.kindOf y.1=some .cell:=by simpa using z
 exact⟨z',I.ok.has y.1 (.inl z')⟩
theorem sJ{C:Addr}{ex:List Addr}{h':Heap}{tk:Nat}(B:jY X own N ix scope)(I:Inv X pins σ H s)(hC:C=s.heap.objs.size)(hx:∀b∈ex,j7 X pins H b)(hlt:∀b∈ex,b < s.heap.objs.size)
  (hn:h'.Ns C (λ_=>none)) (hk:∀b o,s.heap.get? b=some o->h'.get? b=some o):Inv (X.iO N scope C ex s H) [] (df own ix σ) H {s with heap:=h',toks:=tk}:=by
 have sub:∀x c,(lE X.env.cells scope.names []).lookup x=some c->X.env.cells.lookup x=some c:=vN scope.names [] λx c e=>by simp at e
 have nb:∀b o,X.base.get? b=some o->b∉ex:=λb o e hb=>by
  rcases (hx b hb).2.2.2.1 with z | z
  ·exact I.ok.noex b o e z
  ·exact absurd (aah (aad e) (aaA I.ok.bsz z)) (aaG _)
 have nstk:∀b∈ex,b∉ia X.stack:=λb hb z=>by
  rcases aaB.mp (I.xr b z)with e | e
  ·exact(hx b hb).2.1 e
  ·exact(hx b hb).2.2.1 e
 refine⟨⟨I.ok.mod,B.kind,I.ok.glob,I.ok.blt,?_,λx y c e1 e2=>I.ok.inj x y c (sub x c e1) (sub y c e2),λx hk'=>?_,(λ_ _ z=>absurd (show false=true from z) (by decide)),I.ok.hd,I.ok.frames,.inl rfl,λb hb=>⟨?_,λx c e=>(hx b hb).2.2.2.2.1 x c (sub x c e)⟩,
  λb o e=>I.bs b o e,aaA I.ok.bsz I.sz,nb,nstk,I.stack,I.iM⟩,rfl,I.bare,Un.kept hk,⟨_,hn,λj x v e1 e2 e3=>?_⟩,λx c e=>?_,?_,λx c e=>I.freeC x c (sub x c e),(λp hp=>nomatch hp),I.hok.kept hk,?_⟩
 ·show s.heap.objs.size<=C;exact acL hC.symm
 ·have hk'':(relabel scope X.env).names.lookup x=some .cell∨(relabel scope X.env).names.lookup x=some .free:=hk';rw[qe]at hk''
  have hf:scope.names.lookup x=some .free:=by
   cases q:scope.names.lookup x with
   | none=>rw[q]at hk'';rcases hk'' with z | z<;>cases z
   | some k =>
    rw[q]at hk'';by_cases hkf:k=.free
    ·rw[hkf]
    ·exfalso
     have hb:(k == NameKind.free)=false:=by simpa using hkf
     have hm:=List.all_eq_true.mp B.cell (x,k) (eJ q);simp only[Option.map_some,hb,Bool.false_and,Bool.false_eq_true,if_false]at hk'';rcases hk'' with z | z
     ·rw[Option.some.inj z]at hm;exact absurd hm (by simp)
     ·exact hkf (aaq z)
  obtain⟨_,c,hc⟩:=B.has I (x,.free) (eJ hf) rfl;exact⟨c,qc hc scope.names [] (eJ hf)⟩
 ·show b≠C;rw[hC];exact aak (hlt b hb)
 ·obtain⟨i,h1,h2,h3⟩:=sI e2;have hN:N[j]?=some x:=e1
  have hxN:X.N[i]?=some x:=by
   have e:(ix.map λi=>X.N[i]?)[j - own]?=((N.drop own).map some)[j - own]?:=by rw[B.ixs]
   rw[aax,h2,aax,abq]at e;have hj:own + (j - own)=j:=by omega
   rw[hj,hN]at e;simpa using e
  have hfr:scope.names.lookup x=some .free:=by
   have hm:x∈N.drop own:=by
    refine aaz (i:=j - own) ?_;rw[abq,show own + (j - own)=j by omega];exact hN
   have:=List.all_eq_true.mp B.fr x hm;simpa using this
  obtain⟨hkc,c,hc⟩:=B.has I (x,.free) (eJ hfr) rfl;obtain⟨m,hm,hl⟩:=I.loc;obtain⟨u,r,l⟩:=hl i x v hxN h3 (.inr (.inl hkc));refine⟨u,r,?_⟩;rcases l with⟨z,_⟩ | ⟨_,c',hc',hz⟩
  ·have z':X.env.kindOf x=some .local:=z;have hkc':X.env.kindOf x=some .cell:=hkc;rw[hkc']at z';cases z'
  ·rw[hc]at hc';cases hc';refine .inr ⟨.inl ?_,c,qc hc scope.names [] (eJ hfr),?_⟩
   ·show(relabel scope X.env).names.lookup x=some .cell;rw[qe,hfr];have hkc':X.env.kindOf x=some .cell:=hkc;have hkf:X.env.scope.kind=.function:=I.ok.kind;simp[hkc',hkf]
   ·obtain⟨o,ho,hd⟩:=hz;exact⟨o,hk _ _ ho,hd⟩
 ·obtain⟨v,o,ho,hd⟩:=I.cell x c (sub x c e);exact⟨v,o,hk _ _ ho,hd⟩
 ·show H C=none;exact I.hok.fresh (acL hC.symm)
 ·show(df own ix σ).length=N.length;rw[B.len];simp[df]
theorem zE{C:Addr}{ex:List Addr}{σ':St}{H':Hp}{s':Shared}(I:Inv X pins σ H s)(hx:∀b∈ex,j7 X pins H b)(I':Inv (X.iO N scope C ex s H) [] σ' H' s'):Inv X pins σ H' s' :=
 I.zp (ch:=ex) I'.os I'.base I'.hok I'.bare λb hb=>⟨(hx b hb).2.2.2.1,(hx b hb).2.1,(hx b hb).2.2.2.2.1,(hx b hb).2.2.2.2.2⟩
def Ls(X:Cx)(ifs:List Expr)(tt:TT):Prop:=∀(pins:List (Addr×Obj)) (s:Shared) (σ:St) (H:Hp) (Q:Bool->Hp->Prop),Inv X pins σ H s->tt σ H Q ->
 wpAny (model X.prog X.w) X.A (forIn ifs true λc r=>if r=true then do let ok ← isTrue c X.env (eval c X.env);pure (ForInStep.yield ok)else pure (ForInStep.yield r)) (TP X pins σ Q) X.xe s
def Sl:TT:=λ_ H Q=>Q true H
theorem kU{X:Cx}:Ls X [] Sl:=λ_ _ _ H _ I h=>wpAny_tests_nil ⟨H,I,h⟩
def Oj(J:It)(own:Nat)(ix:List Nat)(σ:St)(g:TG)(tt:TT)(te:TE)(D:Addr)(H1:Hp)(Q:VK):Prop:=∃W:Nat->Nat->List V->Hp->Prop,
 (∃m,W 0 m [] (upd H1 D (.lst [])))/\∀i m ys H2,W i m ys H2->H2 D=some (.lst ys)/\((J.stop i H2/\Q (.ref D) H2)∨(J.go i H2/\ys.length < sizeLine/\∃Nx:List V->Hp->Prop,(∀ys' H',Nx ys' H'->∃m',m' < m/\W (i + 1) m' ys' H')/\∀x H3,J.yld i H2 x H3 ->
  g x (df own ix σ) H3 λσ2 H4=>σ2.drop own=(ix.map λi=>(σ[i]?).getD none)/\tt σ2 H4 λb H5=>if b=true then te σ2 H5 λv H6=>H6 D=some (.lst ys)/\Nx (ys++[v]) (upd H6 D (.lst (ys++[v])))else Nx ys H5))
def Ol(own:Nat)(ix:List Nat)(wi:TI)(g:TG)(tt:TT)(te:TE):TE:=λσ H Q=>wi σ H λJ H1=>∀D,H1 D=none->Oj J own ix σ g tt te D H1 Q
theorem vO{prog:Program}{w:World}{A:Around}{R:Result->Shared->Prop}{s:Shared}{elt target iter:Expr}{ifs:List Expr}{scope:Scope}{pos:Pos}{it acc:Value}{env:Env}(I:Nat->Shared->Prop)
  (turn:∀n s,I n s->wpAny (model prog w) A (pyNext it) (λr s1=>match r with
   | none=>R (.ok .next) s1
   | some v=>wpAny (model prog w) A (letOwnedTupleGo target it v) (λ_ s1'=>wpAny (model prog w) A (assign target env v) (λ_ s2 =>
     wpAny (model prog w) A (forIn ifs true λc r=>if r=true then do let ok ← isTrue c env (eval c env);pure (ForInStep.yield ok)else pure (ForInStep.yield r)) (λok s3 =>
      if ok=true then wpAny (model prog w) A (eval elt env) (λx s4=>wpAny (model prog w) A (call (.builtin "list.append") [acc,x]) (λ_ s5=>∃m,m < n/\I m s5) (λ_ _=>False) s4) (λ_ _=>False) s3
      else ∃m,m < n/\I m s3) (λ_ _=>False) s2) (λ_ _=>False) s1') (λ_ _=>False) s1) (λ_ _=>False) s)
  (n:Nat) (h:I n s):codeAny (model prog w) A (.compLoop (.ListComp elt [⟨target,iter,ifs,0⟩] scope pos) 0 it acc env) R s:=by
 refine codeAny_loop rfl I (λn s hI=>?_) n h;show wpAny _ A ((compTurn (.ListComp elt [⟨target,iter,ifs,0⟩] scope pos) 0 it acc env).onRaise (λx=>do noteFrame x env;theTreesLotGoes x)) _ _ s;refine wpAny_noted ?_;rw[compTurn_list];refine aac (aba (aac (aat (turn n s hI) (λr s1 h1=>?_) λ_ _ z=>z.elim)))
 cases r with
 | none=>exact aag h1
 | some v =>
  refine aac (aat h1 (λ_ s1' h1'=>?_) λ_ _ z=>z.elim);refine aac (aat h1' (λ_ s2 h2=>aac (aat h2 (λok s3 h3=>?_) λ_ _ z=>z.elim)) λ_ _ z=>z.elim)
  cases ok with
  | false=>exact aag ⟨rfl,h3⟩
  | true=>exact aac (aac (aat h3 (λx s4 h4=>aac (aat h4 (λ_ s5 h5=>aag (aag ⟨rfl,h5⟩)) λ_ _ z=>z.elim)) λ_ _ z=>z.elim))
theorem zF{elt tg iter:Expr}{ifs:List Expr}{pos:Pos}{g:TG}{tt:TT}{te:TE}{it:Addr}{fp:List Addr}{tn:Nat->Heap->Prop}{J:It}{Q:VK}{E:Value->Shared->Prop}{RR:Value->Addr->Result->Shared->Prop}(B:jY X own N ix scope)
  (hin:∀(C:Addr) (s:Shared) (H:Hp),PG (X.iO N scope C fp s H) tg g/\Ls (X.iO N scope C fp s H) ifs tt/\PE (X.iO N scope C fp s H) elt te)
  (I:Inv X pins σ H s) (T:Turn X.prog X.w X.K tg J fp it tn) (st:tn 0 s.heap) (hf:∀b∈fp,j7 X pins H b)
  (h:∀D,H D=none->Oj J own ix σ g tt te D H Q)
  (fin:∀(D C:Addr) (H':Hp) (s':Shared) (m:Str->Option Value),Inv X pins σ H' s'->s'.heap.Ns C m->H' C=none->C≠X.env.locals->(X.s₀.heap.objs.size<=C)->(∀x c,X.env.cells.lookup x=some c->c≠C)->(∀p∈X.pn++pins,p.1≠C)->Q (.ref D) H'->RR (.ref D) C (.ok .next) s') :
  wpAny (model X.prog X.w) X.A (newList []) (λacc s3=>wpAny (model X.prog X.w) X.A (newFunctionEnv scope X.env.globals (lE X.env.cells scope.names []) [] X.env.qual none .none (some X.env)) (λcenv s4 =>
   codeAny (model X.prog X.w) X.A (.compStart (.ListComp elt [⟨tg,iter,ifs,0⟩] scope pos) 0 (.ref it) acc {cenv with scope:=relabel scope X.env}) (RR acc cenv.locals) s4) E s3) E s:=by
 obtain⟨W,⟨m0,w0⟩,turn⟩:=h s.heap.objs.size I.fresh;refine abe ?_;have I3:=I.Ll (its:=[]) (ys:=[]) (t':=s.toks) .nil (aaQ _)
 have hcell:∀y∈scope.names,y.2≠NameKind.cell:=λy hy e=>by
  have:=abP.mp B.cell y hy;rw[e]at this;exact absurd this (by decide)
 refine wpAny_newFunctionEnv hcell (by intro y hy;simp at hy) (λh1 xS xT=>?_) B.kind;dsimp only at xS xT ⊢;generalize Lu:s.heap.push {cls:=.type "list",dict:=none,data:=.seq ([]:List Value).toArray}=h2 at xS xT ⊢
 have I3':Inv X pins σ (upd H s.heap.objs.size (.lst [])) {s with heap:=h2}:=by
  have z:({s with heap:=s.heap.push {cls:=.type "list",data:=.seq ([]:List Value).toArray},toks:=s.toks}:Shared)={s with heap:=h2}:=by rw[← Lu]
  rw[← z];exact I3
 have sz:h2.objs.size=s.heap.objs.size + 1:=by rw[← Lu,abv]
 have Lw:∀b o,s.heap.get? b=some o->h2.get? b=some o:=λb o e=>by rw[← Lu];exact aab _ e
 have vP:∀b o,h2.get? b=some o->h1.get? b=some o:=λb o e=>xT.extBut b o (aak (aad e)) (aab _ e)
 have there:∀b∈fp,b < s.heap.objs.size:=λb hb=>by obtain⟨o,e,_⟩:=T.obj _ _ st b hb;exact aad e
 have eS:∀b∈fp,j7 X pins (upd H s.heap.objs.size (.lst [])) b:=λb hb=>⟨by rw[uN (aak (there b hb))];exact(hf b hb).1,(hf b hb).2⟩
 have J8:h1.Ns h2.objs.size (λ_=>none):=by simpa using xS
 have I4:=sJ (tk:=s.toks + ([]:List (Str×Value)).length) (own:=own) (N:=N) (ix:=ix) B I3' rfl eS (λb hb=>aah (there b hb) (by show s.heap.objs.size<=h2.objs.size;rw[sz];exact abg _)) J8 vP;have pL:tn 0 h1:=T.keep _ _ _ st λb _ o e=>vP b o (Lw b o e)
 have Bc:(X.iO N scope h2.objs.size fp {s with heap:=h2} (upd H s.heap.objs.size (.lst []))).calm=true:=B.calm;obtain⟨pg,pif,pe⟩:=hin h2.objs.size {s with heap:=h2} (upd H s.heap.objs.size (.lst []))
 have fpb:∀{H':Hp},(∀b∈fp,H' b=none)->∀b∈fp,j7 (X.iO N scope h2.objs.size fp {s with heap:=h2} (upd H s.heap.objs.size (.lst []))) [] H' b:=λhz b hb =>
  ⟨hz b hb,aak (aah (there b hb) (by show s.heap.objs.size<=h2.objs.size;rw[sz];exact abg _)),I4.ok.exfs b hb,.inl hb,λx c e=>(I4.ok.exf b hb).2 x c e,(λp hp=>nomatch hp)⟩
 have loop:∀s3:Shared,s3={s with heap:=h1,toks:=s.toks + ([]:List (Str×Value)).length} ->
   codeAny (model X.prog X.w) X.A (.compLoop (.ListComp elt [⟨tg,iter,ifs,0⟩] scope pos) 0 (.ref it) (.ref s.heap.objs.size) (compEnvC scope (lE X.env.cells scope.names []) h2.objs.size X.env)) (RR (.ref s.heap.objs.size) h2.objs.size) s3:=by
  rintro s3 rfl;refine vO (λn s'=>∃i ys H',Inv (X.iO N scope h2.objs.size fp {s with heap:=h2} (upd H s.heap.objs.size (.lst []))) [] (df own ix σ) H' s'/\tn i s'.heap/\(∀b∈fp,H' b=none)/\W i n ys H') ?_ m0
   ⟨0,[],_,I4,pL,λb hb=>(eS b hb).1,w0⟩
  rintro n s5 ⟨i,ys,H5,I5,xq,K8,w5⟩;obtain⟨hD,t5⟩:=turn i n ys H5 w5;rcases t5 with⟨stop,qn⟩ | ⟨go,hz,Nx,hNx,step⟩
  ·refine bF (T.done (X.iO N scope h2.objs.size fp {s with heap:=h2} (upd H s.heap.objs.size (.lst []))) rfl rfl rfl Bc i [] s5 _ H5 (λ_ _=>False) I5 (fpb K8) xq stop) λr s6 ⟨hr,I6⟩=>?_
   subst hr;obtain⟨m,hm,_⟩:=I6.loc;refine fin _ _ H5 s6 m (zE I3' eS I6) hm I6.free ?_ ?_ (λx c e z=>?_) (λp hp z=>?_) qn
   ·have:=I3'.lt;exact aaJ this
   ·exact I3'.sz
   ·obtain⟨v,q⟩:=I3'.cell x c e;have:=q.lt;rw[z]at this;exact absurd this (aaG _)
   ·have:=aad (I3'.pin p hp).1;rw[z]at this;exact absurd this (aaG _)
  ·refine bF (T.item (X.iO N scope h2.objs.size fp {s with heap:=h2} (upd H s.heap.objs.size (.lst []))) rfl rfl rfl Bc i [] s5 _ H5 (λ_ _=>False) I5 (fpb K8) xq go) λr s6 ⟨u,hr,h6⟩=>?_
   subst hr;refine bF h6 λ_ s7 ⟨x,H7,I7,r7,y7,Lx,Sn⟩=>?_
   have I7':=I7.pinned (fpb Sn) (T.obj _ _ Lx);refine bF (pg _ s7 _ H7 x u _ I7' r7 (step x H7 y7)) λ_ s8 ⟨σ8,H8,I8,So,q8⟩=>?_
   refine bF (pif _ s8 σ8 H8 _ I8 q8) λb s9 ⟨H9,I9,q9⟩=>?_
   have again:∀{ys':List V} {H':Hp} {s':Shared},Inv (X.iO N scope h2.objs.size fp {s with heap:=h2} (upd H s.heap.objs.size (.lst []))) ([]++m8 fp s7.heap) σ8 H' s'->Nx ys' H' ->
     ∃m,m < n/\∃i ys H',Inv (X.iO N scope h2.objs.size fp {s with heap:=h2} (upd H s.heap.objs.size (.lst []))) [] (df own ix σ) H' s'/\tn i s'.heap/\(∀b∈fp,H' b=none)/\W i m ys H':=by
    intro ys' H' s' I' w';obtain⟨m',hm,w'⟩:=hNx _ _ w';refine⟨m',hm,i + 1,ys',H',(I'.kg).weak ?_ (qf So),T.keep _ _ _ Lx λb hb o e=>(I'.pin (b,o) (aav _ (aav _ (fB hb e)))).1,λb hb=>?_,w'⟩
    ·rw[I'.len,← I4.len]
    ·obtain⟨o,e,d⟩:=T.obj _ _ Lx b hb;exact(I'.pin (b,o) (aav _ (aav _ (fB hb e)))).2.1
   cases b with
   | true =>
    simp only[if_true]at q9 ⊢;refine bF (pe _ s9 σ8 H9 _ I9 q9) λv Ly ⟨y,Rt,Sq,Ru,Lz,Sr⟩=>?_
    refine bF (ib _ Ly σ8 Rt (.ref _) [y] (.ref _) [v] (λ_ H'=>Nx (ys++[y]) H') Sq rfl (.cons Ru .nil) ⟨_,ys,y,rfl,rfl,Lz,hz,Sr⟩) λ_ Xf ⟨_,Rv,Su,_,Sv⟩=>?_
    exact again Su Sv
   | false =>
    simp only[Bool.false_eq_true,if_false]at q9 ⊢;exact again I9 q9
 exact codeAny_compStart_list (loop _ rfl) (T.self _ 0 _ _ _ pL (loop _ rfl))
theorem mj{K:aJ}{a:Addr}{xs:List V}{g:TG}{tt:TT}{te:TE}{H1:Hp}{Q:VK}{D:Addr}(Pv:Nat->List V->Hp->Prop)(hn:xs.length<=sizeLine)(h0:Pv 0 [] (upd H1 D (.lst [])))(hD:∀i ys H,i<=xs.length->Pv i ys H->H D=some (.lst ys)/\ys.length<=i/\bu K H a xs)
  (hs:∀i x ys H2,xs[i]?=some x->Pv i ys H2->g x (df own ix σ) H2 λσ2 H4=>σ2.drop own=(ix.map λi=>(σ[i]?).getD none)/\tt σ2 H4 λb H5=>if b=true then te σ2 H5 λv H6=>H6 D=some (.lst ys)/\Pv (i + 1) (ys++[v]) (upd H6 D (.lst (ys++[v])))else Pv (i + 1) ys H5)
  (hd:∀ys H2,Pv xs.length ys H2->Q (.ref D) H2) :
  Oj (FN K a) own ix σ g tt te D H1 Q:=by
 refine⟨λi m ys H=>m=xs.length - i/\i<=xs.length/\Pv i ys H,⟨xs.length,by simp,Nat.zero_le _,h0⟩,?_⟩;rintro i m ys H2 ⟨rfl,hi,p⟩;obtain⟨q1,q2,q3⟩:=hD i ys H2 hi p;refine⟨q1,?_⟩;by_cases hlt:i < xs.length
 ·refine .inr ⟨⟨xs,xs[i],q3,by simp[hlt]⟩,by omega,Pv (i + 1),λys' H' p'=>⟨xs.length - (i + 1),by omega,rfl,hlt,p'⟩,λx H3 y=>?_⟩;obtain⟨e1,e2⟩:=y;subst e1;exact hs i x ys _ (e2 xs q3) p
 ·have e:i=xs.length:=by omega
  subst e;exact .inl ⟨⟨xs,q3,aai _⟩,hd ys H2 p⟩
theorem C3{K:aJ}{a:Addr}{xs:List V}{g:TG}{tt:TT}{te:TE}{H1:Hp}{Q:VK}{D:Addr}(Pv:Nat->List V->Hp->Prop)(hn:xs.length<=sizeLine)(h0:Pv 0 [] (upd H1 D (.lst [])))(hD:∀i ys H,i<=xs.length->Pv i ys H->H D=some (.lst ys)/\ys.length<=i/\bV K H a xs)
  (hs:∀i x ys H2,xs[i]?=some x->Pv i ys H2->g x (df own ix σ) H2 λσ2 H4=>σ2.drop own=(ix.map λi=>(σ[i]?).getD none)/\tt σ2 H4 λb H5=>if b=true then te σ2 H5 λv H6=>H6 D=some (.lst ys)/\Pv (i + 1) (ys++[v]) (upd H6 D (.lst (ys++[v])))else Pv (i + 1) ys H5)
  (hd:∀ys H2,Pv xs.length ys H2->Q (.ref D) H2) :
  Oj (Oi K a) own ix σ g tt te D H1 Q:=by
 refine⟨λi m ys H=>m=xs.length - i/\i<=xs.length/\Pv i ys H,⟨xs.length,by simp,Nat.zero_le _,h0⟩,?_⟩;rintro i m ys H2 ⟨rfl,hi,p⟩;obtain⟨q1,q2,q3⟩:=hD i ys H2 hi p;refine⟨q1,?_⟩;by_cases hlt:i < xs.length
 ·refine .inr ⟨⟨xs,xs[i],q3,by simp[hlt]⟩,by omega,Pv (i + 1),λys' H' p'=>⟨xs.length - (i + 1),by omega,rfl,hlt,p'⟩,λx H3 y=>?_⟩;obtain⟨e1,e2⟩:=y;subst e1;exact hs i x ys _ (e2 xs q3) p
 ·have e:i=xs.length:=by omega
  subst e;exact .inl ⟨⟨xs,q3,aai _⟩,hd ys H2 p⟩
theorem C4{elt tg iter:Expr}{ifs:List Expr}{pos:Pos}{wi:TI}{g:TG}{tt:TT}{te:TE}(own:Nat)(N:List Str)(ix:List Nat)(B:jY X own N ix scope)(hi:PI X tg iter wi)
  (hin:∀(C:Addr) (fp:List Addr) (s:Shared) (H:Hp),PG (X.iO N scope C fp s H) tg g/\Ls (X.iO N scope C fp s H) ifs tt/\PE (X.iO N scope C fp s H) elt te)
  (hs:∀x,foldedSetIterable iter X.env x=pure x:=by intro _;rfl):PE X (.ListComp elt [⟨tg,iter,ifs,0⟩] scope pos) (Ol own ix wi g tt te):=by
 intro pins s σ H Q I h
 have hnames:∀y∈scope.names,y.2=NameKind.local->scope.names.lookup y.1=some .local:=λy hy e=>by
  have:=List.all_eq_true.mp B.loc y hy;rw[e]at this;simpa using this
 rw[eval_ListComp];refine aco (use:=none) rfl hs (iZ λy hy e=>(B.has I y hy e).2) B.kind hnames (bF (hi pins s σ H _ I h) λv s1 h1=>bF h1 λitv s2 h2=>?_);obtain⟨it,fp,tn,J,H2,e,I2,T,bq,f2,rd⟩:=h2;subst e;refine zF (Q:=Q) (RR:=λacc C=>compPost (model X.prog X.w) X.A X.xe none (EP X pins σ Q) acc C) B (λC s H=>hin C fp s H) I2 T bq f2 rd ?_;intro D C H' s' m I' hn hC hL hsz hce hpi q;exact⟨m,hn,λh' sb=>⟨.ref D,H',I'.turned (t':=s'.toks) (λb o hb e=>(sb.2 b hb).trans e) hC hL (.inr hsz) hce hpi,rfl,q⟩⟩
theorem ml{i:Nat}{x:Str}{elt tg iter:Expr}{ifs:List Expr}{pos pos' spos:Pos}{wi:TI}{g:TG}{tt:TT}{te:TE}(hN:X.N.Nodup)(hxi:X.N[i]?=some x)(hx:Loc X.env.scope x)(own:Nat)(N:List Str)(ix:List Nat)(B:jY X own N ix scope)(hi:PI X tg iter wi)
  (hin:∀(C:Addr) (fp:List Addr) (s:Shared) (H:Hp),PG (X.iO N scope C fp s H) tg g/\Ls (X.iO N scope C fp s H) ifs tt/\PE (X.iO N scope C fp s H) elt te)
  (hsw:swapsWith (.ListComp elt [⟨tg,iter,ifs,0⟩] scope pos) (some (.Name x pos')) spos.line X.env=pure true:=by rfl) (hs:∀x,foldedSetIterable iter X.env x=pure x:=by intro _;rfl)
  (hfn:X.fn x=true∨X.env.scope.names.lookup x=some .local:=by first | exact .inl rfl | exact .inr rfl):PS X (.Assign [.Name x pos'] (.ListComp elt [⟨tg,iter,ifs,0⟩] scope pos) spos) (Gz (Ol own ix wi g tt te) (sj i)):=by
 intro pins s σ H D0 I h
 have hnames:∀y∈scope.names,y.2=NameKind.local->scope.names.lookup y.1=some .local:=λy hy e=>by
  have:=List.all_eq_true.mp B.loc y hy;rw[e]at this;simpa using this
 rw[exec_Assign_Name_used _ _ _ _ hsw];refine aac (aba (aac ?_));show wpAny _ X.A (do let _ ← comprehension (.ListComp elt [⟨tg,iter,ifs,0⟩] scope pos) scope X.env _ (newList []) false (eval iter X.env) (some (assign (.Name x pos') X.env))) _ _ s;refine aac (bF (aco (use:=some (assign (.Name x pos') X.env)) (Q:=λ_ s'=>SP X pins D0 .next s') rfl hs (iZ λy hy e=>(B.has I y hy e).2) B.kind hnames (bF (hi pins s σ H _ I h) λv s1 h1=>bF h1 λitv s2 h2=>?_)) λ_ s' hq=>aag (aag hq));obtain⟨it,fp,tn,J,H2,e,I2,T,bq,f2,rd⟩:=h2;subst e;refine zF (Q:=λv H'=>sj i v σ H' D0.nx) (RR:=λacc C=>compPost (model X.prog X.w) X.A X.xe (some (assign (.Name x pos') X.env)) (λ_ s'=>SP X pins D0 .next s') acc C) B (λC s H=>hin C fp s H) I2 T bq f2 rd ?_;intro D C H' s' m I' hn hC hL hsz hce hpi q;show wpAny _ X.A (assign (.Name x pos') X.env (.ref D)) _ _ s';refine wpAny_assign_Name (m6 I' hN hxi hx (v:=.ref D) rfl (λs'' I'' ⟨a,sb,ha⟩=>?_) hfn);refine⟨m,hn.sameBut sb ?_,λh' sb'=>⟨_,H',I''.turned (t':=s''.toks) (λb o hb e=>(sb'.2 b hb).trans e) hC hL (.inr hsz) hce hpi,q⟩⟩;rcases ha with e | e
 ·rw[e];exact hL
 ·exact abu (hce x a e)
end
theorem range_all(bs:List Bool):(List.range bs.length).all (λi=>(bs[i]?).getD true)=bs.all id:=by
 rw[Bool.eq_iff_iff,abP,abP]
 constructor
 ·intro h b hb;obtain⟨i,hi,e⟩:=List.mem_iff_getElem.mp hb;have z:=h i (ab3.mpr hi);rw[gP hi,e]at z;exact z
 ·intro h i hi;have hi':=ab3.mp hi;rw[gP hi'];exact h _ (aby hi')
section
variable {X:Cx}
def Sw(K:aJ):List V->Hp->VK->Prop:=λxs H Q=>∃(p:Addr) (bs:List Bool),xs=[.ref p]/\bu K H p (bs.map V.bl)/\Q (.bl (bs.all id)) H
theorem C5(hc:X.calm=true):iN X (.builtin "all") (Sw X.K):=by
 intro pins s σ H xs us Q I r h;obtain⟨p,bs,rfl,hS,q⟩:=h;obtain⟨u,rfl,ru⟩:=vals1 r;cases ru;obtain⟨its,rv,pl,hz⟩:=I.list hS
 have hlen:its.toArray.size=bs.length:=by
  have:=rv.length;simp at this;simp[this]
 have hlt:p < s.heap.objs.size:=by obtain⟨o,n,e,_⟩:=pl;exact aad e
 refine call_all_walk (aca pl.isList ?_);refine⟨s.heap.objs.size,_,_,its.toArray.size,_,_,λi=>(bs[i]?).getD true,rfl,Walks.list (show X.A.in1.handled=none from I.ok.hd hc) _ _ (aak hlt) its.toArray,⟨⟨_,aao _ rfl,rfl,rfl⟩,pl.isList.push _⟩,?_,λh' tk k=>?_⟩
 ·intro i v s' Q' E' hv hq
  have hi:i < bs.length:=by
   rw[← hlen];exact(Array.getElem?_eq_some_iff.mp hv).1
  obtain⟨u',hu',ru'⟩:=rv.get (i:=i) (x:=.bl bs[i]) (by rw[List.getElem?_map,gP hi];rfl);have e:its[i]?=some v:=by simpa using hv
  rw[hu']at e;cases e;cases ru';have hq':Q' ((bs[i]?).getD true) s':=hq;rw[gP hi]at hq';exact aaS hq'
 ·rw[hlen,range_all];exact⟨.bl _,H,I.kept (t':=tk) λb o e=>k b o (by simpa using Nat.ne_of_lt (Heap.lt_size e)) (Heap.get?_push_of_some _ e),rfl,q⟩
def J9(K:aJ):R2:=λx y H Q=>∃l b xs zs,x=.ref l/\y=.ref b/\bu K H l xs/\bu K H b zs/\xs.length + zs.length<=sizeLine/\∀p,H p=none->Q (.ref p) (upd H p (.lst (xs++zs)))
theorem ub:jf X (binaryOp .Add) (J9 X.K):=by
 intro pins s σ H x y v u Q I rx ry h;obtain⟨l,b,xs,zs,rfl,rfl,hH,hB,hz,q⟩:=h;cases rx;cases ry;obtain⟨its,r,⟨⟨c1,d1,a1,Rw⟩,n,e,rfl,rfl,rfl⟩,z⟩:=I.list hH;obtain⟨p9,r2,⟨⟨c2,d2,a2,Le⟩,n2,e2,rfl,rfl,rfl⟩,z2⟩:=I.list hB;have hl:=r.length;have sE:=r2.length;refine concat_meets ⟨_,e,rfl⟩ ⟨_,e2,rfl⟩ noFill_list_add seq_list_add PySem.F.slot_list_add PySem.F.entry_list_add (PySem.F.args_list_add_2 _ _)
  (list_addW l b its.toArray p9.toArray n n2 none none Rw Le (by rw[aaC,aaC];omega)) ⟨e,e2,?_⟩
 rw[show its.toArray++p9.toArray=(its++p9).toArray by simp];exact⟨.ref _,_,I.Ll (t':=s.toks) (r.append r2) (by rw[List.length_append];omega),rfl,q _ I.fresh⟩
end
section
variable {X:Cx} {tg:Expr}
end
theorem Inv.G0{X:Cx}{pins:List (Addr×Obj)}{σ:List (Option V)}{H:Hp}{s:Shared}{h':Heap}{fp:List Addr}{a:Addr}{o:HO}{t':Nat}(I:Inv X pins σ H s)(hf:∀b∈fp,j7 X pins H b)
  (k:∀b u,b∉fp->s.heap.get? b=some u->h'.get? b=some u) (hp:s.heap.objs.size<=a) (new:du X.prog X.w (upd H a o) h' a o):Inv X pins σ (upd H a o) {s with heap:=h',toks:=t'}:=by
 have hn:=I.hok.fresh hp;have nfp:∀b u,H b=some u->b∉fp:=λb u e z=>by rw[(hf b z).1]at e;cases e
 refine I.step (g':=s.gens) (d':=s.drawn) (ch:=fp) (λb hb=>⟨(hf b hb).2.2.2.1,(hf b hb).2.1,(hf b hb).2.2.2.2.1,(hf b hb).2.2.2.2.2⟩) (λb o _ _ hc e _=>k b o hc e) (λb o _ _ hc e _=>⟨o.slots,k b o hc e⟩)
  (λb o hc e n=>by rw[uN (aak (aah (aad e) hp))];exact n) (λb o hc e=>⟨o,k b o hc e⟩) (λb xs e=>by rw[uN (nN e hn)];exact e) (λb u xs e=>by rw[uN (nN e hn)];exact e)
  (λb ps e=>⟨#[],by rw[uN (nN e hn),e];simp⟩) (λm hm=>?_) (λb u e=>?_) I.bare
 ·obtain⟨o,es,ep,ho,r⟩:=hm;exact⟨o,es,ep,k _ o (λz=>(hf _ z).2.1 rfl) ho,r⟩
 ·by_cases hb:b=a
  ·subst hb;rw[uS]at e;cases e;exact new
  ·rw[uN hb]at e;refine(I.hok b u e).m4 (λc v hc q=>k c v ?_ q) (λc q=>by rw[uN (nN q hn)];exact q) λc xs q=>by rw[uN (nN q hn)];exact q
   rcases hc with z | z
   ·rw[z];exact nfp b u e
   ·exact nfp c _ z
theorem Inv.G2{X:Cx}{pins:List (Addr×Obj)}{σ:List (Option V)}{H:Hp}{s:Shared}{h':Heap}{fp:List Addr}{t':Nat}(I:Inv X pins σ H s)(hf:∀b∈fp,j7 X pins H b)
  (k:∀b u,b∉fp->s.heap.get? b=some u->h'.get? b=some u):Inv X pins σ H {s with heap:=h',toks:=t'}:=by
 have nfp:∀b u,H b=some u->b∉fp:=λb u e z=>by rw[(hf b z).1]at e;cases e
 refine I.step (g':=s.gens) (d':=s.drawn) (ch:=fp) (λb hb=>⟨(hf b hb).2.2.2.1,(hf b hb).2.1,(hf b hb).2.2.2.2.1,(hf b hb).2.2.2.2.2⟩) (λb o _ _ hc e _=>k b o hc e) (λb o _ _ hc e _=>⟨o.slots,k b o hc e⟩)
  (λ_ _ _ _ n=>n) (λb o hc e=>⟨o,k b o hc e⟩) (λ_ _ e=>e) (λ_ _ _ e=>e) (λb ps e=>⟨#[],by rw[e];simp⟩) (λm hm=>?_) (λb u e=>?_) I.bare
 ·obtain⟨o,es,ep,ho,r⟩:=hm;exact⟨o,es,ep,k _ o (λz=>(hf _ z).2.1 rfl) ho,r⟩
 ·refine(I.hok b u e).m4 (λc v hc q=>k c v ?_ q) (λ_ q=>q) λ_ _ q=>q
  rcases hc with z | z
  ·rw[z];exact nfp b u e
  ·exact nfp c _ z
def jk(q:Bool)(h:Heap)(a:Addr)(its:Array Value):Prop:=match q with | true=>h.IsList a its | false=>h.IsTuple a its
def iq(q:Bool)(h:Heap)(it a:Addr)(i:Nat):Prop:=match q with | true=>h.IsListIter it a i | false=>h.IsTupleIter it a i
def Pg(q:Bool):String:=match q with | true=>"list_iterator" | false=>"tuple_iterator"
theorem jk.at{q:Bool}{h h':Heap}{a:Addr}{its:Array Value}(x:jk q h a its)(e:∀o,h.get? a=some o->h'.get? a=some o):jk q h' a its:=by
 cases q<;>(obtain⟨o,ho,r⟩:=x;exact⟨o,e _ ho,r⟩)
theorem iq.at{q:Bool}{h h':Heap}{it a:Addr}{i:Nat}(x:iq q h it a i)(e:∀o,h.get? it=some o->h'.get? it=some o):iq q h' it a i:=by
 cases q<;>(obtain⟨o,ho,r⟩:=x;exact⟨o,e _ ho,r⟩)
theorem iq.obj{q:Bool}{h:Heap}{it a:Addr}{i:Nat}(x:iq q h it a i):∃o,h.get? it=some o/\∀v,o.data≠.cell v:=by
 cases q<;>(obtain⟨o,ho,c,d⟩:=x;exact⟨o,ho,λv z=>by rw[d]at z;cases z⟩)
section
variable {prog:Program} {w:World} {A:Around} {E:Value->Shared->Prop} {s:Shared}
theorem C6{it t:Addr}{i:Nat}{its:Array Value}{x:Value}{Q:Value->Shared->Prop}(hit:s.heap.IsTupleIter it t i)(ht:s.heap.IsTuple t its)(hx:its[i]?=some x)
  (hQ:∀h',h'.IsTupleIter it t (i + 1)->Heap.SameBut it s.heap h'->Q x {s with heap:=h'}):wpAny (model prog w) A (Builtin.SmallTypes.nextOf (.ref it)) Q E s:=by
 obtain⟨o,g1,g2,g3⟩:=id hit;obtain⟨ot,g4,_,nt,g5⟩:=ht;unfold Builtin.SmallTypes.nextOf;refine wpAny_bind (wpAny_callSpecial?_slot (name:=Str.ofString "__next__") hit.typeIs F.slot_tuple_iterator_next (wpAny_call_entry F.slot_tuple_iterator_next hit.typeIs F.entry_tuple_iterator_next ?_ (F.args_tuple_iterator_next_1 _)));show wpAny _ _ (field (.ref it) 0 >>= _) _ _ s;refine wpAny_bind (wpAny_field g1 g3 (x:=.ref t) rfl ?_);show wpAny _ _ (if (Value.ref t == Value.none)=true then _ else _) _ _ s;rw[if_neg (show ¬ ((Value.ref t == Value.none)=true)from Bool.false_ne_true)];show wpAny _ _ (field (.ref it) 1 >>= _) _ _ s;refine wpAny_bind (wpAny_field g1 g3 (x:=.int i 0) rfl ?_);show wpAny _ _ (seqItems? (.ref t) >>= _) _ _ s;refine wpAny_bind (wpAny_seqItems g4 g5 ?_);simp only[Int.toNat_natCast,hx];refine wpAny_bind (wpAny_setField g1 g3 (by simp) (wpAny_pure ⟨x,rfl,wpAny_pure (hQ _ ?_ (Heap.SameBut.update ..))⟩));exact⟨_,Heap.get?_update_self _ g1 (Obj.isFreed_of_fields (Obj.data_mapFields g3 _)),(Obj.cls_mapFields ..).trans g2,by rw[Obj.data_mapFields g3];simp[rawInt]⟩
theorem G3{it t:Addr}{i:Nat}{its:Array Value}{Q:Value->Shared->Prop}(hh:A.handled=none)(hit:s.heap.IsTupleIter it t i)(ht:s.heap.IsTuple t its)(hx:its[i]?=none)
  (hE:∀h' e,Heap.ExtBut it s.heap h'->(∃o,h'.get? e=some o/\o.cls=.type "StopIteration")->E (.ref e) {s with heap:=h'}):wpAny (model prog w) A (Builtin.SmallTypes.nextOf (.ref it)) Q E s:=by
 obtain⟨o,g1,g2,g3⟩:=id hit;obtain⟨ot,g4,_,nt,g5⟩:=ht;unfold Builtin.SmallTypes.nextOf;refine wpAny_bind (wpAny_callSpecial?_slot (name:=Str.ofString "__next__") hit.typeIs F.slot_tuple_iterator_next (wpAny_call_entry F.slot_tuple_iterator_next hit.typeIs F.entry_tuple_iterator_next ?_ (F.args_tuple_iterator_next_1 _)));show wpAny _ _ (field (.ref it) 0 >>= _) _ _ s;refine wpAny_bind (wpAny_field g1 g3 (x:=.ref t) rfl ?_);show wpAny _ _ (if (Value.ref t == Value.none)=true then _ else _) _ _ s;rw[if_neg (show ¬ ((Value.ref t == Value.none)=true)from Bool.false_ne_true)];show wpAny _ _ (field (.ref it) 1 >>= _) _ _ s;refine wpAny_bind (wpAny_field g1 g3 (x:=.int i 0) rfl ?_);show wpAny _ _ (seqItems? (.ref t) >>= _) _ _ s;refine wpAny_bind (wpAny_seqItems g4 g5 ?_);simp only[Int.toNat_natCast,hx];refine wpAny_bind (wpAny_rule (wpAny_bind (wpAny_setField g1 g3 (by simp) ?_)));show wpAny _ _ (newExc (.type "StopIteration") [] >>= _) _ _ _;refine wpAny_bind ?_;simp only[newExc,newTuple];refine wpAny_bind (wpAny_newObj_type ?_ (by size_fits));refine wpAny_bind (m:=firstArgMember _ _) (wpAny_of_eq (a:=Value.none) (by first | rfl | (simp only[firstArgMember];rfl)) ?_);refine wpAny_newObj_type ?_ (by size_fits);simp only[raiseNew];refine wpAny_bind (wpAny_handled ?_)
 first | rw[show A.in1.handled=none from hh] | rw[hh]
 refine aac (aag (wpAny_throw ?_));exact hE _ _ (((Heap.SameBut.update ..).extBut.push _).push _) ⟨_,aao _ rfl,rfl⟩
theorem uc{q:Bool}{it t:Addr}{i:Nat}{its:Array Value}{x:Value}{Q:Value->Shared->Prop}(hit:iq q s.heap it t i)(ht:jk q s.heap t its)(hx:its[i]?=some x)
  (hQ:∀h',iq q h' it t (i + 1)->Heap.SameBut it s.heap h'->Q x {s with heap:=h'}):wpAny (model prog w) A (Builtin.SmallTypes.nextOf (.ref it)) Q E s:=by
 cases q with
 | true=>exact abJ hit ht hx hQ
 | false=>exact C6 hit ht hx hQ
theorem C7{q:Bool}{it t:Addr}{i:Nat}{its:Array Value}{Q:Value->Shared->Prop}(hh:A.handled=none)(hit:iq q s.heap it t i)(ht:jk q s.heap t its)(hx:its[i]?=none)
  (hE:∀h' e,Heap.ExtBut it s.heap h'->(∃o,h'.get? e=some o/\o.cls=.type "StopIteration")->E (.ref e) {s with heap:=h'}):wpAny (model prog w) A (Builtin.SmallTypes.nextOf (.ref it)) Q E s:=by
 cases q with
 | true=>exact wpAny_nextOf_list_end hh hit ht hx hE
 | false=>exact G3 hh hit ht hx hE
variable {q1 q2:Bool} {z TI TO i1 i2 l1 l2:Addr} {k1 k2:Nat} {xs ys:Array Value} {x y a b:Value}
theorem AR{Q:Option Value->Shared->Prop}(D:ZipApart z TI TO i1 i2 l1 l2)(hz:IsZip s.heap z TI TO .none)(hTI:IsPair s.heap TI (.ref i1) (.ref i2))(hTO:IsPair s.heap TO a b)
  (h1:iq q1 s.heap i1 l1 k1) (h2:iq q2 s.heap i2 l2 k2) (ud:jk q1 s.heap l1 xs) (sE:jk q2 s.heap l2 ys) (hx:xs[k1]?=some x) (hy:ys[k2]?=some y)
  (hQ:∀h',IsZip h' z TI TO (rawInt s.heap.objs.size)->IsPair h' TO x y->iq q1 h' i1 l1 (k1 + 1)->iq q2 h' i2 l2 (k2 + 1)->IsPair h' s.heap.objs.size x y ->
   (∀c o,c≠z->c≠TO->c≠i1->c≠i2->s.heap.get? c=some o->h'.get? c=some o)->Q (some (.ref s.heap.objs.size)) {s with heap:=h'}):wpAny (model prog w) A (pyNext (.ref z)) Q E s:=by
 have hT:s.TypeIs (.ref z) "zip":=⟨_,hz,rfl⟩;unfold pyNext;refine wpAny_bind (wpAny_attempt (wpAny_callSpecial?_slot (name:=Str.ofString "__next__") hT F.slot_zip_next (wpAny_call_entry F.slot_zip_next hT F.entry_zip_next ?_ (F.args_zip_next_1 _))));show wpAny _ _ (field (.ref z) 2 >>= _) _ _ _;refine wpAny_bind (wpAny_field hz rfl (x:=.bool false) rfl ?_);show wpAny _ _ (field (.ref z) 3 >>= _) _ _ _;refine wpAny_bind (wpAny_field hz rfl (x:=.ref TI) rfl (wpAny_bind (wpAny_seqItems hTI rfl ?_)));show wpAny _ _ (Builtin.SmallTypes.ownedTupleIsFree (.ref z) >>= _) _ _ _;refine wpAny_bind ?_;unfold Builtin.SmallTypes.ownedTupleIsFree;refine wpAny_bind (wpAny_field hz rfl (x:=.none) rfl (wpAny_pure ?_));simp only[if_true];refine wpAny_bind (wpAny_rule (wpAny_bind (wpAny_field hz rfl (x:=.ref TO) rfl (wpAny_bind (wpAny_setField_rec hz (by simp) λu1 C8 b1=>?_)))))
 replace C8:IsZip u1 z TI TO .ellipsis:=C8
 refine wpAny_bind ?_;simp only[List.zipIdx_cons,List.zipIdx_nil,List.forIn_cons,List.forIn_nil];refine wpAny_bind (wpAny_bind (wpAny_onRaise ?_));show wpAny _ _ (Builtin.SmallTypes.nextOf (.ref i1) >>= _) _ _ _;refine wpAny_bind (uc (h1.at λo e=>b1.extBut _ o D.i1z e) (ud.at λo e=>b1.extBut _ o D.l1z e) hx λu2 Vw b2=>wpAny_pure ?_);have C9:IsPair u2 TO a b:=b2.extBut _ _ D.TOi1 (b1.extBut _ _ D.TOz hTO);refine wpAny_bind (wpAny_seqItems C9 rfl (wpAny_bind (wpAny_updateSeq_pair C9 λu3 G4 b3=>?_)))
 replace G4:IsPair u3 TO x b:=G4
 refine aac (wpAny_letGo (aag (aac (aac (wpAny_onRaise ?_)))));show wpAny _ _ (Builtin.SmallTypes.nextOf (.ref i2) >>= _) _ _ _;refine aac (uc (h2.at λo e=>b3.extBut _ o D.TOi2.symm (b2.extBut _ o D.i12.symm (b1.extBut _ o D.i2z e))) (sE.at λo e=>b3.extBut _ o D.l2TO (b2.extBut _ o D.l2i1 (b1.extBut _ o D.l2z e))) hy λu4 Xg b4=>aag ?_);have Ph:IsPair u4 TO x b:=b4.extBut _ _ D.TOi2 G4;refine aac (wpAny_seqItems Ph rfl (aac (wpAny_updateSeq_pair Ph λu5 G5 b5=>?_)))
 replace G5:IsPair u5 TO x y:=G5
 refine aac (wpAny_letGo (aag (aag ?_)));refine aac (wpAny_seqItems G5 rfl (aac (wpAny_newTuple ?_)));have hsz:u5.objs.size=s.heap.objs.size:=by rw[b5.1,b4.1,b3.1,b2.1,b1.1]
 have Vx:IsZip u5 z TI TO .ellipsis:=b5.extBut _ _ D.TOz.symm (b4.extBut _ _ D.i2z.symm (b3.extBut _ _ D.TOz.symm (b2.extBut _ _ D.i1z.symm C8)));have Xh:∀c o,c≠z->c≠TO->c≠i1->c≠i2->s.heap.get? c=some o->u5.get? c=some o:=λc o c1 c2 c3 c4 e=>b5.extBut _ _ c2 (b4.extBut _ _ c4 (b3.extBut _ _ c2 (b2.extBut _ _ c3 (b1.extBut _ _ c1 e))))
 have Xi:iq q1 u5 i1 l1 (k1 + 1):=Vw.at λo e=>b5.extBut _ o D.TOi1.symm (b4.extBut _ o D.i12 (b3.extBut _ o D.TOi1.symm e))
 have Xj:iq q2 u5 i2 l2 (k2 + 1):=Xg.at λo e=>b5.extBut _ o D.TOi2.symm e
 have hzl:z < u5.objs.size:=Heap.lt_size Vx;show wpAny _ _ (Builtin.SmallTypes.ownedTupleHandOut (.ref z) (.ref u5.objs.size) >>= _) _ _ _;refine wpAny_bind ?_;unfold Builtin.SmallTypes.ownedTupleHandOut;have Xk:IsZip (u5.push {cls:=.type "tuple",data:=.seq #[x,y]}) z TI TO .ellipsis:=Heap.get?_push_of_some _ Vx;refine wpAny_bind (wpAny_setField_rec Xk (by simp) λu7 Sx b7=>?_)
 replace Sx:IsZip u7 z TI TO (rawInt u5.objs.size):=Sx
 refine wpAny_setField_rec Sx (by simp) λu8 Rx b8=>?_
 replace Rx:IsZip u8 z TI TO (rawInt u5.objs.size):=Rx
 have up:∀c o,c≠z->u5.get? c=some o->u8.get? c=some o:=λc o c1 e=>b8.extBut _ _ c1 (b7.extBut _ _ c1 (aab _ e))
 have Vy:IsPair u8 u5.objs.size x y:=b8.extBut _ _ (aaJ hzl) (b7.extBut _ _ (aaJ hzl) (aao _ rfl));rw[hsz]at Rx Vy;refine aag ⟨_,rfl,aag ?_⟩;show Q (some (.ref u5.objs.size)) _;rw[hsz];exact hQ u8 Rx (up _ _ D.TOz G5) (Xi.at λo e=>up _ o D.i1z e) (Xj.at λo e=>up _ o D.i2z e) Vy λc o c1 c2 c3 c4 e=>up c o c1 (Xh c o c1 c2 c3 c4 e)
theorem Dc{Q:Option Value->Shared->Prop}(hh:A.handled=none)(D:ZipApart z TI TO i1 i2 l1 l2)(hz:IsZip s.heap z TI TO .none)(hTI:IsPair s.heap TI (.ref i1) (.ref i2))(hTO:IsPair s.heap TO a b)
  (h1:iq q1 s.heap i1 l1 k1) (h2:iq q2 s.heap i2 l2 k2) (ud:jk q1 s.heap l1 xs) (sE:jk q2 s.heap l2 ys) (hend:xs[k1]?=none∨ys[k2]?=none)
  (hQ:∀h',(∀c o,c≠z->c≠TO->c≠i1->c≠i2->s.heap.get? c=some o->h'.get? c=some o)->Q none {s with heap:=h'}):wpAny (model prog w) A (pyNext (.ref z)) Q E s:=by
 have hT:s.TypeIs (.ref z) "zip":=⟨_,hz,rfl⟩;have fin:∀(h':Heap) (e:Addr),(∀c o,c≠z->c≠TO->c≠i1->c≠i2->s.heap.get? c=some o->h'.get? c=some o)->(∃o,h'.get? e=some o/\o.cls=.type "StopIteration") ->
   wpAny (model prog w) A (do let b ← isInstance (.ref e) (.type "StopIteration");if b=true then pure none else throw (.ref e)) Q E {s with heap:=h'}:=λh' e hk ⟨o,ho,hc⟩ =>
  aac (wpAny_isInstance (T:="StopIteration") (b:=true) ⟨o,ho,hc⟩ isSubtype_stop (aag (hQ _ hk)))
 unfold pyNext;refine wpAny_bind (wpAny_attempt (wpAny_callSpecial?_slot (name:=Str.ofString "__next__") hT F.slot_zip_next (wpAny_call_entry F.slot_zip_next hT F.entry_zip_next ?_ (F.args_zip_next_1 _))));show wpAny _ _ (field (.ref z) 2 >>= _) _ _ _;refine wpAny_bind (wpAny_field hz rfl (x:=.bool false) rfl ?_);show wpAny _ _ (field (.ref z) 3 >>= _) _ _ _;refine wpAny_bind (wpAny_field hz rfl (x:=.ref TI) rfl (wpAny_bind (wpAny_seqItems hTI rfl ?_)));show wpAny _ _ (Builtin.SmallTypes.ownedTupleIsFree (.ref z) >>= _) _ _ _;refine wpAny_bind ?_;unfold Builtin.SmallTypes.ownedTupleIsFree;refine wpAny_bind (wpAny_field hz rfl (x:=.none) rfl (wpAny_pure ?_));simp only[if_true];refine wpAny_bind (wpAny_rule (wpAny_bind (wpAny_field hz rfl (x:=.ref TO) rfl (wpAny_bind (wpAny_setField_rec hz (by simp) λu1 C8 b1=>?_)))))
 replace C8:IsZip u1 z TI TO .ellipsis:=C8
 refine wpAny_bind ?_;simp only[List.zipIdx_cons,List.zipIdx_nil,List.forIn_cons,List.forIn_nil];refine wpAny_bind (wpAny_bind (wpAny_onRaise ?_));show wpAny _ _ (Builtin.SmallTypes.nextOf (.ref i1) >>= _) _ _ _
 cases hx:xs[k1]? with
 | none =>
  refine wpAny_bind (C7 hh (h1.at λo e=>b1.extBut _ o D.i1z e) (ud.at λo e=>b1.extBut _ o D.l1z e) hx λu2 e b2 he=>?_);obtain⟨oe,hoe,hce⟩:=he;have Vz:IsZip u2 z TI TO .ellipsis:=b2 _ _ D.i1z.symm C8;have hez:e≠z:=λx=>by subst x;rw[Vz]at hoe;cases hoe;simp at hce
  exact wpAny_setField_rec Vz (by simp) λu3 _ b3=>fin u3 e (λc o c1 _ c3 _ x=>b3.extBut _ _ c1 (b2 _ _ c3 (b1.extBut _ _ c1 x))) ⟨oe,b3.extBut _ _ hez hoe,hce⟩
 | some x =>
  have hy:ys[k2]?=none:=by rcases hend with h | h;rw[hx]at h;cases h;exact h
  refine wpAny_bind (uc (h1.at λo e=>b1.extBut _ o D.i1z e) (ud.at λo e=>b1.extBut _ o D.l1z e) hx λu2 Vw b2=>wpAny_pure ?_);have C9:IsPair u2 TO a b:=b2.extBut _ _ D.TOi1 (b1.extBut _ _ D.TOz hTO);refine wpAny_bind (wpAny_seqItems C9 rfl (wpAny_bind (wpAny_updateSeq_pair C9 λu3 G4 b3=>?_)));refine wpAny_bind (wpAny_letGo (wpAny_pure (wpAny_bind (wpAny_bind (wpAny_onRaise ?_)))));show wpAny _ _ (Builtin.SmallTypes.nextOf (.ref i2) >>= _) _ _ _;refine wpAny_bind (C7 hh (h2.at λo e=>b3.extBut _ o D.TOi2.symm (b2.extBut _ o D.i12.symm (b1.extBut _ o D.i2z e))) (sE.at λo e=>b3.extBut _ o D.l2TO (b2.extBut _ o D.l2i1 (b1.extBut _ o D.l2z e))) hy λu4 e b4 he=>?_);obtain⟨oe,hoe,hce⟩:=he;have VA:IsZip u4 z TI TO .ellipsis:=b4 _ _ D.i2z.symm (b3.extBut _ _ D.TOz.symm (b2.extBut _ _ D.i1z.symm C8));have hez:e≠z:=λx=>by subst x;rw[VA]at hoe;cases hoe;simp at hce
  exact wpAny_setField_rec VA (by simp) λu5 _ b5=>fin u5 e (λc o c1 c2 c3 c4 x=>b5.extBut _ _ c1 (b4 _ _ c4 (b3.extBut _ _ c2 (b2.extBut _ _ c3 (b1.extBut _ _ c1 x))))) ⟨oe,b5.extBut _ _ hez hoe,hce⟩
theorem vQ{q:Bool}{l:Addr}{its:Array Value}{Q:Value->Shared->Prop}(hl:jk q s.heap l its)(hQ:Q (.ref s.heap.objs.size) {s with heap:=s.heap.push {cls:=.type (Pg q),data:=.fields #[.ref l,.int 0 0]}}):
  wpAny (model prog w) A (pyIter (.ref l)) Q E s:=by
 cases q with
 | true=>exact aca hl hQ
 | false=>exact wpAny_pyIter_tuple hl hQ
theorem Ka{q:Bool}{h:Heap}{it l:Addr}(e:h.get? it=some {cls:=.type (Pg q),data:=.fields #[.ref l,.int 0 0]}):iq q h it l 0:=by
 cases q<;>exact⟨_,e,rfl,rfl⟩
end
def Ry(q1:Bool)(h:Heap)(l1:Addr):Heap:=h.push {cls:=.type (Pg q1),data:=.fields #[.ref l1,.int 0 0]}
def Pj(q1 q2:Bool)(h:Heap)(l1 l2:Addr):Heap:=(Ry q1 h l1).push {cls:=.type (Pg q2),data:=.fields #[.ref l2,.int 0 0]}
def Pk(q1 q2:Bool)(h:Heap)(l1 l2:Addr):Heap:=(Pj q1 q2 h l1 l2).push {cls:=.type "tuple",data:=.seq #[.ref h.objs.size,.ref (Ry q1 h l1).objs.size]}
def Pl(q1 q2:Bool)(h:Heap)(l1 l2:Addr):Heap:=(Pk q1 q2 h l1 l2).push {cls:=.type "tuple",data:=.seq #[.none,.none]}
def Om(q1 q2:Bool)(h:Heap)(l1 l2:Addr):Heap:=(Pl q1 q2 h l1 l2).push {cls:=.type "zip",data:=.fields #[.none,.bool false,.bool false,.ref (Pj q1 q2 h l1 l2).objs.size,.ref (Pk q1 q2 h l1 l2).objs.size]}
theorem xU(q1 q2:Bool)(l1 l2:Addr)(xs ys:Array Value):
  Meets (Builtin.«zip.__new__» ⟨[.type "zip",.ref l1,.ref l2],[]⟩) (λ_ R s=>jk q1 s.heap l1 xs/\jk q2 s.heap l2 ys/\R (.ok (.ret (.ref (Pl q1 q2 s.heap l1 l2).objs.size))) {s with heap:=Om q1 q2 s.heap l1 l2}) :=
 .of_wp λprog w A R s h=>by
  obtain⟨hp,g,d,tk,os⟩:=s;obtain⟨ud,sE,h⟩:=h;have hsub:=sub_zip;have Xl:jk q1 (Shared.heap ⟨hp,g,d,tk,os⟩) l1 xs:=ud;have Xm:jk q2 (Shared.heap ⟨hp.push {cls:=.type (Pg q1),data:=.fields #[.ref l1,.int 0 0]},g,d,tk,os⟩) l2 ys:=jk.at sE λo e=>aab _ e
  wp_walk using vQ Xl,vQ Xm
  exact⟨_,rfl,h⟩
section
variable {prog:Program} {w:World} {A:Around} {E:Value->Shared->Prop} {s:Shared} {q1 q2:Bool}
theorem AU{l1 l2:Addr}{xs ys:Array Value}{Q:Value->Shared->Prop}(ud:jk q1 s.heap l1 xs)(sE:jk q2 s.heap l2 ys)
  (h:∀h',IsZip h' (s.heap.objs.size + 4) (s.heap.objs.size + 2) (s.heap.objs.size + 3) .none->IsPair h' (s.heap.objs.size + 2) (.ref s.heap.objs.size) (.ref (s.heap.objs.size + 1)) ->
   IsPair h' (s.heap.objs.size + 3) .none .none->iq q1 h' s.heap.objs.size l1 0->iq q2 h' (s.heap.objs.size + 1) l2 0->(∀c o,s.heap.get? c=some o->h'.get? c=some o)->Q (.ref (s.heap.objs.size + 4)) {s with heap:=h'}) :
  wpAny (model prog w) A (call (.type "zip") [.ref l1,.ref l2]) Q E s:=by
 refine callType_new F.called_zip (by decide) (F.typeCall_zip_2 _ _) (F.newCall_zip_2 _ _) (λobj=>F.args_object_init_3 obj _ _) F.entry_zip_new (xU q1 q2 l1 l2 xs ys) ⟨ud,sE,?_⟩;have z1:(Ry q1 s.heap l1).objs.size=s.heap.objs.size + 1:=Heap.size_push ..;have z2:(Pj q1 q2 s.heap l1 l2).objs.size=s.heap.objs.size + 2:=by unfold Pj;rw[Heap.size_push,z1]
 have z3:(Pk q1 q2 s.heap l1 l2).objs.size=s.heap.objs.size + 3:=by unfold Pk;rw[Heap.size_push,z2]
 have z4:(Pl q1 q2 s.heap l1 l2).objs.size=s.heap.objs.size + 4:=by unfold Pl;rw[Heap.size_push,z3]
 have g5:(Om q1 q2 s.heap l1 l2).get? (Pl q1 q2 s.heap l1 l2).objs.size=some _:=aao _ rfl;have g4:(Om q1 q2 s.heap l1 l2).get? (Pk q1 q2 s.heap l1 l2).objs.size=some _:=aab _ (aao _ rfl);have g3:(Om q1 q2 s.heap l1 l2).get? (Pj q1 q2 s.heap l1 l2).objs.size=some _:=aab _ (aab _ (aao _ rfl));have g2:(Om q1 q2 s.heap l1 l2).get? (Ry q1 s.heap l1).objs.size=some _:=aab _ (aab _ (aab _ (aao _ rfl)));have g1:(Om q1 q2 s.heap l1 l2).get? s.heap.objs.size=some _:=aab _ (aab _ (aab _ (aab _ (aao _ rfl))));show _/\_;rw[z2,z3,z4]at g5;rw[z1,z2]at g3;rw[z3]at g4;rw[z1]at g2;rw[z4];exact⟨⟨_,g5,rfl⟩,h _ g5 g3 g4 (Ka g1) (Ka g2) λc o x=>aab _ (aab _ (aab _ (aab _ (aab _ x))))⟩
end
def B2(q:Bool)(K:aJ)(H:Hp)(a:Addr)(xs:List V):Prop:=match q with | true=>bu K H a xs | false=>bV K H a xs
theorem B2.heap{X:Cx}{pins:List (Addr×Obj)}{σ:St}{H:Hp}{s:Shared}{q:Bool}{a:Addr}{xs:List V}(I:Inv X pins σ H s)(h:B2 q X.K H a xs):∃its:List Value,Vals xs its/\jk q s.heap a its.toArray:=by
 cases q with
 | true=>obtain⟨its,r,p,_⟩:=I.list h;exact⟨its,r,p.isList⟩
 | false=>obtain⟨its,r,p,_⟩:=I.tuple h;exact⟨its,r,p⟩
theorem jk.lt{q:Bool}{h:Heap}{a:Addr}{its:Array Value}(x:jk q h a its):a < h.objs.size:=by
 cases q<;>(obtain⟨o,ho,r⟩:=x;exact aad ho)
theorem iq.lt{q:Bool}{h:Heap}{it a:Addr}{i:Nat}(x:iq q h it a i):it < h.objs.size:=by
 obtain⟨o,ho,_⟩:=x.obj;exact aad ho
def Pm(q1 q2:Bool)(K:aJ)(l1 l2:Addr)(xs ys:List V):It :=
 ⟨λi H=>i < xs.length/\i < ys.length/\B2 q1 K H l1 xs/\B2 q2 K H l2 ys,
  λi H x H'=>∃T u v,H T=none/\x=.ref T/\H'=upd H T (.tup [u,v])/\xs[i]?=some u/\ys[i]?=some v,
  λi H=>(xs.length<=i∨ys.length<=i)/\B2 q1 K H l1 xs/\B2 q2 K H l2 ys⟩
theorem Dd{P:Program}{w:World}{K:aJ}{elts:List Expr}{kx}{pos:Pos}{q1 q2:Bool}{z TI TO i1 i2 l1 l2:Addr}(xs ys:List V)(D:ZipApart z TI TO i1 i2 l1 l2):
  Turn P w K (.Tuple elts kx pos) (Pm q1 q2 K l1 l2 xs ys) [z,TI,TO,i1,i2] z (λi h=>IsZip h z TI TO .none/\IsPair h TI (.ref i1) (.ref i2)/\(∃a b,IsPair h TO a b)/\iq q1 h i1 l1 i/\iq q2 h i2 l2 i) where
 mem:=by simp
 obj:=λi h st b hb=>by
  obtain⟨hz,hTI,⟨a,b',hTO⟩,h1,h2⟩:=st;simp at hb;rcases hb with e | e | e | e | e
  ·subst e;exact⟨_,hz,λv z=>by cases z⟩
  ·subst e;exact⟨_,hTI,λv z=>by cases z⟩
  ·subst e;exact⟨_,hTO,λv z=>by cases z⟩
  ·subst e;exact h1.obj
  ·subst e;exact h2.obj
 keep:=λi h h' st k=>by
  obtain⟨hz,hTI,⟨a,b',hTO⟩,h1,h2⟩:=st;exact⟨k z (by simp) _ hz,k TI (by simp) _ hTI,⟨a,b',k TO (by simp) _ hTO⟩,h1.at λo e=>k i1 (by simp) o e,h2.at λo e=>k i2 (by simp) o e⟩
 item:=by
  intro X hP hw hK hc i pins s σ H E I hf st hg;subst hP hw hK;obtain⟨g1,g2,s1,s2⟩:=hg;obtain⟨hz,hTI,⟨a,b',hTO⟩,h1,h2⟩:=st;obtain⟨us,r1,p1⟩:=s1.heap I;obtain⟨vs,r2,p2⟩:=s2.heap I;obtain⟨u,hu,ru⟩:=r1.get (gP g1);obtain⟨v,hv,rv⟩:=r2.get (gP g2);refine AR (x:=u) (y:=v) D hz hTI hTO h1 h2 p1 p2 (by simpa using hu) (by simpa using hv) λh' a1 a2 a3 a4 a5 hk=>?_
  refine⟨_,rfl,wpAny_letOwnedTupleGo_zip a1 λh'' b1 sb=>?_⟩;have nT:∀{c o},s.heap.get? c=some o->c≠s.heap.objs.size:=λe=>aak (aad e)
  have hT:IsPair h'' s.heap.objs.size u v:=sb.extBut _ _ (nT hz).symm a5
  have kk:∀c o,c∉[z,TI,TO,i1,i2]->s.heap.get? c=some o->h''.get? c=some o:=λc o hc e=>by
   simp at hc;exact sb.extBut _ _ hc.1 (hk c o hc.1 hc.2.2.1 hc.2.2.2.1 hc.2.2.2.2 e)
  refine⟨.ref s.heap.objs.size,upd H s.heap.objs.size (.tup [xs[i],ys[i]]),I.G0 hf kk (aai _) ⟨by show 2<=sizeLine;decide,[u,v],.cons ru (.cons rv .nil),_,hT,rfl,_,rfl⟩,rfl,⟨_,_,_,I.fresh,rfl,rfl,gP g1,gP g2⟩,?_,λb hb=>?_⟩
  ·exact⟨b1,sb.extBut _ _ D.TIz (hk _ _ D.TIz D.TITO D.TIi1 D.TIi2 hTI),⟨_,_,sb.extBut _ _ D.TOz a2⟩,a3.at λo e=>sb.extBut _ o D.i1z e,a4.at λo e=>sb.extBut _ o D.i2z e⟩
  ·rw[uN ?_]
   ·exact(hf b hb).1
   ·simp at hb;rcases hb with e | e | e | e | e
    ·subst e;exact nT hz
    ·subst e;exact nT hTI
    ·subst e;exact nT hTO
    ·subst e;exact aak h1.lt
    ·subst e;exact aak h2.lt
 done:=by
  intro X hP hw hK hc i pins s σ H E I hf st hg;subst hP hw hK;obtain⟨g1,s1,s2⟩:=hg;obtain⟨hz,hTI,⟨a,b',hTO⟩,h1,h2⟩:=st;obtain⟨us,r1,p1⟩:=s1.heap I;obtain⟨vs,r2,p2⟩:=s2.heap I;have e1:=r1.length;have e2:=r2.length;refine Dc (I.ok.hd hc) D hz hTI hTO h1 h2 p1 p2 ?_ λh' hk=>⟨rfl,I.G2 (t':=s.toks) hf λc o hc e=>?_⟩
  ·rcases g1 with g | g
   ·exact .inl (by simp;omega)
   ·exact .inr (by simp;omega)
  ·simp at hc;exact hk c o hc.1 hc.2.2.1 hc.2.2.2.1 hc.2.2.2.2 e
 self:=λ_ _ _ _ _ st h=>wpAny_pyIter_zip st.1 h
section
variable {X:Cx}
def Sy(q1 q2:Bool)(K:aJ)(ta:TA):TI:=λσ H R=>ta σ H λvs H1=>∃l1 l2 xs ys,vs=[.ref l1,.ref l2]/\B2 q1 K H1 l1 xs/\B2 q2 K H1 l2 ys/\R (Pm q1 q2 K l1 l2 xs ys) H1
theorem LA(q1 q2:Bool){elts:List Expr}{kx}{tpos:Pos}{a b:Expr}{ta:TA}{p pos:Pos}(hg:Gl X "zip")(hm:X.mg "zip"=none)(ha:PA X [a,b] ta)(hs:starEach [a,b] X.env=[(false,eval a X.env),(false,eval b X.env)]:=by rfl)(zx:starEach [b] X.env=[(false,eval b X.env)]:=by rfl):
  PI X (.Tuple elts kx tpos) (.Call (.Name "zip" p) [a,b] [] pos) (Sy q1 q2 X.K ta):=by
 intro pins s σ H R I h;refine Call_ (lA I hg hm CY (aaT (bF (ha pos pins s σ H _ I h) λus s1 ⟨vs,H1,I1,r1,q1⟩=>?_) (by rw[hs,zx]) (by rw[zx];rfl)));obtain⟨l1,l2,xs,ys,rfl,s1',s2',q⟩:=q1;obtain⟨u1,u2,rfl,Sz,SA⟩:=vals2 r1;cases Sz;cases SA;obtain⟨VB,r1,p1⟩:=s1'.heap I1;obtain⟨Kb,r2,p2⟩:=s2'.heap I1;have n1:=p1.lt;have n2:=p2.lt;refine AU p1 p2 λh' hz hTI hTO h1 h2 kk=>?_
 refine wpAny_pyIter_zip hz ?_;refine⟨s1.heap.objs.size + 4,[s1.heap.objs.size + 4,s1.heap.objs.size + 2,s1.heap.objs.size + 3,s1.heap.objs.size,s1.heap.objs.size + 1],_,_,H1,rfl,I1.kept (t':=s1.toks) kk,Dd xs ys ⟨?_,?_,?_,?_,?_,?_,?_,?_,?_,?_,?_,?_,?_,?_,?_,?_,?_,?_⟩,⟨hz,hTI,⟨_,_,hTO⟩,h1,h2⟩,?_,q⟩
 all_goals first | exact aak (abC (by decide) _) | exact aaJ (abC (by decide) _) | exact aak (abn (by decide)) | exact aaJ (abn (by decide)) | exact aak (aah n1 (aaW _ _)) | exact aak (aah n2 (aaW _ _)) | exact aak n1 | exact aak n2 | skip
 intro c hb
 have hb':s1.heap.objs.size<=c:=by
  simp at hb;rcases hb with e | e | e | e | e<;>(rw[e];first | exact Nat.le_refl _ | exact Nat.le_add_right _ _)
 exact I1.GA hb' (I1.hok.fresh hb')
end
theorem G6{q1 q2:Bool}{K:aJ}{l1 l2:Addr}{xs ys:List V}{g:TG}{tb:TS}{D:Ends}{σ:St}{H:Hp}(n:Nat)(Pv:Nat->St->Hp->Prop)(hx:n<=xs.length)(hy:n<=ys.length)(he:xs.length<=n∨ys.length<=n)
  (h0:Pv 0 σ H) (hl:∀i σ H,i<=n->Pv i σ H->B2 q1 K H l1 xs/\B2 q2 K H l2 ys)
  (hs:∀i u v σ H T,xs[i]?=some u->ys[i]?=some v->i < n->Pv i σ H->H T=none->g (.ref T) σ (upd H T (.tup [u,v])) λσ2 H2=>tb {D with nx:=Pv (i + 1),ct:=Pv (i + 1),bk:=D.nx} σ2 H2) (hd:∀σ H,Pv n σ H->D.nx σ H) :
  ∃W:Nat->Nat->St->Hp->Prop,(∃m,W 0 m σ H)/\∀i m σ H,W i m σ H ->
   ((Pm q1 q2 K l1 l2 xs ys).stop i H/\D.nx σ H)∨((Pm q1 q2 K l1 l2 xs ys).go i H/\∃N:St->Hp->Prop,(∀σ' H',N σ' H'->∃m',m' < m/\W (i + 1) m' σ' H')/\∀x H',(Pm q1 q2 K l1 l2 xs ys).yld i H x H'->g x σ H' λσ2 H2=>tb {D with nx:=N,ct:=N,bk:=D.nx} σ2 H2):=by
 refine⟨λi m σ H=>m=n - i/\i<=n/\Pv i σ H,⟨n,by simp,Nat.zero_le _,h0⟩,?_⟩;rintro i m σ H ⟨rfl,hi,p⟩;obtain⟨p3,p4⟩:=hl i σ H hi p;by_cases hlt:i < n
 ·refine .inr ⟨⟨by omega,by omega,p3,p4⟩,Pv (i + 1),λσ' H' p'=>⟨n - (i + 1),by omega,rfl,hlt,p'⟩,λx H' y=>?_⟩;obtain⟨T,u,v,t1,e1,e2,t2,t3⟩:=y;subst e1 e2;exact hs i u v σ _ T t2 t3 hlt p t1
 ·have e:i=n:=by omega
  subst e;exact .inl ⟨⟨he,p3,p4⟩,hd σ H p⟩
theorem qg{H:Hp}{p:Addr}(h:H p=none)(o:HO):aS H (upd H p o):=λb u q=>by rw[uN (nN q h)];exact q
section
variable {prog:Program} {w:World} {A:Around} {E:Value->Shared->Prop} {s:Shared}
theorem AV{t sl:Addr}{items:Array Value}{vl vu:Value}{lo hi:Option Int}{Q:Value->Shared->Prop}(ht:IsTup s.heap t items)(hs:s.heap.IsSliceOf sl vl vu .none)(pl:IsPart vl lo)(pu:IsPart vu hi)
  (hw:HT.dJ items.size 0 lo=0/\HT.dJ items.size items.size hi=items.size) (h:Q (.ref t) s):wpAny (model prog w) A (getItem (.ref t) (.ref sl)) Q E s:=by
 obtain⟨os,hos,hcs,hds⟩:=id hs;have hTs:s.TypeIs (.ref sl) "slice":=⟨os,hos,hcs⟩;unfold getItem
 try with_reducible refine aaP ?_
 first | refine aac (aag ?_) | skip
 refine wpAny_bind (wpAny_sequenceKey ht.typeIs (by decide) ?_);refine wpAny_bind (wpAny_callSpecial?_slot (name:=Str.ofString "__getitem__") ht.typeIs PyProof.Rows.slot_tuple_getitem (wpAny_call_entry PyProof.Rows.slot_tuple_getitem ht.typeIs entry_tuple_getitem ?_ (args_tuple_getitem _ _)));show wpAny _ _ (Builtin.Tuple.tupleItemsOf (.ref t) >>= _) _ _ s;refine wpAny_bind (tupleItemsOf_ ht (wpAny_bind (wpAny_typeOf hTs ?_)));rw[if_pos (by decide)];refine wpAny_bind (HT.ji hs pl pu ?_);show wpAny _ _ (if (((HT.dJ items.size 0 lo:Nat):Int) == 0&&(1:Int) == 1&&(HT.dJ items.size items.size hi - HT.dJ items.size 0 lo) == items.size)=true then _ else _) _ _ s;rw[if_pos (by rw[hw.1,hw.2];simp)];unfold Builtin.Tuple.tupleIsExact;refine wpAny_bind (wpAny_bind (wpAny_typeOf ht.typeIs (wpAny_pure ?_)));rw[if_pos (by decide)];exact wpAny_bind (wpAny_rule (wpAny_pure ⟨_,rfl,wpAny_pure h⟩))
end
section
variable {X:Cx}
def Pn(K:aJ):V->Option Int->Option Int->Hp->VK->Prop:=λx lo hi H Q=>∃a xs,x=.ref a/\bV K H a xs/\∀p H',aS H H'->bV K H' p (p8 xs lo hi)->Q (.ref p) H'
theorem G7:FP X (Pn X.K):=by
 intro pins s σ H x v vl vu lo hi sl Q I rx hs pl pu h;obtain⟨a,xs,rfl,hx,q⟩:=h;by_cases hw:HT.dJ xs.length 0 lo=0/\HT.dJ xs.length xs.length hi=xs.length
 ·cases rx;obtain⟨its,r,ht,hz⟩:=I.tuple hx;have hlen:its.toArray.size=xs.length:=by rw[aaC];exact r.length.symm
  refine⟨"tuple",_,PyProof.Rows.slot_tuple_getitem.lookup,ht.typeIs,AV ht hs pl pu (by rw[hlen];exact hw) ⟨.ref a,H,I,rfl,q a H (aS.refl _) ?_⟩⟩;have e:p8 xs lo hi=xs:=by unfold p8;rw[hw.1,hw.2];simp
  rw[e];exact hx
 ·exact xO pins s σ H _ v vl vu lo hi sl Q I rx hs pl pu ⟨a,xs,rfl,hx,hw,λp hp=>q p _ (qg hp _) (bV.of uS)⟩
def Kc(K:aJ):R2:=λx y H Q=>∃a b xs ys,x=.ref a/\y=.ref b/\bV K H a xs/\bV K H b ys/\xs.length + ys.length<=sizeLine/\∀p H',aS H H'->bV K H' p (xs++ys)->Q (.ref p) H'
theorem G8:jf X (binaryOp .Add) (Kc X.K):=by
 intro pins s σ H x y v u Q I rx ry h;obtain⟨a,b,xs,ys,rfl,rfl,ha,hb,hz,q⟩:=h;by_cases hx:xs=[]
 ·subst hx;cases rx;cases ry;obtain⟨its,r1,p1,_⟩:=I.tuple ha;obtain⟨p9,r2,p2,_⟩:=I.tuple hb;cases r1;obtain⟨⟨c1,d1,e1,Rw⟩,ho,hc,n,hd⟩:=id p1;obtain⟨⟨c2,d2,e2,Le⟩,AJ,O7,n2,hd2⟩:=id p2;simp only at hc hd O7 hd2;subst hc hd O7 hd2;exact concat_meets ⟨_,ho,rfl⟩ ⟨_,AJ,rfl⟩ noFill_tuple_add seq_tuple_add PySem.F.slot_tuple_add PySem.F.entry_tuple_add (PySem.F.args_tuple_add_2 _ _)
   (tuple_addW0 a b _ p9.toArray n n2 d1 d2 Rw Le (by simp)) ⟨ho,AJ,⟨.ref b,H,I,rfl,q b H (aS.refl _) hb⟩⟩
 ·exact GL pins s σ H _ _ v u Q I rx ry ⟨a,b,xs,ys,rfl,rfl,ha,hb,hx,hz,λe=>q a H (aS.refl _) (by rw[e,aaL];exact ha),λ_ p hp=>q p _ (qg hp _) (bV.of uS)⟩
end
structure Ke(P:Program)(w:World)(fs:List Env)(H H':Hp)(h0 B:Heap)(a:Addr)(cls a0:Value)(h:Heap):Prop where
 keep:∀b o,h0.get? b=some o->H b=none->b∉ia fs->B.get? b=some o
 there:∀b o,h0.get? b=some o->b∉ia fs->∃o',B.get? b=some o'
 slot:∀b o,h0.get? b=some o->b∈ia fs->∃sl,h.get? b=some {o with slots:=sl}
 free:∀b o,h0.get? b=some o->H b=none->H' b=none
 tups:∀b xs,H b=some (.tup xs)->H' b=some (.tup xs)
 eQ:∀b o u,H b=some (.lj o u)->H' b=some (.lj o u)
 tbls:∀b ps,H b=some (.tbl ps)->∃more,H' b=some (.tbl (ps++more))
 hok:kc P w H' B
 fly:Heap.FlyingW B fs a cls a0 h
section
variable {P:Program} {w:World} {fs:List Env} {H H':Hp} {h0 B h h':Heap} {a:Addr} {cls a0:Value}
theorem Ke.new(F:Ke P w fs H H' h0 B a cls a0 h):H' a=none:=by
 cases q:H' a with
 | none=>rfl
 | some u =>
  have:=(F.hok a u q).lt;have z:=F.fly.2.1
  exact absurd z (by
   intro z
   have e:∃o,B.get? a=some o:=by
    have ok:=F.hok a u q
    cases u with
    | lst xs=>obtain⟨_,_,_,_,e⟩:=ok;exact⟨_,e⟩
    | tup xs=>obtain⟨_,_,_,o,e,_⟩:=ok;exact⟨_,e⟩
    | dK kvs=>obtain⟨_,_,_,_,o,_,_,e,_⟩:=ok;exact⟨_,e⟩
    | dT kvs=>obtain⟨_,_,_,_,o,_,_,e,_⟩:=ok;exact⟨_,e⟩
    | set S n=>obtain⟨o,_,_,_,e,_⟩:=ok;exact⟨_,e⟩
    | ins C dx fs=>obtain⟨_,_,_,e,_⟩:=ok;exact⟨_,e⟩
    | own y=>exact ok
    | xd fs=>obtain⟨_,⟨o,_,_,e,_⟩,_⟩:=ok;exact⟨_,e⟩
    | rng lo hi=>obtain⟨_,_,_,e⟩:=ok;exact⟨_,e⟩
    | lj ob u=>obtain⟨e,_⟩:=ok;exact⟨_,e⟩
    | tbl ps=>exact⟨_,ok⟩
    | met f y=>exact⟨_,ok⟩
    | ext φ=>obtain⟨_,e,_⟩:=ok;exact e
   obtain⟨o,e⟩:=e;rw[z]at e;cases e)
end
def Rz(X:Cx)(E:XK):Prop:=∀(pins:List (Addr×Obj)) (σ:St) (H:Hp) (s:Shared) (h':Heap) (e C:Addr) (vs:List Value),Inv X pins σ H s->Heap.MadeExcOf s.heap h' e (.ref C) vs->E (.ref C) none H->X.xe (.ref e) {s with heap:=h'}
section
variable {P:Program} {w:World} {K:aJ} {mg:Str->Option Value} {base:Heap} {N:List Str} {qual:Str} {scope:Scope} {f:Addr} {cd:Value} {A:Around} {outer:List Env} {s₀:Shared} {H₀:Hp} {E:XK}
theorem aU{env:Env}{l:List Env}{L b:Addr}(hf:env.frame=some L):b∈ia (env::l)↔b=L∨b∈ia l:=by
 unfold ia;rw[List.filterMap_cons,hf];exact List.mem_cons
end
theorem AW{K:aJ}{h:Heap}{C:Addr}{bmB:List Value}{newId:String}(X:K.In h)(q:PySem.W.excIn K C bmB newId=true):
  ∃bm N nm qn bs hd sn sub ab col dd k0 k1 k2 k3 k5 mN,h.get? C=some (excClassObj nm qn C N bs bm hd sn sub ab col dd k0 k1 k2 k3 k5 newId)/\h.Ns N mN/\mN "__init__"=none/\OwnTail h bmB bm:=by
 unfold PySem.W.excIn at q;split at q
 ·rename_i dd cd sl ho;split at q
  ·rename_i C' bm k0 k1 k2 k3 n k5 hm hs;simp only[Bool.and_eq_true,beq_iff_eq,Bool.not_eq_true']at q;obtain⟨⟨⟨⟨⟨rfl,rfl⟩,hdel⟩,ht⟩,hok⟩,hni⟩:=q;obtain⟨nm,bs,mro,ns,qn,hd,sn,sub,ab,col,del⟩:=cd;dsimp only at hm hdel hok hni;subst hm hdel
   have hsl:sl=#[k0,k1,k2,k3,some (.builtin n),k5]:=by
    obtain⟨l⟩:=sl;simp only at hs;rw[hs]
   subst hsl;exact⟨bm,ns,nm,qn,bs,hd,sn,sub,ab,col,dd,k0,k1,k2,k3,k5,_,X _ _ ho,.of_isNs (PySem.W.isNs_of_in X hok),PySem.W.nsMap_none_of_in X hok hni,PySem.W.tail_of_in X ht⟩
  ·cases q
 ·cases q
def rB:Bool->List Value
 | true=>[.type "ValueError",.type "Exception",.type "BaseException",.type "object"]
 | false=>[.type "Exception",.type "BaseException",.type "object"]
def VC:Bool->String
 | true=>"ValueError"
 | false=>"Exception"
def vS:Bool->String
 | true=>"ValueError.__new__"
 | false=>"Exception.__new__"
def Xn:Bool->String
 | true=>"ValueError.__init__"
 | false=>"Exception.__init__"
theorem RA:∀b,PySem.ExcBaseFacts (VC b) (vS b) (Xn b) (rB b)
 | true=>F.excBase_ValueError
 | false=>F.excBase_Exception
theorem zG(b:Bool):(rB b).contains (.type (VC b))=true:=by cases b<;>decide
theorem qh(b:Bool):(rB b).contains (.type "BaseException")=true:=by cases b<;>decide
section
variable {X:Cx} {x:Str} {C:Addr} {E:XK} {np cpos pos:Pos}
def LB(C:Addr)(E:XK):TS:=λ_ _ H=>E (.ref C) none H
theorem ng{bx:Bool}(hz:Rz X E)(hg:Gl X x)(hm:X.mg x=some (.ref C))(q:PySem.W.excIn X.K C (rB bx) (vS bx)=true)(hc:X.calm=true)(hd:(x == ("__debug__" : Str))=false:=by decide)(hpl:backTo cpos (starEach [] X.env)=[]:=by rfl):
  PS X (.Raise (some (.Call (.Name x np) [] [] cpos)) none pos) (LB C E):=by
 intro pins s σ H D I h;obtain⟨bm,N,nm,qn,bs,hd',sn,sub,ab,col,dd,k0,k1,k2,k3,k5,mN,hC,hn,hi,T⟩:=AW I.iL q;refine wpAny_Raise_call_subU (C:=C) (mN:=mN) (nm:=nm) (q:=qn) (N:=N) (bs:=bs) (bm:=bm) (hdct:=hd') (sn:=sn) (sub:=sub) (ab:=ab) (col:=col) (dd:=dd) (k0:=k0) (k1:=k1) (k2:=k2) (k3:=k3) (k5:=k5) (RA bx) (bmB:=rB bx) (zG bx) (RA bx) (T.hasType (X:="BaseException") (b:=true) (qh bx)) (I.ok.hd hc) (by rw[hpl];rfl) hi ?_;refine fM I hg hm ⟨rfl,?_⟩ hd;rw[hpl];refine PyProof.Rows.evalArgs_none ⟨rfl,by decide,hC,hn,T,λh' e hx=>?_⟩;exact hz pins σ H s h' e C [] I hx h
end
abbrev Cx.hand(X:Cx)(a:Addr)(E:Value->Shared->Prop):Cx:={X with A:=X.A.mark (some (.ref a)),calm:=false,xe:=E}
section
variable {X:Cx} {pins:List (Addr×Obj)} {σ:St} {H:Hp} {s:Shared}
theorem Inv.hand(I:Inv X pins σ H s)(a:Addr)(E:Value->Shared->Prop):Inv (X.hand a E) pins σ H s :=
 ⟨⟨I.ok.mod,I.ok.kind,I.ok.glob,I.ok.blt,I.ok.above,I.ok.inj,I.ok.has,I.ok.cab,(λz=>nomatch (show false=true from z)),I.ok.frames,I.ok.stk,I.ok.exf,I.ok.bs,I.ok.bsz,I.ok.noex,I.ok.exfs,I.ok.m5,I.ok.frf⟩,I.os,I.bare,I.base,I.loc,I.cell,I.free,I.freeC,I.pin,I.hok,I.len⟩
theorem Inv.fC{a:Addr}{E:Value->Shared->Prop}(ok:X.Ok)(I:Inv (X.hand a E) pins σ H s):Inv X pins σ H s:=⟨ok,I.os,I.bare,I.base,I.loc,I.cell,I.free,I.freeC,I.pin,I.hok,I.len⟩
theorem Inv.adopt{a:Addr}{φ:Heap->Prop}(I:Inv X pins σ H s)(hn:H a=none)(h1:X.s₀.heap.get? a=none)(hL:a≠X.env.locals)(hfs:a∉X.fs)(hc:∀x c,X.env.cells.lookup x=some c->c≠a)(hp:∀p∈X.pn++pins,p.1≠a)
  (ok:φ s.heap/\(∃o,s.heap.get? a=some o)/\∀u v:Heap,φ u->(∀o,u.get? a=some o->v.get? a=some o)->φ v):Inv X pins σ (upd H a (.ext φ)) s:=by
 refine⟨I.ok,I.os,I.bare,⟨I.base.keep,I.base.slot,λb o e n hx=>?_,I.base.there,λb xs e=>?_,λb o u e=>?_,λb ps e=>?_⟩,I.loc,I.cell,?_,λx c e=>?_,λp hq=>?_,λb u e=>?_,I.len⟩
 ·rw[uN (λz=>by rw[z,h1]at e;cases e)];exact I.base.free b o e n hx
 ·have e':=I.base.tups b xs e;rw[uN (nN e' hn)];exact e'
 ·have e':=I.base.eQ b o u e;rw[uN (nN e' hn)];exact e'
 ·obtain⟨m,e'⟩:=I.base.tbls b ps e;exact⟨m,by rw[uN (nN e' hn)];exact e'⟩
 ·rw[uN (abu hL)];exact I.free
 ·rw[uN (hc x c e)];exact I.freeC x c e
 ·obtain⟨q1,q2,q3⟩:=I.pin p hq;exact⟨q1,by rw[uN (hp p hq)];exact q2,q3⟩
 ·by_cases hb:b=a
  ·subst hb;rw[uS]at e;cases e;exact ok
  ·rw[uN hb]at e;exact(I.hok b u e).m4 (λ_ _ _ q=>q) (λc q=>by rw[uN (nN q hn)];exact q) λc xs q=>by rw[uN (nN q hn)];exact q
theorem zH{M:Model}{A:Around}{E:Value->Shared->Prop}{i:Nat}{n:Str}{pos:Pos}{Q:Unit->Shared->Prop}(I:Inv X pins σ H s)(hN:X.N.Nodup)(hi:X.N[i]?=some n)(hk:X.env.kindOf n=some .local)
  (h:∀s',Inv X pins (σ.set i none) H s'->Q () s'):wpAny M A (do bindName X.env n .none;unbindBehindTheSuite X.env n pos) Q E s:=by
 obtain⟨m,hn,hl⟩:=id I.loc;have hcls:(X.env.scope.kind == .class||(X.env.scope.kind == .module&&X.env.locals != X.env.globals))=false:=by rw[I.ok.kind];rfl
 have hiσ:i < σ.length:=by rw[I.len];exact(eA hi).1
 obtain⟨oL,_,_,hoL,_⟩:=id hn;refine wpAny_nameGoes_keeps hk hn hcls λh' v hn' hs=>?_
 refine h _ ⟨I.ok,I.os,I.bare,⟨λb o e n hb hx=>?_,λb o e n hb hx=>?_,I.base.free,λb o e hx=>?_,I.base.tups,I.base.eQ,I.base.tbls⟩,⟨_,hn',λj y v' e1 e2 e3=>?_⟩,λy c e=>?_,I.free,I.freeC,λp hp=>?_,λb ob e=>?_,by simpa using I.len⟩
 ·exact(hs.2 b (aak (aah (aad e) I.ok.above))).trans (I.base.keep b o e n hb hx)
 ·obtain⟨sl,e1⟩:=I.base.slot b o e n hb hx;exact⟨sl,(hs.2 b (aak (aah (aad e) I.ok.above))).trans e1⟩
 ·obtain⟨o',e1⟩:=I.base.there b o e hx;exact⟨o',(hs.2 b (aak (aah (aad e) I.ok.above))).trans e1⟩
 ·by_cases hj:j=i
  ·subst hj;rw[aas hiσ]at e2;cases e2
  ·rw[aau (abu hj)]at e2;obtain⟨u',r',q⟩:=hl j y v' e1 e2 e3;refine⟨u',r',?_⟩;rcases q with⟨k,e⟩ | ⟨k,c,e,z⟩
   ·refine .inl ⟨k,?_⟩;have:y≠n:=λe=>hj (pU hN e1 (e ▸ hi))
    simp[this,e]
   ·exact .inr ⟨k,c,e,z.sameBut hs (I.Gv y c e)⟩
 ·obtain⟨w',z⟩:=I.cell y c e;exact⟨w',z.sameBut hs (I.Gv y c e)⟩
 ·obtain⟨e,n,ne,nf,d⟩:=I.pin p hp;exact⟨(hs.2 p.1 ne).trans e,n,ne,nf,d⟩
 ·refine(I.hok b ob e).m4 (λc w' hc q=>(hs.2 c ?_).trans q) (λ_ q=>q) λ_ _ q=>q
  rintro rfl;rcases hc with rfl | hc
  ·rw[I.free]at e;cases e
  ·rw[I.free]at hc;cases hc
end
section
variable {X:Cx} {CW:Addr} {cx n:Str} {i:Nat} {b₀:Stmt} {suite:List Stmt} {np hpos pos:Pos} {tb:TS}
end
open PySem PySem.Spec PyProof.Rows PySem.W Builtin.Getset_descriptor
structure KX(K:Frag)(C:Addr):Prop where
 ga:findIn K (.ref C) "__getattribute__"=some (some (.builtin "BaseException.__getattribute__"))
 gh:findIn K (.ref C) "__getattr__"=some none
 cl:findIn K (.ref C) "__class__"=some (some (.builtin "object.__class__"))
 mb:mroIn K C (.type "BaseException")=some true
 mo:mroIn K C (.type "object")=some true
section
variable {prog:Program} {w:World} {A:Around} {E:Value->Shared->Prop} {K:Frag} {a C:Addr} {o:Obj} {h:Heap} {g:Array GenState} {d:Drawn} {t:Nat} {os:OsState}
theorem De{M:Model}{nameV:Value}{Q:Unit->Shared->Prop}(X:K.In h)(k:KX K C)(hx:h.get? a=some o)(hc:o.cls=.ref C)(hq:Q () ⟨h,g,d,t,os⟩):wpAny M A (checkBuiltinCall "BaseException.__getattribute__" ⟨[.ref a,nameV],[]⟩) Q E ⟨h,g,d,t,os⟩:=by
 have L1:=looks_mroIn (M:=M) X k.mb;have hk:builtinKind "BaseException.__getattribute__"=some .slot:=by decide +kernel
 have hsplit:splitId "BaseException.__getattribute__"=some ("BaseException","__getattribute__"):=by decide +kernel
 have ha:=F.args_bexc_ga (.ref a) nameV;simp only[checkBuiltinCall,hk,hsplit];refine wpAny_bind ?_;unfold isInstance
 repeat (first | (with_reducible refine aaF hx ?_;rw[hc]) | with_reducible refine L1.at ?_ | wp_step)
 exact hq
end
section
variable {X:Cx}
end
def sL(_i j:Int):Prop:=j≠0/\j.natAbs < 18446744073709551616
theorem sL.ok{i j:Int}(hc:sL i j):Builtin.divisionGoesByPylong i j=false:=by
 refine PyProof.noPylong_of_log2 ?_;have z:j.natAbs≠0:=λz=>hc.1 (Int.natAbs_eq_zero.mp z)
 exact aah ((Nat.log2_lt z).mpr (show j.natAbs < 2 ^ 64 from hc.2)) (by decide)
theorem qi{X:Cx}:jf X (binaryOp .FloorDiv) (rI sL λi j=>.int (i.fdiv j)):=La λ_ _ _ _ _ _ _ hc q=>floordiv_int hc.1 q (.inl hc.ok)
section
variable {X:Cx}
def Kf:V->Option Int->Option Int->Hp->VK->Prop:=λv lo hi H Q=>∃(x:Str),v=.str x/\x.length<=sizeLine/\Q (.str (Txt.slice x lo hi)) H
theorem G9:FP X Kf:=by
 intro pins s σ H x v vl vu lo hi sl Q I rx hs pl pu h;obtain⟨x,rfl,hz,q⟩:=h;obtain⟨t,rfl⟩:=rx
 have go:∀(l u:Option (Int×Tok)),l.map (·.1)=lo->u.map (·.1)=hi->s.heap.IsSlice sl l u none->∃T id,typeLookup (.type T) "__getitem__"=pure (some (.builtin id))/\s.TypeIs (.str x t) T/\wpAny (model X.prog X.w) X.A (getItem (.str x t) (.ref sl)) (EP X pins σ Q) X.xe s:=λl u el eu hs=>by
  subst el eu;refine⟨"str",_,PySem.F.slot_str_getitem.lookup,typeIs_str _ _ _,wpAny_getItem_str_slice (l:=l) (u:=u) (st:=none) hs rfl (post_val_or_str ⟨aaA (Txt.slice_le x _ _) hz,λt' k=>?_⟩)⟩;exact⟨.str _,H,I.kept (t':=k) λ_ _ e=>e,⟨t',rfl⟩,q⟩
 cases pl with
 | none =>
  cases pu with
  | none=>exact go none none rfl rfl hs
  | int j tj=>exact go none (some (j,tj)) rfl rfl hs
 | int i ti =>
  cases pu with
  | none=>exact go (some (i,ti)) none rfl rfl hs
  | int j tj=>exact go (some (i,ti)) (some (j,tj)) rfl rfl hs
end
open PySem PySem.Spec PyProof.Rows PySem.W PySem.Builtin PySem.Builtin.ObjectAttr
def qj(K:Frag)(C:Addr)(bmB:List Value)(newId:String):Bool:=match K.lookup C with
 | some ⟨.type "type",_,.cls cd,sl⟩=>(match cd.mro,sl.toList with
  | .ref C'::bm,[_,_,_,_,some (.builtin n),_]=>C' == C&&n == newId&&!cd.hasDel&&tailIn K bmB bm&&nsOkIn K cd.ns&&cd.hasDict
  | _,_=>false)
 | _=>false
theorem mm{K:Frag}{h:Heap}{C:Addr}{bmB:List Value}{newId:String}(X:K.In h)(q:qj K C bmB newId=true):
  ∃(bm:List Value) (N:Addr) (nm qn:Str) (bs:List Value) (sn:List Str) (sub:List Value) (ab:Bool) (col:Option Bool) (dd:Option Addr) (k0 k1 k2 k3 k5:Option Value) (mN:Str->Option Value),
   h.get? C=some (excClassObj nm qn C N bs bm true sn sub ab col dd k0 k1 k2 k3 k5 newId)/\h.Ns N mN/\OwnTail h bmB bm/\∃cd,clsIn K C=some cd/\cd.mro=.ref C::bm/\cd.hasDict=true:=by
 unfold qj at q;split at q
 ·rename_i dd cd sl ho;split at q
  ·rename_i C' bm k0 k1 k2 k3 n k5 hm hs;simp only[Bool.and_eq_true,beq_iff_eq,Bool.not_eq_true']at q;have hcls:clsIn K C=some cd:=by unfold clsIn;rw[ho]
   obtain⟨⟨⟨⟨⟨rfl,rfl⟩,hdel⟩,ht⟩,hok⟩,hhd⟩:=q;obtain⟨nm,bs,mro,ns,qn,hd,sn,sub,ab,col,del⟩:=cd;dsimp only at hm hdel hok hhd;subst hm hdel hhd
   have hsl:sl=#[k0,k1,k2,k3,some (.builtin n),k5]:=by
    obtain⟨l⟩:=sl;simp only at hs;rw[hs]
   subst hsl;exact⟨bm,ns,nm,qn,bs,sn,sub,ab,col,dd,k0,k1,k2,k3,k5,_,X _ _ ho,.of_isNs (PySem.W.isNs_of_in X hok),PySem.W.tail_of_in X ht,⟨_,hcls,by rfl,by rfl⟩⟩
  ·cases q
 ·cases q
section
variable {prog:Program} {w:World} {A:Around} {E:Value->Shared->Prop} {K:Frag} {h:Heap} {g:Array GenState} {d:Drawn} {t:Nat} {os:OsState}
variable {nm q:Str} {C N:Addr} {bs bm bmB:List Value} {hdct:Bool} {sn:List Str} {sub:List Value} {ab:Bool} {col:Option Bool} {dd:Option Addr} {k0 k1 k2 k3 k5:Option Value} {B Bn newId nid initId inN:String} {bmN:List Value}
def nh(C:Addr)(t:Addr):Obj:={cls:=.ref C,data:=.fields #[.ref t,.none,.none,.none,.bool false,.none]}
theorem xV(Fn:ExcBaseFacts Bn newId inN bmN)(hBn:bmB.contains (.type Bn)=true)(F:ExcBaseFacts B nid initId bmB)(T:OwnTail h bmB bm){rest:List Value}{Q:Fin->Shared->Prop}{fI:Addr}
  (hC:h.get? C=some (excClassObj nm q C N bs bm hdct sn sub ab col dd k0 k1 k2 k3 k5 newId)) (X:K.In h) (hi:findIn K (.ref C) "__init__"=some (some (.ref fI))) (hf:isFn K (.ref fI)=true)
  (hq:wpAny (model prog w) A (call (.ref fI) (.ref (h.objs.size + 1)::rest)) (λr s'=>r=.none/\Q (.done (.ret (.ref (h.objs.size + 1)))) s') E ⟨(h.push {cls:=.type "tuple",data:=.seq rest.toArray}).push (nh C h.objs.size),g,d,t,os⟩) (hrest:rest.length<=sizeLine) :
  wpAny (model prog w) A (Builtin.«type.__call__» ⟨.ref C::rest,[]⟩) Q E ⟨h,g,d,t,os⟩:=by
 repeat (first | with_reducible refine aaF hC ?_ | with_reducible refine wpAny_madeBy_exc hC ?_ | wp_step)
 refine codeAny_call_builtin_code (Code.quiet_builtin _ Fn.quiet) (wpAny_check_new_subU Fn hBn T hC ?_);refine codeAny_exc_new_subU Fn hBn F T hC ?_ hrest;show wpAny _ _ _ _ _ _;have kp:∀b o,h.get? b=some o->((h.push {cls:=.type "tuple",data:=.seq rest.toArray}).push {cls:=.ref C,data:=.fields #[.ref h.objs.size,.none,.none,.none,.bool false,.none]}).get? b=some o:=λb o e=>aab _ (aab _ e)
 have hC₁:=kp _ _ hC;have X₁:=X.keeps kp;have hget:((h.push {cls:=.type "tuple",data:=.seq rest.toArray}).push
   {cls:=.ref C,data:=.fields #[.ref h.objs.size,.none,.none,.none,.bool false,.none]}).get? (h.objs.size + 1)=some
   {cls:=.ref C,data:=.fields #[.ref h.objs.size,.none,.none,.none,.bool false,.none]}:=by heap_get
 have hcC:(Value.ref C::bm).contains (.ref C)=true:=by simp
 unfold isInstance
 repeat (first | with_reducible refine aaF hget ?_ | (with_reducible refine ab1 hC₁ ?_;rw[hcC]) | wp_step)
 show wpAny _ _ (typeLookup (.ref C) _) _ _ _;refine(acp (M:=model prog w) X₁ hi).at ?_;refine aaP (aac ((bind_fn X₁ _ (beq_iff_eq.mp hf)).at ?_));refine aac (aat hq (λr s' hr=>?_) λ_ _ x=>x);obtain⟨rfl,hQ⟩:=hr
 wp_walk
 exact hQ
theorem AX(Fn:ExcBaseFacts Bn newId inN bmN)(hBn:bmB.contains (.type Bn)=true)(F:ExcBaseFacts B nid initId bmB)(T:OwnTail h bmB bm){rest:List Value}{Q:Value->Shared->Prop}{fI:Addr}
  (hC:h.get? C=some (excClassObj nm q C N bs bm hdct sn sub ab col dd k0 k1 k2 k3 k5 newId)) (X:K.In h) (hi:findIn K (.ref C) "__init__"=some (some (.ref fI))) (hf:isFn K (.ref fI)=true)
  (hq:wpAny (model prog w) (A.under (.builtin "type.__call__" ⟨.ref C::rest,[]⟩)) (call (.ref fI) (.ref (h.objs.size + 1)::rest)) (λr s'=>r=.none/\Q (.ref (h.objs.size + 1)) s') E ⟨(h.push {cls:=.type "tuple",data:=.seq rest.toArray}).push (nh C h.objs.size),g,d,t,os⟩) (hrest:rest.length<=sizeLine) :
  wpAny (model prog w) A (call (.ref C) rest) Q E ⟨h,g,d,t,os⟩:=by
 have f1:=tc_lookup;have f2:=tc_bind (.ref C);have hT:(⟨h,g,d,t,os⟩:Shared).TypeIs (.ref C) "type":=⟨_,hC,rfl⟩;refine abV (codeAny_of_tree ?_);show wpAny _ _ (callAny (.ref C) _) _ _ _
 repeat (any_goals (first | assumption | with_reducible refine aaF hC ?_ | wp_step))
 refine⟨rfl,?_⟩;exact codeAny_call_builtin_at (Code.quiet_builtin _ (by decide +kernel)) entry_typeCall (wpAny_check_type_call_sub hC (xV Fn hBn F T hC X hi hf hq hrest))
end
theorem vT(self:Value){h:Heap}{bm:List Value}{bx:Bool}(T:OwnTail h (rB bx) bm):refuseLoop self "__setattr__" bm=pure ():=by
 induction T with
 | base =>
  cases bx with
  | true=>exact PySem.F.store_ValueError.passes self
  | false=>exact PySem.F.store_Exception.passes self
 | own _ _ _ _ ih=>rw[refuseLoop_ref];exact ih
section
variable {prog:Program} {w:World} {A:Around} {K:Frag} {s:Shared} {x C:Addr} {R:Result->Shared->Prop}
theorem sM{ox:Obj}{od:Option Obj}{name:Str}{tk:Tok}{v:Value}{bm:List Value}{cd:ClassData}{bx:Bool}(X:K.In s.heap)(I:InstAt s.heap x ox C od)(hc:clsIn K C=some cd)(hm':cd.mro=.ref C::bm)(T:OwnTail s.heap (rB bx) bm)(hmo:mroIn K C (.type "object")=some true)(ht:findIn K (.ref C) name=some none)
  (h:wpAny (model prog w) A.in1 (storeInOwnDict (.ref x) (.ref C) (.str name tk) name v false)
   (λfin s'=>match fin with | .done f=>R (.ok f) s' | .again c'=>c'.quiet=true/\codeAny (model prog w) A c' R s') (λe s'=>R (.error e) s') s) :
  codeAny (model prog w) A (.call (.builtin "object.__setattr__") ⟨[.ref x,.str name tk,v],[]⟩) R s:=by
 have SF:=PySem.F.store_object;have sub:Looks (model prog w) s.heap (isInstance (.ref x) (.type "object")) true:=I.type.andThen (looks_mroIn X hmo);refine codeAny_call_builtin SF.slot.plain SF.entry (@check_slot (model prog w) _ _ s "object.__setattr__" "object" "__setattr__" (.ref x) [.str name tk,v] [] _ SF.kind SF.split sub (SF.args (.ref x) (.str name tk) v) ?_);have hm:Looks (model prog w) s.heap (mroOf (.ref C)) cd.mro:=(looks_clsIn X hc).andThen .now;rw[osa_eq,refuse_eq];refine aac (aac (I.type.here (aac (hm.here ?_))));rw[hm',refuseLoop_ref,vT _ T];refine aag (aac (I.type.here (aac ((acp X ht).here (aac ?_)))));refine aag ?_;exact h
end
section
variable {prog:Program} {w:World} {A:Around} {E:Value->Shared->Prop} {h:Heap} {g:Array GenState} {d:Drawn} {t:Nat} {os:OsState}
variable {nm q:Str} {C N x:Addr} {bs bm:List Value} {sn:List Str} {sub:List Value} {ab:Bool} {col:Option Bool} {dd:Option Addr} {k0 k1 k2 k3 k5:Option Value} {newId:String} {name:Str} {v:Value}
theorem xW{tk:Tok}{o:Obj}{Q:Fin->Shared->Prop}(hC:h.get? C=some (excClassObj nm q C N bs bm true sn sub ab col dd k0 k1 k2 k3 k5 newId))(hx:h.get? x=some o)(hc:o.cls=.ref C)(hnc:∀c,o.data≠.cls c)(hdn:o.dict=none)
  (hq:∀h' tk',h'.get? x=some {cls:=o.cls,dict:=some h.objs.size,data:=o.data,slots:=o.slots}->h'.Ns1 h.objs.size (λy=>if y=name then some v else none)->(∀b ob,b≠x->h.get? b=some ob->h'.get? b=some ob)->Q (.done (.ret .none)) ⟨h',g,d,tk',os⟩) :
  wpAny (model prog w) A (storeInOwnDict (.ref x) (.ref C) (.str name tk) name v false) Q E ⟨h,g,d,t,os⟩:=by
 unfold storeInOwnDict
 repeat (first | (with_reducible refine aaF hx ?_;rw[hc]) | with_reducible refine aaF hC ?_ | wp_step)
 rw[hdn];dsimp only;rw[if_neg (by simp[typeHasDict])];split
 ·rename_i c hcd;exact absurd hcd (hnc c)
 ·have hx₁:(h.push {cls:=.type "dict",data:=.dict #[]}).get? x=some o:=aab _ hx;have hxs:x≠h.objs.size:=aak (aad hx);refine aac (wpAny_alloc' ?_);refine aac (wpAny_update' hx₁ ?_);refine aag ?_;have hgd:((h.push {cls:=.type "dict",data:=.dict #[]}).update x λo=>{cls:=o.cls,dict:=some h.objs.size,data:=o.data,slots:=o.slots}).get? h.objs.size
    = some {cls:=.type "dict",data:=.dict #[]} :=
   (Heap.get?_update_ne _ _ _ _ hxs.symm).trans (Heap.get?_push_at rfl rfl)
  have hnd:((h.push {cls:=.type "dict",data:=.dict #[]}).update x λo=>{cls:=o.cls,dict:=some h.objs.size,data:=o.data,slots:=o.slots}).Ns h.objs.size (λ_=>none) :=
   ⟨_,#[],_,hgd,rfl,λe he=>absurd he (by simp),λ_=>rfl⟩
  show wpAny _ _ (storeInDict h.objs.size (.str name tk) name v) _ _ _;unfold storeInDict newKeyGuard;refine wpAny_bind (wpAny_pure (wpAny_bind (wpAny_nsSet1 (Heap.Ns1.of_empty hnd) λh' hn' hs=>?_)));obtain⟨oD,esD,epD,hoD,zy,hcD⟩:=hn'.count (Within.cons name v Within.nil);refine wpAny_bind (wpAny_lookBehind hoD (by rw[zy];exact pastItsLine_dict (Nat.le_trans hcD (by rw[List.length_cons,List.length_nil,sizeLine_eq];omega))) ?_)
  wp_walk
  have hx':h'.get? x=some {cls:=o.cls,dict:=some h.objs.size,data:=o.data,slots:=o.slots}:=by
   refine(hs.2 x hxs).trans (aaZ _ hx₁ ?_);have hfr:=(ab6.mp hx).2;obtain⟨oc,od,odt,osl⟩:=o;cases odt<;>first | rfl | exact hfr
  refine hq h' _ hx' hn' λb ob hbx hb=>?_
  exact(hs.2 b (aak (aad hb))).trans ((Heap.get?_update_ne _ _ _ _ hbx).trans (aab _ hb))
theorem xX{tk:Tok}{o:Obj}{dx:Addr}{mA:Str->Option Value}{ns:List Str}{Q:Fin->Shared->Prop}(hC:h.get? C=some (excClassObj nm q C N bs bm true sn sub ab col dd k0 k1 k2 k3 k5 newId))(hx:h.get? x=some o)(hc:o.cls=.ref C)(hdx:o.dict=some dx)(hns:h.Ns1 dx mA)(hw:Within mA ns)(hl:ns.length < 1000)
  (hq:∀h' tk',h'.Ns1 dx (λy=>if y=name then some v else mA y)->(∀b ob,b≠dx->h.get? b=some ob->h'.get? b=some ob)->Q (.done (.ret .none)) ⟨h',g,d,tk',os⟩) :
  wpAny (model prog w) A (storeInOwnDict (.ref x) (.ref C) (.str name tk) name v false) Q E ⟨h,g,d,t,os⟩:=by
 unfold storeInOwnDict
 repeat (first | (with_reducible refine aaF hx ?_;rw[hc]) | with_reducible refine aaF hC ?_ | wp_step)
 rw[hdx];refine wpAny_pure ?_;show wpAny _ _ (storeInDict dx (.str name tk) name v) _ _ _;unfold storeInDict newKeyGuard;refine wpAny_bind (wpAny_pure (wpAny_bind (wpAny_nsSet1 hns λh' hn' hs=>?_)));obtain⟨oD,esD,epD,hoD,zy,hcD⟩:=hn'.count (Within.cons name v hw);refine wpAny_bind (wpAny_lookBehind hoD (by rw[zy];exact pastItsLine_dict (Nat.le_trans hcD (by rw[List.length_cons,sizeLine_eq];omega))) ?_)
 wp_walk
 exact hq h' _ hn' λb ob hb hb'=>(hs.2 b hb).trans hb'
end
def XP(C e:Addr)(dx:Option Addr):Heap->Prop:=λh=>∃t0,h.get? e=some {cls:=.ref C,dict:=dx,data:=.fields #[.ref t0,.none,.none,.none,.bool false,.none]}
def XD(dx:Addr)(fs:List (Str×V)):Heap->Prop:=λh=>∃mA,h.Ns1 dx mA/\(∀f,jd (fs.lookup f) (mA f))/\Within mA (fs.map (·.1))
structure KXs(K:Frag)(C:Addr):Prop where
 sa:findIn K (.ref C) "__setattr__"=some (some (.builtin "object.__setattr__"))
 ex:∃bx,qj K C (rB bx) (vS bx)=true
 mo:mroIn K C (.type "object")=some true
theorem sO{C e:Addr}{dx:Option Addr}(h1 h2:Heap)(h:XP C e dx h1)(k:∀o,h1.get? e=some o->h2.get? e=some o):XP C e dx h2:=by
 obtain⟨t0,g⟩:=h;exact⟨t0,k _ g⟩
theorem sP{dx:Addr}{fs:List (Str×V)}(h1 h2:Heap)(h:XD dx fs h1)(k:∀o,h1.get? dx=some o->h2.get? dx=some o):XD dx fs h2:=by
 obtain⟨mA,n,r⟩:=h;exact⟨mA,n.at k,r⟩
theorem Ns1.obj{h:Heap}{a:Addr}{m:Str->Option Value}(n:h.Ns1 a m):∃o,h.get? a=some o:=let ⟨o,_,_,e,_⟩:=n;⟨o,e⟩
section
variable {X:Cx} {C a:Addr} {pins:List (Addr×Obj)} {σ:St} {H:Hp} {s:Shared} {A:Around} {E:Value->Shared->Prop} {f:Str}
theorem Po{y:V}{u:Value}{Q:Unit->Shared->Prop}(I:Inv X pins σ H s)(e:H a=some (.ext (XP C a none)))(k:KXs X.K C)(hf:findIn X.K (.ref C) f=some none)(ry:RelV y u)
  (h:∀s' dx,H dx=none->dx≠a->Inv X pins σ (upd (upd H dx (.ext (XD dx [(f,y)]))) a (.ext (XP C a (some dx)))) s'->Q () s'):wpAny (model X.prog X.w) A (setAttr (.ref a) f u) Q E s:=by
 obtain⟨⟨t0,hg⟩,_,_⟩:=I.hok a _ e;obtain⟨bx,hbx⟩:=k.ex;obtain⟨bm,N,nm,qn,bs,sn,sub,ab,col,dd,k0,k1,k2,k3,k5,mN,hC,hn,T,cd,hcd,hmro,_⟩:=mm I.iL hbx;have IA:InstAt s.heap a {cls:=.ref C,dict:=none,data:=.fields #[.ref t0,.none,.none,.none,.bool false,.none]} C none:=⟨hg,rfl,rfl,aa4⟩;refine set_plain I.iL IA k.sa (sM (s:={s with toks:=s.toks + 1}) I.iL IA hcd hmro T k.mo hf ?_);obtain⟨hp,g,d,tk,os⟩:=s;have hda:hp.objs.size≠a:=aaJ (aad hg);refine xW hC hg rfl (λc z=>by cases z) rfl λh' tk' g1 n1 kp=>h _ hp.objs.size (I.hok.fresh (aai _)) hda ?_
 obtain⟨od,god⟩:=Ns1.obj n1;have hpo:(hp.push od).get? hp.objs.size=some od:=aao hp (ab6.mp god).2;have n0:(hp.push od).Ns1 hp.objs.size (λy=>if y=f then some u else none):=n1.at λo q=>by rw[god]at q;cases q;exact hpo
 have VD:XD hp.objs.size [(f,y)] (hp.push od):=⟨_,n0,λg=>by
  show jd (List.lookup g [(f,y)]) (if g=f then some u else none);by_cases q:g=f
  ·rw[if_pos q,q];simp only[List.lookup,beq_self_eq_true];exact ry
  ·rw[if_neg q];simp only[List.lookup];rw[beq_false_of_ne q];exact True.intro,λg hg=>by
  by_cases q:g=f
  ·rw[q];exact List.mem_singleton_self _
  ·exact absurd (aan q) hg⟩
 have I1:=I.laid (a:=hp.objs.size) (o:=.ext (XD hp.objs.size [(f,y)])) (h':=hp.push od) (t':=tk') (λb u q=>aab _ q) (aai _) ⟨VD,⟨_,hpo⟩,sP⟩;have ea:upd H hp.objs.size (.ext (XD hp.objs.size [(f,y)])) a=some (.ext (XP C a none)):=by rw[uN hda.symm];exact e
 refine I1.write (x:=a) (e:=a) (t':=tk') (by rw[ea];exact aa4) (.inl rfl) (λb ob hb z=>?_) ⟨_,g1⟩ ⟨⟨t0,g1⟩,⟨_,g1⟩,sO⟩;by_cases hbs:b=hp.objs.size
 ·subst hbs;have z':(hp.push od).get? hp.objs.size=some ob:=z;rw[hpo]at z';cases z';exact god
 ·have z':(hp.push od).get? b=some ob:=z;rw[Heap.get?_push_ne _ _ _ hbs]at z';exact kp b ob hb z'
theorem Pp{y:V}{u:Value}{dx:Addr}{fs:List (Str×V)}{Q:Unit->Shared->Prop}(I:Inv X pins σ H s)(e:H a=some (.ext (XP C a (some dx))))(ed:H dx=some (.ext (XD dx fs)))(hl:fs.length < 900)(k:KXs X.K C)(hf:findIn X.K (.ref C) f=some none)(ry:RelV y u)
  (h:∀s',Inv X pins σ (upd H dx (.ext (XD dx (cV f y fs)))) s'->Q () s'):wpAny (model X.prog X.w) A (setAttr (.ref a) f u) Q E s:=by
 obtain⟨⟨t0,hg⟩,_,_⟩:=I.hok a _ e;obtain⟨⟨mA,n,r,wi⟩,_,_⟩:=I.hok dx _ ed;obtain⟨bx,hbx⟩:=k.ex;obtain⟨bm,N,nm,qn,bs,sn,sub,ab,col,dd,k0,k1,k2,k3,k5,mN,hC,hn,T,cd,hcd,hmro,_⟩:=mm I.iL hbx;obtain⟨od,god⟩:=Ns1.obj n;have IA:InstAt s.heap a {cls:=.ref C,dict:=some dx,data:=.fields #[.ref t0,.none,.none,.none,.bool false,.none]} C (some od):=⟨hg,rfl,rfl,god⟩;refine set_plain I.iL IA k.sa (sM (s:={s with toks:=s.toks + 1}) I.iL IA hcd hmro T k.mo hf ?_);obtain⟨hp,g,d,tk,os⟩:=s;refine xX hC hg rfl rfl n wi (by rw[aaf];omega) λh' tk' n1 kp=>h _ ?_
 obtain⟨od',god'⟩:=Ns1.obj n1;refine I.write (x:=dx) (e:=dx) (t':=tk') (by rw[ed];exact aa4) (.inl rfl) (λb ob hb z=>kp b ob hb z) ⟨_,god'⟩ ⟨⟨_,n1,λg=>?_,λg hg=>?_⟩,⟨_,god'⟩,sP⟩
 ·show jd ((cV f y fs).lookup g) (if g=f then some u else mA g);rw[kh];by_cases q:g=f
  ·rw[aap q,aap q];exact ry
  ·rw[aan q,aan q];exact r g
 ·by_cases q:g=f
  ·rw[q];exact(jg f y fs).1
  ·refine(jg f y fs).2 g (wi g λz=>hg ?_);show(if g=f then some u else mA g)=none;rw[aan q];exact z
end
def Xo(K:Frag)(ta tv:TE)(f:Str):TS:=λD σ H=>tv σ H λy H1=>ta σ H1 λx H2=>∃a C,x=.ref a/\KXs K C/\dC K C f /\
 ((H2 a=some (.ext (XP C a none))/\∀dx,H2 dx=none->dx≠a->D.nx σ (upd (upd H2 dx (.ext (XD dx [(f,y)]))) a (.ext (XP C a (some dx))))) ∨
  ∃dx fs,H2 a=some (.ext (XP C a (some dx)))/\H2 dx=some (.ext (XD dx fs))/\fs.length < 900/\D.nx σ (upd H2 dx (.ext (XD dx (cV f y fs)))))
section
variable {X:Cx} {o e value:Expr} {f:Str} {pos pos' tpos:Pos} {ta tv:TE}
theorem Pq(ha:PE X o ta)(hv:PE X value tv)(hs:swapsWith value (some (.Attribute o f pos')) pos.line X.env=pure false):PS X (.Assign [.Attribute o f pos'] value pos) (Xo X.K ta tv f):=by
 intro pins s σ H D I h;refine abT (bF (hv pins s σ H _ I h) λu s1 ⟨y,H1,I1,ry,q⟩=>bF (ha pins s1 σ H1 _ I1 q) λov s2 ⟨x,H2,I2,rx,a,C,ex,k,n,q2⟩=>?_) hs;subst ex;obtain rfl:ov=Value.ref a:=rx;rcases q2 with⟨ea,q2⟩ | ⟨dx,fs,ea,ed,l,q2⟩
 ·exact Po I2 ea k n ry λs3 dx hd hda I3=>⟨σ,_,I3,q2 dx hd hda⟩
 ·exact Pp I2 ea ed l k n ry λs3 I3=>⟨σ,_,I3,q2⟩
end
section
variable {prog:Program} {w:World} {A:Around} {E:Value->Shared->Prop} {K:Frag} {a C:Addr} {o:Obj} {od:Option Obj} {h:Heap} {g:Array GenState} {d:Drawn} {t:Nat} {os:OsState} {name:Str} {v:Value}
theorem SD{tk:Tok}{Q:Fin->Shared->Prop}(X:K.In h)(IA:InstAt h a o C od)(hf:findObj K C od name=some (.value v))(hq:Q (.done (.ret v)) ⟨h,g,d,t,os⟩):
  wpAny (model prog w) A (Builtin.«object.__getattribute__» ⟨[.ref a,.str name tk],[]⟩) Q E ⟨h,g,d,t,os⟩:=by
 have L0:=IA.type (M:=model prog w);have L1:=looks_find (M:=model prog w) X IA hf;refine aac (aag (aac (aag (aac (L0.at (aac (L1.at ?_)))))));exact aag hq
theorem Xp{tk:Tok}{fill expr:Bool}{Q:Value->Shared->Prop}(X:K.In h)(k:KX K C)(IA:InstAt h a o C od)(hf:findObj K C od name=some (.value v))(hh:handedIn v=true)(hq:Q v ⟨h,g,d,t,os⟩):
  wpAny (model prog w) A (getAttrBy (.ref a) (.str name tk) fill expr) Q E ⟨h,g,d,t,os⟩:=by
 have hx:=IA.at_;have hc:=IA.cls;have L1:=acp (M:=model prog w) X k.ga;have L2:=acp (M:=model prog w) X k.gh;have f3:=F.excAttr_ValueError.ga.bind (.ref a);have VD:(expr&&onTheHeap (Value.builtin "BaseException.__getattribute__"))=false:=by cases expr<;>rfl
 have Xq:(Value.builtin "BaseException.__getattribute__" == Value.builtin "object.__getattribute__")=false:=by decide +kernel
 have Zz:(onTheHeap (Value.ref C)&&Value.builtin "BaseException.__getattribute__" == Value.builtin "object.__getattribute__")=false:=by rw[Xq];rfl
 repeat (any_goals (first | assumption | (with_reducible refine aaF hx ?_;rw[hc]) | with_reducible refine L1.at ?_ | with_reducible refine L2.at ?_ | wp_step))
 refine codeAny_call_builtin F.excAttr_ValueError.ga.plain F.entry_bexc_ga (De X k hx hc (SD X IA hf ?_));have ho:=handedOut_of hh
 repeat (any_goals (first | assumption | wp_step | (rw[ho])))
theorem Pr{expr:Bool}{Q:Value->Shared->Prop}(X:K.In h)(k:KX K C)(IA:InstAt h a o C od)(hf:findObj K C od name=some (.value v))(hh:handedIn v=true)(hq:Q v ⟨h,g,d,t + 1,os⟩):
  wpAny (model prog w) A (getAttr (.ref a) name expr) Q E ⟨h,g,d,t,os⟩:=by
 unfold getAttr;refine wpAny_bind (wpAny_mkText ?_);exact Xp X k IA hf hh hq
end
def XG(C a dx:Addr):Heap->Prop:=λh=>∃o vs,h.get? a=some o/\o.cls=.ref C/\o.dict=some dx/\o.data=.fields vs
def SE(K:Frag)(ta:TE)(f:Str):TE:=λσ H Q=>ta σ H λx H1=>∃a C dx fs v φ,x=.ref a/\H1 a=some (.ext φ)/\(∀h,φ h->XG C a dx h)/\H1 dx=some (.ext (XD dx fs))/\KX K C/\hasDictIn K C=true/\dC K C f/\fs.lookup f=some v/\Q v H1
theorem Kg{X:Cx}{e:Expr}{f:Str}{pos:Pos}{ta:TE}(he:PE X e ta)(hb:attributeBase e f X.env (eval e X.env)=eval e X.env):PE X (.Attribute e f pos) (SE X.K ta f):=by
 intro pins s σ H Q I h;refine zA hb (bF (he pins s σ H _ I h) λu s1 ⟨x,H1,I1,rx,a,C,dx,fs,v,φ,ex,ea,hφ,ed,k,hd,n,l,q⟩=>?_);subst ex;obtain rfl:u=Value.ref a:=rx;obtain⟨p,_,_⟩:=I1.hok a _ ea;obtain⟨⟨mA,nn,r,_⟩,_,_⟩:=I1.hok dx _ ed;obtain⟨o,vs,g1,g2,g3,g4⟩:=hφ _ p;obtain⟨od,ho,hl⟩:=so nn;obtain⟨u',hu,ru⟩:=jd.some_of (v:=v) (o:=mA f) (by rw[← l];exact r f);have IA:InstAt s1.heap a o C (some od):=⟨g1,g2,by unfold notCls;rw[g4],by rw[g3];exact ho⟩;obtain⟨hp,g,d,t,os⟩:=s1;exact Pr I1.iL k IA (findObj_own hd n rfl (by rw[hl,hu])) (sq ru) ⟨v,H1,I1.tok _,ru,q⟩
structure VE(K:Frag)(C f:Addr):Prop where
 ex:∃bx,qj K C (rB bx) (vS bx)=true
 init:findIn K (.ref C) "__init__"=some (some (.ref f))
 fn:isFn K (.ref f)=true
 kp:keepIn K (.ref C)=true
section
variable {X:Cx} {CX:vA} {k:Nat} {f C:Addr} {fd:FuncData} {ps:List Str} {sp:Sp} {dvs:List V} {ds:List Value} {E:XK} {x m:Str} {p pos apos:Pos} {e o:Expr} {es:List Expr} {ta:TE} {t:TA}
theorem sQ{pins:List (Addr×Obj)}{σ:St}{H:Hp}{s:Shared}{Q:VK}{us:List Value}{vs:List V}{cm:Bool}(M:VE X.K C f)(F':bJ X.prog X.w X.K X.mg X.base CX k f fd ps sp cm)(hr:cg (k + 1) X.A cm)(hb:Binds X.K fd ps ds)(hd:Vals dvs ds)
  (hx:Passes CX X E) (I:Inv X pins σ H s) (r:Vals vs us) (hz:vs.length<=sizeLine)
  (h:∀x,s.heap.objs.size<=x->H x=none->sp (.ref x::(vs++dvs)) (upd H x (.ext (XP C x none))) (λv H2=>v=.non/\Q (.ref x) H2) E) :
  wpAny (model X.prog X.w) X.A (call (.ref C) us) (EP X pins σ Q) X.xe s:=by
 obtain⟨bx,hbx⟩:=M.ex;obtain⟨bm,N,nm,qn,bs,sn,sub,ab,col,dd,k0,k1,k2,k3,k5,mN,hC,hn,T,cd,hcd,hmro,_⟩:=mm I.iL hbx;have hq:=h (s.heap.objs.size + 1) (abg _) (I.hok.fresh (abg _));obtain⟨hp,g,d,tk,os⟩:=s;have I1:=I.kept (h':=hp.push {cls:=.type "tuple",data:=.seq us.toArray}) (t':=tk) (λb u q=>aab _ q)
 have e2:((hp.push {cls:=.type "tuple",data:=.seq us.toArray}).push (nh C hp.objs.size)).get? (hp.objs.size + 1)=some (nh C hp.objs.size):=by
  have:=aao (hp.push {cls:=.type "tuple",data:=.seq us.toArray}) (o:=nh C hp.objs.size) rfl
  rwa [abv]at this
 have I2:=I1.laid (a:=hp.objs.size + 1) (o:=.ext (XP C (hp.objs.size + 1) none)) (h':=(hp.push {cls:=.type "tuple",data:=.seq us.toArray}).push (nh C hp.objs.size)) (t':=tk) (λb u q=>aab _ q) (acL (abv _ _)) ⟨⟨_,e2⟩,⟨_,e2⟩,sO⟩;have r2:Vals (V.ref (hp.objs.size + 1)::(vs++dvs)) (Value.ref (hp.objs.size + 1)::(us++ds)):=.cons rfl (r.append hd)
 have hl:(Value.ref (hp.objs.size + 1)::us++ds).length=ps.length:=by
  have e:=r2.length;rw[F'.len _ _ _ _ hq]at e;exact e.symm
 refine AX (bmB:=rB bx) (RA bx) (zG bx) (RA bx) T hC I.iL M.init M.fn ?_ (by rw[← r.length];exact hz);refine abV (abw (F'.run _ X.stack _ _ ⟨Value.ref (hp.objs.size + 1)::us,[]⟩ (Value.ref (hp.objs.size + 1)::(us++ds)) _ _ E (hr.make C us [])
  (I2.CI.make C us []) (hb _ (Value.ref (hp.objs.size + 1)::us) I2.iL hl) r2 hq) λr s' hq'=>?_)
 cases r with
 | error e=>exact hx pins σ _ _ e s' I2 hq'
 | ok fl =>
  cases fl with
  | ret u =>
   obtain⟨v,H',I3,rv,ev,q3⟩:=I2.after hq';subst ev;exact⟨rv,⟨V.ref (hp.objs.size + 1),H',I3,rfl,q3⟩⟩
  | next=>exact False.elim hq'
  | brk=>exact False.elim hq'
  | cont=>exact False.elim hq'
end
def inner(s:Stmt):Stmt:=match s with
 | .ClassDef _ _ _ b _ _ _ _ _ _ _=>b.headD (.Pass ⟨0,0,0,0⟩)
 | _=>.Pass ⟨0,0,0,0⟩
def Df(K:Frag)(fs:List Str):Sp:=λvs H Q _=>∃a C ys,vs=.ref a::ys/\ys.length=fs.length/\KXs K C/\(∀f∈fs,dC K C f)/\H a=some (.ext (XP C a none)) /\
 ∀dx,H dx=none->dx≠a->Q .non (upd (upd H dx (.ext (XD dx (fs.zip ys)))) a (.ext (XP C a (some dx))))
structure AY(P:Program)(w:World)(K:Frag)(mg:Str->Option Value)(base:Heap)(C:Addr)(fs:List Str):Prop where
 s:KXs K C
 no:∀f∈fs,dC K C f
 le:fs.length<=1000
 ini:∃f fd,VE K C f/\bJ P w K mg base c6 1 f fd ("self"::fs) (Df K fs) false/\Binds K fd ("self"::fs) []
section
variable {X:Cx} {C:Addr} {fs:List Str} {x:Str} {p pos:Pos} {e:Expr} {es:List Expr} {t:TA}
end
open PySem PySem.Spec PyProof.Rows PySem.W
def Cn(o:Obj):Prop:=∃vs,o.data=.fields vs/\vs[2]?=some .none
def Dk(h h':Heap):Prop:=∀b o,h.get? b=some o->∃o',h'.get? b=some o'/\o'.dict=o.dict/\(Cn o->Cn o')
theorem Dk.refl(h:Heap):Dk h h:=λ_ o e=>⟨o,e,rfl,id⟩
theorem Dk.trans{h1 h2 h3:Heap}(x:Dk h1 h2)(y:Dk h2 h3):Dk h1 h3:=λb o e =>
 let ⟨o1,e1,d1,c1⟩:=x b o e;let ⟨o2,e2,d2,c2⟩:=y b o1 e1;⟨o2,e2,d2.trans d1,λz=>c2 (c1 z)⟩
def KD{α:Type}(t:Sem α):Prop:=∀(M:Model) (Γ:PySem.Ctx) (Q:α->Pos->Shared->Prop) (E:Value->Pos->Shared->Prop) (p:Pos) (s:Shared),
 Sem.wp M Γ t Q E p s->Sem.wp M Γ t (λa p' s'=>Q a p' s'/\Dk s.heap s'.heap) (λe p' s'=>E e p' s'/\Dk s.heap s'.heap) p s
section
variable {α β:Type}
theorem bw(a:α):KD (pure a:Sem α):=λ_ _ _ _ _ s h=>⟨h,Dk.refl s.heap⟩
theorem dX(m:String):KD (Sem.unsupported m:Sem α):=λ_ _ _ _ _ _ h=>False.elim (by simpa using h)
theorem aV{t:Sem α}{f:α->Sem β}(h1:KD t)(h2:∀a,KD (f a)):KD (t >>= f):=by
 intro M Γ Q E p s h;rw[Sem.wp_bind']at h ⊢;refine Sem.wp_mono M Γ t (λa p1 s1 z=>?_) (λ_ _ _ z=>z) p s (h1 M Γ _ _ p s h);exact Sem.wp_mono M Γ (f a) (λ_ _ _ y=>⟨y.1,z.2.trans y.2⟩) (λ_ _ _ y=>⟨y.1,z.2.trans y.2⟩) p1 s1 (h2 a M Γ _ _ p1 s1 z.1)
theorem ue(a:Addr)(part:Option Value):KD (loadPart a part):=λM Γ Q E p s h=>by
 unfold loadPart at h ⊢;rw[Sem.wp_load]at h ⊢;obtain⟨o,e,q⟩:=h;exact⟨o,e,q,Dk.refl _⟩
theorem AZ{h:Heap}{a:Addr}{f:Obj->Obj}(hf:∀o:Obj,((f o).dict=o.dict/\(Cn o->Cn (f o)))/\(o.isFreed=false->(f o).isFreed=false)):Dk h (h.update a f):=λb o e=>by
 by_cases hb:a=b
 ·subst hb;exact⟨_,aaZ f e ((hf o).2 (ab6.mp e).2),(hf o).1⟩
 ·exact⟨o,(abt h f hb).trans e,rfl,id⟩
theorem sR(a:Addr)(part:Option Value){f:Obj->Obj}(hf:∀o:Obj,((f o).dict=o.dict/\(Cn o->Cn (f o)))/\(o.isFreed=false->(f o).isFreed=false)):KD (updatePart a part f):=λM Γ Q E p s h=>by
 unfold updatePart at h ⊢;rw[Sem.wp_update]at h ⊢;exact⟨h.1,h.2,AZ hf⟩
theorem vU(o:Obj):KD (alloc o):=λM Γ Q E p s h=>by
 unfold alloc at h ⊢;rw[Sem.wp_alloc]at h ⊢;exact⟨h,λb ob e=>⟨ob,Heap.get?_push_of_some _ e,rfl,id⟩⟩
theorem qk:KD stack:=λM Γ Q E p s h=>⟨h,Dk.refl _⟩
end
theorem dD{α:Type}{t:Sem α}(k:KD t){M:Model}{A:Around}{E:Value->Shared->Prop}{Q:α->Shared->Prop}{s:Shared}(h:wpAny M A t Q E s):wpAny M A t (λa s'=>Q a s'/\Dk s.heap s'.heap) E s:=λΓ p hΓ =>
 Sem.wp_mono M Γ t (λ_ _ _ y=>y) (λ_ _ _ y=>y.1) p s (k M Γ _ _ p s (h Γ p hΓ))
theorem mn(v:Value)(i:Nat):KD (field v i):=by
 unfold field fieldsOf;refine aV ?_ λvs=>?_
 ·split
  ·refine aV (ue _ _) λo=>?_
   split
   ·exact bw _
   ·exact dX _
  ·exact dX _
 ·first
  | (split<;>first | exact bw _ | exact dX _)
theorem Dg(i:Nat)(x:Value)(hi:i≠2)(o:Obj):((Obj.mapFields (·.setIfInBounds i x) o).dict=o.dict/\(Cn o->Cn (Obj.mapFields (·.setIfInBounds i x) o)))/\(o.isFreed=false->(Obj.mapFields (·.setIfInBounds i x) o).isFreed=false):=by
 obtain⟨c,d,dt,sl⟩:=o;refine⟨⟨?_,λ⟨vs,e,q⟩=>⟨_,abE e _,?_⟩⟩,?_⟩
 ·cases dt<;>rfl
 ·rw[Array.getElem?_setIfInBounds_ne hi];exact q
 ·cases dt<;>exact λz=>z
theorem iP(v:Value)(i:Nat)(x:Value)(hi:i≠2:=by decide):KD (setField v i x):=by
 unfold setField updateField;split
 ·refine aV (ue _ _) λo=>?_
  split
  ·split
   ·exact sR _ _ (Dg _ _ hi)
   ·exact dX _
  ·exact dX _
 ·exact dX _
theorem eT(e:Value)(f:Option Addr):KD (setFlight e f):=by
 unfold setFlight;refine aV (mn _ _) λtb=>?_
 split
 ·exact iP _ _ _
 ·exact bw _
theorem A1(env:Env)(outer:List Env):KD (behindIsImport env outer):=by
 unfold behindIsImport;split
 ·exact bw _
 ·split
  ·exact bw _
  ·exact aV (mn _ _) λ_=>bw _
theorem Dh:KD underTheClaimsCaller:=by
 unfold underTheClaimsCaller;exact aV qk λ_=>bw _
theorem Ha(env:Env)(b:Bool)(l:List Env):KD (keptBack env b l):=by
 unfold keptBack;split
 ·split
  ·exact bw _
  ·exact aV Dh λ_=>bw _
 ·exact bw _
theorem vV:∀l:List Env,KD (readyFrames l)
 | []=>bw _
 | env::outer=>by
  unfold readyFrames;split
  ·refine aV (ue _ _) λo=>?_
   split
   ·exact bw _
   ·refine aV (A1 _ _) λb=>aV (Ha _ _ _) λv=>aV (sR _ _ λo=>⟨⟨rfl,λz=>z⟩,λz=>by obtain⟨c,d,dt,sl⟩:=o;cases dt<;>exact z⟩) λ_=>vV outer
  ·exact dX _
theorem ql(l:List Env):KD (frameObject l):=by
 unfold frameObject;split
 ·exact bw _
 ·exact aV (vV _) λ_=>bw _
theorem uf:KD frameEnvs:=by
 unfold frameEnvs;exact aV qk λ_=>bw _
theorem qo(env:Env):KD (PySem.frameOf env):=by
 unfold PySem.frameOf;refine aV uf λl=>aV (ql _) λr=>?_
 split
 ·exact bw _
 ·exact dX _
theorem vW(f:Addr)(b:Bool):KD (entryPlaceOf f b):=by
 unfold entryPlaceOf;refine aV qk λl=>?_
 split
 ·exact bw _
 ·exact bw _
theorem oP(a b c d e:Value)(pl:List Value):KD (EntryCells.newEntry a b c d e pl):=by
 unfold EntryCells.newEntry newFields newObj newObjAsIs;generalize ([a,b,c,d,e]++if pl.isEmpty=true then List.replicate 6 Value.none else pl).toArray=ws;dsimp only;split
 ·exact aV (dX _) λ_=>aV (vU _) λ_=>bw _
 ·exact aV (vU _) λ_=>bw _
theorem pM(e:Value)(env:Env):KD (noteFrame e env):=by
 unfold noteFrame;split
 ·refine aV (mn _ _) λhd=>?_
  dsimp only;split
  ·refine aV (mn _ _) λx=>?_
   split
   ·exact bw _
   ·exact aV (iP _ _ _) λ_=>aV (qo _) λ_=>aV (vW _ _) λ_=>aV (oP _ _ _ _ _ _) λ_=>iP _ _ _
  ·exact aV (qo _) λ_=>aV (vW _ _) λ_=>aV (oP _ _ _ _ _ _) λ_=>iP _ _ _
 ·exact dX _
theorem jF(env:Env)(e:Value):KD (leaving env e):=aV (pM e env) λ_=>eT e none
def eU(h:Heap)(a:Addr)(dd:Option Addr):Prop:=∃o,h.get? a=some o/\o.dict=dd/\(dd=none->Cn o)
theorem eU.dk{h h':Heap}{a:Addr}{dd:Option Addr}(d:eU h a dd)(k:Dk h h'):eU h' a dd :=
 let ⟨o,e,q,c⟩:=d;let ⟨o',e',q',c'⟩:=k a o e;⟨o',e',q'.trans q,λz=>c' (c z)⟩
def eh(P:Program)(w:World):vA:=λouter H s E e s'=>∃(a C t:Addr) (H':Hp) (B:Heap) (dd:Option Addr),e=.ref a/\s'.os=s.os/\AllBare s'.gens/\Ke P w outer H H' s.heap B a (.ref C) (.ref t) s'.heap/\eU s'.heap a dd/\E (.ref C) dd H'
def del(H:Hp)(a:Addr):Hp:=λb=>if b=a then none else H b
theorem vX{H:Hp}{a:Addr}:del H a a=none:=by unfold del;rw[if_pos rfl]
theorem dM{H:Hp}{a b:Addr}(h:b≠a):del H a b=H b:=by unfold del;rw[if_neg h]
def VF(X:Cx)(E:XK):Prop:=∀(pins:List (Addr×Obj)) (σ:St) (H:Hp) (s:Shared) (a C:Addr) (dx:Option Addr),Inv X pins σ H s->X.s₀.heap.objs.size<=a->H a=some (.ext (XP C a dx))->E (.ref C) dx (del H a)->X.xe (.ref a) s
section
variable {P:Program} {w:World} {K:aJ} {mg:Str->Option Value} {base:Heap} {N:List Str} {qual:Str} {scope:Scope} {f:Addr} {cd:Value} {A:Around} {outer:List Env} {s₀:Shared} {H₀:Hp} {E:XK}
theorem LC:VF (j8 (eh P w) P w K mg base N qual scope f cd A outer s₀ H₀ E) E:=by
 intro pins σ H s a C dx I SG hHa hE
 let env:=envOfC qual scope s₀.heap.objs.size f cd
 have hf:env.frame=some s₀.heap.objs.size:=rfl;have SI:s₀.heap.objs.size<=a:=SG;obtain⟨⟨t0,hg⟩,_,_⟩:=I.hok a _ hHa;have hst:=I.stack
 have nfa:a∉ia (env::outer):=λhb=>by
  have:=I.iM a hb;rw[this]at hHa;cases hHa
 let hid:=a::ia (env::outer)
 have hBs:(hideAll s.heap hid).StaysIn s.heap:=λb o q=>of_hideAll _ q
 have hin:∀v∈(env::outer),∀b,v.frame=some b->b∈hid:=λv hv b hb=>aal _ (aa6.mpr ⟨v,hv,hb⟩)
 have hFF:s.heap.FunFrames (hideAll s.heap hid) (env::outer):=ab4 hst hin;have hBa:(hideAll s.heap hid).get? a=none:=acq _ aae;show wpAny _ _ (leaving env (.ref a)) _ _ _;have lib:=wpAny_leaving_firstW (M:=model P w) (A:=(j8 (eh P w) P w K mg base N qual scope f cd A outer s₀ H₀ E).A) (E:=λ_ _=>False) (s:=s) (Q:=λ_ s'=>∃h',s'={s with heap:=h'}/\Heap.LeftW (hideAll s.heap hid) (env::outer) a (.ref C) (.ref t0) s.heap h') (I.ok.frames) hFF hf hg hBs hBa rfl rfl rfl λh' L=>⟨h',rfl,L⟩
 refine aat (dD (jF env (.ref a)) lib) (λ_ s' z=>?_) λ_ _ z=>z.elim
 obtain⟨⟨h2,rfl,k1,⟨_,_,k2⟩,k3,x4⟩,dk⟩:=z
 have ni:∀b o,s₀.heap.get? b=some o->b∉ia outer->b∉hid:=λb o q nb hb=>by
  rcases aaB.mp hb with z | z
  ·exact absurd (aad q) (by rw[z];exact Nat.not_lt.mpr SI)
  ·rcases (aU hf).mp z with z | z
   ·exact absurd (aad q) (by rw[z];exact aaG _)
   ·exact nb z
 refine⟨a,C,t0,del H a,_,dx,rfl,I.os,I.bare,⟨λb o q n nb=>?_,λb o q nb=>?_,λb o q hb=>?_,λb o q n=>?_,λb xs q=>?_,λb o u q=>?_,λb ps q=>?_,λb u q=>?_,⟨k1,hBa,k2,k3⟩⟩,eU.dk ⟨_,hg,rfl,λ_=>⟨_,rfl,rfl⟩⟩ dk,hE⟩
 ·exact aaV _ (I.base.keep b o q n nb (by intro z;cases z)) (ni b o q nb)
 ·obtain⟨o',q'⟩:=I.base.there b o q (by intro z;cases z);exact⟨o',aaV _ q' (ni b o q nb)⟩
 ·obtain⟨sl,q'⟩:=I.base.slot b o q (I.ok.frf b hb) hb (by intro z;cases z);obtain⟨_,o',ho',hn⟩:=hst.mem ((aU hf).mpr (.inr hb));rw[q']at ho';have e1:=aaq ho';obtain⟨sl',q2⟩:=x4 b _ q' (by rw[e1];exact hn);exact⟨sl',q2⟩
 ·have:=I.base.free b o q n (by intro z;cases z);unfold del;split
  ·rfl
  ·exact this
 ·have:=I.base.tups b xs q;rw[dM (aX this hHa (by intro z;cases z))];exact this
 ·have:=I.base.eQ b o u q;rw[dM (aX this hHa (by intro z;cases z))];exact this
 ·obtain⟨m1,e1⟩:=I.base.tbls b ps q;exact⟨m1,by rw[dM (aX e1 hHa (by intro z;cases z))];exact e1⟩
 ·have hba:b≠a:=λz=>by subst z;rw[vX]at q;cases q
  rw[dM hba]at q
  have nf:∀c v,H c=some v->c≠a->c∉hid:=λc v q' hca hb=>by
   rcases aaB.mp hb with z | z
   ·exact hca z
   ·have:=I.iM c z;rw[this]at q';cases q'
  have no:∀c,H c=some (.own b)->c≠a:=λc q'=>aX q' hHa (by intro z;cases z)
  refine(I.hok b u q).m4 (λc v hc q'=>aaV _ q' ?_) (λc q'=>by rw[dM (no c q')];exact q') λc xs q'=>by rw[dM (aX q' hHa (by intro z;cases z))];exact q'
  rcases hc with z | z
  ·rw[z];exact nf b u q hba
  ·exact nf c _ z (no c z)
theorem ug:Rz (j8 (eh P w) P w K mg base N qual scope f cd A outer s₀ H₀ E) E:=by
 intro pins σ H s h' e C vs I hx hE
 let env:=envOfC qual scope s₀.heap.objs.size f cd
 have hf:env.frame=some s₀.heap.objs.size:=rfl;have hst:=I.stack;have hin:∀v∈(env::outer),∀b,v.frame=some b->b∈ia (env::outer):=λv hv b hb=>aa6.mpr ⟨v,hv,hb⟩
 have hBs:(hideAll s.heap (ia (env::outer))).StaysIn s.heap:=λb o q=>of_hideAll _ q
 have hFF:s.heap.FunFrames (hideAll s.heap (ia (env::outer))) (env::outer):=ab4 hst hin;obtain⟨tx,hxt,_⟩:=hx.there;show wpAny _ _ (leaving env (.ref e)) _ _ _;have lib:=wpAny_leaves_madeW (M:=model P w) (A:=(j8 (eh P w) P w K mg base N qual scope f cd A outer s₀ H₀ E).A) (E:=λ_ _=>False) (s:={s with heap:=h'})
  (Q:=λ_ s'=>∃h2 t,s'={s with heap:=h2}/\Heap.FlyingW (hideAll s.heap (ia (env::outer))) outer e (.ref C) (.ref t) h2/\h'.UpToSlots h2) (I.ok.frames) hf hBs hFF hx λh2 t x1 _ _ x4=>⟨h2,t,rfl,x1,x4⟩
 refine aat (dD (jF env (.ref e)) lib) (λ_ s' z=>?_) λ_ _ z=>z.elim
 obtain⟨⟨h2,t,rfl,x1,x4⟩,dk⟩:=z
 have ni:∀b o,s₀.heap.get? b=some o->b∉ia outer->b∉ia (env::outer):=λb o q nb hb=>by
  rcases (aU hf).mp hb with z | z
  ·exact absurd (aad q) (by rw[z];exact aaG _)
  ·exact nb z
 refine⟨e,C,t,H,_,none,rfl,I.os,I.bare,⟨λb o q n nb=>?_,λb o q nb=>?_,λb o q hb=>?_,λb o q n=>I.base.free b o q n (by intro z;cases z),I.base.tups,I.base.eQ,I.base.tbls,λb u q=>?_,x1⟩,eU.dk ⟨_,hxt,rfl,λ_=>⟨_,rfl,rfl⟩⟩ dk,hE⟩
 ·exact aaV _ (I.base.keep b o q n nb (by intro z;cases z)) (ni b o q nb)
 ·obtain⟨o',q'⟩:=I.base.there b o q (by intro z;cases z);exact⟨o',aaV _ q' (ni b o q nb)⟩
 ·obtain⟨sl,q'⟩:=I.base.slot b o q (I.ok.frf b hb) hb (by intro z;cases z);obtain⟨_,o',ho',hn⟩:=hst.mem ((aU hf).mpr (.inr hb));rw[q']at ho';have e1:=aaq ho';obtain⟨sl',q2⟩:=x4 b _ (hx.keeps b _ q') (by rw[e1];exact hn);exact⟨sl',q2⟩
 ·have nf:∀c v,H c=some v->c∉ia (env::outer):=λc v q hb=>by
   have:=I.iM c hb;rw[this]at q;cases q
  refine(I.hok b u q).m4 (λc v hc q'=>aaV _ q' ?_) (λ_ q'=>q') λ_ _ q'=>q'
  rcases hc with z | z
  ·rw[z];exact nf b u q
  ·exact nf c _ z
theorem bX:Passes (eh P w) (j8 (eh P w) P w K mg base N qual scope f cd A outer s₀ H₀ E) E:=by
 intro pins σ H s e s' I hc;obtain⟨a,C,t,H',B,dd,rfl,ho,hb,F,hdd,hE⟩:=hc
 let env:=envOfC qual scope s₀.heap.objs.size f cd
 have hf:env.frame=some s₀.heap.objs.size:=rfl;have F':Ke P w (env::outer) H H' s.heap B a (.ref C) (.ref t) s'.heap:=F;show wpAny _ _ (leaving env (.ref a)) _ _ _;have lib:=wpAny_leaves_onW (M:=model P w) (A:=(j8 (eh P w) P w K mg base N qual scope f cd A outer s₀ H₀ E).A) (E:=λ_ _=>False) (s:=s')
  (Q:=λ_ s2=>∃h2,s2={s' with heap:=h2}/\Heap.FlyingW B outer a (.ref C) (.ref t) h2/\s'.heap.UpToSlots h2) (I.ok.frames) hf F'.fly λh2 x1 x4=>⟨h2,rfl,x1,x4⟩
 refine aat (dD (jF env (.ref a)) lib) (λ_ s2 z=>?_) λ_ _ z=>z.elim
 obtain⟨⟨h2,rfl,x1,x4⟩,dk⟩:=z
 have ni:∀b o,s₀.heap.get? b=some o->b∉ia outer->b∉ia (env::outer):=λb o q nb hb=>by
  rcases (aU hf).mp hb with z | z
  ·exact absurd (aad q) (by rw[z];exact aaG _)
  ·exact nb z
 refine⟨a,C,t,H',B,dd,rfl,ho.trans I.os,hb,⟨λb o q n nb=>?_,λb o q nb=>?_,λb o q hb=>?_,λb o q n=>?_,λb xs q=>F'.tups b xs (I.base.tups b xs q),λb o u q=>F'.eQ b o u (I.base.eQ b o u q),λb ps q=>?_,F'.hok,x1⟩,hdd.dk dk,hE⟩
 ·exact F'.keep b o (I.base.keep b o q n nb (by intro z;cases z)) (I.base.free b o q n (by intro z;cases z)) (ni b o q nb)
 ·obtain⟨o',q'⟩:=I.base.there b o q (by intro z;cases z);exact F'.there b o' q' (ni b o q nb)
 ·obtain⟨sl,q'⟩:=I.base.slot b o q (I.ok.frf b hb) hb (by intro z;cases z);obtain⟨Le,q2⟩:=F'.slot b _ q' ((aU hf).mpr (.inr hb));obtain⟨_,o',ho',hn⟩:=F'.fly.2.2.1.mem ((aU hf).mpr (.inr hb));rw[q2]at ho';have e1:=aaq ho';obtain⟨sl',q3⟩:=x4 b _ q2 (by rw[e1];exact hn);exact⟨sl',q3⟩
 ·obtain⟨o',q'⟩:=I.base.there b o q (by intro z;cases z);exact F'.free b o' q' (I.base.free b o q n (by intro z;cases z))
 ·obtain⟨m1,e1⟩:=I.base.tbls b ps q;obtain⟨m2,e2⟩:=F'.tbls b _ e1;exact⟨m1++m2,by rw[e2,Array.append_assoc]⟩
theorem jj.Di{x qual:Str}{st:Stmt}{f:Addr}{fd:FuncData}{N ps:List Str}{k:Nat}{sp:Sp}(F:jj K x qual st f fd)(S:aO N ps (dS st))(len:∀vs H Q E,sp vs H Q E->vs.length=ps.length)
  (hbody:∀(cdv:Value) (A:Around) (outer:List Env) (s:Shared) (H:Hp) (vs:List V) (Q:VK) (E:XK),cg k (A.deeper (envOfC qual (dS st) s.heap.objs.size f cdv))->sp vs H Q E ->
   ∃t,pV (j8 (eh P w) P w K mg base N qual (dS st) f cdv A outer s H E) (dB st) t/\t {nx:=λ_ H'=>Q .non H',rt:=Q} (start N vs) H):bJ P w K mg base (eh P w) (k + 1) f fd ps sp:=by
 obtain⟨oc,od,kV,doc,pm,an,cdv,ct,osl,rfl,lk,hcd⟩:=F.ex;exact J5 lk hcd S len λA outer s H vs Q E hr hsp=>hbody cdv A outer s H vs Q E hr hsp
end
theorem Dj{X:Cx}{x:Str}{k:Nat}{ps:List Str}{sp:Sp}{e:Expr}{es:List Expr}{t:TA}{p pos:Pos}{E:XK}(h:ic X.prog X.w X.K X.mg X.base (eh X.prog X.w) x k ps sp)(hx:Passes (eh X.prog X.w) X E)(hr:cg k X.A)(hg:Gl X x)(ha:PA X (e::es) t)(hdb:(x == ("__debug__" : Str))=false:=by decide)
  (he:starEach (e::es) X.env=(false,eval e X.env)::starEach es X.env:=by rfl) (hpl:(backTo pos (starEach es X.env)).any (·.1)=false:=by rfl) :
  PE X (.Call (.Name x p) (e::es) [] pos) (vH sp [] E t):=by
 obtain⟨f,fd,F,b,kp,m⟩:=h.ex;exact zB F hr hg m kp b .nil hx ha hdb he hpl
theorem LD{P:Program}{w:World}{X:Cx}:Passes (eh P w) X E0:=λ_ _ _ _ _ _ _ ⟨_,_,_,_,_,_,_,_,_,_,_,h⟩=>h.elim
section
variable {M:Model} {A:Around} {E:Value->Shared->Prop} {env:Env} {nm qn:Str} {C Nc:Addr} {bs bm:List Value} {hdct:Bool} {sn:List Str} {sub:List Value} {ab:Bool} {col:Option Bool} {dd:Option Addr} {k0 k1 k2 k3 k5:Option Value} {newId:String}
theorem A2{s:Shared}{x:Sem Value}{Q:Flow->Shared->Prop}(hb:bm.contains (.type "BaseException")=true)(hh:A.handled=none)
  (h:wpAny M A x (λv s1=>∃e t0 dx,v=.ref e/\s1.heap.get? C=some (excClassObj nm qn C Nc bs bm hdct sn sub ab col dd k0 k1 k2 k3 k5 newId) /\
   s1.heap.get? e=some {cls:=.ref C,dict:=dx,data:=.fields #[.ref t0,.none,.none,.none,.bool false,.none]}/\E (.ref e) s1) E s):wpAny M A (raiseStmt env (some x) none) Q E s:=by
 have hB:(Value.ref C::bm).contains (.type "BaseException")=true:=by rw[ab7,hb,acM]
 unfold raiseStmt;refine wpAny_bind (wpAny_mono h (λv s1 z=>?_) λ_ _ z=>z);obtain⟨e,t0,dx,rfl,gC,ge,hE⟩:=z;obtain⟨hp,g,d,tk,os⟩:=s1
 repeat (first | with_reducible refine aaF ge ?_ | (with_reducible refine ab1 gC ?_;rw[hB]) | with_reducible refine aaF gC ?_ | wp_step)
 exact wpAny_raiseNew_none hh hE
end
def Hc(C:Addr)(fs:List Str)(E:XK)(t:TA):TS:=λ_ σ H=>t σ H λvs H1=>vs.length=fs.length/\∀dx H2,H1 dx=none->aS H1 H2->H2 dx=some (.ext (XD dx (fs.zip vs)))->E (.ref C) (some dx) H2
section
variable {X:Cx} {C:Addr} {fs:List Str} {x:Str} {np cpos pos:Pos} {e:Expr} {es:List Expr} {t:TA} {E:XK}
theorem A4(hz:VF X E)(M:AY X.prog X.w X.K X.mg X.base C fs)(hr:cg 2 X.A)(hg:Gl X x)(hm:X.mg x=some (.ref C))(hc:X.calm=true)(ha:PA X (e::es) t)(hdb:(x == ("__debug__" : Str))=false:=by decide)
  (he:starEach (e::es) X.env=(false,eval e X.env)::starEach es X.env:=by rfl) (hpl:(backTo cpos (starEach es X.env)).any (·.1)=false:=by rfl) :
  PS X (.Raise (some (.Call (.Name x np) (e::es) [] cpos)) none pos) (Hc C fs E t):=by
 intro pins s σ H D I h;obtain⟨f,fd,M',F',b⟩:=M.ini;obtain⟨bx,hbx⟩:=M'.ex;obtain⟨bm,N,nm,qn,bs,sn,sub,ab,col,dd,k0,k1,k2,k3,k5,mN,hC,hn,T,_⟩:=mm I.mod.kin hbx;rw[arm_exec_Raise];refine aac (aba (A2 (C:=C) (nm:=nm) (qn:=qn) (Nc:=N) (bs:=bs) (bm:=bm) (hdct:=true) (sn:=sn) (sub:=sub) (ab:=ab) (col:=col) (dd:=dd) (k0:=k0) (k1:=k1) (k2:=k2) (k3:=k3) (k5:=k5) (newId:=vS bx) (T.hasType (X:="BaseException") (b:=true) (qh bx)) (I.ok.hd hc) ?_));refine aac (aat (?_:wpAny (model X.prog X.w) X.A (eval (.Call (.Name x np) (e::es) [] cpos) X.env) _ X.xe s) (λv s1 z=>aac (aba (aag z))) λ_ _ z=>z);refine aaX (fM I hg hm ?_ hdb);refine aaY (h₀:=X.base) I.ok.mod.kin M'.kp (bF (ha cpos pins s σ H _ I h) λus s1 ⟨vs,H1,I1,r,hl,q⟩=>⟨I1.iL,?_⟩) he hpl;refine aat (sQ (dvs:=[]) M' F' hr.low b .nil qb I1 r (by rw[hl,abB];have:=M.le;omega) (Q:=λv H2=>∃a dx,v=.ref a/\s1.heap.objs.size<=a/\H2 a=some (.ext (XP C a (some dx)))/\E (.ref C) (some dx) (del H2 a)) λa hsz hn'=>⟨a,C,vs++[],rfl,by rw[aaL];exact hl,M.s,M.no,uS,λdx hd hda=>⟨rfl,a,dx,rfl,hsz,uS,?_⟩⟩) (λu s' z=>?_) λ_ _ z=>z
 ·rw[uN hda]at hd;refine q dx _ hd (λc o z=>?_) ?_
  ·rw[dM (nN z hn'),uN (nN z hn'),uN (nN z hd),uN (nN z hn')];exact z
  ·rw[dM hda,uN hda,uS,aaL]
 ·obtain⟨v,H2,I2,rv,a,dx,rfl,hsz,hHa,hE⟩:=z;cases rv;obtain⟨⟨t0,g0⟩,_,_⟩:=I2.hok a _ hHa;exact⟨a,t0,_,rfl,I2.bk _ _ hC,g0,hz pins σ H2 s' a C (some dx) I2 (aaA I1.sz hsz) hHa hE⟩
end
def Oo(C a:Addr)(dd:Option Addr):Heap->Prop:=λh=>∃o vs,h.get? a=some o/\o.cls=.ref C/\o.data=.fields vs/\o.dict=dd
theorem Dl{C a dx:Addr}(h:Heap)(p:Oo C a (some dx) h):XG C a dx h:=let ⟨o,vs,q1,q2,q3,q4⟩:=p;⟨o,vs,q1,q2,q4,q3⟩
section
variable {X:Cx} {CW:Addr} {cx n:Str} {i:Nat} {b₀:Stmt} {suite:List Stmt} {np hpos pos:Pos} {tb:TS}
end
def ie(M:Model)(A:Around)(E:Value->Shared->Prop)(Q:Value->Shared->Prop)(acc:Value)(cenv:Env):Result->Shared->Prop:=λr s'=>∃m,s'.heap.Ns cenv.locals m/\∀h',Heap.SameBut cenv.locals s'.heap h' ->
 match r with
 | .ok _=>Q acc {s' with heap:=h'}
 | .error x=>wpAny M A (PySem.passOn "comprehension.variables-let-go" x cenv:Sem Value) (λ_ _=>False) E {s' with heap:=h'}
theorem A5{M:Model}{A:Around}{E:Value->Shared->Prop}{s:Shared}{env:Env}{e:Expr}{scope:Scope}{pos:Pos}{newAcc first:Sem Value}{g:Comprehension}{gs:List Comprehension}{cl:List (Str×Addr)}{Q:Value->Shared->Prop}
  (hcl:clausesOf e=g::gs) (hs:∀x,foldedSetIterable g.iter env x=pure x) (hclos:closureFor scope env=pure cl) (hkind:scope.kind=.function) (hnames:∀x∈scope.names,x.2=NameKind.local->scope.names.lookup x.1=some .local)
  (h:wpAny M A first (λx s₁=>wpAny M A (pyIter x) (λit s₂=>wpAny M A newAcc (λacc s₃=>wpAny M A (newFunctionEnv scope env.globals cl [] env.qual none .none (some env)) (λcenv s₄ =>
   codeAny M A (.compStart e 0 it acc {cenv with scope:=relabel scope env}) (ie M A E Q acc {cenv with scope:=relabel scope env}) s₄) E s₃) E s₂) E s₁) E s) :
  wpAny M A (comprehension e scope env pos newAcc false first none) Q E s:=by
 unfold comprehension;rw[hclos,hcl];refine wpAny_bind (wpAny_mono h (λx s₁ h₁=>?_) λ_ _ z=>z);refine wpAny_bind (wpAny_standAt (wpAny_bind (wpAny_of_eq (hs x) (wpAny_bind (wpAny_holding (wpAny_mono h₁ (λit s₂ h₂=>?_) λ_ _ z=>z))))));refine wpAny_standIf (wpAny_bind (wpAny_mono h₂ (λacc s₃ h₃=>wpAny_bind (wpAny_pure (wpAny_bind (wpAny_mono h₃ (λcenv s₄ h₄=>?_) λ_ _ z=>z)))) λ_ _ z=>z))
 have hv:∀x∈(scope.names.filter λ(n,k)=>(k == NameKind.local||k == NameKind.cell)&&n != Str.ofString ".0").reverse,x.2=NameKind.local->(relabel scope env).names.lookup x.1=some .local:=λx hx hl =>
  lookup_relabel_local (hnames x (List.mem_filter.mp (List.mem_reverse.mp hx)).1 hl)
 refine aaP (aac (wpAny_attempt (aaP (wpAny_run (abw h₄ λr s' hr=>?_)))));obtain⟨m,hn,hr⟩:=hr
 cases r with
 | ok f=>exact aac (aaP (wpAny_comp_letGo hkind _ _ m hv hn λh' m' _ sb=>aag (hr h' sb)))
 | error x =>
  refine aac (aaP (wpAny_comp_letGo hkind _ _ m hv hn λh' m' _ sb=>?_));exact aat (hr h' sb) (λ_ _ z=>z.elim) λ_ _ z=>z
structure jZ(h:Heap)(a C t T L:Addr):Prop where
 ne:T≠a
 ex:∃oe vs oT ts,h.get? a=some oe/\oe.cls=.ref C/\vs[0]?=some (.ref t)/\oe.data=.fields vs/\vs[1]?=some (.ref T)/\h.get? T=some oT/\oT.data=.fields ts/\ts[3]?=some (rawInt L)
theorem jZ.of{B:Heap}{l:List Env}{a C t L:Addr}{h:Heap}(x:B.HeldW l a (.ref C) (.ref t) L h):∃T,jZ h a C t T L/\B.get? T=none:=by
 obtain⟨_,_,_,oe,vs,T,oT,ts,h1,⟨h2,h3⟩,h4,h5,h6,h7,h8,h9,Xr⟩:=x;exact⟨T,⟨h7,oe,vs,oT,ts,h1,h2,h3,h4,h5,h8,h9,Xr⟩,h6⟩
theorem jZ.eq{h h':Heap}{a C t T L:Addr}(x:jZ h a C t T L)(ha:h'.get? a=h.get? a)(hT:h'.get? T=h.get? T):jZ h' a C t T L:=by
 obtain⟨n,oe,vs,oT,ts,h1,h2,h3,h4,h5,h6,h7,h8⟩:=x;exact⟨n,oe,vs,oT,ts,ha.trans h1,h2,h3,h4,h5,hT.trans h6,h7,h8⟩
theorem jZ.held{h:Heap}{a C t T L:Addr}{l:List Env}{base:Heap}(x:jZ h a C t T L)(st:h.FunFrames base l){hid:List Addr}(h1:a∈hid)(h2:T∈hid)(h3:∀v∈l,∀b,v.frame=some b->b∈hid):(hideAll h hid).HeldW l a (.ref C) (.ref t) L h:=by
 obtain⟨n,oe,vs,oT,ts,e1,e2,e3,e4,e5,e6,e7,e8⟩:=x;exact⟨λb o q=>of_hideAll _ q,acq _ h1,ab4 st h3,oe,vs,T,oT,ts,e1,⟨e2,e3⟩,e4,e5,acq _ h2,n,e6,e7,e8⟩
def kl(X:Cx)(E:XK):Prop:=∀(pins:List (Addr×Obj)) (σ:St) (H:Hp) (s:Shared) (a C t T:Addr) (dd:Option Addr),Inv X pins σ H s->jZ s.heap a C t T X.env.locals->eU s.heap a dd->H a=none->H T=none->X.s₀.heap.get? a=none->X.s₀.heap.get? T=none->E (.ref C) dd H->X.xe (.ref a) s
theorem A6{M:Model}{A:Around}{E:Value->Shared->Prop}{s:Shared}{env:Env}{a C t T L:Addr}{Q:Unit->Shared->Prop}(hf:env.frame=some L)(x:jZ s.heap a C t T L)(q:Q () s):wpAny M A (noteFrame (.ref a) env) Q E s:=by
 obtain⟨n,oe,vs,oT,ts,e1,e2,e3,e4,e5,e6,e7,e8⟩:=x;unfold noteFrame;rw[hf];refine wpAny_bind (wpAny_field e1 e4 e5 ?_);rw[if_pos (by rfl)];refine wpAny_bind (wpAny_field e6 e7 e8 ?_);rw[if_pos (by simp)];exact wpAny_pure q
section
variable {P:Program} {w:World} {K:aJ} {mg:Str->Option Value} {base:Heap} {N:List Str} {qual:Str} {scope:Scope} {f:Addr} {cd:Value} {A:Around} {outer:List Env} {s₀:Shared} {H₀:Hp} {E:XK}
theorem km:kl (j8 (eh P w) P w K mg base N qual scope f cd A outer s₀ H₀ E) E:=by
 intro pins σ H s a C t T dd I hx hdd hHa hHT h0a h0T hE
 let env:=envOfC qual scope s₀.heap.objs.size f cd
 have hf:env.frame=some s₀.heap.objs.size:=rfl;have hst:=I.stack
 let hid:=a::T::ia (env::outer)
 have hin:∀v∈(env::outer),∀b,v.frame=some b->b∈hid:=λv hv b hb=>aal _ (aal _ (aa6.mpr ⟨v,hv,hb⟩))
 have held:(hideAll s.heap hid).HeldW (env::outer) a (.ref C) (.ref t) s₀.heap.objs.size s.heap:=hx.held hst aae (aal _ aae) hin;show wpAny _ _ (leaving env (.ref a)) _ _ _
 have lib:wpAny (model P w) (j8 (eh P w) P w K mg base N qual scope f cd A outer s₀ H₀ E).A (leaving env (.ref a)) (λ_ s'=>∃h',s'={s with heap:=h'}/\(hideAll s.heap hid).FlyingW (env::outer) a (.ref C) (.ref t) h'/\s.heap.UpToSlots h') (λ_ _=>False) s:=by
  unfold leaving;refine wpAny_bind (A6 hf hx ?_);exact wpAny_landsW held λh' x1 x2=>⟨h',rfl,x1,x2⟩
 refine aat (dD (jF env (.ref a)) lib) (λ_ s' z=>?_) λ_ _ z=>z.elim
 obtain⟨⟨h2,rfl,k1,x4⟩,dk⟩:=z
 have fl:(hideAll s.heap hid).FlyingW outer a (.ref C) (.ref t) h2:=by
  obtain⟨y1,y2,y3,y4⟩:=k1;rw[Heap.FunFrames.eq_2]at y3;exact⟨y1,y2,y3.2.2,y4⟩
 have ni:∀b o,s₀.heap.get? b=some o->b∉ia outer->b∉hid:=λb o q nb hb=>by
  rcases aaB.mp hb with z | hb
  ·rw[z]at q;have z:=h0a.symm.trans q;cases z
  rcases aaB.mp hb with z | z
  ·rw[z]at q;have z:=h0T.symm.trans q;cases z
  ·rcases (aU hf).mp z with z | z
   ·exact absurd (aad q) (by rw[z];exact aaG _)
   ·exact nb z
 refine⟨a,C,t,H,_,dd,rfl,I.os,I.bare,⟨λb o q n nb=>?_,λb o q nb=>?_,λb o q hb=>?_,λb o q n=>I.base.free b o q n (by intro z;cases z),I.base.tups,I.base.eQ,I.base.tbls,λb u q=>?_,fl⟩,hdd.dk dk,hE⟩
 ·exact aaV _ (I.base.keep b o q n nb (by intro z;cases z)) (ni b o q nb)
 ·obtain⟨o',q'⟩:=I.base.there b o q (by intro z;cases z);exact⟨o',aaV _ q' (ni b o q nb)⟩
 ·obtain⟨sl,q'⟩:=I.base.slot b o q (I.ok.frf b hb) hb (by intro z;cases z);obtain⟨_,o',ho',hn⟩:=hst.mem ((aU hf).mpr (.inr hb));rw[q']at ho';have e1:=aaq ho';obtain⟨sl',q2⟩:=x4 b _ q' (by rw[e1];exact hn);exact⟨sl',q2⟩
 ·have nf:∀c v,H c=some v->c∉hid:=λc v q hb=>by
   rcases aaB.mp hb with z | hb
   ·rw[z,hHa]at q;cases q
   rcases aaB.mp hb with z | z
   ·rw[z,hHT]at q;cases q
   ·have:=I.iM c z;rw[this]at q;cases q
  refine(I.hok b u q).m4 (λc v hc q'=>aaV _ q' ?_) (λ_ q'=>q') λ_ _ q'=>q'
  rcases hc with z | z
  ·rw[z];exact nf b u q
  ·exact nf c _ z
end
theorem vY{M:Model}{A:Around}{E:Value->Shared->Prop}{s:Shared}{env:Env}{a C t T L:Addr}{what:String}{Q:Value->Shared->Prop}(hf:env.frame=some L)(x:jZ s.heap a C t T L)
  (q:∀h',(∀b,h'.get? b=s.heap.get? b)->E (.ref a) {s with heap:=h'}):wpAny M A (PySem.passOn what (.ref a) env:Sem Value) Q E s:=by
 obtain⟨n,oe,vs,oT,ts,e1,e2,e3,e4,e5,e6,e7,e8⟩:=x;unfold PySem.passOn;refine wpAny_bind (wpAny_field e1 e4 e5 ?_);rw[if_neg (by intro z;cases z)];unfold setFlight;refine wpAny_bind (wpAny_bind (wpAny_field e1 e4 e5 ?_));rw[if_pos (by rfl),hf]
 have hs:3 < ts.size:=by
  rcases Nat.lt_or_ge 3 ts.size with z | z
  ·exact z
  ·rw[Array.getElem?_eq_none z]at e8;cases e8
 refine wpAny_setField e6 e7 hs ?_;refine wpAny_throw (q _ λb=>?_);exact abb (λh=>Heap.get? h b) (Heap.update_setField_same _ _ _ _ _ _ e6 e7 e8)
theorem kc.has{P:Program}{w:World}{H:Hp}{B:Heap}{a:Addr}(k:kc P w H B)(z:B.get? a=none):H a=none:=by
 cases q:H a with
 | none=>rfl
 | some u =>
  have e:∃o,B.get? a=some o:=by
   have ok:=k a u q
   cases u with
   | lst xs=>obtain⟨_,_,_,_,e⟩:=ok;exact⟨_,e⟩
   | tup xs=>obtain⟨_,_,_,o,e,_⟩:=ok;exact⟨_,e⟩
   | dK kvs=>obtain⟨_,_,_,_,o,_,_,e,_⟩:=ok;exact⟨_,e⟩
   | dT kvs=>obtain⟨_,_,_,_,o,_,_,e,_⟩:=ok;exact⟨_,e⟩
   | set S n=>obtain⟨o,_,_,_,e,_⟩:=ok;exact⟨_,e⟩
   | ins C dx fs=>obtain⟨_,_,_,e,_⟩:=ok;exact⟨_,e⟩
   | own y=>exact ok
   | xd fs=>obtain⟨_,⟨o,_,_,e,_⟩,_⟩:=ok;exact⟨_,e⟩
   | rng lo hi=>obtain⟨_,_,_,e⟩:=ok;exact⟨_,e⟩
   | lj ob u=>obtain⟨e,_⟩:=ok;exact⟨_,e⟩
   | tbl ps=>exact⟨_,ok⟩
   | met f y=>exact⟨_,ok⟩
   | ext φ=>obtain⟨_,e,_⟩:=ok;exact e
  obtain⟨o,e⟩:=e;rw[z]at e;cases e
theorem Ke.VG{P:Program}{w:World}{fs:List Env}{H H':Hp}{h0 B h h':Heap}{a:Addr}{cls a0:Value}(F:Ke P w fs H H' h0 B a cls a0 h)(st:B.StaysIn h')(u:h.UpToSlots h'):Un (ia fs) [] H H' h0 h' where
 keep:=λb o e n hb _=>st b o (F.keep b o e n hb)
 slot:=λb o e _ hb _=>by
  obtain⟨sl,q⟩:=F.slot b o e hb;obtain⟨_,o',ho',hn⟩:=F.fly.2.2.1.mem hb;rw[q]at ho';have e1:=aaq ho';obtain⟨sl',q'⟩:=u b _ q (by rw[e1];exact hn);exact⟨sl',q'⟩
 free:=λb o e n _=>F.free b o e n
 there:=λb o e _=>by
  by_cases hb:b∈ia fs
  ·obtain⟨sl,q⟩:=F.slot b o e hb;obtain⟨_,o',ho',hn⟩:=F.fly.2.2.1.mem hb;rw[q]at ho';have e1:=aaq ho';obtain⟨sl',q'⟩:=u b _ q (by rw[e1];exact hn);exact⟨_,q'⟩
  ·obtain⟨o',q⟩:=F.there b o e hb;exact⟨o',st b o' q⟩
 tups:=F.tups
 eQ:=F.eQ
 tbls:=F.tbls
section
variable {X:Cx} {pins:List (Addr×Obj)} {σ:St} {H:Hp} {s:Shared} {own:Nat} {N:List Str} {ix:List Nat} {scope:Scope} {E:XK}
theorem Dm{C:Addr}{fp:List Addr}{Q:Value->Shared->Prop}{acc:Value}{cl:List (Str×Addr)}(I:Inv X pins σ H s)(hx:∀b∈fp,j7 X pins H b)(hst:X.stack=X.env::X.outer)(hf:X.env.frame=some X.env.locals)(hex:X.ex=[])(hp:kl X E)
  (hL:C≠X.env.locals) (hsz:X.s₀.heap.objs.size<=C) (hce:∀x c,X.env.cells.lookup x=some c->c≠C) (hpi:∀p∈X.pn++pins,p.1≠C) (hnf:C∉ia X.stack)
  {pinsb:List (Addr×Obj)} {σb:St} {Hb:Hp} {sb s1:Shared} {e:Value} (Ib:Inv (X.iO N scope C fp s H) pinsb σb Hb sb) (hc:eh X.prog X.w X.stack Hb sb E e s1) :
  notedBy (model X.prog X.w) X.A (compEnvC scope cl C X.env) (λx s'=>ie (model X.prog X.w) X.A X.xe Q acc (compEnvC scope cl C X.env) (.error x) s') e s1:=by
 obtain⟨a,Cc,t,H',B,dd,rfl,ho,hb,F,hdd,hE⟩:=hc;have hfr:X.A.frames=some (X.env::X.outer):=by rw[← hst];exact I.ok.frames
 rw[hst]at F;have hnf':C∉ia (X.env::X.outer):=by rw[← hst];exact hnf
 unfold notedBy;show wpAny _ X.A (noteFrame (.ref a) X.env) _ _ s1;have lib:=wpAny_looks_onW (M:=model X.prog X.w) (A:=X.A) (E:=λx s'=>ie (model X.prog X.w) X.A X.xe Q acc (compEnvC scope cl C X.env) (.error x) s') (s:=s1) (Q:=λ_ s'=>∃h4,s'={s1 with heap:=h4}/\Heap.HeldW B (X.env::X.outer) a (.ref Cc) (.ref t) X.env.locals h4/\s1.heap.UpToSlots h4) hfr hf F.fly λh4 j0 LF=>⟨h4,rfl,j0,LF⟩
 refine aat (dD (pM (.ref a) X.env) lib) (λ_ s4 z4=>?_) λ_ _ z=>z
 obtain⟨⟨h4,rfl,j0,LF⟩,SJ⟩:=z4;have SK:eU h4 a dd:=hdd.dk SJ
 have RB:Inv (X.iO N scope C fp s H) pinsb σb H' {s1 with heap:=h4}:=by
  refine Ib.zp (ch:=[]) ho ?_ (F.hok.kept j0.1) hb (λb z=>nomatch z);show Un (ia X.stack) [] Hb H' sb.heap h4;rw[hst];exact F.VG j0.1 LF
 have I4:Inv X pins σ H' {s1 with heap:=h4}:=I.zp (ch:=fp) RB.os RB.base RB.hok RB.bare λb hb=>⟨(hx b hb).2.2.2.1,(hx b hb).2.1,(hx b hb).2.2.2.2.1,(hx b hb).2.2.2.2.2⟩
 obtain⟨m,hm,_⟩:=Ib.loc;have hm:sb.heap.Ns C m:=hm;obtain⟨oC,es,ep,hgC,hdC,hr⟩:=hm;have hHC:Hb C=none:=Ib.free;have hBC:B.get? C=some oC:=F.keep C oC hgC hHC hnf';have Xs:h4.Ns C m:=⟨oC,es,ep,j0.1 C oC hBC,hdC,hr⟩;have hC':H' C=none:=F.free C oC hgC hHC;obtain⟨T,hX,hBT⟩:=jZ.of j0;have hBa:B.get? a=none:=j0.2.1;have haC:a≠C:=λz=>by rw[z,hBC]at hBa;cases hBa
 have hTC:T≠C:=λz=>by rw[z,hBC]at hBT;cases hBT
 have Pt:∀b,B.get? b=none->b∉ia (X.env::X.outer)->X.s₀.heap.get? b=none:=λb hB hn=>by
  cases e:X.s₀.heap.get? b with
  | none=>rfl
  | some o =>
   obtain⟨o1,e1⟩:=I.base.there b o e (by rw[hex];exact λz=>nomatch z)
   obtain⟨o2,e2⟩:=Ib.base.there b o1 e1 (λz=>by
    rcases (hx b z).2.2.2.1 with y | y
    ·rw[hex]at y;exact nomatch y
    ·exact absurd (aad e) (Nat.not_lt.mpr y))
   obtain⟨o3,e3⟩:=F.there b o2 e2 hn;rw[hB]at e3;cases e3
 have Pu:∀b o vs,h4.get? b=some o->o.data=.fields vs->b∉ia (X.env::X.outer):=λb o vs e1 e2 hm=>by
  obtain⟨_,o',ho',hn'⟩:=j0.2.2.1.mem hm;rw[e1]at ho';cases ho';exact hn' _ e2
 obtain⟨oe,vs,oT,ts,x1,x2,x3,x4,x5,x6,x7,x8⟩:=hX.ex;refine⟨m,Xs,λh' sb'=>?_⟩;have sb':Heap.SameBut C h4 h':=sb';have I5:Inv X pins σ H' {s1 with heap:=h'}:=I4.turned (t':=s1.toks) (λb o hb e=>(sb'.2 b hb).trans e) hC' hL (.inr hsz) hce hpi;have VH:jZ h' a Cc t T X.env.locals:=hX.eq (sb'.2 a haC) (sb'.2 T hTC);refine vY (L:=X.env.locals) hf VH λh6 RC=>?_
 have I6:Inv X pins σ H' {s1 with heap:=h6}:=I5.kept (t':=s1.toks) λb o e=>(RC b).trans e
 obtain⟨od,gd,qd⟩:=SK;exact hp pins σ H' _ a Cc t T dd I6 (VH.eq (RC a) (RC T)) ⟨od,(RC a).trans ((sb'.2 a haC).trans gd),qd⟩ F.new (kc.has F.hok hBT) (Pt a hBa (Pu a oe vs x1 x4)) (Pt T hBT (Pu T oT ts x6 x7)) hE
end
theorem uh{prog:Program}{w:World}{A:Around}{R:Result->Shared->Prop}{s:Shared}{elt target iter:Expr}{ifs:List Expr}{scope:Scope}{pos:Pos}{it acc:Value}{env:Env}(I:Nat->Shared->Prop)
  (turn:∀n s,I n s->wpAny (model prog w) A (pyNext it) (λr s1=>match r with
   | none=>R (.ok .next) s1
   | some v=>wpAny (model prog w) A (letOwnedTupleGo target it v) (λ_ s1'=>wpAny (model prog w) A (assign target env v) (λ_ s2 =>
     wpAny (model prog w) A (forIn ifs true λc r=>if r=true then do let ok ← isTrue c env (eval c env);pure (ForInStep.yield ok)else pure (ForInStep.yield r)) (λok s3 =>
      if ok=true then wpAny (model prog w) A (eval elt env) (λx s4=>wpAny (model prog w) A (call (.builtin "list.append") [acc,x]) (λ_ s5=>∃m,m < n/\I m s5) (notedBy (model prog w) A env λx s'=>R (.error x) s') s4) (notedBy (model prog w) A env λx s'=>R (.error x) s') s3
      else ∃m,m < n/\I m s3) (notedBy (model prog w) A env λx s'=>R (.error x) s') s2) (notedBy (model prog w) A env λx s'=>R (.error x) s') s1') (notedBy (model prog w) A env λx s'=>R (.error x) s') s1) (notedBy (model prog w) A env λx s'=>R (.error x) s') s)
  (n:Nat) (h:I n s):codeAny (model prog w) A (.compLoop (.ListComp elt [⟨target,iter,ifs,0⟩] scope pos) 0 it acc env) R s:=by
 refine codeAny_loop rfl I (λn s hI=>?_) n h;show wpAny _ A ((compTurn (.ListComp elt [⟨target,iter,ifs,0⟩] scope pos) 0 it acc env).onRaise (λx=>do noteFrame x env;theTreesLotGoes x)) _ _ s;refine wpAny_noted ?_;rw[compTurn_list];refine aac (aba (aac (aat (turn n s hI) (λr s1 h1=>?_) λ_ _ z=>z)))
 cases r with
 | none=>exact aag h1
 | some v =>
  refine aac (aat h1 (λ_ s1' h1'=>?_) λ_ _ z=>z);refine aac (aat h1' (λ_ s2 h2=>aac (aat h2 (λok s3 h3=>?_) λ_ _ z=>z)) λ_ _ z=>z)
  cases ok with
  | false=>exact aag ⟨rfl,h3⟩
  | true=>exact aac (aac (aat h3 (λx s4 h4=>aac (aat h4 (λ_ s5 h5=>aag (aag ⟨rfl,h5⟩)) λ_ _ z=>z)) λ_ _ z=>z))
section
variable {X:Cx} {pins:List (Addr×Obj)} {σ:St} {H:Hp} {s:Shared} {own:Nat} {N:List Str} {ix:List Nat} {scope:Scope} {E:XK}
theorem Dn{elt tg iter:Expr}{ifs:List Expr}{pos:Pos}{g:TG}{tt:TT}{te:TE}{it:Addr}{fp:List Addr}{tn:Nat->Heap->Prop}{J:It}{Q:VK}{E':Value->Shared->Prop}{Qv:Value->Shared->Prop}(B:jY X own N ix scope)
  (hin:∀(C:Addr) (s:Shared) (H:Hp) (XE:Value->Shared->Prop),Passes (eh X.prog X.w) ((X.iO N scope C fp s H).eR XE) E->PG ((X.iO N scope C fp s H).eR XE) tg g/\Ls ((X.iO N scope C fp s H).eR XE) ifs tt/\PE ((X.iO N scope C fp s H).eR XE) elt te)
  (hst:X.stack=X.env::X.outer) (hfm:X.env.frame=some X.env.locals) (hex:X.ex=[]) (hp:kl X E)
  (I:Inv X pins σ H s) (T:Turn X.prog X.w X.K tg J fp it tn) (st:tn 0 s.heap) (hf:∀b∈fp,j7 X pins H b)
  (h:∀D,H D=none->Oj J own ix σ g tt te D H Q)
  (fin:∀(D:Addr) (H':Hp) (s':Shared),Inv X pins σ H' s'->Q (.ref D) H'->Qv (.ref D) s') :
  wpAny (model X.prog X.w) X.A (newList []) (λacc s3=>wpAny (model X.prog X.w) X.A (newFunctionEnv scope X.env.globals (lE X.env.cells scope.names []) [] X.env.qual none .none (some X.env)) (λcenv s4 =>
   codeAny (model X.prog X.w) X.A (.compStart (.ListComp elt [⟨tg,iter,ifs,0⟩] scope pos) 0 (.ref it) acc {cenv with scope:=relabel scope X.env}) (ie (model X.prog X.w) X.A X.xe Qv acc {cenv with scope:=relabel scope X.env}) s4) E' s3) E' s:=by
 obtain⟨W,⟨m0,w0⟩,turn⟩:=h s.heap.objs.size I.fresh;refine abe ?_;have I3:=I.Ll (its:=[]) (ys:=[]) (t':=s.toks) .nil (aaQ _)
 have hcell:∀y∈scope.names,y.2≠NameKind.cell:=λy hy e=>by
  have:=abP.mp B.cell y hy;rw[e]at this;exact absurd this (by decide)
 refine wpAny_newFunctionEnv hcell (by intro y hy;simp at hy) (λh1 xS xT=>?_) B.kind;dsimp only at xS xT ⊢;generalize Lu:s.heap.push {cls:=.type "list",dict:=none,data:=.seq ([]:List Value).toArray}=h2 at xS xT ⊢
 have I3':Inv X pins σ (upd H s.heap.objs.size (.lst [])) {s with heap:=h2}:=by
  have z:({s with heap:=s.heap.push {cls:=.type "list",data:=.seq ([]:List Value).toArray},toks:=s.toks}:Shared)={s with heap:=h2}:=by rw[← Lu]
  rw[← z];exact I3
 have sz:h2.objs.size=s.heap.objs.size + 1:=by rw[← Lu,abv]
 have Lw:∀b o,s.heap.get? b=some o->h2.get? b=some o:=λb o e=>by rw[← Lu];exact aab _ e
 have vP:∀b o,h2.get? b=some o->h1.get? b=some o:=λb o e=>xT.extBut b o (aak (aad e)) (aab _ e)
 have there:∀b∈fp,b < s.heap.objs.size:=λb hb=>by obtain⟨o,e,_⟩:=T.obj _ _ st b hb;exact aad e
 have eS:∀b∈fp,j7 X pins (upd H s.heap.objs.size (.lst [])) b:=λb hb=>⟨by rw[uN (aak (there b hb))];exact(hf b hb).1,(hf b hb).2⟩
 have J8:h1.Ns h2.objs.size (λ_=>none):=by simpa using xS
 have I4':=sJ (tk:=s.toks + ([]:List (Str×Value)).length) (own:=own) (N:=N) (ix:=ix) B I3' rfl eS (λb hb=>aah (there b hb) (by show s.heap.objs.size<=h2.objs.size;rw[sz];exact abg _)) J8 vP;have pL:tn 0 h1:=T.keep _ _ _ st λb _ o e=>vP b o (Lw b o e)
 have cL:h2.objs.size≠X.env.locals:=aaJ I3'.lt;have cS:X.s₀.heap.objs.size<=h2.objs.size:=I3'.sz
 have cC:∀x c,X.env.cells.lookup x=some c->c≠h2.objs.size:=λx c e z=>by
  obtain⟨v,q⟩:=I3'.cell x c e;have:=q.lt;rw[z]at this;exact absurd this (aaG _)
 have cP:∀p∈X.pn++pins,p.1≠h2.objs.size:=λp hp z=>by
  have:=aad (I3'.pin p hp).1;rw[z]at this;exact absurd this (aaG _)
 have cF:h2.objs.size∉ia X.stack:=λz=>by
  obtain⟨_,o,ho,_⟩:=I3'.stack.mem z;exact absurd (aad ho) (aaG _)
 let cenv:=compEnvC scope (lE X.env.cells scope.names []) h2.objs.size X.env
 let XE:Value->Shared->Prop:=notedBy (model X.prog X.w) X.A cenv λx s'=>ie (model X.prog X.w) X.A X.xe Qv (.ref s.heap.objs.size) cenv (.error x) s'
 let Xb:=(X.iO N scope h2.objs.size fp {s with heap:=h2} (upd H s.heap.objs.size (.lst []))).eR XE
 have I4:Inv Xb [] (df own ix σ) (upd H s.heap.objs.size (.lst [])) {s with heap:=h1,toks:=s.toks + ([]:List (Str×Value)).length}:=I4'.eR XE;have Bc:Xb.calm=true:=B.calm;have pas:Passes (eh X.prog X.w) Xb E:=λpb σb Hb sb e s1 Ib hc=>Dm (cl:=lE X.env.cells scope.names []) I3' eS hst hfm hex hp cL cS cC cP cF Ib.fA hc
 obtain⟨pg,pif,pe⟩:=hin h2.objs.size {s with heap:=h2} (upd H s.heap.objs.size (.lst [])) XE pas
 have fpb:∀{H':Hp},(∀b∈fp,H' b=none)->∀b∈fp,j7 Xb [] H' b:=λhz b hb =>
  ⟨hz b hb,aak (aah (there b hb) (by show s.heap.objs.size<=h2.objs.size;rw[sz];exact abg _)),I4.ok.exfs b hb,.inl hb,λx c e=>(I4.ok.exf b hb).2 x c e,(λp hp=>nomatch hp)⟩
 have loop:∀s3:Shared,s3={s with heap:=h1,toks:=s.toks + ([]:List (Str×Value)).length} ->
   codeAny (model X.prog X.w) X.A (.compLoop (.ListComp elt [⟨tg,iter,ifs,0⟩] scope pos) 0 (.ref it) (.ref s.heap.objs.size) cenv) (ie (model X.prog X.w) X.A X.xe Qv (.ref s.heap.objs.size) cenv) s3:=by
  rintro s3 rfl;refine uh (λn s'=>∃i ys H',Inv Xb [] (df own ix σ) H' s'/\tn i s'.heap/\(∀b∈fp,H' b=none)/\W i n ys H') ?_ m0
   ⟨0,[],_,I4,pL,λb hb=>(eS b hb).1,w0⟩
  rintro n s5 ⟨i,ys,H5,I5,xq,K8,w5⟩;obtain⟨hD,t5⟩:=turn i n ys H5 w5;rcases t5 with⟨stop,qn⟩ | ⟨go,hz,Nx,hNx,step⟩
  ·refine bF (T.done Xb rfl rfl rfl Bc i [] s5 _ H5 XE I5 (fpb K8) xq stop) λr s6 ⟨hr,I6⟩=>?_
   subst hr;obtain⟨m,hm,_⟩:=I6.loc;have I6':=zE I3' eS I6.fA;exact⟨m,hm,λh' sb=>fin _ H5 _ (I6'.turned (t':=s6.toks) (λb o hb e=>(sb.2 b hb).trans e) I6.free cL (.inr cS) cC cP) qn⟩
  ·refine bF (T.item Xb rfl rfl rfl Bc i [] s5 _ H5 XE I5 (fpb K8) xq go) λr s6 ⟨u,hr,h6⟩=>?_
   subst hr;refine bF h6 λ_ s7 ⟨x,H7,I7,r7,y7,Lx,Sn⟩=>?_
   have I7':=I7.pinned (fpb Sn) (T.obj _ _ Lx);refine bF (pg _ s7 _ H7 x u _ I7' r7 (step x H7 y7)) λ_ s8 ⟨σ8,H8,I8,So,q8⟩=>?_
   refine bF (pif _ s8 σ8 H8 _ I8 q8) λb s9 ⟨H9,I9,q9⟩=>?_
   have again:∀{ys':List V} {H':Hp} {s':Shared},Inv Xb ([]++m8 fp s7.heap) σ8 H' s'->Nx ys' H' ->
     ∃m,m < n/\∃i ys H',Inv Xb [] (df own ix σ) H' s'/\tn i s'.heap/\(∀b∈fp,H' b=none)/\W i m ys H':=by
    intro ys' H' s' I' w';obtain⟨m',hm,w'⟩:=hNx _ _ w';refine⟨m',hm,i + 1,ys',H',(I'.kg).weak ?_ (qf So),T.keep _ _ _ Lx λb hb o e=>(I'.pin (b,o) (aav _ (aav _ (fB hb e)))).1,λb hb=>?_,w'⟩
    ·rw[I'.len,← I4.len]
    ·obtain⟨o,e,d⟩:=T.obj _ _ Lx b hb;exact(I'.pin (b,o) (aav _ (aav _ (fB hb e)))).2.1
   cases b with
   | true =>
    simp only[if_true]at q9 ⊢;refine bF (pe _ s9 σ8 H9 _ I9 q9) λv Ly ⟨y,Rt,Sq,Ru,Lz,Sr⟩=>?_
    refine bF (ib _ Ly σ8 Rt (.ref _) [y] (.ref _) [v] (λ_ H'=>Nx (ys++[y]) H') Sq rfl (.cons Ru .nil) ⟨_,ys,y,rfl,rfl,Lz,hz,Sr⟩) λ_ Xf ⟨_,Rv,Su,_,Sv⟩=>?_
    exact again Su Sv
   | false =>
    simp only[Bool.false_eq_true,if_false]at q9 ⊢;exact again I9 q9
 exact codeAny_compStart_list (loop _ rfl) (T.self _ 0 _ _ _ pL (loop _ rfl))
theorem LG{elt tg iter:Expr}{ifs:List Expr}{pos:Pos}{wi:TI}{g:TG}{tt:TT}{te:TE}(own:Nat)(N:List Str)(ix:List Nat)(B:jY X own N ix scope)(hi:PI X tg iter wi)
  (hin:∀(C:Addr) (fp:List Addr) (s:Shared) (H:Hp) (XE:Value->Shared->Prop),Passes (eh X.prog X.w) ((X.iO N scope C fp s H).eR XE) E->PG ((X.iO N scope C fp s H).eR XE) tg g/\Ls ((X.iO N scope C fp s H).eR XE) ifs tt/\PE ((X.iO N scope C fp s H).eR XE) elt te)
  (hp:kl X E) (hst:X.stack=X.env::X.outer:=by rfl) (hfm:X.env.frame=some X.env.locals:=by rfl) (hex:X.ex=[]:=by rfl)
  (hs:∀x,foldedSetIterable iter X.env x=pure x:=by intro _;rfl):PE X (.ListComp elt [⟨tg,iter,ifs,0⟩] scope pos) (Ol own ix wi g tt te):=by
 intro pins s σ H Q I h
 have hnames:∀y∈scope.names,y.2=NameKind.local->scope.names.lookup y.1=some .local:=λy hy e=>by
  have:=List.all_eq_true.mp B.loc y hy;rw[e]at this;simpa using this
 rw[eval_ListComp];refine A5 rfl hs (iZ λy hy e=>(B.has I y hy e).2) B.kind hnames (bF (hi pins s σ H _ I h) λv s1 h1=>bF h1 λitv s2 h2=>?_);obtain⟨it,fp,tn,J,H2,e,I2,T,bq,f2,rd⟩:=h2;subst e;exact Dn (Q:=Q) B (λC s H=>hin C fp s H) hst hfm hex hp I2 T bq f2 rd λD H' s' I' q=>⟨.ref D,H',I',rfl,q⟩
end
section
variable {κ:Type} [DecidableEq κ]
def fQ(kvs:List (κ×V))(k:κ):Option V:=(kvs.find? λkv=>decide (kv.1=k)).map (·.2)
def putK(kvs:List (κ×V))(k:κ)(v:V):List (κ×V) :=
 if (kvs.any λkv=>decide (kv.1=k))=true then kvs.map (λkv=>if kv.1=k then(kv.1,v)else kv)else kvs++[(k,v)]
theorem cW{p:κ×V}{r:List (κ×V)}{k:κ}(e:p.1=k):fQ (p::r) k=some p.2:=by simp[fQ,List.find?_cons,e]
theorem cX{p:κ×V}{r:List (κ×V)}{k:κ}(e:¬ p.1=k):fQ (p::r) k=fQ r k:=by simp[fQ,List.find?_cons,e]
theorem mq(k:κ):∀kvs:List (κ×V),(kvs.any λkv=>decide (kv.1=k))=(fQ kvs k).isSome
 | []=>rfl
 | p::r=>by
  rw[abL];by_cases e:p.1=k
  ·simp only[cW e,decide_eq_true e,Bool.true_or,Option.isSome_some]
  ·rw[cX e,aa2 e,Bool.false_or];exact mq k r
theorem vZ(k j:κ)(y:V):∀kvs:List (κ×V),fQ (kvs.map λkv=>if kv.1=k then(kv.1,y)else kv) j=(fQ kvs j).map λx=>if j=k then y else x
 | []=>rfl
 | p::r=>by
  have ih:=vZ k j y r;rw[abd];by_cases h:p.1=k
  ·rw[aap h];by_cases e:p.1=j
   ·rw[cW (p:=(p.1,y)) e,cW e,abX,aap (e.symm.trans h)]
   ·rw[cX (p:=(p.1,y)) e,cX e,ih]
  ·rw[aan h];by_cases e:p.1=j
   ·rw[cW (p:=p) e,cW e,abX,aan (λz=>h (e.trans z))]
   ·rw[cX (p:=p) e,cX e,ih]
theorem sS(k j:κ)(y:V):∀kvs:List (κ×V),fQ kvs k=none->fQ (kvs++[(k,y)]) j=if j=k then some y else fQ kvs j
 | [],_=>by
  by_cases e:k=j
  ·rw[aap e.symm];exact cW (p:=(k,y)) e
  ·rw[aan (λz=>e z.symm)];exact cX (p:=(k,y)) e
 | p::r,hn=>by
  rw[List.cons_append];have hk:¬ p.1=k:=λz=>by rw[cW z]at hn;cases hn
  rw[cX hk]at hn;have ih:=sS k j y r hn;by_cases e:p.1=j
  ·rw[cW e,cW e,aan (λz=>hk (e.trans z))]
  ·rw[cX e,cX e,ih]
theorem qp(kvs:List (κ×V))(k j:κ)(y:V):fQ (putK kvs k y) j=if j=k then some y else fQ kvs j:=by
 unfold putK;by_cases a:(kvs.any λkv=>decide (kv.1=k))=true
 ·rw[aap a,vZ];rw[mq]at a;by_cases e:j=k
  ·obtain⟨x,hx⟩:=acg.mp a;rw[aap e,e,hx,abX,aap rfl]
  ·rw[aan e]
   cases fQ kvs j with
   | none=>rfl
   | some x=>rw[abX,aan e]
 ·rw[aan a];refine sS k j y kvs ?_;rw[mq]at a
  cases q:fQ kvs k with
  | none=>rfl
  | some x=>rw[q]at a;exact(a rfl).elim
theorem oQ(kvs:List (κ×V))(k:κ)(v:V):(putK kvs k v).length<=kvs.length + 1:=by
 unfold putK;split
 ·rw[aaf];omega
 ·rw[aay,aaE,List.length_nil];omega
theorem jd.A7{o:Option V}{u:Option Value}(r:jd o u):o.isSome=u.isSome:=by
 cases o with
 | none=>cases u with
  | none=>rfl
  | some _=>exact(show False from r).elim
 | some _=>cases u with
  | none=>exact(show False from r).elim
  | some _=>rfl
theorem KV.val{kvs:List (κ×V)}{vs:List (κ×Value)}(r:KV kvs vs)(k:κ):jd (fQ kvs k) (valueAt vs k):=by
 unfold KV at r
 induction r with
 | nil=>exact aa4
 | @cons p q ps qs h t ih =>
  obtain⟨h1,h2⟩:=h;by_cases e:p.1=k
  ·have e':q.1=k:=h1.symm.trans e;have b:valueAt (q::qs) k=some q.2:=by simp[valueAt,List.find?_cons,e']
   rw[cW e,b];exact h2
  ·have e':¬ q.1=k:=λz=>e (h1.trans z)
   have b:valueAt (q::qs) k=valueAt qs k:=by simp[valueAt,List.find?_cons,e']
   rw[cX e,b];exact ih
theorem KV.any{kvs:List (κ×V)}{vs:List (κ×Value)}(r:KV kvs vs)(k:κ):(kvs.any λkv=>decide (kv.1=k))=vs.any λkv=>decide (kv.1=k):=by
 unfold KV at r
 induction r with
 | nil=>rfl
 | cons h t ih=>rw[abL,abL,ih,h.1]
theorem KV.LH{kvs:List (κ×V)}{vs:List (κ×Value)}(r:KV kvs vs)(k:κ){y:V}{u:Value}(ry:RelV y u):
  KV (kvs.map λkv=>if kv.1=k then(kv.1,y)else kv) (vs.map λkv=>if kv.1=k then(kv.1,u)else kv):=by
 unfold KV at r ⊢
 induction r with
 | nil=>exact .nil
 | @cons p q ps qs h t ih =>
  rw[abd,abd];refine .cons ?_ ih;obtain⟨h1,h2⟩:=h;by_cases e:p.1=k
  ·rw[aap e,aap (h1.symm.trans e)];exact⟨h1,ry⟩
  ·rw[aan e,aan (λz=>e (h1.trans z))];exact⟨h1,h2⟩
theorem KV.put{kvs:List (κ×V)}{vs:List (κ×Value)}(r:KV kvs vs)(k:κ){y:V}{u:Value}(ry:RelV y u):KV (putK kvs k y) (stored vs k u):=by
 unfold putK stored;rw[r.any k];by_cases e:(vs.any λkv=>decide (kv.1=k))=true
 ·rw[aap e,aap e];exact r.LH k ry
 ·rw[aan e,aan e];exact Paired.snoc r ⟨rfl,ry⟩
theorem KV.length{kvs:List (κ×V)}{vs:List (κ×Value)}(r:KV kvs vs):kvs.length=vs.length:=Paired.length r
end
theorem Dp{P:Program}{w:World}{k:Key}{u:Value}(r:RelV (kV k) u):(cK P w).is k u=true:=by
 cases k with
 | inl i=>obtain⟨t,e⟩:=(show ∃t,u=Value.int i t from r);subst e;exact vC P w i t
 | inr x=>obtain⟨t,e⟩:=(show ∃t,u=Value.str x t from r);subst e;exact oM P w x t
theorem sU{P:Program}{w:World}:∀{ks:List Key} {us:List Value},Vals (ks.map kV) us->ItemsAre (cK P w) ks us
 | [],_,r=>by rw[List.map_nil]at r;cases r;exact .nil
 | k::ks,_,r=>by
  rw[abd]at r
  cases r with
  | cons h t=>exact .cons (Dp h) (sU t)
abbrev KT(H:Hp):List (List Key×V)->List (List Key×Addr×Value)->Prop:=Paired λp q=>p.1=q.1/\H q.2.1=some (.tup (p.1.map kV))/\RelV p.2 q.2.2
theorem KT.val{H:Hp}{kvs:List (List Key×V)}{xs:List (List Key×Addr×Value)}(r:KT H kvs xs)(k:List Key):jd (fQ kvs k) ((atKey xs k).map (·.2)):=by
 induction r with
 | nil=>exact aa4
 | @cons p q ps qs h t ih =>
  obtain⟨h1,_,h2⟩:=h;by_cases e:p.1=k
  ·have e':q.1=k:=h1.symm.trans e;have b:atKey (q::qs) k=some q.2:=by simp[atKey,List.find?_cons,e']
   rw[cW e,b];exact h2
  ·have e':¬ q.1=k:=λz=>e (h1.trans z)
   have b:atKey (q::qs) k=atKey qs k:=by simp[atKey,List.find?_cons,e']
   rw[cX e,b];exact ih
theorem KT.LH{H:Hp}{kvs:List (List Key×V)}{xs:List (List Key×Addr×Value)}(r:KT H kvs xs)(k:List Key){y:V}{u:Value}(ry:RelV y u):
  KT H (kvs.map λkv=>if kv.1=k then(kv.1,y)else kv) (xs.map (putAt k u)):=by
 induction r with
 | nil=>exact .nil
 | @cons p q ps qs h t ih =>
  rw[List.map_cons,List.map_cons];refine .cons ?_ ih;obtain⟨h1,h2,h3⟩:=h;unfold putAt;by_cases e:p.1=k
  ·rw[aap e,aap (h1.symm.trans e)];exact⟨h1,h2,ry⟩
  ·rw[aan e,aan (λz=>e (h1.trans z))];exact⟨h1,h2,h3⟩
theorem KT.put{H:Hp}{kvs:List (List Key×V)}{xs:List (List Key×Addr×Value)}(r:KT H kvs xs)(k:List Key){b:Addr}{y:V}{u:Value}(hb:H b=some (.tup (k.map kV)))(ry:RelV y u):
  KT H (putK kvs k y) (storedH xs k b u):=by
 have e:(kvs.any λkv=>decide (kv.1=k))=(atKey xs k).isSome:=by
  rw[mq,(r.val k).A7,Option.isSome_map]
 unfold putK storedH;rw[e];by_cases q:(atKey xs k).isSome=true
 ·rw[aap q,aap q];exact r.LH k ry
 ·rw[aan q,aan q];exact Paired.snoc r ⟨rfl,hb,ry⟩
theorem KT.keeps{H H':Hp}{kvs:List (List Key×V)}{xs:List (List Key×Addr×Value)}(r:KT H kvs xs)(ht:∀b ys,H b=some (.tup ys)->H' b=some (.tup ys)):KT H' kvs xs :=
 Paired.K3 r λ_ _ z=>⟨z.1,ht _ _ z.2.1,z.2.2⟩
section
variable {P:Program} {w:World} {H:Hp} {h:Heap} {a:Addr}
theorem Kh{u:HO}(ok:kc P w H h)(e:Rd H a u):du P w H h a u:=e.ok ok
theorem Dq{kvs:List (Key×V)}(ok:kc P w H h)(e:Rd H a (.dK kvs)):kvs.length<=sizeLine/\(a == sysModules)=false/\∃vs,KV kvs vs/\h.DictOf (cK P w) a vs :=
 show du P w H h a (.dK kvs)from Kh ok e
theorem Pw{kvs:List (Key×V)}(ok:kc P w H h)(e:H a=some (.dK kvs)):kvs.length<=sizeLine/\(a == sysModules)=false/\∃vs,KV kvs vs/\h.DictOf (cK P w) a vs:=Dq ok (.inl e)
theorem xY{ks:List Key}(ok:kc P w H h)(e:H a=some (.tup (ks.map kV))):(tupleKind (cK P w)).is h ks a:=by
 obtain⟨_,its,r,o,h1,h2,n,h3⟩:=(show du P w H h a (.tup (ks.map kV))from ok a _ e);exact⟨o,its.toArray,n,h1,h2,h3,by simpa using sU r⟩
theorem Ds{kvs:List (List Key×V)}(ok:kc P w H h)(e:Rd H a (.dT kvs)):kvs.length<=sizeLine/\(a == sysModules)=false /\
  ∃xs,KT H kvs xs/\h.DictOfH (tupleKind (cK P w)) a xs:=by
 obtain⟨z,y,xs,r,o,es,ep,h1,h2,h3,h4,h5⟩:=(show du P w H h a (.dT kvs)from Kh ok e);refine⟨z,y,xs,r,o,es,ep,h1,h2,h3,h4,λx hx=>?_,h5⟩
 have all:∀{l:List (List Key×V)} {m:List (List Key×Addr×Value)},KT H l m->∀x∈m,(tupleKind (cK P w)).is h x.1 x.2.1:=by
  intro l m q
  induction q with
  | nil=>intro x hx;exact nomatch hx
  | @cons p q ps qs hq t ih =>
   intro x hx;rcases aaB.mp hx with e | hx
   ·subst e;exact xY ok (by rw[← hq.1];exact hq.2.1)
   ·exact ih x hx
 exact all r x hx
theorem Px{kvs:List (List Key×V)}(ok:kc P w H h)(e:H a=some (.dT kvs)):kvs.length<=sizeLine/\(a == sysModules)=false /\
  ∃xs,KT H kvs xs/\h.DictOfH (tupleKind (cK P w)) a xs:=Ds ok (.inl e)
end
def xZ(H:Hp)(a:Addr)(y:V)(r:Option V):Prop :=
 (∃kvs k,Rd H a (.dK kvs)/\y=kV k/\r=fQ kvs k)∨∃kvs k b,Rd H a (.dT kvs)/\y=.ref b/\H b=some (.tup (k.map kV))/\r=fQ kvs k
def v5(H:Hp)(a:Addr)(y v:V)(H':Hp):Prop :=
 (∃kvs k,H a=some (.dK kvs)/\y=kV k/\kvs.length < sizeLine/\H'=upd H a (.dK (putK kvs k v))) ∨
 ∃kvs k b,H a=some (.dT kvs)/\y=.ref b/\H b=some (.tup (k.map kV))/\kvs.length < sizeLine/\H'=upd H a (.dT (putK kvs k v))
theorem xZ.k{H:Hp}{a:Addr}{kvs:List (Key×V)}{k:Key}(e:H a=some (.dK kvs)):xZ H a (kV k) (fQ kvs k):=.inl ⟨kvs,k,.inl e,rfl,rfl⟩
theorem v5.k{H:Hp}{a:Addr}{kvs:List (Key×V)}{k:Key}{v:V}(e:H a=some (.dK kvs))(hl:kvs.length < sizeLine):v5 H a (kV k) v (upd H a (.dK (putK kvs k v))):=.inl ⟨kvs,k,e,rfl,hl,rfl⟩
section
variable {X:Cx} {pins:List (Addr×Obj)} {σ:St} {H:Hp} {s:Shared} {a:Addr} {y v:V} {u r:Value} {o:Option V} {A:Around} {E:Value->Shared->Prop}
theorem Inv.big(I:Inv X pins σ H s):sysModules < s.heap.objs.size:=by
 have h:mainGlobals < s.heap.objs.size:=(I.mod.glob.keeps I.bk).lt;exact Nat.lt_trans (by decide) h
theorem A8{Q:Value->Shared->Prop}(hu:A.units + 1 < cLine)(I:Inv X pins σ H s)(g:xZ H a y (some v))(ry:RelV y u)(h:∀w' s',Inv X pins σ H s'->RelV v w'->Q w' s'):
  wpAny (model X.prog X.w) A (getItem (.ref a) u) Q E s:=by
 rcases g with⟨kvs,k,e,ey,l⟩ | ⟨kvs,k,b,e,ey,eb,l⟩
 ·subst ey;obtain⟨z,hd,vs,rel,dd⟩:=Dq I.hok e;obtain⟨w',hw,rw'⟩:=jd.some_of (v:=v) (o:=valueAt vs k) (by rw[l];exact rel.val k);exact wpAny_getItem_of (Dp ry) dd.mapOf hw (h w' _ (I.tok _) rw')
 ·subst ey;cases (show u=Value.ref b from ry);obtain⟨z,hd,xs,rel,dd⟩:=Ds I.hok e;obtain⟨w',hw,rw'⟩:=jd.some_of (v:=v) (o:=(atKey xs k).map (·.2)) (by rw[l];exact rel.val k);obtain⟨p,hp,Xu⟩:=Option.map_eq_some_iff.mp hw;refine wpAny_getItem_heap (tupleKind_room_in1 hu) (xY I.hok eb) dd hp ?_;rw[Xu];exact h w' _ (I.tok _) rw'
theorem zI{h':Heap}{t':Nat}{ob:HO}(I:Inv X pins σ H s)(mu:ON (H a))(hs:Heap.SameBut a s.heap h')(he:∃q,h'.get? a=some q)(new:du X.prog X.w (upd H a ob) h' a ob):
  Inv X pins σ (upd H a ob) {s with heap:=h',toks:=t'} :=
 I.write (x:=a) (e:=a) mu (.inl rfl) (λb q hb z=>(hs.2 b hb).trans z) he new
theorem LI{P:Program}{w:World}{H':Hp}{h':Heap}{kvs:List (Key×V)}{vs:List (Key×Value)}(z:kvs.length<=sizeLine)(hd:(a == sysModules)=false)(rel:KV kvs vs)(dd:h'.DictOf (cK P w) a vs):
  du P w H' h' a (.dK kvs):=⟨z,hd,vs,rel,dd⟩
theorem A9{H':Hp}{Q:Unit->Shared->Prop}(hu:A.units + 1 < cLine)(I:Inv X pins σ H s)(g:v5 H a y v H')(ry:RelV y u)(rv:RelV v r)(h:∀s',Inv X pins σ H' s'->Q () s'):
  wpAny (model X.prog X.w) A (setItem (.ref a) u r) Q E s:=by
 rcases g with⟨kvs,k,e,ey,l,eH⟩ | ⟨kvs,k,b,e,ey,eb,l,eH⟩
 ·subst ey eH;obtain⟨z,hd,vs,rel,dd⟩:=Pw I.hok e;have hz:vs.length<=sizeLine:=by rw[← rel.length];exact z
  have hl:(putK kvs k v).length<=sizeLine:=by have:=oQ kvs k v;omega
  refine wpAny_setItem_pairs (hsz:=hz) (Dp ry) dd λh' dd' hs=>h _ ?_
  have he:∃q,h'.get? a=some q:=let ⟨q,_,_,hq,_⟩:=dd';⟨q,hq⟩
  exact zI I (by rw[e];exact aa4) hs he (LI hl hd (rel.put k rv) dd')
 ·subst ey eH;cases (show u=Value.ref b from ry);obtain⟨z,hd,xs,rel,dd⟩:=Px I.hok e;have hz:xs.length<=sizeLine:=by rw[← Paired.length rel];exact z
  have hl:(putK kvs k v).length<=sizeLine:=by have:=oQ kvs k v;omega
  refine wpAny_setItem_heap (hsz:=hz) (tupleKind_room_in1 hu) (xY I.hok eb) dd λh' dd' hs=>h _ ?_
  obtain⟨q,es,ep,hq,h2,h3,h4,_,h5⟩:=dd';refine zI I (by rw[e];exact aa4) hs ⟨q,hq⟩ ⟨hl,hd,_,(rel.put k eb rv).keeps λc ys ec=>?_,q,es,ep,hq,h2,h3,h4,h5⟩;rw[uN (aX ec e (λz=>nomatch z))];exact ec
end
section
variable {X:Cx} {pins:List (Addr×Obj)} {σ:St} {H:Hp} {s:Shared} {a:Addr} {kvs:List (Key×V)} {k:Key} {u:Value} {A:Around} {E:Value->Shared->Prop}
end
def Py(i:Expr):Prop:=∀ov iv,subscripted i false ov iv=operate [ov,iv] (getItem ov iv)
theorem Hd{prog:Program}{w:World}{A:Around}{E:Value->Shared->Prop}{s:Shared}{env:Env}{value slice:Expr}{pos:Pos}{T id:String}{Q:Value->Shared->Prop}
  (hl:typeLookup (.type T) "__getitem__"=pure (some (.builtin id))) (hs:Py slice)
  (h:wpAny (model prog w) A (eval value env) (λo s₁=>wpAny (model prog w) A (eval slice env) (λi s₂=>s₂.TypeIs o T/\wpAny (model prog w) A (getItem o i) Q E s₂) E s₁) E s) :
  wpAny (model prog w) A (eval (.Subscript value slice pos) env) Q E s:=by
 refine Subscript_ (wpAny_mono h (λo s₁ h₁=>wpAny_mono h₁ (λi s₂ h₂=>?_) λ_ _ x=>x) λ_ _ x=>x);obtain⟨hT,h₂⟩:=h₂;unfold subscriptTail;refine wpAny_bind ?_;rw[getitemInPython_of_ne hT.not_modules];refine wpAny_bind (wpAny_specialOf hT hl ?_)
 have fin:wpAny (model prog w) A (subscripted slice false o i) (λr s₃=>wpAny (model prog w) A (letTemporaryGo value o r >>= λ_=>pure r) Q E s₃) E s₂:=by
  rw[hs o i];exact wpAny_operating (aat h₂ (λr s₃ h₃=>aac (wpAny_letTemporaryGo (aag h₃))) λ_ _ x=>x)
 first
  | exact aag (aac fin)
  | exact aac (aag (aac fin))
  | exact aac fin
theorem v7{X:Cx}{pins:List (Addr×Obj)}{σ:St}{H:Hp}{s:Shared}{a:Addr}{y:V}{o:Option V}(I:Inv X pins σ H s)(g:xZ H a y o):s.TypeIs (.ref a) "dict":=by
 rcases g with⟨kvs,k,e,_,_⟩ | ⟨kvs,k,b,e,_,_,_⟩
 ·obtain⟨_,_,vs,_,dd⟩:=Dq I.hok e;exact dd.typeIs
 ·obtain⟨_,_,xs,_,dd⟩:=Ds I.hok e;exact dd.typeIs
def Pz(td ty:TE):TE:=λσ H Q=>td σ H λx H1=>ty σ H1 λy H2=>∃a v,x=.ref a/\xZ H2 a y (some v)/\Q v H2
def PB(td ty tv:TE):TS:=λD σ H=>tv σ H λv H1=>td σ H1 λx H2=>ty σ H2 λy H3=>∃a H4,x=.ref a/\v5 H3 a y v H4/\D.nx σ H4
section
variable {X:Cx} {o i e value:Expr} {pos pos' tpos:Pos} {td ty tv:TE}
theorem zJ(hu:X.A.units + 1 < cLine)(ho:PE X o td)(hi:PE X i ty)(hs:Py i):PE X (.Subscript o i pos) (Pz td ty):=by
 intro pins s σ H Q I h;refine Hd PySem.F.slot_dict_getitem.lookup hs (bF (ho pins s σ H _ I h) λu s1 ⟨x,H1,I1,rx,q1⟩=>bF (hi pins s1 σ H1 _ I1 q1) λiv s2 ⟨y,H2,I2,ry,a,v,ex,g,q2⟩=>?_);subst ex;obtain rfl:u=Value.ref a:=rx;exact⟨v7 I2 g,A8 hu I2 g ry λw' s3 I3 rw'=>⟨v,H2,I3,rw',q2⟩⟩
theorem ui(hu:X.A.units + 1 < cLine)(ho:PE X o td)(hi:PE X i ty)(hv:PE X value tv)(hs:swapsWith value (some (.Subscript o i pos')) pos.line X.env=pure false):
  PS X (.Assign [.Subscript o i pos'] value pos) (PB td ty tv):=by
 intro pins s σ H D I h;refine wpAny_Assign_Subscript (bF (hv pins s σ H _ I h) λr s1 ⟨v,H1,I1,rv,q1⟩=>bF (ho pins s1 σ H1 _ I1 q1) λu s2 ⟨x,H2,I2,rx,q2⟩=>bF (hi pins s2 σ H2 _ I2 q2) λiv s3 ⟨y,H3,I3,ry,a,H4,ex,g,q3⟩=>?_) hs;subst ex;obtain rfl:u=Value.ref a:=rx;exact A9 hu I3 g ry rv λs4 I4=>⟨σ,H4,I4,q3⟩
end
theorem Dt{P:Program}{w:World}{H:Hp}(h:Heap)(hb:sysModules < h.objs.size):du P w H (h.push {cls:=.type "dict",data:=.dict #[]}) h.objs.size (.dK []) :=
 ⟨aaQ _,acI.mpr (abu (aak hb)),[],.nil,Heap.DictOf.new h⟩
def LJ:TE:=λ_ H Q=>∀p,H p=none->Q (.ref p) (upd H p (.dK []))
section
variable {X:Cx} {pos:Pos}
theorem Dv:PE X (.Dict [] [] pos) LJ:=λpins s σ H Q I h =>
 wpAny_Dict_empty ⟨.ref s.heap.objs.size,_,I.laid (a:=s.heap.objs.size) (o:=.dK []) (t':=s.toks) (λ_ _ q=>aab _ q) (aai _) (Dt s.heap I.big),rfl,h _ (I.hok.fresh (aai _))⟩
end
structure fD(P:Program)(w:World)(K:aJ)(mg:Str->Option Value)(base:Heap)(CX:vA)(C:Addr)(m:Str)(k:Nat)(ps:List Str)(sp:Sp):Prop where
 ex:∃(f:Addr) (fd:FuncData),bJ P w K mg base CX k f fd ps sp/\Binds K fd ps []/\Meth K C m f
 cl:zz K C
structure x9(P:Program)(w:World)(K:aJ)(mg:Str->Option Value)(base:Heap)(CX:vA)(C:Addr)(x:Str)(k:Nat)(ps:List Str)(sp:Sp):Prop where
 ex:∃(f:Addr) (fd:FuncData),bJ P w K mg base CX k f fd ps sp/\Binds K fd ps []/\Mk K C f/\mg x=some (.ref C)
section
variable {X:Cx} {x m:Str} {k:Nat} {ps:List Str} {sp:Sp} {o e:Expr} {es:List Expr} {ta:TE} {t:TA} {p pos apos:Pos} {C:Addr} {CX:vA} {E:XK} {pl:Sem Bool}
theorem fR(he:PE X o ta)(h:fD X.prog X.w X.K X.mg X.base CX C m k ps sp)(hx:Passes CX X E)(hr:cg k X.A)(ha:PA X (e::es) t)
  (hst:starEach (e::es) X.env=(false,eval e X.env)::starEach es X.env:=by rfl) (hpl:(backTo pos (starEach es X.env)).any (·.1)=false:=by rfl)
  (ht:eval (.Call (.Attribute o m apos) (e::es) [] pos) X.env=(do
   let ov ← eval o X.env
   standAt apos.atName
   let (f,first) ← holding [ov] (getMethod ov m pl)
   callWith pos f first (backTo pos (starEach (e::es) X.env)) (backToKw pos (keywordEach [] X.env))):=by rfl) :
  PE X (.Call (.Attribute o m apos) (e::es) [] pos) (sr C m sp [] E ta t):=by
 obtain⟨f,fd,F,b,M⟩:=h.ex;exact GH he h.cl M F hr b .nil hx ha hst hpl ht
theorem LK(he:PE X o ta)(h:fD X.prog X.w X.K X.mg X.base CX C m k ps sp)(hx:Passes CX X E)(hr:cg k X.A)
  (ht:eval (.Call (.Attribute o m apos) [] [] pos) X.env=(do
   let ov ← eval o X.env
   standAt apos.atName
   let (f,first) ← holding [ov] (getMethod ov m pl)
   callWith pos f first (backTo pos (starEach [] X.env)) (backToKw pos (keywordEach [] X.env))):=by rfl) :
  PE X (.Call (.Attribute o m apos) [] [] pos) (sr C m sp [] E ta mf):=by
 obtain⟨f,fd,F,b,M⟩:=h.ex;exact CJ he h.cl M F hr b .nil hx ht
theorem Dw(h:x9 X.prog X.w X.K X.mg X.base CX C x k ps sp)(hx:Passes CX X E)(hr:cg (k + 1) X.A)(hg:Gl X x)(ha:PA X (e::es) t)(hdb:(x == ("__debug__" : Str))=false:=by decide)
  (he:starEach (e::es) X.env=(false,eval e X.env)::starEach es X.env:=by rfl) (hpl:(backTo pos (starEach es X.env)).any (·.1)=false:=by rfl) :
  PE X (.Call (.Name x p) (e::es) [] pos) (J0 C sp [] E t):=by
 obtain⟨f,fd,F,b,M,m⟩:=h.ex;exact GI M F hr hg m b .nil hx ha hdb he hpl
end
def qq(P:Addr->Prop)(H HX:Hp):Prop:=∀c o,¬ P c->H c=some o->HX c=some o
open Classical in
noncomputable def cutH (P:Addr->Prop) (H:Hp):Hp:=λc=>if P c then none else H c
theorem eK{P:Addr->Prop}{H:Hp}{c:Addr}{o:HO}:cutH P H c=some o↔¬ P c/\H c=some o:=by
 unfold cutH;by_cases h:P c
 ·rw[aap h];exact⟨(λz=>nomatch z),(λz=>absurd h z.1)⟩
 ·rw[aan h];exact⟨λz=>⟨h,z⟩,λz=>z.2⟩
theorem eV{P:Addr->Prop}{H:Hp}:aS (cutH P H) H:=λ_ _ e=>(eK.mp e).2
def aR(K:aJ)(P:Addr->Prop)(H:Hp)(v:V)(d:PyData):Prop:=aQ K (cutH P H) v d
theorem qq.refl{P:Addr->Prop}{H:Hp}:qq P H H:=λ_ _ _ e=>e
theorem qq.of{P:Addr->Prop}{H H':Hp}(s:aS H H'):qq P H H':=λc o _ e=>s c o e
theorem aR.now{K:aJ}{P:Addr->Prop}{H:Hp}{v:V}{d:PyData}(h:aR K P H v d):aQ K H v d:=aQ.same eV h
theorem jG{P P':Addr->Prop}{H H':Hp}(s:∀c o,¬ P c->H c=some o->¬ P' c/\H' c=some o):aS (cutH P H) (cutH P' H'):=λc o e=>by
 obtain⟨h1,h2⟩:=eK.mp e;exact eK.mpr (s c o h1 h2)
theorem aR.sub{K:aJ}{P P':Addr->Prop}{H:Hp}{v:V}{d:PyData}(h:aR K P H v d)(s:∀c,P' c->P c):aR K P' H v d:=aQ.same (jG λc o n e=>⟨λz=>n (s c z),e⟩) h
theorem aR.same{K:aJ}{P:Addr->Prop}{H H':Hp}{v:V}{d:PyData}(h:aR K P H v d)(s:aS H H'):aR K P H' v d:=aQ.same (jG λc o n e=>⟨n,s c o e⟩) h
inductive DV where
 | dat (d:PyData) | ref (k:Nat)
def j9(o:HO):Prop:=(∃xs,o=.lst xs)∨(∃C dx fs,o=.ins C dx fs)∨∃φ,o=.ext φ
structure Ob where
 lies:aJ->(Addr->Prop)->Hp->List Addr->Prop
 keep:∀K P H fp P' H',lies K P H fp->(∀c,P c->∃o,H c=some o/\j9 o)->(∀a∈fp,∀o,H a=some o->H' a=some o)->aS (cutH P H) (cutH P' H')->lies K P' H' fp
 mu:∀K P H fp,lies K P H fp->∀a∈fp,∃o,H a=some o/\j9 o
inductive Ce where
 | live (ds:List PyData) | froz (ds:List PyData) | deep (xs:List DV) | obj (o:Ob)
@[reducible] def Ce.lv:Ce->Bool
 | .froz _=>false
 | _=>true
abbrev bL:=List (Option DV)
abbrev aE:=List Ce
def Lv(al:List (List Addr))(st:aE):Addr->Prop:=λc=>∃(k:Nat) (fp:List Addr) (ce:Ce),al[k]?=some fp/\c∈fp/\st[k]?=some ce/\ce.lv=true
def Fb(G:Addr->Prop)(al:List (List Addr))(st:aE):Addr->Prop:=λc=>G c∨Lv al st c
def gm(K:aJ)(P:Addr->Prop)(H:Hp)(al:List (List Addr))(v:V):DV->Prop
 | .dat d=>aR K P H v d
 | .ref k=>∃a r,al[k]?=some (a::r)/\v=.ref a
def cj{α:Type}(R:V->α->Prop)(ys:List V)(xs:List α):Prop:=ys.length=xs.length/\∀(i:Nat) y x,ys[i]?=some y->xs[i]?=some x->R y x
def B3(K:aJ)(P:Addr->Prop)(H:Hp)(al:List (List Addr))(fp:List Addr):Ce->Prop
 | .live xs=>∃a ys,fp=[a]/\H a=some (.lst ys)/\cj (aR K P H) ys xs
 | .froz ds=>∃a,fp=[a]/\aR K P H (.ref a) (.list ds)
 | .deep xs=>∃a ys,fp=[a]/\H a=some (.lst ys)/\cj (gm K P H al) ys xs
 | .obj o=>fp≠[]/\o.lies K P H fp
structure YK where
 Y:Hp->(Addr->Prop)->(Addr->Prop)->Prop
 up:∀H0 A0 G G',(∀c,G c->G' c)->Y H0 A0 G->Y H0 A0 G'
def y0:YK:=⟨λ_ _ _=>True,λ_ _ _ _ _ h=>h⟩
structure KF where
 K:aJ
 y:YK
instance:CoeOut KF aJ:=⟨KF.K⟩
@[reducible] def k0(K:aJ):KF:=⟨K,y0⟩
@[reducible] def kf(X:Cx)(Y:YK):KF:=⟨X.K,Y⟩
structure DI(J:KF)(H0:Hp)(A0:Addr->Prop)(G:Addr->Prop)(al:List (List Addr))(H:Hp)(st:aE):Prop where
 len:al.length=st.length
 nd:al.flatten.Nodup
 ok:∀a∈al.flatten,∃o,H a=some o
 cel:∀(k:Nat) fp c,al[k]?=some fp->st[k]?=some c->B3 J (Fb G al st) H al fp c
 fr:qq A0 H0 H
 nw:∀a∈al.flatten,A0 a∨H0 a=none
 gd:∀a∈al.flatten,¬ G a
 gs:∀c,G c->∃o,H c=some o/\j9 o
 lk:J.y.Y H0 A0 G
def mX(K:aJ)(P:Addr->Prop)(H:Hp)(al:List (List Addr))(s:St)(env:bL):Prop:=s.length=env.length/\∀(i:Nat) dv,env[i]?=some (some dv)->∃v,s[i]?=some (some v)/\gm K P H al v dv
structure Ext(al:List (List Addr))(H:Hp)(st:aE)(al':List (List Addr))(H':Hp)(st':aE):Prop where
 keep:qq (Lv al st) H H'
 pre:∀(k:Nat) a r,al[k]?=some (a::r)->∃r',al'[k]?=some (a::r')
 nws:∀c∈al'.flatten,c∈al.flatten∨H c=none
 lv:∀c,Lv al' st' c->Lv al st c∨H c=none
theorem Ext.refl{al:List (List Addr)}{H:Hp}{st:aE}:Ext al H st al H st:=⟨.refl,λ_ _ r h=>⟨r,h⟩,λ_ h=>.inl h,λ_ h=>.inl h⟩
theorem Ext.free{al al':List (List Addr)}{H H':Hp}{st st':aE}(e:Ext al H st al' H' st'){c:Addr}(h:H' c=none)(hl:¬ Lv al st c):H c=none:=by
 cases q:H c with
 | none=>rfl
 | some o=>rw[e.keep c o hl q]at h;cases h
theorem ck{al:List (List Addr)}{k:Nat}{fp:List Addr}{a:Addr}(h:al[k]?=some fp)(ha:a∈fp):a∈al.flatten:=abh.mpr ⟨fp,aaz h,ha⟩
theorem Lv.mem{al:List (List Addr)}{st:aE}{c:Addr}(h:Lv al st c):c∈al.flatten:=by
 obtain⟨k,fp,ce,h1,h2,_⟩:=h;exact ck h1 h2
theorem eW:∀{al:List (List Addr)},al.flatten.Nodup->∀{i j:Nat} {f g:List Addr} {a:Addr},al[i]?=some f->al[j]?=some g->a∈f->a∈g->i=j
 | [],_,i,j,f,g,a,h1,_,_,_=>by simp at h1
 | x::r,nd,i,j,f,g,a,h1,h2,m1,m2=>by
  rw[List.flatten_cons,List.nodup_append]at nd
  cases i with
  | zero =>
   cases j with
   | zero=>rfl
   | succ j =>
    simp at h1 h2;subst h1;exact absurd rfl (nd.2.2 a m1 a (ck h2 m2))
  | succ i =>
   cases j with
   | zero =>
    simp at h1 h2;subst h2;exact absurd rfl (nd.2.2 a m2 a (ck h1 m1))
   | succ j =>
    simp at h1 h2;exact congrArg (· + 1) (eW nd.2.1 h1 h2 m1 m2)
section
variable {K:aJ} {J:KF} {H0:Hp} {A0:Addr->Prop} {G:Addr->Prop} {al aY cq:List (List Addr)} {H H1 H2:Hp} {st ay bq:aE}
theorem Ext.trans(I1:DI J H0 A0 G aY H1 ay)(a:Ext al H st aY H1 ay)(b:Ext aY H1 ay cq H2 bq):Ext al H st cq H2 bq:=by
 refine⟨λc o n e=>b.keep c o (λz=>?_) (a.keep c o n e),λk x r h=>?_,λc hc=>?_,λc hc=>?_⟩
 ·rcases a.lv c z with y | y
  ·exact n y
  ·rw[y]at e;cases e
 ·obtain⟨r1,h1⟩:=a.pre k x r h;exact b.pre k x r1 h1
 ·rcases b.nws c hc with z | z
  ·exact a.nws c z
  ·by_cases w:Lv al st c
   ·exact .inl w.mem
   ·exact .inr (a.free z w)
 ·rcases b.lv c hc with z | z
  ·exact a.lv c z
  ·by_cases w:Lv al st c
   ·exact .inl w
   ·exact .inr (a.free z w)
theorem jH{G1:Addr->Prop}(g:∀c,G1 c->G c∨H c=none)(e:Ext al H st aY H1 ay):aS (cutH (Fb G al st) H) (cutH (Fb G1 aY ay) H1):=jG λc o n q=>by
 refine⟨λz=>?_,e.keep c o (λw=>n (.inr w)) q⟩;rcases z with z | z
 ·rcases g c z with w | w
  ·exact n (.inl w)
  ·rw[w]at q;cases q
 ·rcases e.lv c z with w | w
  ·exact n (.inr w)
  ·rw[w]at q;cases q
theorem aR.kn{G1:Addr->Prop}{v:V}{d:PyData}(h:aR K (Fb G al st) H v d)(g:∀c,G1 c->G c∨H c=none)(e:Ext al H st aY H1 ay):aR K (Fb G1 aY ay) H1 v d:=aQ.same (jH g e) h
theorem aR.ext{v:V}{d:PyData}(h:aR K (Fb G al st) H v d)(e:Ext al H st aY H1 ay):aR K (Fb G aY ay) H1 v d:=h.kn (λ_ z=>.inl z) e
theorem gm.d{P:Addr->Prop}{v:V}{d:PyData}(h:aR K P H v d):gm K P H al v (.dat d):=h
theorem gm.kn{G1:Addr->Prop}{v:V}{dv:DV}(h:gm K (Fb G al st) H al v dv)(g:∀c,G1 c->G c∨H c=none)(e:Ext al H st aY H1 ay):gm K (Fb G1 aY ay) H1 aY v dv:=by
 cases dv with
 | dat d=>exact aR.kn h g e
 | ref k =>
  obtain⟨a,r,h1,h2⟩:=h;obtain⟨r',h3⟩:=e.pre k a r h1;exact⟨a,r',h3,h2⟩
theorem gm.ext{v:V}{dv:DV}(h:gm K (Fb G al st) H al v dv)(e:Ext al H st aY H1 ay):gm K (Fb G aY ay) H1 aY v dv:=h.kn (λ_ z=>.inl z) e
theorem cj.imp{α:Type}{R R':V->α->Prop}{ys:List V}{xs:List α}(h:cj R ys xs)(f:∀y x,R y x->R' y x):cj R' ys xs:=⟨h.1,λi y x a b=>f y x (h.2 i y x a b)⟩
theorem cj.nil{α:Type}{R:V->α->Prop}:cj R [] []:=⟨rfl,λi y x h=>by simp at h⟩
theorem cj.cons{α:Type}{R:V->α->Prop}{y:V}{x:α}{ys:List V}{xs:List α}(h:R y x)(r:cj R ys xs):cj R (y::ys) (x::xs):=⟨by simp[r.1],λi a b h1 h2=>by
 cases i with
 | zero=>simp at h1 h2;subst h1;subst h2;exact h
 | succ i=>exact r.2 i a b (by simpa using h1) (by simpa using h2)⟩
theorem cj.append{α:Type}{R:V->α->Prop}{ys zs:List V}{xs us:List α}(h:cj R ys xs)(h':cj R zs us):cj R (ys++zs) (xs++us):=by
 refine⟨by simp[h.1,h'.1],λj z u hz hu=>?_⟩;by_cases hj:j < ys.length
 ·rw[aaw hj]at hz;rw[aaw (by rw[← h.1];exact hj)]at hu;exact h.2 j z u hz hu
 ·rw[aaD (by omega)]at hz;rw[aaD (by rw[← h.1];omega),← h.1]at hu;exact h'.2 _ z u hz hu
theorem cj.take{α:Type}{R:V->α->Prop}{ys:List V}{xs:List α}(h:cj R ys xs)(n:Nat):cj R (ys.take n) (xs.take n):=by
 refine⟨by rw[aa5,aa5,h.1],λj y k hy hk=>?_⟩;have hj:j < (ys.take n).length:=(eA hy).1;rw[aa5]at hj;rw[ach (by omega)]at hy hk;exact h.2 _ y k hy hk
theorem cj.drop{α:Type}{R:V->α->Prop}{ys:List V}{xs:List α}(h:cj R ys xs)(n:Nat):cj R (ys.drop n) (xs.drop n):=by
 refine⟨by rw[acj,acj,h.1],λj y k hy hk=>?_⟩;rw[abq]at hy hk;exact h.2 _ y k hy hk
theorem cj.set{α:Type}{R:V->α->Prop}{ys:List V}{xs:List α}{y:V}{x:α}(h:cj R ys xs)(hy:R y x)(i:Nat):cj R (ys.set i y) (xs.set i x):=by
 refine⟨by rw[aaM,aaM,h.1],λj z u hz hu=>?_⟩;rw[List.getElem?_set]at hz hu;by_cases hj:i=j
 ·subst hj;rw[aap rfl]at hz hu;split at hz
  ·split at hu
   ·cases hz;cases hu;exact hy
   ·cases hu
  ·cases hz
 ·rw[aan hj]at hz hu;exact h.2 j z u hz hu
theorem cj.at{α:Type}{R:V->α->Prop}{ys:List V}{xs:List α}(h:cj R ys xs){i:Nat}{x:α}(hx:xs[i]?=some x):∃y,ys[i]?=some y/\R y x:=by
 have hi:i < ys.length:=by rw[h.1];exact(eA hx).1
 exact⟨ys[i],gP hi,h.2 i _ x (gP hi) hx⟩
theorem cj.PC{α β:Type}{R:V->β->Prop}{f:α->β}{ys:List V}{xs:List α}(h:cj R ys (xs.map f)):cj (λy x=>R y (f x)) ys xs:=by
 refine⟨by rw[h.1,aaf],λi y x hy hx=>?_⟩;exact h.2 i y (f x) hy (by rw[aax,hx];rfl)
theorem mX.kn{G1:Addr->Prop}{s:St}{env:bL}(h:mX K (Fb G al st) H al s env)(g:∀c,G1 c->G c∨H c=none)(e:Ext al H st aY H1 ay):mX K (Fb G1 aY ay) H1 aY s env:=⟨h.1,λi dv hi=>by
 obtain⟨v,h1,h2⟩:=h.2 i dv hi;exact⟨v,h1,h2.kn g e⟩⟩
theorem mX.ext{s:St}{env:bL}(h:mX K (Fb G al st) H al s env)(e:Ext al H st aY H1 ay):mX K (Fb G aY ay) H1 aY s env:=h.kn (λ_ z=>.inl z) e
theorem mX.set{P:Addr->Prop}{s:St}{env:bL}{v:V}{dv:DV}(h:mX K P H al s env)(hv:gm K P H al v dv)(i:Nat):mX K P H al (s.set i (some v)) (env.set i (some dv)):=by
 refine⟨by rw[aaM,aaM];exact h.1,λj u hu=>?_⟩;rw[List.getElem?_set]at hu;by_cases hj:i=j
 ·subst hj;rw[aap rfl]at hu;split at hu
  ·rename_i hl;cases hu;exact⟨v,by rw[aas (by rw[h.1];exact hl)],hv⟩
  ·cases hu
 ·rw[aan hj]at hu;obtain⟨w,h1,h2⟩:=h.2 j u hu;exact⟨w,by rw[aau hj];exact h1,h2⟩
theorem aR.cn{P:Addr->Prop}{v:V}{ds:List PyData}(h:aR K P H v (.list ds)):∃(a:Addr) (ys:List V),v=.ref a/\bu K H a ys/\bu K (cutH P H) a ys/\cj (aR K P H) ys ds:=by
 have h:aQ K (cutH P H) v (.list ds):=h
 cases h with
 | lst hS hl hi=>exact⟨_,_,rfl,eV.seq hS,hS,hl,hi⟩
theorem aR.gn{P:Addr->Prop}{v:V}{ds:List PyData}(h:aR K P H v (.tuple ds)):∃(a:Addr) (ys:List V),v=.ref a/\bV K H a ys/\bV K (cutH P H) a ys/\cj (aR K P H) ys ds:=by
 have h:aQ K (cutH P H) v (.tuple ds):=h
 cases h with
 | tup hS hl hi=>exact⟨_,_,rfl,eV.tup hS,hS,hl,hi⟩
theorem aR.ba{P:Addr->Prop}{v:V}{i:Int}(h:aR K P H v (.int i)):v=.int i:=by
 have h:aQ K (cutH P H) v (.int i):=h;cases h;rfl
theorem aR.cA{P:Addr->Prop}{v:V}{i:Str}(h:aR K P H v (.str i)):v=.str i:=by
 have h:aQ K (cutH P H) v (.str i):=h;cases h;rfl
theorem aR.qu{P:Addr->Prop}{v:V}{i:Bool}(h:aR K P H v (.bool i)):v=.bl i:=by
 have h:aQ K (cutH P H) v (.bool i):=h;cases h;rfl
theorem aR.LL{P:Addr->Prop}{v:V}(h:aR K P H v .none):v=.non:=by
 have h:aQ K (cutH P H) v .none:=h;cases h;rfl
theorem aR.lst{P:Addr->Prop}{a:Addr}{ys:List V}{ds:List PyData}(n:¬ P a)(h:H a=some (.lst ys))(r:cj (aR K P H) ys ds):aR K P H (.ref a) (.list ds):=aQ.lst (bu.of (eK.mpr ⟨n,h⟩)) r.1 r.2
theorem aR.tup{P:Addr->Prop}{a:Addr}{ys:List V}{ds:List PyData}(n:¬ P a)(h:H a=some (.tup ys))(r:cj (aR K P H) ys ds):aR K P H (.ref a) (.tuple ds):=aQ.tup (bV.of (eK.mpr ⟨n,h⟩)) r.1 r.2
theorem Ext.same(s:aS H H1):Ext al H st al H1 st:=⟨.of s,λ_ _ r h=>⟨r,h⟩,λ_ z=>.inl z,λ_ z=>.inl z⟩
theorem Ext.new{a:Addr}{o:HO}(h:H a=none):Ext al H st al (upd H a o) st:=.same λc p e=>by rw[uN (nN e h)];exact e
theorem B3.kn{G1:Addr->Prop}{fp:List Addr}{c:Ce}(h:B3 K (Fb G al st) H al fp c)(g:∀c,G1 c->G c∨H c=none)(e:Ext al H st aY H1 ay)(hP:∀c,Fb G al st c->∃o,H c=some o/\j9 o)(k:c.lv=true->∀a∈fp,∀o,H a=some o->H1 a=some o):B3 K (Fb G1 aY ay) H1 aY fp c:=by
 cases c with
 | live xs =>
  obtain⟨a,ys,h0,h1,h2⟩:=h;exact⟨a,ys,h0,k rfl a (by rw[h0];exact aaN.mpr rfl) _ h1,h2.imp λy x z=>aR.kn z g e⟩
 | froz ds =>
  obtain⟨a,h0,h1⟩:=h;exact⟨a,h0,aR.kn h1 g e⟩
 | deep xs =>
  obtain⟨a,ys,h0,h1,h2⟩:=h;exact⟨a,ys,h0,k rfl a (by rw[h0];exact aaN.mpr rfl) _ h1,h2.imp λy x z=>gm.kn z g e⟩
 | obj o=>exact⟨h.1,o.keep _ _ _ _ _ _ h.2 hP (k rfl) (jH g e)⟩
theorem B3.ext{fp:List Addr}{c:Ce}(h:B3 K (Fb G al st) H al fp c)(e:Ext al H st aY H1 ay)(hP:∀c,Fb G al st c->∃o,H c=some o/\j9 o)(k:c.lv=true->∀a∈fp,∀o,H a=some o->H1 a=some o):B3 K (Fb G aY ay) H1 aY fp c:=h.kn (λ_ z=>.inl z) e hP k
theorem DI.mr(I:DI J H0 A0 G al H st){c:Addr}(h:Fb G al st c):∃o,H c=some o/\j9 o:=by
 rcases h with h | ⟨k,fp,ce,h1,h2,h3,h4⟩
 ·exact I.gs c h
 ·have z:=I.cel k fp ce h1 h3
  cases ce with
  | live xs=>obtain⟨a,ys,rfl,g,_⟩:=z;rw[pT h2];exact⟨_,g,.inl ⟨_,rfl⟩⟩
  | froz ds=>cases h4
  | deep xs=>obtain⟨a,ys,rfl,g,_⟩:=z;rw[pT h2];exact⟨_,g,.inl ⟨_,rfl⟩⟩
  | obj o=>exact o.mu _ _ _ _ z.2 c h2
theorem DI.same(I:DI J H0 A0 G al H st)(s:aS H H1):DI J H0 A0 G al H1 st:=⟨I.len,I.nd,(λa ha=>by obtain⟨o,e⟩:=I.ok a ha;exact⟨o,s _ _ e⟩),(λk a c h1 h2=>(I.cel k a c h1 h2).ext (.same s) (λc hc=>I.mr hc) λ_ a _ o e=>s _ _ e),(λc o n e=>s c o (I.fr c o n e)),I.nw,I.gd,(λc hc=>by obtain⟨o,e,m⟩:=I.gs c hc;exact⟨o,s _ _ e,m⟩),I.lk⟩
theorem DI.new(I:DI J H0 A0 G al H st){a:Addr}{o:HO}(h:H a=none):DI J H0 A0 G al (upd H a o) st:=I.same λc p e=>by rw[uN (nN e h)];exact e
theorem DI.Hf(I:DI J H0 A0 G al H st){a:Addr}(h:H a=none):¬ Fb G al st a:=by
 intro z;rcases z with z | z
 ·obtain⟨o,e,_⟩:=I.gs a z;rw[h]at e;cases e
 ·obtain⟨o,e⟩:=I.ok a z.mem;rw[h]at e;cases e
theorem DI.n0(I:DI J H0 A0 G al H st){a:Addr}(h:H a=none):A0 a∨H0 a=none:=by
 cases q:H0 a with
 | none=>exact .inr rfl
 | some o =>
  by_cases w:A0 a
  ·exact .inl w
  ·rw[I.fr a o w q]at h;cases h
theorem DI.freeze(I:DI J H0 A0 G al H st){k:Nat}{fp:List Addr}{ds:List PyData}(ha:al[k]?=some fp)(hs:st[k]?=some (.live ds)):∃a,fp=[a]/\Ext al H st al H (st.set k (.froz ds))/\DI J H0 A0 G al H (st.set k (.froz ds))/\aR J (Fb G al (st.set k (.froz ds))) H (.ref a) (.list ds):=by
 have hk:=(eA hs).1
 have E:Ext al H st al H (st.set k (.froz ds)):=⟨.refl,λ_ _ r h=>⟨r,h⟩,λ_ z=>.inl z,λc ⟨j,f,ce,h1,h2,h3,h4⟩=>by
  by_cases e:k=j
  ·subst e;rw[aas hk]at h3;cases h3;cases h4
  ·rw[aau e]at h3;exact .inl ⟨j,f,ce,h1,h2,h3,h4⟩⟩
 obtain⟨a,ys,rfl,g1,g2⟩:=I.cel k fp _ ha hs
 have na:¬ Fb G al (st.set k (.froz ds)) a:=λz=>by
  rcases z with z | ⟨j,f,ce,h1,h2,h3,h4⟩
  ·exact I.gd a (ck ha (aaN.mpr rfl)) z
  ·have:=eW I.nd ha h1 (aaN.mpr rfl) h2;subst this;rw[aas hk]at h3;cases h3;cases h4
 have F:aR J (Fb G al (st.set k (.froz ds))) H (.ref a) (.list ds):=.lst na g1 (g2.imp λy x z=>aR.ext z E);refine⟨a,rfl,E,⟨by rw[aaM];exact I.len,I.nd,I.ok,λj b c h1 h2=>?_,I.fr,I.nw,I.gd,I.gs,I.lk⟩,F⟩;by_cases e:k=j
 ·subst e;rw[aas hk]at h2;rw[ha]at h1;cases h1;cases h2;exact⟨a,rfl,F⟩
 ·rw[aau e]at h2;exact(I.cel j b c h1 h2).ext E (λc hc=>I.mr hc) λ_ _ _ o q=>q
theorem DI.more(I:DI J H0 A0 G al H st){fp:List Addr}{c:Ce}(fr:∀a∈fp,H a=none)(nd:fp.Nodup)(s:aS H H1)(ok:∀a∈fp,∃o,H1 a=some o)(hc:B3 J (Fb G (al++[fp]) (st++[c])) H1 (al++[fp]) fp c):Ext al H st (al++[fp]) H1 (st++[c])/\DI J H0 A0 G (al++[fp]) H1 (st++[c]):=by
 have nal:∀a∈fp,a∉al.flatten:=λa ha z=>by obtain⟨o,e⟩:=I.ok a z;rw[fr a ha]at e;cases e
 have mem:∀c∈(al++[fp]).flatten,c∈al.flatten∨c∈fp:=λc hc=>by
  rw[List.flatten_append,acA]at hc;exact aaK.mp hc
 have E:Ext al H st (al++[fp]) H1 (st++[c]):=⟨.of s,λk a r h=>⟨r,by rw[aaw (eA h).1];exact h⟩,λc hc=>by
   rcases mem c hc with z | z
   ·exact .inl z
   ·exact .inr (fr c z),λc ⟨j,f,ce,h1,h2,h3,h4⟩=>by
  by_cases e:j < al.length
  ·rw[aaw e]at h1;rw[aaw (by rw[← I.len];exact e)]at h3;exact .inl ⟨j,f,ce,h1,h2,h3,h4⟩
  ·rw[aaD (by omega)]at h1;have:=aaz h1;rw[pT this]at h2;exact .inr (fr c h2)⟩
 refine⟨E,⟨by simp[I.len],?_,λc hc=>?_,λj b c' h1 h2=>?_,λc o n e=>s c o (I.fr c o n e),λc hc=>?_,λc hc=>?_,λc hc=>?_,I.lk⟩⟩
 ·rw[List.flatten_append,acA,List.nodup_append];exact⟨I.nd,nd,λx hx y hy z=>nal y hy (z ▸ hx)⟩
 ·rcases mem c hc with z | z
  ·obtain⟨o,e⟩:=I.ok c z;exact⟨o,s _ _ e⟩
  ·exact ok c z
 ·by_cases e:j < al.length
  ·rw[aaw e]at h1;rw[aaw (by rw[← I.len];exact e)]at h2;exact(I.cel j b c' h1 h2).ext E (λc hc=>I.mr hc) λ_ _ _ o q=>s _ _ q
  ·have hj:j=al.length:=by have:=(eA h1).1;simp at this;omega
   subst hj;rw[aaD (aai _),abY]at h1;rw[I.len,aaD (aai _),abY]at h2;cases h1;cases h2;exact hc
 ·rcases mem c hc with z | z
  ·exact I.nw c z
  ·exact I.n0 (fr c z)
 ·rcases mem c hc with z | z
  ·exact I.gd c z
  ·exact λw=>I.Hf (fr c z) (.inl w)
 ·obtain⟨o,e,m⟩:=I.gs c hc;exact⟨o,s _ _ e,m⟩
theorem DI.cell(I:DI J H0 A0 G al H st){a:Addr}{ys:List V}{xs:List PyData}(h:H a=none)(hy:cj (aR J (Fb G al st) H) ys xs):Ext al H st (al++[[a]]) (upd H a (.lst ys)) (st++[.live xs])/\DI J H0 A0 G (al++[[a]]) (upd H a (.lst ys)) (st++[.live xs]):=by
 have s:aS H (upd H a (.lst ys)):=λc p e=>by rw[uN (nN e h)];exact e
 refine I.more (λc hc=>by rw[pT hc];exact h) (by simp) s (λc hc=>by rw[pT hc];exact⟨_,uS⟩) ⟨a,ys,rfl,uS,hy.imp λy x z=>aQ.same (jG λc o n q=>⟨λw=>?_,s _ _ q⟩) z⟩;rcases w with w | ⟨j,f,ce,h1,h2,h3,h4⟩
 ·exact n (.inl w)
 ·by_cases e:j < al.length
  ·rw[aaw e]at h1;rw[aaw (by rw[← I.len];exact e)]at h3;exact n (.inr ⟨j,f,ce,h1,h2,h3,h4⟩)
  ·rw[aaD (by omega)]at h1;have:=aaz h1;rw[pT this]at h2;rw[pT h2,h]at q;cases q
theorem DI.turn(I:DI J H0 A0 G al H st){k:Nat}{a:Addr}{r r':List Addr}{c c':Ce}(ha:al[k]?=some (a::r))(hs:st[k]?=some c)(hl:c.lv=true)(kp:∀b o,b∉a::r->H b=some o->H1 b=some o)(nw:∀b∈r',b∈a::r∨H b=none)(ok:∀b∈a::r',∃o,H1 b=some o)(nd:(a::r').Nodup)(na:∀b∈r',b∉a::r->H b=none)
  (hc:aS (cutH (Fb G al st) H) (cutH (Fb G (al.set k (a::r')) (st.set k c')) H1)->B3 J (Fb G (al.set k (a::r')) (st.set k c')) H1 (al.set k (a::r')) (a::r') c') (mu:∀b∈a::r,∃o,H b=some o/\j9 o):Ext al H st (al.set k (a::r')) H1 (st.set k c')/\DI J H0 A0 G (al.set k (a::r')) H1 (st.set k c'):=by
 have hk:=(eA hs).1;have hka:=(eA ha).1;have lvk:∀b∈a::r,Lv al st b:=λb hb=>⟨k,_,c,ha,hb,hs,hl⟩
 have mem:∀b∈(al.set k (a::r')).flatten,b∈al.flatten∨H b=none:=λb hb=>by
  obtain⟨f,hf,hbf⟩:=abh.mp hb;rcases acf hf with z | z
  ·exact .inl (abh.mpr ⟨f,z,hbf⟩)
  ·rw[z]at hbf;rcases aaB.mp hbf with y | y
   ·rw[y];exact .inl (ck ha aae)
   ·rcases nw b y with w | w
    ·exact .inl (ck ha w)
    ·exact .inr w
 have E:Ext al H st (al.set k (a::r')) H1 (st.set k c'):=⟨λb o n e=>kp b o (λz=>n (lvk b z)) e,λj b q h=>by
   by_cases e:k=j
   ·subst e;rw[ha]at h;cases h;exact⟨r',by rw[aas hka]⟩
   ·exact⟨q,by rw[aau e];exact h⟩,mem,λb ⟨j,f,ce,h1,h2,h3,h4⟩=>by
   by_cases e:k=j
   ·subst e;rw[aas hka]at h1;cases h1;rcases aaB.mp h2 with y | y
    ·rw[y];exact .inl (lvk a aae)
    ·rcases nw b y with w | w
     ·exact .inl (lvk b w)
     ·exact .inr w
   ·rw[aau e]at h1 h3;exact .inl ⟨j,f,ce,h1,h2,h3,h4⟩⟩
 have keepOther:∀(j:Nat) f,k≠j->al[j]?=some f->∀b∈f,∀o,H b=some o->H1 b=some o:=λj f e hf b hb o q=>kp b o (λz=>e (eW I.nd ha hf z hb)) q
 have parted:∀b∈(al.set k (a::r')).flatten,b∈a::r'∨∃(j:Nat) (f:List Addr),k≠j/\al[j]?=some f/\b∈f:=λb hb=>by
  obtain⟨f,hf,hbf⟩:=abh.mp hb;obtain⟨j,hj⟩:=aaO hf;by_cases e:k=j
  ·subst e;rw[aas hka]at hj;cases hj;exact .inl hbf
  ·rw[aau e]at hj;exact .inr ⟨j,f,e,hj,hbf⟩
 refine⟨E,⟨by rw[aaM,aaM];exact I.len,?_,λb hb=>?_,λj f ce h1 h2=>?_,λb o n e=>?_,λb hb=>?_,λb hb=>?_,λb hb=>?_,I.lk⟩⟩
 ·unfold List.Nodup;rw[List.pairwise_flatten,List.pairwise_iff_getElem];have SM:=I.nd;refine⟨λf hf=>?_,λi j hi hj hij x hx y hy=>?_⟩
  ·rcases acf hf with z | z
   ·exact(abx.mp SM).1 f z
   ·rw[z];exact nd
  ·intro e;subst e;have gi:=gP hi;have gj:=gP hj
   have far:∀(j:Nat) f,k≠j->al[j]?=some f->x∈f->x∈a::r'->False:=λj f e hf hxf hx'=>by
    by_cases w:x∈a::r
    ·exact e (eW SM ha hf w hxf)
    ·rcases aaB.mp hx' with z | z
     ·exact w (by rw[z];exact aae)
     ·obtain⟨o,q⟩:=I.ok x (ck hf hxf);rw[na x z w]at q;cases q
   by_cases e1:k=i
   ·subst e1;have e2:k≠j:=by omega
    rw[aas hka]at gi;rw[aau e2]at gj;exact far j _ e2 gj hy (by rw[aaq gi];exact hx)
   ·rw[aau e1]at gi;by_cases e2:k=j
    ·subst e2;rw[aas hka]at gj;exact far i _ e1 gi hx (by rw[aaq gj];exact hy)
    ·rw[aau e2]at gj;exact absurd (eW SM gi gj hx hy) (by omega)
 ·rcases parted b hb with z | ⟨j,f,e,hf,hbf⟩
  ·exact ok b z
  ·obtain⟨o,q⟩:=I.ok b (ck hf hbf);exact⟨o,keepOther j f e hf b hbf o q⟩
 ·by_cases e:k=j
  ·subst e;rw[aas hka]at h1;rw[aas hk]at h2;cases h1;cases h2;exact hc (jH (λ_ z=>.inl z) E)
  ·rw[aau e]at h1 h2;exact(I.cel j f ce h1 h2).ext E (λc hc=>I.mr hc) λ_ b hb o q=>keepOther j f e h1 b hb o q
 ·by_cases w:b∈a::r
  ·rcases I.nw b (ck ha w)with y | y
   ·exact absurd y n
   ·rw[y]at e;cases e
  ·exact kp b o w (I.fr b o n e)
 ·rcases mem b hb with z | z
  ·exact I.nw b z
  ·exact I.n0 z
 ·intro z;rcases mem b hb with w | w
  ·exact I.gd b w z
  ·exact I.Hf w (.inl z)
 ·obtain⟨o,q,m⟩:=I.gs b hb;refine⟨o,kp b o (λz=>I.gd b (ck ha z) hb) q,m⟩
theorem DI.put(I:DI J H0 A0 G al H st){k:Nat}{a:Addr}{zs xs:List PyData}{ys:List V}(ha:al[k]?=some [a])(hs:st[k]?=some (.live zs))(hy:cj (aR J (Fb G al st) H) ys xs):Ext al H st al (upd H a (.lst ys)) (st.set k (.live xs))/\DI J H0 A0 G al (upd H a (.lst ys)) (st.set k (.live xs)):=by
 have ea:al.set k [a]=al:=by
  apply List.ext_getElem?;intro j;by_cases e:k=j
  ·subst e;rw[aas (eA ha).1,ha]
  ·rw[aau e]
 obtain⟨b,ws,e0,g1,g2⟩:=I.cel k [a] _ ha hs;cases e0;have z:=I.turn (H1:=upd H a (.lst ys)) (r:=[]) (r':=[]) (c':=.live xs) ha hs rfl (λb o n e=>by rw[uN (λz=>n (by rw[z];exact List.mem_cons_self))];exact e) (λb hb=>nomatch hb) (λb hb=>by rw[pT hb];exact⟨_,uS⟩) (by simp) (λb hb=>nomatch hb) (λs=>⟨a,ys,rfl,uS,hy.imp λy x z=>aQ.same s z⟩) (λb hb=>by rw[pT hb];exact⟨_,g1,.inl ⟨_,rfl⟩⟩);rw[ea]at z;exact z
theorem v9{k:Nat}{fp:List Addr}(ha:al[k]?=some fp):al.set k fp=al:=by
 apply List.ext_getElem?;intro j;by_cases e:k=j
 ·subst e;rw[aas (eA ha).1,ha]
 ·rw[aau e]
theorem DI.putD(I:DI J H0 A0 G al H st){k:Nat}{a:Addr}{zs xs:List DV}{ys:List V}(ha:al[k]?=some [a])(hs:st[k]?=some (.deep zs))(hy:cj (gm J (Fb G al st) H al) ys xs):Ext al H st al (upd H a (.lst ys)) (st.set k (.deep xs))/\DI J H0 A0 G al (upd H a (.lst ys)) (st.set k (.deep xs)):=by
 obtain⟨b,ws,e0,g1,g2⟩:=I.cel k [a] _ ha hs;cases e0
 have z:=I.turn (H1:=upd H a (.lst ys)) (r:=[]) (r':=[]) (c':=.deep xs) ha hs rfl (λb o n e=>by rw[uN (λz=>n (by rw[z];exact List.mem_cons_self))];exact e) (λb hb=>nomatch hb) (λb hb=>by rw[pT hb];exact⟨_,uS⟩) (by simp) (λb hb=>nomatch hb) (λs=>⟨a,ys,rfl,uS,hy.imp λy x z=>by
    cases x with
    | dat d=>exact aQ.same s z
    | ref j=>rw[v9 ha];exact z⟩) (λb hb=>by rw[pT hb];exact⟨_,g1,.inl ⟨_,rfl⟩⟩)
 rw[v9 ha]at z;exact z
theorem DI.PD(I:DI J H0 A0 G al H st){p:Addr}{xs:List V}(h:bV J H p xs):bV J (cutH (Fb G al st) H) p xs:=by
 have n:∀o,H p=some o->¬ j9 o->¬ Fb G al st p:=λo e m z=>by
  obtain⟨o',e',m'⟩:=I.mr z;rw[e]at e';cases e';exact m m'
 rcases h with(h | ⟨o,h⟩) | h
 ·exact .inl (.inl (eK.mpr ⟨n _ h (λm=>by rcases m with⟨ys,m⟩ | ⟨C,dx,fs,m⟩ | ⟨φ,m⟩<;>cases m),h⟩))
 ·exact .inl (.inr ⟨o,eK.mpr ⟨n _ h (λm=>by rcases m with⟨ys,m⟩ | ⟨C,dx,fs,m⟩ | ⟨φ,m⟩<;>cases m),h⟩⟩)
 ·exact .inr h
end
abbrev DC:=DV->aE->Prop
abbrev DX:=bL->aE->DC->Prop
abbrev mY:=bL->aE->(List DV->aE->Prop)->Prop
abbrev DT:=bL->aE->(Bool->aE->Prop)->Prop
abbrev Hg:=DV->DV->aE->DC->Prop
abbrev SN:=List DV->aE->DC->Prop
def Kn(J:KF)(H0:Hp)(A0:Addr->Prop)(G:Addr->Prop)(al:List (List Addr))(H:Hp)(st:aE)(Q:DC)(R:VK):Prop:=∀dv st' al' v H',Ext al H st al' H' st'->DI J H0 A0 G al' H' st'->gm J (Fb G al' st') H' al' v dv->Q dv st'->R v H'
def PF(J:KF)(H0:Hp)(A0:Addr->Prop)(G:Addr->Prop)(al:List (List Addr))(H:Hp)(st:aE)(Q:Bool->aE->Prop)(R:Bool->Hp->Prop):Prop:=∀b st' al' H',Ext al H st al' H' st'->DI J H0 A0 G al' H' st'->Q b st'->R b H'
def Xv(J:KF)(H0:Hp)(A0:Addr->Prop)(G:Addr->Prop)(al:List (List Addr))(H:Hp)(st:aE)(Q:List DV->aE->Prop)(R:List V->Hp->Prop):Prop:=∀dvs st' al' vs H',Ext al H st al' H' st'->DI J H0 A0 G al' H' st'->cj (gm J (Fb G al' st') H' al') vs dvs->Q dvs st'->R vs H'
def AE(J:KF)(t:TE)(e:DX):Prop:=∀(H0:Hp) (A0:Addr->Prop) (G:Addr->Prop) (al:List (List Addr)) (H:Hp) (st:aE) (s:St) (env:bL) (Q:DC) (R:VK),DI J H0 A0 G al H st->mX J (Fb G al st) H al s env->e env st Q->Kn J H0 A0 G al H st Q R->t s H R
def AT(J:KF)(t:TT)(e:DT):Prop:=∀(H0:Hp) (A0:Addr->Prop) (G:Addr->Prop) (al:List (List Addr)) (H:Hp) (st:aE) (s:St) (env:bL) (Q:Bool->aE->Prop) (R:Bool->Hp->Prop),DI J H0 A0 G al H st->mX J (Fb G al st) H al s env->e env st Q->PF J H0 A0 G al H st Q R->t s H R
def AA(J:KF)(t:TA)(n:Nat)(e:mY):Prop:=∀(H0:Hp) (A0:Addr->Prop) (G:Addr->Prop) (al:List (List Addr)) (H:Hp) (st:aE) (s:St) (env:bL) (Q:List DV->aE->Prop) (R:List V->Hp->Prop),DI J H0 A0 G al H st->mX J (Fb G al st) H al s env->e env st Q->Xv J H0 A0 G al H st (λl s=>l.length=n/\Q l s) R->t s H R
def AO(J:KF)(r:R2)(o:Hg):Prop:=∀(H0:Hp) (A0:Addr->Prop) (G:Addr->Prop) (al:List (List Addr)) (H:Hp) (st:aE) (x y:V) (dx dy:DV) (Q:DC) (R:VK),DI J H0 A0 G al H st->gm J (Fb G al st) H al x dx->gm J (Fb G al st) H al y dy->o dx dy st Q->Kn J H0 A0 G al H st Q R->r x y H R
def AB(J:KF)(r:List V->Hp->VK->Prop)(o:SN):Prop:=∀(H0:Hp) (A0:Addr->Prop) (G:Addr->Prop) (al:List (List Addr)) (H:Hp) (st:aE) (vs:List V) (ds:List DV) (Q:DC) (R:VK),DI J H0 A0 G al H st->cj (gm J (Fb G al st) H al) vs ds->o ds st Q->Kn J H0 A0 G al H st Q R->r vs H R
structure bN(X:Cx)(Y:YK)(e:Expr)(d:DX):Prop where
 h:∃t,PE X e t/\AE (kf X Y) t d
structure ya(X:Cx)(Y:YK)(e:Expr)(d:DT):Prop where
 h:∃t,PT X e t/\AT (kf X Y) t d
structure Ba(X:Cx)(Y:YK)(e:Expr)(d:DT):Prop where
 h:∃t,PW X e t/\AT (kf X Y) t d
structure wa(X:Cx)(Y:YK)(es:List Expr)(n:Nat)(d:mY):Prop where
 h:∃t,PA X es t/\AA (kf X Y) t n d
section
variable {K:aJ} {J:KF} {H0:Hp} {A0:Addr->Prop} {G:Addr->Prop} {al aY cq:List (List Addr)} {H H1 H2:Hp} {st ay bq:aE} {Q:DC} {R:VK}
theorem Kn.here(k:Kn J H0 A0 G al H st Q R)(I:DI J H0 A0 G al H st){v:V}{dv:DV}(h:gm J (Fb G al st) H al v dv)(q:Q dv st):R v H:=k dv st al v H .refl I h q
theorem Kn.laid(k:Kn J H0 A0 G al H st Q R)(I:DI J H0 A0 G al H st){v:V}{dv:DV}(s:aS H H1)(h:gm J (Fb G al st) H1 al v dv)(q:Q dv st):R v H1:=k dv st al v H1 (.same s) (I.same s) h q
theorem Kn.go(k:Kn J H0 A0 G al H st Q R)(I:DI J H0 A0 G aY H1 ay)(e:Ext al H st aY H1 ay):Kn J H0 A0 G aY H1 ay Q R:=λdv st' al' v H' e' I' h q=>k dv st' al' v H' (e.trans I e') I' h q
theorem PF.go{Q:Bool->aE->Prop}{R:Bool->Hp->Prop}(k:PF J H0 A0 G al H st Q R)(I:DI J H0 A0 G aY H1 ay)(e:Ext al H st aY H1 ay):PF J H0 A0 G aY H1 ay Q R:=λdv st' al' H' e' I' q=>k dv st' al' H' (e.trans I e') I' q
theorem jI{a:Addr}{o:HO}(h:H a=none):aS H (upd H a o):=λc p e=>by rw[uN (nN e h)];exact e
end
@[reducible] def pj(i:Nat)(env:bL)(st:aE)(Q:DC):Prop:=match env[i]? with
 | some (some dv)=>Q dv st
 | _=>False
@[reducible] def eC(d:PyData)(_:bL)(st:aE)(Q:DC):Prop:=Q (.dat d) st
section
variable {X:Cx} {Y:YK} {a b c e:Expr} {es:List Expr} {pos:Pos} {ea eb ec:DX}
theorem LM{J:KF}{i:Nat}:AE J (Gw i) (pj i):=λH0 A0 G al H st s env Q R I E h k=>by
 unfold pj at h;split at h
 ·rename_i dv hd;obtain⟨v,h1,h2⟩:=E.2 i dv hd;exact⟨v,h1,k.here I h2 h⟩
 ·exact h.elim
theorem Hh{J:KF}{v:V}{d:PyData}(h:∀H,aQ J H v d):AE J (tC v) (eC d):=λH0 A0 G al H st s env Q R I E q k=>k.here I (.d (h _)) q
theorem ah(i:Nat){x:Str}(hN:X.N[i]?=some x:=by rfl)(hv:Ro X.env.scope x:=by first | exact aar rfl | exact abW (aar rfl) | exact abW (abW rfl))(hd:(x == ("__debug__" : Str))=false:=by decide)
  (hcd:(x == ("__classdict__" : Str))=false:=by decide):bN X Y (.Name x pos) (pj i):=⟨_,Cq hN hv hd hcd,LM⟩
theorem ar{i j}:bN X Y (.Constant (.int i) j pos) (eC (.int i)):=⟨_,pI,Hh λ_=>.int i⟩
theorem Ki{i j}:bN X Y (.Constant (.bool i) j pos) (eC (.bool i)):=⟨_,Cr,Hh λ_=>.bl i⟩
theorem LN{j}:bN X Y (.Constant .none j pos) (eC .none):=⟨_,lz,Hh λ_=>.non⟩
theorem aT{i j}:bN X Y (.Constant (.str i) j pos) (eC (.str i)):=⟨_,aP,Hh λ_=>.str i⟩
@[reducible] def sV(o:Hg)(ea eb:DX)(env:bL)(st:aE)(Q:DC):Prop:=ea env st λx ay=>eb env ay λy bq=>o x y bq Q
theorem zK{J:KF}{r:R2}{o:Hg}{ta tb:TE}(ho:AO J r o)(ha:AE J ta ea)(hb:AE J tb eb):AE J (OY r ta tb) (sV o ea eb):=λH0 A0 G al H st s env Q R I E h k=>by
 refine ha H0 A0 G al H st s env _ _ I E h λx ay aY v H1 e1 I1 d1 q1=>?_
 refine hb H0 A0 G aY H1 ay s env _ _ I1 (E.ext e1) q1 λy bq cq u H2 e2 I2 d2 q2=>?_
 exact ho H0 A0 G cq H2 bq v u x y Q R I2 (d1.ext e2) d2 q2 (k.go I2 (e1.trans I1 e2))
theorem qv{op:Operator}{r:R2}{o:Hg}(ho:jf X (binaryOp op) r)(ao:AO (kf X Y) r o)(ha:bN X Y a ea)(hb:bN X Y b eb):bN X Y (.BinOp a op b pos) (sV o ea eb):=by
 obtain⟨ta,p1,a1⟩:=ha.h;obtain⟨tb,p2,a2⟩:=hb.h;exact⟨_,cz ho p1 p2,zK ao a1 a2⟩
theorem LO{op:CmpOp}{r:R2}{o:Hg}(ho:jf X (compareOp op) r)(ao:AO (kf X Y) r o)(ha:bN X Y a ea)(hb:bN X Y b eb)(hm:behindInMarks op b=false):bN X Y (.Compare a [op] [b] pos) (sV o ea eb):=by
 obtain⟨ta,p1,a1⟩:=ha.h;obtain⟨tb,p2,a2⟩:=hb.h;exact⟨_,jE ho p1 p2 hm,zK ao a1 a2⟩
theorem nj{f:Value->Value->Sem Value}{r r':R2}(h:jf X f r)(h':jf X f r'):jf X f (λx y H Q=>r x y H Q∨r' x y H Q):=λpins s σ H x y v u Q I rx ry q=>by
 rcases q with q | q
 ·exact h pins s σ H x y v u Q I rx ry q
 ·exact h' pins s σ H x y v u Q I rx ry q
@[reducible] def oI(C:Int->Int->Prop)(g:Int->Int->PyData)(x y:DV)(st:aE)(Q:DC):Prop:=match x,y with
 | .dat (.int i),.dat (.int j)=>C i j/\Q (.dat (g i j)) st
 | _,_=>False
@[reducible] def Kj(g:Int->Int->PyData)(x y:DV)(st:aE)(Q:DC):Prop:=match x,y with
 | .dat (.int i),.dat (.int j)=>Q (.dat (g i j)) st
 | _,_=>False
theorem Hi{J:KF}{C:Int->Int->Prop}{g:Int->Int->V}{d:Int->Int->PyData}(h:∀i j H,aQ J H (g i j) (d i j)):AO J (rI C g) (oI C d):=λH0 A0 G al H st x y dx dy Q R I a b q k=>by
 unfold oI at q;split at q
 ·rw[aR.ba a,aR.ba b];exact⟨_,_,rfl,rfl,q.1,k.here I (.d (h _ _ _)) q.2⟩
 ·exact q.elim
theorem wb{J:KF}{g:Int->Int->V}{d:Int->Int->PyData}(h:∀i j H,aQ J H (g i j) (d i j)):AO J (FO g) (Kj d):=λH0 A0 G al H st x y dx dy Q R I a b q k=>by
 unfold Kj at q;split at q
 ·rw[aR.ba a,aR.ba b];exact⟨_,_,rfl,rfl,k.here I (.d (h _ _ _)) q⟩
 ·exact q.elim
end
@[reducible] def jl(st:aE):DV->Option (List PyData)
 | .dat (.list ds)=>some ds
 | .ref k=>match st[k]? with
  | some (.live ds)=>some ds
  | some (.froz ds)=>some ds
  | _=>none
 | _=>none
@[reducible] def sW(st:aE):DV->Option PyData
 | .dat d=>some d
 | .ref k=>match st[k]? with
  | some (.live ds)=>some (.list ds)
  | some (.froz ds)=>some (.list ds)
  | _=>none
section
variable {K:aJ} {J:KF} {H0:Hp} {A0:Addr->Prop} {G:Addr->Prop} {al aY cq:List (List Addr)} {H H1 H2:Hp} {st ay bq:aE} {Q:DC} {R:VK}
theorem Bb{k:Nat}{ds:List PyData}(e:jl st (.ref k)=some ds):st[k]?=some (.live ds)∨st[k]?=some (.froz ds):=by
 have e:(match st[k]? with | some (.live ds)=>some ds | some (.froz ds)=>some ds | _=>none)=some ds:=e
 revert e
 cases st[k]? with
 | none=>intro e;cases e
 | some c=>cases c with
  | live xs=>intro e;cases e;exact .inl rfl
  | froz xs=>intro e;cases e;exact .inr rfl
  | deep xs=>intro e;cases e
  | obj o=>intro e;cases e
theorem Bd{k:Nat}{d:PyData}(e:sW st (.ref k)=some d):∃ds,jl st (.ref k)=some ds/\d=.list ds:=by
 have e:(match st[k]? with | some (.live ds)=>some (PyData.list ds) | some (.froz ds)=>some (.list ds) | _=>none)=some d:=e;show ∃ds,(match st[k]? with | some (.live ds)=>some ds | some (.froz ds)=>some ds | _=>none)=some ds/\d=.list ds
 revert e
 cases st[k]? with
 | none=>intro e;cases e
 | some c=>cases c with
  | live xs=>intro e;cases e;exact⟨_,rfl,rfl⟩
  | froz xs=>intro e;cases e;exact⟨_,rfl,rfl⟩
  | deep xs=>intro e;cases e
  | obj o=>intro e;cases e
theorem gm.LP(I:DI J H0 A0 G al H st){v:V}{x:DV}{ds:List PyData}(h:gm J (Fb G al st) H al v x)(e:jl st x=some ds):∃(a:Addr) (ys:List V),v=.ref a/\bu J H a ys/\cj (aR J (Fb G al st) H) ys ds:=by
 cases x with
 | dat d =>
  cases d with
  | list xs=>cases e;obtain⟨a,ys,h1,h2,_,h3⟩:=aR.cn h;exact⟨a,ys,h1,h2,h3⟩
  | _=>cases e
 | ref k =>
  obtain⟨a,r,h1,h2⟩:=h;rcases Bb e with hs | hs
  ·obtain⟨a',ys,e0,g1,g2⟩:=I.cel k _ _ h1 hs;cases e0;exact⟨a,ys,h2,bu.of g1,g2⟩
  ·obtain⟨a',e0,g0⟩:=I.cel k _ _ h1 hs;cases e0;obtain⟨b,ys,g1,g2,_,g3⟩:=aR.cn g0;cases g1;exact⟨a,ys,h2,g2,g3⟩
theorem gm.RD(I:DI J H0 A0 G al H st){v:V}{x:DV}{d:PyData}(h:gm J (Fb G al st) H al v x)(e:sW st x=some d):aQ J H v d:=by
 cases x with
 | dat d'=>cases e;exact aR.now h
 | ref k =>
  obtain⟨ds,e1,rfl⟩:=Bd e;obtain⟨a,ys,rfl,h2,h3⟩:=h.LP I e1;exact .lst h2 h3.1 λi x d a b=>(h3.2 i x d a b).now
@[reducible] def lj:DV->aE->(PyData->aE->Prop)->Prop
 | .dat d,st,Q=>Q d st
 | .ref k,st,Q=>match st[k]? with
  | some (.froz ds)=>Q (.list ds) st
  | some (.live ds)=>Q (.list ds) (st.set k (.froz ds))
  | _=>False
@[reducible] def eQ:List DV->aE->(List PyData->aE->Prop)->Prop
 | [],st,Q=>Q [] st
 | x::r,st,Q=>lj x st λd ay=>eQ r ay λds bq=>Q (d::ds) bq
theorem lF(I:DI J H0 A0 G al H st){v:V}{x:DV}{Q:PyData->aE->Prop}(h:gm J (Fb G al st) H al v x)(q:lj x st Q):∃d ay,Ext al H st al H ay/\DI J H0 A0 G al H ay/\aR J (Fb G al ay) H v d/\Q d ay:=by
 cases x with
 | dat d=>exact⟨d,st,.refl,I,h,q⟩
 | ref k =>
  obtain⟨a,r,h1,rfl⟩:=h;unfold lj at q;dsimp only at q;split at q
  ·rename_i ds hs;obtain⟨a',e0,g0⟩:=I.cel k _ _ h1 hs;cases e0;exact⟨_,st,.refl,I,g0,q⟩
  ·rename_i ds hs;obtain⟨a',e0,E,I',F⟩:=I.freeze h1 hs;cases e0;exact⟨_,_,E,I',F,q⟩
  ·exact q.elim
theorem kW:∀{xs:List DV} {st:aE} {vs:List V} {Q:List PyData->aE->Prop},DI J H0 A0 G al H st->cj (gm J (Fb G al st) H al) vs xs->eQ xs st Q->∃ds ay,Ext al H st al H ay/\DI J H0 A0 G al H ay/\cj (aR J (Fb G al ay) H) vs ds/\Q ds ay
 | [],st,vs,Q,I,h,q=>by
  have:=h.1
  cases vs with
  | nil=>exact⟨[],st,.refl,I,.nil,q⟩
  | cons v r=>simp at this
 | x::xs,st,vs,Q,I,h,q=>by
  have:=h.1
  cases vs with
  | nil=>simp at this
  | cons v r =>
   obtain⟨d,ay,E1,I1,F1,q1⟩:=lF I (h.2 0 v x rfl rfl) q;have h':cj (gm J (Fb G al ay) H al) r xs:=⟨by simpa using this,λi y z a b=>(h.2 (i + 1) y z (by simpa using a) (by simpa using b)).ext E1⟩;obtain⟨ds,bq,E2,I2,F2,q2⟩:=kW I1 h' q1;exact⟨d::ds,bq,E1.trans I1 E2,I2,.cons (F1.ext E2) F2,q2⟩
end
section
variable {X:Cx} {Y:YK} {a b c e:Expr} {es:List Expr} {pos:Pos} {ea eb ec:DX} {K:aJ} {J:KF}
@[reducible] def Be(_:bL)(st:aE)(Q:List DV->aE->Prop):Prop:=Q [] st
@[reducible] def j3(ea:DX)(r:mY)(env:bL)(st:aE)(Q:List DV->aE->Prop):Prop:=ea env st λx ay=>r env ay λxs bq=>Q (x::xs) bq
theorem LQ:AA J mf 0 Be:=λH0 A0 G al H st s env Q R I E h k=>k [] st al [] H .refl I .nil ⟨rfl,h⟩
theorem Hj{ta:TE}{tr:TA}{n:Nat}{r:mY}(ha:AE J ta ea)(hr:AA J tr n r):AA J (CH ta tr) (n + 1) (j3 ea r):=λH0 A0 G al H st s env Q R I E h k=>by
 refine ha H0 A0 G al H st s env _ _ I E h λx ay aY v H1 e1 I1 d1 q1=>?_
 refine hr H0 A0 G aY H1 ay s env _ _ I1 (E.ext e1) q1 λxs bq cq vs H2 e2 I2 d2 q2=>?_
 exact k (x::xs) bq cq (v::vs) H2 (e1.trans I1 e2) I2 (.cons (d1.ext e2) d2) ⟨by simp[q2.1],q2.2⟩
theorem au:wa X Y [] 0 Be:=⟨_,pN,LQ⟩
theorem ae{n:Nat}{r:mY}(ha:bN X Y e ea)(hr:wa X Y es n r)(hs:starEach (e::es) X.env=(false,eval e X.env)::starEach es X.env:=by rfl):wa X Y (e::es) (n + 1) (j3 ea r):=by
 obtain⟨ta,p1,a1⟩:=ha.h;obtain⟨tb,p2,a2⟩:=hr.h;exact⟨_,pK p1 p2 hs,Hj a1 a2⟩
@[reducible] def Hk(t:mY)(env:bL)(st:aE)(Q:DC):Prop:=t env st λxs ay=>eQ xs ay λds bq=>Q (.dat (.tuple ds)) bq
@[reducible] def Hl(t:mY)(env:bL)(st:aE)(Q:DC):Prop:=t env st λxs ay=>eQ xs ay λds bq=>Q (.dat (.list ds)) bq
@[reducible] def zL(t:mY)(env:bL)(st:aE)(Q:DC):Prop:=t env st λxs ay=>eQ xs ay λds bq=>Q (.ref bq.length) (bq++[.live ds])
theorem LR{t:TA}{n:Nat}{d:mY}(hn:n<=sizeLine)(h:AA J t n d):AE J (Lc t) (Hk d):=λH0 A0 G al H st s env Q R I E q k=>by
 refine h H0 A0 G al H st s env _ _ I E q λxs ay aY vs H1 e1 I1 d1 q1=>?_
 obtain⟨ds,bq,E2,I2,F2,q2⟩:=kW I1 d1 q1.2;refine⟨by rw[d1.1,q1.1];exact hn,λp hp=>?_⟩;have k2:=k.go I2 (e1.trans I1 E2);exact k2.laid I2 (jI hp) (.d (aR.tup (I2.Hf hp) uS (F2.imp λy x z=>z.same (jI hp)))) q2
theorem LU{t:TA}{n:Nat}{d:mY}(hn:n<=sizeLine)(h:AA J t n d):AE J (Ld t) (Hl d):=λH0 A0 G al H st s env Q R I E q k=>by
 refine h H0 A0 G al H st s env _ _ I E q λxs ay aY vs H1 e1 I1 d1 q1=>?_
 obtain⟨ds,bq,E2,I2,F2,q2⟩:=kW I1 d1 q1.2;refine⟨by rw[d1.1,q1.1];exact hn,λp hp=>?_⟩;have k2:=k.go I2 (e1.trans I1 E2);exact k2.laid I2 (jI hp) (.d (aR.lst (I2.Hf hp) uS (F2.imp λy x z=>z.same (jI hp)))) q2
theorem Kn.cell{H0:Hp}{A0:Addr->Prop}{G:Addr->Prop}{al:List (List Addr)}{H:Hp}{st:aE}{Q:DC}{R:VK}(k:Kn J H0 A0 G al H st Q R)(I:DI J H0 A0 G al H st){p:Addr}{ys:List V}{ds:List PyData}(hp:H p=none)(F:cj (aR J (Fb G al st) H) ys ds)(q:Q (.ref st.length) (st++[.live ds])):R (.ref p) (upd H p (.lst ys)):=by
 obtain⟨E,I'⟩:=I.cell hp F;exact k (.ref st.length) _ _ _ _ E I' ⟨p,[],by rw[← I.len,aaD (aai _),abY];rfl,rfl⟩ q
theorem Kn.list{H0:Hp}{A0:Addr->Prop}{G:Addr->Prop}{al:List (List Addr)}{H:Hp}{st:aE}{Q:DC}{R:VK}(k:Kn J H0 A0 G al H st Q R)(I:DI J H0 A0 G al H st){p:Addr}{ys:List V}{ds:List PyData}(hp:H p=none)(F:cj (aR J (Fb G al st) H) ys ds)(q:Q (.dat (.list ds)) st):R (.ref p) (upd H p (.lst ys)) :=
 k.laid I (jI hp) (.d (aR.lst (I.Hf hp) uS (F.imp λy x z=>z.same (jI hp)))) q
theorem Hm{t:TA}{n:Nat}{d:mY}(hn:n<=sizeLine)(h:AA J t n d):AE J (Ld t) (zL d):=λH0 A0 G al H st s env Q R I E q k=>by
 refine h H0 A0 G al H st s env _ _ I E q λxs ay aY vs H1 e1 I1 d1 q1=>?_
 obtain⟨ds,bq,E2,I2,F2,q2⟩:=kW I1 d1 q1.2;exact⟨by rw[d1.1,q1.1];exact hn,λp hp=>(k.go I2 (e1.trans I1 E2)).cell I2 hp F2 q2⟩
theorem bc{k n:Nat}{d:mY}(h:wa X Y es n d)(hn:n<=sizeLine:=by decide):bN X Y (.Tuple es k pos) (Hk d):=by
 obtain⟨t,p,a⟩:=h.h;exact⟨_,gf p,LR hn a⟩
theorem eB{n:Nat}{d:mY}(h:wa X Y es n d)(hn:n<=sizeLine:=by decide):bN X Y (.List es pos) (Hl d):=by
 obtain⟨t,p,a⟩:=h.h;exact⟨_,ip p,LU hn a⟩
theorem Hn{n:Nat}{d:mY}(h:wa X Y es n d)(hn:n<=sizeLine:=by decide):bN X Y (.List es pos) (zL d):=by
 obtain⟨t,p,a⟩:=h.h;exact⟨_,ip p,Hm hn a⟩
end
theorem lG{n:Nat}(h:n<=1000000):n<=sizeLine:=aaA h (by decide)
section
variable {X:Cx} {Y:YK} {a b c e:Expr} {es:List Expr} {pos:Pos} {ea eb ec:DX} {K:aJ} {J:KF}
@[reducible] def Dx(x y:DV)(st:aE)(Q:DC):Prop:=match x,y with
 | .dat (.int i),.dat (.int j)=>Q (.dat (.int (i + j))) st
 | .dat (.str i),.dat (.str j)=>i.length + j.length<=1000000/\Q (.dat (.str (i++j))) st
 | .dat (.tuple i),.dat (.tuple j)=>i.length + j.length<=1000000/\Q (.dat (.tuple (i++j))) st
 | x,y=>match jl st x,jl st y with
  | some i,some j=>i.length + j.length<=1000000/\Q (.dat (.list (i++j))) st
  | _,_=>False
@[reducible] def wc(x y:DV)(st:aE)(Q:DC):Prop:=match jl st x,jl st y with
  | some i,some j=>i.length + j.length<=1000000/\Q (.ref st.length) (st++[.live (i++j)])
  | _,_=>False
@[reducible] def zM(K:aJ):R2:=λx y H Q=>FO (λi j=>.int (i + j)) x y H Q∨((∃i j,x=.str i/\y=.str j/\i.length + j.length<=sizeLine/\Q (.str (i++j)) H)∨(Kc K x y H Q∨J9 K x y H Q))
theorem zN:jf X (binaryOp .Add) (zM X.K):=nj m9 (nj xD (nj G8 ub))
theorem cj.len{α:Type}{R:V->α->Prop}{ys:List V}{xs:List α}(h:cj R ys xs):ys.length=xs.length:=h.1
theorem Ho:AO J (zM J) wc:=λH0 A0 G al H st x y dx dy Q R I h1 h2 q k=>by
 unfold wc at q;split at q
 ·rename_i i j e1 e2;obtain⟨a,ys,rfl,g1,g2⟩:=h1.LP I e1;obtain⟨b,zs,rfl,g3,g4⟩:=h2.LP I e2;exact .inr (.inr (.inr ⟨a,b,ys,zs,rfl,rfl,g1,g3,by rw[g2.len,g4.len];exact lG q.1,λp hp=>k.cell I hp (g2.append g4) q.2⟩))
 ·exact q.elim
theorem LV:AO J (zM J) Dx:=λH0 A0 G al H st x y dx dy Q R I h1 h2 q k=>by
 have lists:(match jl st dx,jl st dy with
  | some i,some j=>i.length + j.length<=1000000/\Q (.dat (.list (i++j))) st
  | _,_=>False)->zM J x y H R:=λq=>by
  split at q
  ·rename_i i j e1 e2;obtain⟨a,ys,rfl,g1,g2⟩:=h1.LP I e1;obtain⟨b,zs,rfl,g3,g4⟩:=h2.LP I e2;exact .inr (.inr (.inr ⟨a,b,ys,zs,rfl,rfl,g1,g3,by rw[g2.len,g4.len];exact lG q.1,λp hp=>k.list I hp (g2.append g4) q.2⟩))
  ·exact q.elim
 unfold Dx at q;split at q
 ·rw[aR.ba h1,aR.ba h2];exact .inl ⟨_,_,rfl,rfl,k.here I (.d (.int _)) q⟩
 ·rw[aR.cA h1,aR.cA h2];exact .inr (.inl ⟨_,_,rfl,rfl,lG q.1,k.here I (.d (.str _)) q.2⟩)
 ·obtain⟨a,ys,rfl,g1,_,g2⟩:=aR.gn h1;obtain⟨b,zs,rfl,g3,_,g4⟩:=aR.gn h2;refine .inr (.inr (.inl ⟨a,b,ys,zs,rfl,rfl,g1,g3,by rw[g2.len,g4.len];exact lG q.1,λp H' s hp=>k.laid I s (.d ?_) q.2⟩));have g:=(g2.append g4).imp λy x z=>z.same s
  exact aQ.tup ((I.same s).PD hp) g.1 g.2
 ·exact lists q
theorem dN(ha:bN X Y a ea)(hb:bN X Y b eb):bN X Y (.BinOp a .Add b pos) (sV Dx ea eb):=qv zN LV ha hb
theorem Hq(ha:bN X Y a ea)(hb:bN X Y b eb):bN X Y (.BinOp a .Add b pos) (sV wc ea eb):=qv zN Ho ha hb
theorem nk(ha:bN X Y a ea)(hb:bN X Y b eb):bN X Y (.BinOp a .Sub b pos) (sV (Kj λi j=>.int (i - j)) ea eb):=qv ik (wb λ_ _ _=>.int _) ha hb
def MulOk(i j:Int):Prop:=Cw i j∨C2 i j
theorem Hr:jf X (binaryOp .Mult) (rI MulOk λi j=>.int (i * j)):=La λ_ _ _ _ _ _ _ hc q=>mul_int q (by rcases hc with h | h;exact h.ok;exact h.ok)
theorem uj(ha:bN X Y a ea)(hb:bN X Y b eb):bN X Y (.BinOp a .Mult b pos) (sV (oI MulOk λi j=>.int (i * j)) ea eb):=qv Hr (Hi λ_ _ _=>.int _) ha hb
def zO(j:Int):Prop:=0 < j/\j < 18446744073709551616
theorem Dy:jf X (binaryOp .FloorDiv) (rI (λ_ j=>zO j) λi j=>.int (i / j)):=La λi j _ _ _ _ _ hc q=>by
 have h1:(0:Int) < j:=hc.1;have h2:j < 18446744073709551616:=hc.2;exact floordiv_int (by omega) (by rw[Int.fdiv_eq_ediv_of_nonneg i (by omega)];exact q) (.inl (sL.ok (i:=i) ⟨by omega,by omega⟩))
theorem cv(ha:bN X Y a ea)(hb:bN X Y b eb):bN X Y (.BinOp a .FloorDiv b pos) (sV (oI (λ_ j=>zO j) λi j=>.int (i / j)) ea eb):=qv Dy (Hi λ_ _ _=>.int _) ha hb
theorem bC(ha:bN X Y a ea)(hb:bN X Y b eb):bN X Y (.BinOp a .Mod b pos) (sV (oI (λ_ j=>0 < j) λi j=>.int (i % j)) ea eb):=qv xB (Hi λ_ _ _=>.int _) ha hb
theorem yb(ha:bN X Y a ea)(hb:bN X Y b eb):bN X Y (.BinOp a .Pow b pos) (sV (oI O1 λi j=>.int (i ^ j.toNat)) ea eb):=qv Lb (Hi λ_ _ _=>.int _) ha hb
@[reducible] def LW(ea:DX)(env:bL)(st:aE)(Q:DC):Prop:=ea env st λx ay=>match x with
 | .dat (.int i)=>Q (.dat (.int (-i))) ay
 | _=>False
theorem yc(ha:bN X Y a ea):bN X Y (.UnaryOp .USub a pos) (LW ea):=by
 obtain⟨ta,p1,a1⟩:=ha.h;refine⟨_,JX Cy p1,λH0 A0 G al H st s env Q R I E h k=>a1 H0 A0 G al H st s env _ _ I E h λx ay aY v H1 e1 I1 d1 q1=>?_⟩;split at q1
 ·rw[aR.ba d1];exact⟨_,rfl,(k.go I1 e1).here I1 (.d (.int _)) q1⟩
 ·exact q1.elim
@[reducible] def uk(n:Bool->Bool)(x y:DV)(st:aE)(Q:DC):Prop:=match x,y with
 | .dat (.int i),.dat (.int j)=>Q (.dat (.bool (n (decide (i=j))))) st
 | .dat (.str i),.dat (.str j)=>Q (.dat (.bool (n (decide (i=j))))) st
 | x,y=>match sW st x,sW st y with
  | some i,some j=>(PySem.SeqAt.shaped i=true/\PySem.SeqAt.shaped j=true)/\Q (.dat (.bool (n (PyData.eqv i j)))) st
  | _,_=>False
@[reducible] def SO(K:aJ):R2:=λx y H Q=>Vs x y H Q∨Lq K x y H Q
@[reducible] def SQ(K:aJ):R2:=λx y H Q=>Vt x y H Q∨Pe K x y H Q
theorem PH{i j:Int}:decide (V.int i=V.int j)=decide (i=j):=decide_eq_decide.mpr ⟨V.int.inj,λh=>by rw[h]⟩
theorem PJ{i j:Str}:decide (V.str i=V.str j)=decide (i=j):=decide_eq_decide.mpr ⟨V.str.inj,λh=>by rw[h]⟩
theorem Kk:AO J (SO J) (uk id):=λH0 A0 G al H st x y dx dy Q R I h1 h2 q k=>by
 unfold uk at q;split at q
 ·rw[aR.ba h1,aR.ba h2];exact .inl ⟨rfl,k.here I (.d (.bl _)) (by rw[PH];exact q)⟩
 ·rw[aR.cA h1,aR.cA h2];exact .inl ⟨rfl,k.here I (.d (.bl _)) (by rw[PJ];exact q)⟩
 ·split at q
  ·rename_i i j e1 e2;exact .inr ⟨i,j,h1.RD I e1,h2.RD I e2,q.1.1,q.1.2,k.here I (.d (.bl _)) q.2⟩
  ·exact q.elim
theorem PK:AO J (SQ J) (uk not):=λH0 A0 G al H st x y dx dy Q R I h1 h2 q k=>by
 unfold uk at q;split at q
 ·rw[aR.ba h1,aR.ba h2];exact .inl ⟨rfl,k.here I (.d (.bl _)) (by rw[PH];exact q)⟩
 ·rw[aR.cA h1,aR.cA h2];exact .inl ⟨rfl,k.here I (.d (.bl _)) (by rw[PJ];exact q)⟩
 ·split at q
  ·rename_i i j e1 e2;exact .inr ⟨i,j,h1.RD I e1,h2.RD I e2,q.1.1,q.1.2,k.here I (.d (.bl _)) q.2⟩
  ·exact q.elim
theorem PL(hu:X.A.units + 64 < cLine)(ha:bN X Y a ea)(hb:bN X Y b eb):bN X Y (.Compare a [.Eq] [b] pos) (sV (uk id) ea eb):=LO (nj bo (ua hu)) Kk ha hb (aF _)
end
section
variable {X:Cx} {Y:YK} {a b c e:Expr} {es:List Expr} {pos:Pos} {ea eb ec:DX} {K:aJ} {J:KF}
theorem cj.lD{α:Type}{R:V->α->Prop}{ys:List V}{xs:List α}(h:cj R ys xs){i:Int}{x:α}(hx:lD xs i=some x):∃y,L2.lD ys i=some y/\R y x:=by
 unfold L2.lD at hx ⊢;rw[h.1]
 cases q:xP xs.length i with
 | none=>rw[q]at hx;cases hx
 | some j =>
  rw[q]at hx;exact h.at hx
@[reducible] def oR(st:aE):DV->Option (List PyData)
 | .dat (.tuple ds)=>some ds
 | x=>jl st x
theorem gm.RE{H0:Hp}{A0:Addr->Prop}{G:Addr->Prop}{al:List (List Addr)}{H:Hp}{st:aE}(I:DI J H0 A0 G al H st){v:V}{x:DV}{ds:List PyData}(h:gm J (Fb G al st) H al v x)(e:oR st x=some ds):∃(a:Addr) (ys:List V),v=.ref a/\(bu J H a ys∨bV J H a ys)/\cj (aR J (Fb G al st) H) ys ds:=by
 unfold oR at e;split at e
 ·cases e;obtain⟨a,ys,h1,h2,_,h3⟩:=aR.gn h;exact⟨a,ys,h1,.inr h2,h3⟩
 ·obtain⟨a,ys,h1,h2,h3⟩:=h.LP I e;exact⟨a,ys,h1,.inl h2,h3⟩
@[reducible] def PM(x y:DV)(st:aE)(Q:DC):Prop:=match x,y with
 | .dat (.str z),.dat (.int i)=>z.length<=1000000/\∃c,L2.lD z.cps.toList i=some c/\Q (.dat (.str ⟨#[c]⟩)) st
 | x,.dat (.int i)=>match oR st x with
  | some ds=>∃d,L2.lD ds i=some d/\Q (.dat d) st
  | none=>False
 | _,_=>False
theorem PN:AO J (Vv J) PM:=λH0 A0 G al H st x y dx dy Q R I h1 h2 q k=>by
 unfold PM at q;split at q
 ·obtain⟨q1,c,q2,q3⟩:=q;rw[aR.cA h1,aR.ba h2];exact .inr (.inr ⟨_,_,c,rfl,rfl,lG q1,q2,k.here I (.d (.str _)) q3⟩)
 ·split at q
  ·rename_i ds e;obtain⟨d,q1,q2⟩:=q;rw[aR.ba h2];obtain⟨a,ys,rfl,g1,g2⟩:=h1.RE I e;obtain⟨z,g3,g4⟩:=g2.lD q1;rcases g1 with g1 | g1
   ·exact .inl ⟨a,ys,_,z,rfl,rfl,g1,g3,k.here I (.d g4) q2⟩
   ·exact .inr (.inl ⟨a,ys,_,z,rfl,rfl,g1,g3,k.here I (.d g4) q2⟩)
  ·exact q.elim
 ·exact q.elim
theorem ko(ha:bN X Y a ea)(hb:bN X Y b eb)(hs:tY b):bN X Y (.Subscript a b pos) (sV PM ea eb):=by
 obtain⟨ta,p1,a1⟩:=ha.h;obtain⟨tb,p2,a2⟩:=hb.h;exact⟨_,aI CO p1 p2 hs,zK PN a1 a2⟩
abbrev DO:=bL->aE->(Option Int->aE->Prop)->Prop
@[reducible] def Dz(_:bL)(st:aE)(Q:Option Int->aE->Prop):Prop:=Q none st
@[reducible] def DA(e:DX)(env:bL)(st:aE)(Q:Option Int->aE->Prop):Prop:=e env st λx ay=>match x with
 | .dat (.int i)=>Q (some i) ay
 | _=>False
structure RF(X:Cx)(Y:YK)(e:Option Expr)(d:DO):Prop where
 h:∃t,PO X e t/\∀(H0:Hp) (A0:Addr->Prop) (G:Addr->Prop) (al:List (List Addr)) (H:Hp) (st:aE) (s:St) (env:bL) (Q:Option Int->aE->Prop) (R:Option Int->Hp->Prop),DI (kf X Y) H0 A0 G al H st->mX X.K (Fb G al st) H al s env->d env st Q ->
  (∀i st' al' H',Ext al H st al' H' st'->DI (kf X Y) H0 A0 G al' H' st'->Q i st'->R i H')->t s H R
theorem um:RF X Y none Dz:=⟨_,tU,λH0 A0 G al H st s env Q R I E q k=>k none st al H .refl I q⟩
theorem uo(ha:bN X Y a ea):RF X Y (some a) (DA ea):=by
 obtain⟨ta,p1,a1⟩:=ha.h;refine⟨_,tV p1,λH0 A0 G al H st s env Q R I E q k=>a1 H0 A0 G al H st s env _ _ I E q λx ay aY v H1 e1 I1 d1 q1=>?_⟩;split at q1
 ·rw[aR.ba d1];exact⟨_,rfl,k _ _ _ _ e1 I1 q1⟩
 ·exact q1.elim
def cutD(xs:List PyData)(lo hi:Option Int):List PyData:=(xs.drop (HT.dJ xs.length 0 lo)).take (HT.dJ xs.length xs.length hi - HT.dJ xs.length 0 lo)
theorem cj.cut{P:Addr->Prop}{H:Hp}{ys:List V}{ds:List PyData}(h:cj (aR K P H) ys ds)(lo hi:Option Int):cj (aR K P H) (p8 ys lo hi) (cutD ds lo hi):=by
 unfold p8 cutD;rw[h.1];exact(h.drop _).take _
@[reducible] def SR(ea:DX)(lo hi:DO)(env:bL)(st:aE)(Q:DC):Prop:=ea env st λx ay=>lo env ay λl bq=>hi env bq λu je=>match x with
 | .dat (.str z)=>z.length<=1000000/\Q (.dat (.str (Txt.slice z l u))) je
 | .dat (.tuple ds)=>Q (.dat (.tuple (cutD ds l u))) je
 | x=>match jl je x with
  | some ds=>Q (.dat (.list (cutD ds l u))) je
  | none=>False
theorem DB{r r':V->Option Int->Option Int->Hp->VK->Prop}(h:FP X r)(h':FP X r'):FP X (λx l u H Q=>r x l u H Q∨r' x l u H Q):=by
 unfold FP at h h' ⊢
 intros
 rename_i q;rcases q with q | q
 ·apply h<;>assumption
 ·apply h'<;>assumption
theorem SS:FP X (λx l u H Q=>Kf x l u H Q∨(Pn X.K x l u H Q∨Pd X.K x l u H Q)):=DB G9 (DB G7 GP)
theorem DE{lo hi:Option Expr}{l u:DO}{p2:Pos}(ha:bN X Y a ea)(hl:RF X Y lo l)(hh:RF X Y hi u):bN X Y (.Subscript a (.Slice lo hi none p2) pos) (SR ea l u):=by
 obtain⟨ta,p1,a1⟩:=ha.h;obtain⟨tl,p2,a2⟩:=hl.h;obtain⟨th,p3,a3⟩:=hh.h;refine⟨_,p7 SS p1 p2 p3,λH0 A0 G al H st s env Q R I E q k=>a1 H0 A0 G al H st s env _ _ I E q λx ay aY v H1 e1 I1 d1 q1=>?_⟩;refine a2 H0 A0 G aY H1 ay s env _ _ I1 (E.ext e1) q1 λi bq cq H2 e2 I2 q2=>?_
 have we:=e1.trans I1 e2;refine a3 H0 A0 G cq H2 bq s env _ _ I2 (E.ext we) q2 λj je RG H3 e3 I3 q3=>?_
 have k3:=k.go I3 (we.trans I2 e3);have d3:=(d1.ext e2).ext e3;split at q3
 ·rw[aR.cA d3];exact .inl ⟨_,rfl,lG q3.1,k3.here I3 (.d (.str _)) q3.2⟩
 ·obtain⟨b,ys,rfl,g1,_,g2⟩:=aR.gn d3;refine .inr (.inl ⟨b,ys,rfl,g1,λp H' s hp=>k3.laid I3 s (.d ?_) q3⟩);have g:=(g2.cut i j).imp λy x z=>z.same s
  exact aQ.tup ((I3.same s).PD hp) g.1 g.2
 ·split at q3
  ·rename_i ds e;obtain⟨b,ys,rfl,g1,g2⟩:=d3.LP I3 e;exact .inr (.inr ⟨b,ys,rfl,g1,λp hp=>k3.list I3 hp (g2.cut i j) q3⟩)
  ·exact q3.elim
@[reducible] def FQ(ea:DX)(env:bL)(st:aE)(Q:Bool->aE->Prop):Prop:=ea env st λx ay=>match x with
 | .dat (.bool b)=>Q b ay
 | _=>False
@[reducible] def zP(t u:DT)(env:bL)(st:aE)(Q:Bool->aE->Prop):Prop:=t env st λb ay=>if b=true then u env ay Q else Q false ay
@[reducible] def Hs(t u:DT)(env:bL)(st:aE)(Q:Bool->aE->Prop):Prop:=t env st λb ay=>if b=true then Q true ay else u env ay Q
@[reducible] def DF(t:DT)(env:bL)(st:aE)(Q:Bool->aE->Prop):Prop:=t env st λb ay=>Q (!b) ay
theorem yd{t:TE}{e:DX}(h:AE J t e):AT J (CA t) (FQ e):=λH0 A0 G al H st s env Q R I E q k=>h H0 A0 G al H st s env _ _ I E q λx ay aY v H1 e1 I1 d1 q1=>by
 split at q1
 ·rw[aR.qu d1];exact⟨_,rfl,k _ _ _ _ e1 I1 q1⟩
 ·exact q1.elim
theorem uq{op:CmpOp}{r:R2}{o:Hg}(ho:jf X (compareOp op) r)(ao:AO (kf X Y) r o)(ha:bN X Y a ea)(hb:bN X Y b eb)(hm:behindInMarks op b=false):ya X Y (.Compare a [op] [b] pos) (FQ (sV o ea eb)):=by
 obtain⟨ta,p1,a1⟩:=ha.h;obtain⟨tb,p2,a2⟩:=hb.h;exact⟨_,tR ho p1 p2 hm,yd (zK ao a1 a2)⟩
theorem Kl(ha:bN X Y a ea)(hb:bN X Y b eb):ya X Y (.Compare a [.Lt] [b] pos) (FQ (sV (Kj λi j=>.bool (decide (i < j))) ea eb)):=uq zv (wb λ_ _ _=>.bl _) ha hb (aF _)
theorem Km(ha:bN X Y a ea)(hb:bN X Y b eb):ya X Y (.Compare a [.Gt] [b] pos) (FQ (sV (Kj λi j=>.bool (decide (j < i))) ea eb)):=uq O3 (wb λ_ _ _=>.bl _) ha hb (aF _)
theorem mv(hu:X.A.units + 64 < cLine)(ha:bN X Y a ea)(hb:bN X Y b eb):ya X Y (.Compare a [.Eq] [b] pos) (FQ (sV (uk id) ea eb)):=uq (nj bo (ua hu)) Kk ha hb (aF _)
theorem Ko(hu:X.A.units + 64 < cLine)(ha:bN X Y a ea)(hb:bN X Y b eb):ya X Y (.Compare a [.NotEq] [b] pos) (FQ (sV (uk not) ea eb)):=uq (nj zu (Lr hu)) PK ha hb (aF _)
theorem ur(ha:bN X Y a ea)(he:∀whole,isTrue a X.env whole=(do let v ← whole;standAt a.pos;holding [v] (truthy v)):=by intro _;rfl):ya X Y a (FQ ea):=by
 obtain⟨ta,p1,a1⟩:=ha.h;exact⟨_,xt p1 he,yd a1⟩
variable {rest:List Expr} {ta tb:DT}
theorem qw(ha:ya X Y a ta):ya X Y (.UnaryOp .Not a pos) (DF ta):=by
 obtain⟨t,p1,a1⟩:=ha.h;exact⟨_,xu p1,λH0 A0 G al H st s env Q R I E q k=>a1 H0 A0 G al H st s env _ _ I E q λb ay aY H1 e1 I1 q1=>k _ _ _ _ e1 I1 q1⟩
theorem zQ(ha:ya X Y a ta):Ba X Y (.BoolOp .And [a] pos) ta:=by
 obtain⟨t,p1,a1⟩:=ha.h;exact⟨_,pw_and1 p1,a1⟩
theorem ye(ha:ya X Y a ta):Ba X Y (.BoolOp .Or [a] pos) ta:=by
 obtain⟨t,p1,a1⟩:=ha.h;exact⟨_,pw_or1 p1,a1⟩
theorem LX{t u:TT}(h1:AT J t ta)(h2:AT J u tb):AT J (OP t u) (zP ta tb):=λH0 A0 G al H st s env Q R I E q k=>h1 H0 A0 G al H st s env _ _ I E q λb ay aY H1 e1 I1 q1=>by
 cases b with
 | true=>exact iJ (h2 H0 A0 G aY H1 ay s env _ _ I1 (E.ext e1) (by rw[aap rfl]at q1;exact q1) (k.go I1 e1))
 | false=>exact cM (k _ _ _ _ e1 I1 (by rw[aan aaj]at q1;exact q1))
theorem PQ{t u:TT}(h1:AT J t ta)(h2:AT J u tb):AT J (Vo t u) (Hs ta tb):=λH0 A0 G al H st s env Q R I E q k=>h1 H0 A0 G al H st s env _ _ I E q λb ay aY H1 e1 I1 q1=>by
 cases b with
 | false=>exact cM (h2 H0 A0 G aY H1 ay s env _ _ I1 (E.ext e1) (by rw[aan aaj]at q1;exact q1) (k.go I1 e1))
 | true=>exact iJ (k _ _ _ _ e1 I1 (by rw[aap rfl]at q1;exact q1))
theorem DG(ha:ya X Y a ta)(hb:Ba X Y (.BoolOp .And (b::rest) pos) tb):Ba X Y (.BoolOp .And (a::b::rest) pos) (zP ta tb):=by
 obtain⟨t,p1,a1⟩:=ha.h;obtain⟨u,p2,a2⟩:=hb.h;exact⟨_,pw_and p1 p2,LX a1 a2⟩
theorem zR(ha:ya X Y a ta)(hb:Ba X Y (.BoolOp .Or (b::rest) pos) tb):Ba X Y (.BoolOp .Or (a::b::rest) pos) (Hs ta tb):=by
 obtain⟨t,p1,a1⟩:=ha.h;obtain⟨u,p2,a2⟩:=hb.h;exact⟨_,pw_or p1 p2,PQ a1 a2⟩
theorem Ba.dt(h:Ba X Y a ta):ya X Y a ta:=by
 obtain⟨t,p1,a1⟩:=h.h;exact⟨_,p1.pt,a1⟩
@[reducible] def DH(ea eb:DX)(env:bL)(st:aE)(Q:DC):Prop:=ea env st λx ay=>match x with
 | .dat (.bool b)=>if b=true then eb env ay Q else Q (.dat (.bool false)) ay
 | _=>False
@[reducible] def DJ(ea:DX)(env:bL)(st:aE)(Q:DC):Prop:=ea env st λx ay=>match x with
 | .dat (.bool b)=>Q (.dat (.bool (!b))) ay
 | _=>False
theorem LY{op}(h:bN X Y a ea):bN X Y (.BoolOp op [a] pos) ea:=by
 obtain⟨t,p1,a1⟩:=h.h;exact⟨_,tP p1,a1⟩
theorem Ht(ha:bN X Y a ea)(hb:bN X Y (.BoolOp .And (b::rest) pos) eb):bN X Y (.BoolOp .And (a::b::rest) pos) (DH ea eb):=by
 obtain⟨t,p1,a1⟩:=ha.h;obtain⟨u,p2,a2⟩:=hb.h;refine⟨_,xv p1 p2,λH0 A0 G al H st s env Q R I E q k=>a1 H0 A0 G al H st s env _ _ I E q λx ay aY v H1 e1 I1 d1 q1=>?_⟩;split at q1
 ·rename_i b;rw[aR.qu d1];refine⟨_,rfl,?_⟩
  cases b with
  | true=>exact iJ (a2 H0 A0 G aY H1 ay s env _ _ I1 (E.ext e1) (by rw[aap rfl]at q1;exact q1) (k.go I1 e1))
  | false=>exact cM ((k.go I1 e1).here I1 (.d (.bl _)) (by rw[aan aaj]at q1;exact q1))
 ·exact q1.elim
theorem Hu(ha:bN X Y a ea):bN X Y (.UnaryOp .Not a pos) (DJ ea):=by
 obtain⟨t,p1,a1⟩:=ha.h;refine⟨_,K4 p1,λH0 A0 G al H st s env Q R I E q k=>a1 H0 A0 G al H st s env _ _ I E q λx ay aY v H1 e1 I1 d1 q1=>?_⟩;split at q1
 ·rw[aR.qu d1];exact⟨_,rfl,(k.go I1 e1).here I1 (.d (.bl _)) q1⟩
 ·exact q1.elim
end
theorem Bf{α:Type}{R:V->α->Prop}{vs:List V}{x:α}(h:cj R vs [x]):∃v,vs=[v]/\R v x:=by
 have:=h.1
 match vs,this,h with
 | [v],_,h=>exact⟨v,rfl,h.2 0 v x rfl rfl⟩
theorem PR{α:Type}{R:V->α->Prop}{vs:List V}{x y:α}(h:cj R vs [x,y]):∃v u,vs=[v,u]/\R v x/\R u y:=by
 have:=h.1
 match vs,this,h with
 | [v,u],_,h=>exact⟨v,u,rfl,h.2 0 v x rfl rfl,h.2 1 u y rfl rfl⟩
section
variable {X:Cx} {Y:YK} {a b c e:Expr} {es:List Expr} {pos p:Pos} {ea eb ec:DX} {K:aJ} {J:KF} {x:Str} {id:String} {n:Nat} {d:mY} {r r':List V->Hp->VK->Prop} {o:SN}
@[reducible] def zS(o:SN)(d:mY)(env:bL)(st:aE)(Q:DC):Prop:=d env st λxs ay=>o xs ay Q
theorem Kp{t:TA}(ho:AB J r o)(h:AA J t n d):AE J (Sd r t) (zS o d):=λH0 A0 G al H st s env Q R I E q k=>h H0 A0 G al H st s env _ _ I E q λxs ay aY vs H1 e1 I1 d1 q1=>ho H0 A0 G aY H1 ay vs xs Q R I1 d1 q1.2 (k.go I1 e1)
theorem wg(hc:iN X (.builtin id) r)(ho:AB (kf X Y) r o)(hg:Gl X x)(hm:X.mg x=none)(hv:bootBuiltins x=some (.builtin id))(ha:wa X Y (e::es) n d)(hn:x≠"__name__":=by decide)(hdb:(x == ("__debug__" : Str))=false:=by decide)
  (he:starEach (e::es) X.env=(false,eval e X.env)::starEach es X.env:=by rfl) (hpl:(backTo pos (starEach es X.env)).any (·.1)=false:=by rfl):bN X Y (.Call (.Name x p) (e::es) [] pos) (zS o d):=by
 obtain⟨t,p1,a1⟩:=ha.h;exact⟨_,p5 hc hg hm hv p1 hn hdb he hpl,Kp ho a1⟩
theorem Bg{T:String}(hc:iN X (.type T) r)(ho:AB (kf X Y) r o)(hg:Gl X x)(hm:X.mg x=none)(hv:bootBuiltins x=some (.type T))(ha:wa X Y (e::es) n d)(hn:x≠"__name__":=by decide)(hdb:(x == ("__debug__" : Str))=false:=by decide)
  (he:starEach (e::es) X.env=(false,eval e X.env)::starEach es X.env:=by rfl) (hpl:(backTo pos (starEach es X.env)).any (·.1)=false:=by rfl):bN X Y (.Call (.Name x p) (e::es) [] pos) (zS o d):=by
 obtain⟨t,p1,a1⟩:=ha.h;exact⟨_,jh hc hg hm hv p1 hn hdb he hpl,Kp ho a1⟩
theorem PU{f:Value}(h:iN X f r)(h':iN X f r'):iN X f (λxs H Q=>r xs H Q∨r' xs H Q):=λpins s σ H xs us Q I rv q=>by
 rcases q with q | q
 ·exact h pins s σ H xs us Q I rv q
 ·exact h' pins s σ H xs us Q I rv q
@[reducible] def DK(xs:List DV)(st:aE)(Q:DC):Prop:=match xs with
 | [.dat (.str z)]=>z.length<=1000000/\Q (.dat (.int z.length)) st
 | [x]=>match oR st x with
  | some ds=>Q (.dat (.int ds.length)) st
  | none=>False
 | _=>False
theorem LZ:AB J (λxs H Q=>(∃p ys,xs=[.ref p]/\(bu J H p ys∨bV J H p ys)/\Q (.int ys.length) H)∨∃z,xs=[.str z]/\z.length<=sizeLine/\Q (.int z.length) H) DK:=λH0 A0 G al H st vs ds Q R I h q k=>by
 unfold DK at q;split at q
 ·obtain⟨v,rfl,h1⟩:=Bf h;rw[aR.cA h1];exact .inr ⟨_,rfl,lG q.1,k.here I (.d (.int _)) q.2⟩
 ·split at q
  ·rename_i ds e;obtain⟨v,rfl,h1⟩:=Bf h;obtain⟨p,ys,rfl,g1,g2⟩:=h1.RE I e;exact .inl ⟨p,ys,rfl,g1,k.here I (.d (.int _)) (by rw[g2.len];exact q)⟩
  ·exact q.elim
 ·exact q.elim
theorem nq(hg:Gl X "len")(hm:X.mg "len"=none)(ha:wa X Y [e] n d)(he:starEach [e] X.env=(false,eval e X.env)::starEach [] X.env:=by rfl):bN X Y (.Call (.Name "len" p) [e] [] pos) (zS DK d):=wg (PU t7 t8) LZ hg hm Lo ha (by decide) (by decide) he rfl
@[reducible] def wj(xs:List DV)(st:aE)(Q:DC):Prop:=match xs with
 | [x]=>match oR st x with
  | some ds=>Q (.dat (.list ds)) st
  | none=>False
 | _=>False
theorem Hv:AB J (λxs H Q=>∃p ys,xs=[.ref p]/\(bu J H p ys∨bV J H p ys)/\∀l,H l=none->Q (.ref l) (upd H l (.lst ys))) wj:=λH0 A0 G al H st vs ds Q R I h q k=>by
 unfold wj at q;split at q
 ·split at q
  ·rename_i ds e;obtain⟨v,rfl,h1⟩:=Bf h;obtain⟨p,ys,rfl,g1,g2⟩:=h1.RE I e;exact⟨p,ys,rfl,g1,λl hl=>k.list I hl g2 q⟩
  ·exact q.elim
 ·exact q.elim
theorem zT(hg:Gl X "list")(hm:X.mg "list"=none)(ha:wa X Y [e] n d)(he:starEach [e] X.env=(false,eval e X.env)::starEach [] X.env:=by rfl):bN X Y (.Call (.Name "list" p) [e] [] pos) (zS wj d):=Bg gU Hv hg hm mi ha (by decide) (by decide) he rfl
abbrev Bh:=List PyData->(PyData->Prop)->Prop
def Oq(K:aJ)(T:Bh):Sp:=λvs H Q _=>∃(P:Addr->Prop) (ds:List PyData),(∀c,P c->∃o,H c=some o/\j9 o)/\cj (aR K P H) vs ds/\T ds λd=>∀v H',aS H H'->aR K P H' v d->Q v H'
def L3(K:aJ)(sp:Sp)(T:Bh):Prop:=∀(vs:List V) (H:Hp) (Q:VK) (P:Addr->Prop) (ds:List PyData),(∀c,P c->∃o,H c=some o/\j9 o)->cj (aR K P H) vs ds->T ds (λd=>∀v H',aS H H'->aR K P H' v d->Q v H')->sp vs H Q E0
theorem DL{T:Bh}:L3 K (Oq K T) T:=λvs H Q P ds h1 h2 h3=>⟨P,ds,h1,h2,h3⟩
def Bi(T:Bh):Prop:=∀ds (Q Q':PyData->Prop),(∀d,Q d->Q' d)->T ds Q->T ds Q'
@[reducible] def zU(T:Bh)(xs:List DV)(st:aE)(Q:DC):Prop:=eQ xs st λds ay=>T ds λd=>Q (.dat d) ay
theorem qy{H:Hp}{v:V}{d:PyData}(h:aQ K H v d):aR K (λ_=>False) H v d:=aQ.same (λc o e=>eK.mpr ⟨λz=>z,e⟩) h
theorem Hw{sp:Sp}{T:Bh}(h:L3 J sp T)(m:Bi T):AB J (λvs H Q=>sp (vs++[]) H Q E0) (zU T):=λH0 A0 G al H st vs ds Q R I hp q k=>by
 obtain⟨es,ay,E1,I1,F1,q1⟩:=kW I hp q;rw[aaL];refine h vs H R (Fb G al ay) es (λc hc=>I1.mr hc) F1 (m _ _ _ (λd hd v H' s r=>?_) q1);exact(k.go I1 E1).laid I1 s (.d r) hd
theorem uu{sp:Sp}{t:TA}(h:AB J (λvs H Q=>sp (vs++[]) H Q E0) o)(ha:AA J t n d):AE J (vH sp [] E0 t) (zS o d):=λH0 A0 G al H st s env Q R I E q k=>ha H0 A0 G al H st s env _ _ I E q λxs ay aY vs H1 e1 I1 d1 q1=>h H0 A0 G aY H1 ay vs xs Q R I1 d1 q1.2 (k.go I1 e1)
theorem mw{kk:Nat}{ps:List Str}{sp:Sp}{T:Bh}(h:ic X.prog X.w X.K X.mg X.base c6 x kk ps sp)(hs:L3 X.K sp T)(m:Bi T)(hr:cg kk X.A)(hg:Gl X x)(ha:wa X Y (e::es) n d)(hdb:(x == ("__debug__" : Str))=false:=by decide)
  (he:starEach (e::es) X.env=(false,eval e X.env)::starEach es X.env:=by rfl) (hpl:(backTo pos (starEach es X.env)).any (·.1)=false:=by rfl):bN X Y (.Call (.Name x p) (e::es) [] pos) (zS (zU T) d):=by
 obtain⟨t,p1,a1⟩:=ha.h;exact⟨_,cI h hr hg p1 hdb he hpl,uu (Hw hs m) a1⟩
end
abbrev nu:=bL->aE->(List PyData->(aE->Prop)->aE->Prop)->Prop
def VI(J:KF)(H0:Hp)(A0:Addr->Prop)(G:Addr->Prop)(al:List (List Addr))(H:Hp)(st:aE)(Jj:It)(xs:List PyData)(ok:aE->Prop):Prop:=∀(G1:Addr->Prop) (aY:List (List Addr)) (H1:Hp) (ay:aE) (i:Nat),(∀c,G1 c->G c∨H c=none)->Ext al H st aY H1 ay->DI J H0 A0 G1 aY H1 ay->ok ay ->
 (∀d,xs[i]?=some d->Jj.go i H1/\∀x H2,Jj.yld i H1 x H2->aS H1 H2/\aR J (Fb G1 aY ay) H2 x d)/\(xs.length<=i->i<=xs.length->Jj.stop i H1)
def AI(J:KF)(wi:TI)(di:nu):Prop:=∀(H0:Hp) (A0:Addr->Prop) (G:Addr->Prop) (al:List (List Addr)) (H:Hp) (st:aE) (s:St) (env:bL) (Q:List PyData->(aE->Prop)->aE->Prop) (R:It->Hp->Prop),DI J H0 A0 G al H st->mX J (Fb G al st) H al s env->di env st Q ->
 (∀Jj xs ok st' al' H',Ext al H st al' H' st'->DI J H0 A0 G al' H' st'->VI J H0 A0 G al' H' st' Jj xs ok->Q xs ok st'->R Jj H')->wi s H R
structure L4(X:Cx)(Y:YK)(tg iter:Expr)(d:nu):Prop where
 h:∃wi,PI X tg iter wi/\AI (kf X Y) wi d
def SU(K:aJ)(tl:TE):TI:=λσ H R=>tl σ H λx H1=>∃a,x=.ref a/\(((∃xs,bu K H1 a xs)/\R (FN K a) H1)∨((∃xs,bV K H1 a xs)/\R (Oi K a) H1))
theorem zV{X:Cx}{tg l:Expr}{tl:TE}(hl:PE X l tl):PI X tg l (SU X.K tl):=by
 intro pins s σ H R I h;refine bF (hl pins s σ H _ I h) λv s1 ⟨x,H1,I1,r1,q1⟩=>?_
 obtain⟨a,e,q⟩:=q1;subst e;cases r1
 have fin:∀b∈[s1.heap.objs.size],j7 X pins H1 b:=λb hb=>by
  have e:b=s1.heap.objs.size:=by simpa using hb
  subst e;exact I1.GA (aai _) (I1.hok.fresh (aai _))
 rcases q with⟨⟨xs,hq⟩,q⟩ | ⟨⟨xs,hq⟩,q⟩
 ·obtain⟨its,rv,p,hz⟩:=I1.list hq;refine aca p.isList ?_;exact⟨s1.heap.objs.size,[s1.heap.objs.size],_,_,H1,rfl,I1.kept (t':=s1.toks) λb o e=>aab _ e,sk a _,⟨_,aao _ rfl,rfl,rfl⟩,fin,q⟩
 ·obtain⟨its,rv,p,hz⟩:=I1.tuple hq;refine wpAny_pyIter_tuple (show s1.heap.IsTuple a its.toArray from p) ?_;exact⟨s1.heap.objs.size,[s1.heap.objs.size],_,_,H1,rfl,I1.kept (t':=s1.toks) λb o e=>aab _ e,xw a _,⟨_,aao _ rfl,rfl,rfl⟩,fin,q⟩
section
variable {X:Cx} {Y:YK} {tg a b c e:Expr} {es:List Expr} {pos p:Pos} {ea eb ec:DX} {K:aJ} {J:KF} {n:Nat} {d:mY}
theorem aR.seq{P:Addr->Prop}{H:Hp}{v:V}{d:PyData}{ds:List PyData}(h:aR K P H v d)(e:d=.list ds∨d=.tuple ds):∃q a ys,v=.ref a/\B2 q K (cutH P H) a ys/\B2 q K H a ys/\cj (aR K P H) ys ds:=by
 rcases e with rfl | rfl
 ·obtain⟨a,ys,h1,h2,h3,h4⟩:=aR.cn h;exact⟨true,a,ys,h1,h3,h2,h4⟩
 ·obtain⟨a,ys,h1,h2,h3,h4⟩:=aR.gn h;exact⟨false,a,ys,h1,h3,h2,h4⟩
@[reducible] def Hy(ea:DX)(env:bL)(st:aE)(Q:List PyData->(aE->Prop)->aE->Prop):Prop:=ea env st λx ay=>lj x ay λd bq=>match d with
 | .list ds=>Q ds (λ_=>True) bq
 | .tuple ds=>Q ds (λ_=>True) bq
 | _=>False
theorem L5{t:TE}(h:AE J t ea):AI J (SU J t) (Hy ea):=λH0 A0 G al H st s env Q R I E q k=>h H0 A0 G al H st s env _ _ I E q λx ay aY v H1 e1 I1 d1 q1=>by
 obtain⟨d,bq,E2,I2,F2,q2⟩:=lF I1 d1 q1
 obtain⟨ds,ed,q2⟩:∃ds,(d=.list ds∨d=.tuple ds)/\Q ds (λ_=>True) bq:=by
  split at q2
  ·exact⟨_,.inl rfl,q2⟩
  ·exact⟨_,.inr rfl,q2⟩
  ·exact q2.elim
 obtain⟨w,a,ys,rfl,g1,g2,g3⟩:=F2.seq ed;refine⟨a,rfl,?_⟩;have we:=e1.trans I1 E2
 cases w with
 | true =>
  refine .inl ⟨⟨ys,g2⟩,k (FN J a) ds _ bq aY H1 we I2 (λG1 RG H3 je i hG e3 I3 _=>⟨λd hd=>?_,λh1 _=>?_⟩) q2⟩
  ·have s3:=(jH hG e3).seq g1;obtain⟨y,hy,_⟩:=g3.at hd;refine⟨⟨ys,y,eV.seq s3,hy⟩,λx H4 ⟨e4,z⟩=>?_⟩;subst e4;have:=z ys (eV.seq s3);exact⟨.refl _,(g3.2 i x d this hd).kn hG e3⟩
  ·exact⟨ys,eV.seq ((jH hG e3).seq g1),by rw[g3.1];exact h1⟩
 | false =>
  refine .inr ⟨⟨ys,g2⟩,k (Oi J a) ds _ bq aY H1 we I2 (λG1 RG H3 je i hG e3 I3 _=>⟨λd hd=>?_,λh1 _=>?_⟩) q2⟩
  ·have s3:=(jH hG e3).tup g1;obtain⟨y,hy,_⟩:=g3.at hd;refine⟨⟨ys,y,eV.tup s3,hy⟩,λx H4 ⟨e4,z⟩=>?_⟩;subst e4;have:=z ys (eV.tup s3);exact⟨.refl _,(g3.2 i x d this hd).kn hG e3⟩
  ·exact⟨ys,eV.tup ((jH hG e3).tup g1),by rw[g3.1];exact h1⟩
theorem ny(h:bN X Y a ea):L4 X Y tg a (Hy ea):=by
 obtain⟨t,p1,a1⟩:=h.h;exact⟨_,zV p1,L5 a1⟩
def wm(lo:Int)(m:Nat):List PyData:=(List.range m).map λ(k:Nat)=>PyData.int (lo + (k:Int))
theorem iu{lo:Int}{m:Nat}:(wm lo m).length=m:=by unfold wm;rw[List.length_map,List.length_range]
theorem zW{lo:Int}{m i:Nat}{d:PyData}(h:(wm lo m)[i]?=some d):i < m/\d=.int (lo + (i:Int)):=by
 have hi:=(eA h).1;rw[iu]at hi;unfold wm at h;rw[List.getElem?_map,List.getElem?_range hi]at h;cases h;exact⟨hi,rfl⟩
@[reducible] def uv(d:mY)(env:bL)(st:aE)(Q:List PyData->(aE->Prop)->aE->Prop):Prop:=d env st λxs ay=>match xs with
 | [.dat (.int j)]=>(-(2 ^ 62)<=j/\j < 2 ^ 62)/\Q (wm 0 j.toNat) (λ_=>True) ay
 | _=>False
theorem Hz{H0:Hp}{A0:Addr->Prop}{G:Addr->Prop}{al:List (List Addr)}{H:Hp}{st:aE}{lo:Int}{m:Nat}{ok:aE->Prop}:VI J H0 A0 G al H st (Rq lo m) (wm lo m) ok:=λG1 aY H1 ay i hG e1 I1 _=>by
 refine⟨λd hd=>?_,λh1 _=>by rw[iu]at h1;exact h1⟩;obtain⟨hi,rfl⟩:=zW hd;refine⟨hi,λx H2 ⟨e,z⟩=>?_⟩;subst e;subst z;exact⟨.refl _,.int _⟩
theorem dF(hg:Gl X "range")(hm:X.mg "range"=none)(ha:wa X Y [a] n d)(hs:starEach [a] X.env=[(false,eval a X.env)]:=by rfl):L4 X Y tg (.Call (.Name "range" p) [a] [] pos) (uv d):=by
 obtain⟨t,p1,a1⟩:=ha.h;refine⟨_,Az hg hm p1 hs,λH0 A0 G al H st s env Q R I E q k=>a1 H0 A0 G al H st s env _ _ I E q λxs ay aY vs H1 e1 I1 d1 q1=>?_⟩;have q1:=q1.2;split at q1
 ·obtain⟨v,rfl,h1⟩:=Bf d1;rw[aR.ba h1];exact⟨_,rfl,q1.1.1,q1.1.2,k _ _ _ ay aY H1 e1 I1 Hz q1.2⟩
 ·exact q1.elim
abbrev pk:=DV->bL->aE->(bL->aE->Prop)->Prop
abbrev wo:=List PyData->bL->aE->(bL->aE->Prop)->Prop
def Kq(J:KF)(H0:Hp)(A0:Addr->Prop)(G:Addr->Prop)(al:List (List Addr))(H:Hp)(st:aE)(Q:bL->aE->Prop)(R:St->Hp->Prop):Prop:=∀env' st' al' s' H',Ext al H st al' H' st'->DI J H0 A0 G al' H' st'->mX J (Fb G al' st') H' al' s' env'->Q env' st'->R s' H'
theorem Kq.go{H0:Hp}{A0:Addr->Prop}{G:Addr->Prop}{al aY:List (List Addr)}{H H1:Hp}{st ay:aE}{Q:bL->aE->Prop}{R:St->Hp->Prop}(k:Kq J H0 A0 G al H st Q R)(I:DI J H0 A0 G aY H1 ay)(e:Ext al H st aY H1 ay):Kq J H0 A0 G aY H1 ay Q R:=λdv st' al' s' H' e' I' h q=>k dv st' al' s' H' (e.trans I e') I' h q
def AG(J:KF)(g:TG)(dg:pk):Prop:=∀(H0:Hp) (A0:Addr->Prop) (G:Addr->Prop) (al:List (List Addr)) (H:Hp) (st:aE) (s:St) (env:bL) (v:V) (dv:DV) (Q:bL->aE->Prop) (R:St->Hp->Prop),DI J H0 A0 G al H st->mX J (Fb G al st) H al s env->gm J (Fb G al st) H al v dv->dg dv env st Q->Kq J H0 A0 G al H st Q R->g v s H R
def RH(J:KF)(g:B1)(dg:wo):Prop:=∀(H0:Hp) (A0:Addr->Prop) (G:Addr->Prop) (al:List (List Addr)) (H:Hp) (st:aE) (s:St) (env:bL) (vs:List V) (ds:List PyData) (Q:bL->aE->Prop) (R:St->Hp->Prop),DI J H0 A0 G al H st->mX J (Fb G al st) H al s env->cj (aR J (Fb G al st) H) vs ds->dg ds env st Q->Kq J H0 A0 G al H st Q R->g vs s H R
structure Ot(X:Cx)(Y:YK)(tg:Expr)(d:pk):Prop where
 h:∃g,PG X tg g/\AG (kf X Y) g d
structure HA(X:Cx)(Y:YK)(tg:List Expr)(d:wo):Prop where
 h:∃g,Oh X tg g/\RH (kf X Y) g d
@[reducible] def gN(i:Nat)(dv:DV)(env:bL)(st:aE)(Q:bL->aE->Prop):Prop:=Q (env.set i (some dv)) st
@[reducible] def zX(ds:List PyData)(env:bL)(st:aE)(Q:bL->aE->Prop):Prop:=match ds with
 | []=>Q env st
 | _=>False
@[reducible] def qz(g:pk)(r:wo)(ds:List PyData)(env:bL)(st:aE)(Q:bL->aE->Prop):Prop:=match ds with
 | d::ds=>g (.dat d) env st λenv' st'=>r ds env' st' Q
 | []=>False
@[reducible] def gT(n:Nat)(r:wo)(dv:DV)(env:bL)(st:aE)(Q:bL->aE->Prop):Prop:=match dv with
 | .dat (.tuple ds)=>ds.length=n/\r ds env st Q
 | _=>False
theorem kY{i:Nat}:AG J (sj i) (gN i):=λH0 A0 G al H st s env v dv Q R I E h q k=>k _ _ al _ H .refl I (E.set h i) q
theorem mx{i:Nat}{x:Str}(hN:X.N.Nodup)(hi:X.N[i]?=some x)(hx:Loc X.env.scope x)(hf:X.fn x=true∨X.env.scope.names.lookup x=some .local:=by first | exact .inl rfl | exact .inr rfl | assumption):Ot X Y (.Name x pos) (gN i):=⟨_,bf hN hi hx hf,kY⟩
theorem HB:HA X Y [] zX:=⟨_,tQ,λH0 A0 G al H st s env vs ds Q R I E h q k=>by
 unfold zX at q;split at q
 ·have:=h.1
  cases vs with
  | nil=>exact⟨rfl,k _ _ al _ H .refl I E q⟩
  | cons v r=>simp at this
 ·exact q.elim⟩
theorem DM{g:TG}{u:B1}{dg:pk}{r:wo}(a1:AG J g dg)(a2:RH J u r):RH J (JW g u) (qz dg r):=λH0 A0 G al H st s env vs ds Q R I E h q k=>by
 unfold qz at q;split at q
 ·rename_i d ds';have:=h.1
  cases vs with
  | nil=>simp at this
  | cons v vs' =>
   have h':cj (aR J (Fb G al st) H) vs' ds':=⟨by simpa using this,λi p q a b=>h.2 (i + 1) p q (by simpa using a) (by simpa using b)⟩;refine⟨v,vs',rfl,a1 H0 A0 G al H st s env v (.dat d) _ _ I E (.d (h.2 0 v d rfl rfl)) q λenv' st' al' s' H' e' I' E' q'=>?_⟩;exact a2 H0 A0 G al' H' st' s' env' vs' ds' Q R I' E' (h'.imp λy x z=>z.ext e') q' (k.go I' e')
 ·exact q.elim
theorem wq{g:pk}{r:wo}(h1:Ot X Y e g)(h2:HA X Y es r)(hs:(assignEach (e::es) X.env).map (·.2)=assign e X.env::(assignEach es X.env).map (·.2):=by rfl):HA X Y (e::es) (qz g r):=by
 obtain⟨t,p1,a1⟩:=h1.h;obtain⟨u,p2,a2⟩:=h2.h;exact⟨_,ke p1 p2 hs,DM a1 a2⟩
theorem SV{m:Nat}{u:B1}{r:wo}(a1:RH J u r):AG J (OU J m u) (gT m r):=λH0 A0 G al H st s env v dv Q R I E h q k=>by
 unfold gT at q;split at q
 ·obtain⟨a,ys,rfl,g1,_,g2⟩:=aR.gn h;exact⟨a,ys,rfl,g1,by rw[g2.1];exact q.1,a1 H0 A0 G al H st s env ys _ Q R I E g2 q.2 k⟩
 ·exact q.elim
theorem L6{kx m:Nat}{r:wo}(hc:X.calm=true)(h:HA X Y es r)(hn:(assignEach es X.env).length=m:=by rfl)(hst:(assignEach es X.env).findIdx? (·.1)=none:=by rfl):Ot X Y (.Tuple es kx pos) (gT m r):=by
 obtain⟨u,p1,a1⟩:=h.h;exact⟨_,Ct hc p1 hn hst,SV a1⟩
@[reducible] def gS(eo ei:DX)(dv:DV)(env:bL)(st:aE)(Q:bL->aE->Prop):Prop:=eo env st λo ay=>ei env ay λi bq=>match o,i with
 | .ref k,.dat (.int j)=>lj dv bq λd je=>match je[k]? with
  | some (.live ds)=>∃m,xP ds.length j=some m/\Q env (je.set k (.live (ds.set m d)))
  | _=>False
 | _,_=>False
theorem SW{to ti:TE}{eo ei:DX}(h1:AE J to eo)(h2:AE J ti ei):AG J (OV to ti J6) (gS eo ei):=λH0 A0 G al H st s env v dv Q R I E h q k=>by
 refine h1 H0 A0 G al H st s env _ _ I E q λo ay aY vo H1 e1 I1 d1 q1=>?_
 refine h2 H0 A0 G aY H1 ay s env _ _ I1 (E.ext e1) q1 λi bq cq vi H2 e2 I2 d2 q2=>?_
 have we:=e1.trans I1 e2;split at q2
 ·rename_i kk j;obtain⟨d,je,E3,I3,F3,q3⟩:=lF I2 (h.ext we) q2;split at q3
  ·rename_i ds hs;obtain⟨m,qm,q4⟩:=q3;obtain⟨a,r0,ha,rfl⟩:=(d1.ext e2).ext E3;obtain⟨a',ys,e0,g1,g2⟩:=I3.cel kk _ _ ha hs;cases e0;rw[aR.ba d2];have SX:=we.trans I2 E3;obtain⟨E4,I4⟩:=I3.put ha hs (g2.set F3 m);refine⟨a,ys,j,m,rfl,rfl,g1,by rw[g2.1];exact qm,?_⟩;have PV:=SX.trans I3 E4;exact k _ _ _ _ _ PV I4 (E.ext PV) q4
  ·exact q3.elim
 ·exact q2.elim
theorem L7{o i:Expr}{eo ei:DX}(h1:bN X Y o eo)(h2:bN X Y i ei)(ha:∀v,assign (.Subscript o i pos) X.env v=(do
   let ov ← holding [v] (eval o X.env)
   let iv ← holding [v,ov] (eval i X.env)
   standAt pos
   holding [v,ov,iv] (setItem ov iv v)
   release [v,ov,iv] []):=by intro _;rfl):Ot X Y (.Subscript o i pos) (gS eo ei):=by
 obtain⟨t,p1,a1⟩:=h1.h;obtain⟨u,p2,a2⟩:=h2.h;exact⟨_,m7 p1 p2 set_list ha,SW a1 a2⟩
end
def PX(J:KF)(e:DX):TE:=λs H R=>∃(H0:Hp) (A0:Addr->Prop) (G:Addr->Prop) (al:List (List Addr)) (st:aE) (env:bL) (Q:DC),DI J H0 A0 G al H st/\mX J (Fb G al st) H al s env/\e env st Q/\Kn J H0 A0 G al H st Q R
def DN(J:KF)(e:DT):TT:=λs H R=>∃(H0:Hp) (A0:Addr->Prop) (G:Addr->Prop) (al:List (List Addr)) (st:aE) (env:bL) (Q:Bool->aE->Prop),DI J H0 A0 G al H st/\mX J (Fb G al st) H al s env/\e env st Q/\PF J H0 A0 G al H st Q R
theorem bN.pe{X:Cx}{Y:YK}{e:Expr}{d:DX}(h:bN X Y e d):PE X e (PX (kf X Y) d):=by
 obtain⟨t,p,a⟩:=h.h;intro pins s σ H Q I ⟨H0,A0,G,al,st,env,Q',I',E,q,k⟩;exact p pins s σ H Q I (a H0 A0 G al H st σ env Q' Q I' E q k)
structure PY(X:Cx)(Y:YK)(ifs:List Expr)(d:DT):Prop where
 h:Ls X ifs (DN (kf X Y) d)
@[reducible] def wu(_:bL)(st:aE)(Q:Bool->aE->Prop):Prop:=Q true st
theorem gp{X:Cx}:PY X Y [] wu:=⟨λpins s σ H Q I ⟨H0,A0,G,al,st,env,Q',I',E,q,k⟩=>kU pins s σ H Q I (k true st al H .refl I' q)⟩
def GB(own:Nat)(g:TG):Prop:=∀v s H R R',(∀(s2:St) (H2:Hp),s2.drop own=s.drop own->R s2 H2->R' s2 H2)->g v s H R->g v s H R'
theorem px{own i:Nat}(h:i < own):GB own (sj i):=λv s H R R' f q=>f _ _ (by rw[List.drop_set_of_lt h]) q
@[reducible] def wx(own:Nat)(ix:List Nat)(env:bL):bL:=List.replicate own none++ix.map λi=>(env[i]?).getD none
def SY(fin:List PyData->aE->DC->Prop)(dg:pk)(dt:DT)(de:DX)(xs:List PyData)(ok:aE->Prop)(env:bL)(ay:aE)(Q:DC):Prop:=(ok ay/\xs.length<=1000000)/\∃I:Nat->List PyData->Prop,I 0 [] /\
 (∀i ys d,I i ys->xs[i]?=some d->dg (.dat d) env ay λi3 bq=>bq=ay/\dt i3 ay λb je=>je=ay/\if b=true then de i3 ay λy pL=>lj y pL λdy xq=>xq=ay/\I (i + 1) (ys++[dy])else I (i + 1) ys)/\∀ys,I xs.length ys->fin ys ay Q
@[reducible] def Bj(fin:List PyData->aE->DC->Prop)(own:Nat)(ix:List Nat)(di:nu)(dg:pk)(dt:DT)(de:DX)(env:bL)(st:aE)(Q:DC):Prop:=di env st λxs ok ay=>SY fin dg dt de xs ok (wx own ix env) ay Q
theorem PZ{fin:List PyData->aE->DC->Prop}{dg:pk}{dt:DT}{de:DX}{xs:List PyData}{env:bL}{ay:aE}{Q:DC}(I:Nat->List PyData->Prop)(hl:xs.length<=1000000)(h0:I 0 [])
  (hs:∀i ys d,xs[i]?=some d->I i ys->dg (.dat d) env ay λi3 bq=>bq=ay/\dt i3 ay λb je=>je=ay/\if b=true then de i3 ay λy pL=>lj y pL λdy xq=>xq=ay/\I (i + 1) (ys++[dy])else I (i + 1) ys) (hd:∀ys,I xs.length ys->fin ys ay Q):SY fin dg dt de xs (λ_=>True) env ay Q:=⟨⟨trivial,hl⟩,I,h0,λi ys d a b=>hs i ys d b a,hd⟩
@[reducible] def iw:List PyData->aE->DC->Prop:=λys st Q=>Q (.dat (.list ys)) st
theorem mX.iO{K:aJ}{P:Addr->Prop}{H:Hp}{al:List (List Addr)}{s:St}{env:bL}(h:mX K P H al s env)(own:Nat)(ix:List Nat):mX K P H al (df own ix s) (wx own ix env):=by
 refine⟨by simp[df],λi dv hi=>?_⟩;by_cases l:i < own
 ·rw[List.getElem?_append_left (by simpa using l),List.getElem?_replicate,if_pos l]at hi;cases hi
 ·rw[List.getElem?_append_right (by simp;omega),List.length_replicate,List.getElem?_map]at hi
  cases q:ix[i - own]? with
  | none=>rw[q]at hi;cases hi
  | some j =>
   rw[q]at hi;have hi:some ((env[j]?).getD none)=some (some dv):=hi
   have e:env[j]?=some (some dv):=by
    cases w:env[j]? with
    | none=>rw[w]at hi;cases hi
    | some u=>rw[w]at hi;exact hi
   obtain⟨v,h1,h2⟩:=h.2 j dv e;refine⟨v,?_,h2⟩;unfold df;rw[List.getElem?_append_right (by simp;omega),List.length_replicate,List.getElem?_map,q];show some ((s[j]?).getD none)=_;rw[h1];rfl
theorem DI.DP{J:KF}{H0:Hp}{A0:Addr->Prop}{G:Addr->Prop}{al:List (List Addr)}{H:Hp}{st:aE}(I:DI J H0 A0 G al H st){D:Addr}{ys:List V}(h:H D=none):Ext al H st al (upd H D (.lst ys)) st/\DI J H0 A0 (λc=>G c∨c=D) al (upd H D (.lst ys)) st:=by
 have E:Ext al H st al (upd H D (.lst ys)) st:=.new h
 have g:∀c,(G c∨c=D)->G c∨H c=none:=λc hc=>by
  rcases hc with z | z
  ·exact .inl z
  ·rw[z];exact .inr h
 have keep:∀c o,H c=some o->upd H D (.lst ys) c=some o:=λc o e=>by rw[uN (nN e h)];exact e
 have I1:=I.new (o:=.lst ys) h;refine⟨E,I.len,I.nd,I1.ok,λk a c h1 h2=>(I.cel k a c h1 h2).kn g E (λc hc=>I.mr hc) λ_ b _ o q=>keep _ _ q,I1.fr,I.nw,λa ha hc=>?_,λc hc=>?_,J.y.up _ _ _ _ (λc hc=>.inl hc) I.lk⟩
 ·rcases hc with z | z
  ·exact I.gd a ha z
  ·obtain⟨o,e⟩:=I.ok a ha;rw[z,h]at e;cases e
 ·rcases hc with z | z
  ·exact I1.gs c z
  ·rw[z];exact⟨_,uS,.inl ⟨_,rfl⟩⟩
theorem DI.grow{J:KF}{H0:Hp}{A0:Addr->Prop}{G:Addr->Prop}{al:List (List Addr)}{H:Hp}{st:aE}{D:Addr}{ys zs:List V}(I:DI J H0 A0 (λc=>G c∨c=D) al H st)(h:H D=some (.lst zs))(n0:A0 D∨H0 D=none):DI J H0 A0 (λc=>G c∨c=D) al (upd H D (.lst ys)) st/\∀v d,aR J (Fb (λc=>G c∨c=D) al st) H v d->aR J (Fb (λc=>G c∨c=D) al st) (upd H D (.lst ys)) v d:=by
 have sm:aS (cutH (Fb (λc=>G c∨c=D) al st) H) (cutH (Fb (λc=>G c∨c=D) al st) (upd H D (.lst ys))):=jG λc o n e=>⟨n,by rw[uN (λz=>n (.inl (.inr z)))];exact e⟩
 have rd:∀v d,aR J (Fb (λc=>G c∨c=D) al st) H v d->aR J (Fb (λc=>G c∨c=D) al st) (upd H D (.lst ys)) v d:=λv d z=>aQ.same sm z
 have nD:∀a∈al.flatten,a≠D:=λa ha z=>I.gd a ha (.inr z)
 refine⟨⟨I.len,I.nd,λa ha=>?_,λk fp c h1 h2=>?_,λc o n e=>?_,I.nw,I.gd,λc hc=>?_,I.lk⟩,rd⟩
 ·rw[uN (nD a ha)];exact I.ok a ha
 ·have z:=I.cel k fp c h1 h2;have na:∀a∈fp,a≠D:=λa ha=>nD a (ck h1 ha)
  cases c with
  | live xs =>
   obtain⟨a,ws,e0,g1,g2⟩:=z;exact⟨a,ws,e0,by rw[uN (na a (by rw[e0];exact aaN.mpr rfl))];exact g1,g2.imp λy x q=>rd y x q⟩
  | froz ds=>obtain⟨a,e0,g0⟩:=z;exact⟨a,e0,rd _ _ g0⟩
  | deep xs =>
   obtain⟨a,ws,e0,g1,g2⟩:=z;refine⟨a,ws,e0,by rw[uN (na a (by rw[e0];exact aaN.mpr rfl))];exact g1,g2.imp λy x q=>?_⟩
   cases x with
   | dat d=>exact rd _ _ q
   | ref j=>exact q
  | obj o=>exact⟨z.1,o.keep _ _ _ _ _ _ z.2 (λc hc=>I.mr hc) (λa ha o e=>by rw[uN (na a ha)];exact e) sm⟩
 ·by_cases w:c=D
  ·rw[w]at n e;rcases n0 with y | y
   ·exact absurd y n
   ·rw[y]at e;cases e
  ·rw[uN w];exact I.fr c o n e
 ·by_cases w:c=D
  ·rw[w];exact⟨_,uS,.inl ⟨_,rfl⟩⟩
  ·rw[uN w];exact I.gs c hc
section
variable {X:Cx} {Y:YK} {tg a b c e:Expr} {es:List Expr} {pos p:Pos} {ea eb ec:DX} {K:aJ} {J:KF} {n:Nat} {d:mY}
theorem Ext.VJ{al:List (List Addr)}{H:Hp}{st:aE}{D:Addr}{ys:List V}{aY:List (List Addr)}{H1:Hp}{ay:aE}(e:Ext al H st aY H1 ay)(hD:H D=none):Ext al H st aY (upd H1 D (.lst ys)) ay:=⟨λc o n q=>by rw[uN (λz=>by rw[z,hD]at q;cases q)];exact e.keep c o n q,e.pre,e.nws,e.lv⟩
def HC(J:KF)(fin:List PyData->aE->DC->Prop):Prop:=∀(H0:Hp) (A0:Addr->Prop) (G:Addr->Prop) (al:List (List Addr)) (H:Hp) (st:aE) (Q:DC) (R:VK) (D:Addr) (cq:List (List Addr)) (H2:Hp) (vs:List V) (ys:List PyData),DI J H0 A0 G al H st->H D=none->Kn J H0 A0 G al H st Q R->fin ys st Q->DI J H0 A0 (λc=>G c∨c=D) cq H2 st->Ext al H st cq H2 st->H2 D=some (.lst vs)->cj (aR J (Fb (λc=>G c∨c=D) cq st) H2) vs ys->R (.ref D) H2
theorem Kr{fin:List PyData->aE->DC->Prop}(hf:HC J fin)
  {own:Nat} {ix:List Nat} {wi:TI} {g:TG} {di:nu} {dg:pk} {dt:DT} {de:DX} (hi:AI J wi di) (hg:AG J g dg) (gb:GB own g):AE J (Ol own ix wi g (DN J dt) (PX J de)) (Bj fin own ix di dg dt de):=λH0 A0 G al H st s env Q R I E q k=>by
 refine hi H0 A0 G al H st s env _ _ I E q λJj xs ok ay aY H1 e1 I1 ir q1=>?_
 intro D hD;obtain⟨⟨hok,hlen⟩,Iv,i0,istep,ifin⟩:=q1;have k1:=k.go I1 e1;have E1:=E.ext e1
 have gG:∀c,(G c∨c=D)->G c∨H1 c=none:=λc hc=>by
  rcases hc with z | z
  ·exact .inl z
  ·rw[z];exact .inr hD
 have n0:=I1.n0 hD;obtain⟨EB,IB⟩:=I1.DP (ys:=[]) hD;refine⟨λi m ys H2=>(m=xs.length - i/\i<=xs.length/\ys.length<=i)/\∃ds cq,Iv i ds/\H2 D=some (.lst ys)/\cj (aR J (Fb (λc=>G c∨c=D) cq ay) H2) ys ds/\DI J H0 A0 (λc=>G c∨c=D) cq H2 ay/\Ext aY H1 ay cq H2 ay,⟨_,⟨rfl,aaQ _,aaQ _⟩,[],aY,i0,uS,.nil,IB,EB⟩,?_⟩;rintro i m ys H2 ⟨⟨em,hil,hyl⟩,ds,cq,hI,gD,hP,I2,E2⟩;refine⟨gD,?_⟩;have IR:=ir (λc=>G c∨c=D) cq H2 ay i gG E2 I2 hok;by_cases hx:i < xs.length
 ·right
  obtain⟨d0,DQ⟩:∃d0,xs[i]?=some d0:=⟨xs[i],gP hx⟩;obtain⟨go,yl⟩:=IR.1 d0 DQ;refine⟨go,aaH (aaA hyl hil) (aaH hlen (by decide)),λys' H'=>∃m',m' < m/\(m'=xs.length - (i + 1)/\i + 1<=xs.length/\ys'.length<=i + 1)/\∃ds cq,Iv (i + 1) ds/\H' D=some (.lst ys')/\cj (aR J (Fb (λc=>G c∨c=D) cq ay) H') ys' ds/\DI J H0 A0 (λc=>G c∨c=D) cq H' ay/\Ext aY H1 ay cq H' ay,λys' H' ⟨m',lt,w⟩=>⟨m',lt,w⟩,λx H3 hy=>?_⟩;obtain⟨s3,r3⟩:=yl x H3 hy;have I3:=I2.same s3;have E3:Ext aY H1 ay cq H3 ay:=E2.trans I2 (.same s3);have P3:=hP.imp λy x z=>z.same s3
  have g3:=s3 _ _ gD;have S0:=(E1.kn gG E3).iO own ix;refine gb x _ H3 _ _ ?_ (hg H0 A0 (λc=>G c∨c=D) cq H3 ay _ _ x (.dat d0) _ (λσ2 H4=>DN J dt σ2 H4 λb H5=>if b=true then PX J de σ2 H5 λv H6=>H6 D=some (.lst ys)/\∃m',m' < m/\(m'=xs.length - (i + 1)/\i + 1<=xs.length/\(ys++[v]).length<=i + 1)/\∃ds cq,Iv (i + 1) ds/\upd H6 D (.lst (ys++[v])) D=some (.lst (ys++[v]))/\cj (aR J (Fb (λc=>G c∨c=D) cq ay) (upd H6 D (.lst (ys++[v])))) (ys++[v]) ds/\DI J H0 A0 (λc=>G c∨c=D) cq (upd H6 D (.lst (ys++[v]))) ay/\Ext aY H1 ay cq (upd H6 D (.lst (ys++[v]))) ay else ∃m',m' < m/\(m'=xs.length - (i + 1)/\i + 1<=xs.length/\ys.length<=i + 1)/\∃ds cq,Iv (i + 1) ds/\H5 D=some (.lst ys)/\cj (aR J (Fb (λc=>G c∨c=D) cq ay) H5) ys ds/\DI J H0 A0 (λc=>G c∨c=D) cq H5 ay/\Ext aY H1 ay cq H5 ay) I3 S0 (.d r3) (istep i ds d0 hI DQ) λi3 bq L8 s2 H4 e4 I4 P1 q4=>?_)
  ·intro s2 H4 ed q4;refine⟨?_,q4⟩;rw[ed];unfold df;rw[List.drop_left' (by simp)]
  ·obtain⟨rfl,q4⟩:=q4;refine⟨H0,A0,_,L8,bq,i3,_,I4,P1,q4,λb je P2 H5 e5 I5 q5=>?_⟩;obtain⟨rfl,q5⟩:=q5;have L9:=e4.trans I4 e5;have E5:=E3.trans I3 L9;have nL:∀(al':List (List Addr)) (H':Hp),DI J H0 A0 (λc=>G c∨c=D) al' H' je->¬ Lv al' je D:=λal' H' I' z=>I'.gd D z.mem (.inr rfl)
   have g5:=L9.keep D _ (nL _ _ I3) g3;have P5:=P3.imp λy x z=>aR.ext z L9
   cases b with
   | false =>
    rw[aan aaj]at q5;exact cM ⟨xs.length - (i + 1),by omega,⟨rfl,hx,by omega⟩,ds,P2,q5,g5,P5,I5,E5⟩
   | true =>
    rw[aap rfl]at q5;refine iJ ⟨H0,A0,_,P2,je,i3,_,I5,P1.ext e5,q5,λy pL Ma v H6 e6 I6 d6 q6=>?_⟩;obtain⟨dy,xq,E7,I7,F7,rfl,q7⟩:=lF I6 d6 q6;have S1:=e6.trans I6 E7;have E6:=E5.trans I5 S1;have g6:=S1.keep D _ (nL _ _ I5) g5;have P6:=P5.imp λy x z=>aR.ext z S1
    obtain⟨I8,Mb⟩:=I7.grow (ys:=ys++[v]) g6 n0;refine⟨g6,xs.length - (i + 1),by omega,⟨rfl,hx,by simp;omega⟩,ds++[dy],Ma,q7,uS,?_,I8,E6.VJ hD⟩;exact(P6.imp λy x z=>Mb y x z).append (.cons (Mb _ _ F7) .nil)
 ·left
  have ei:i=xs.length:=by omega
  subst ei;exact⟨IR.2 (aai _) (aai _),hf H0 A0 G aY H1 ay Q R D cq H2 ys ds I1 hD k1 (ifin ds hI) I2 E2 gD hP⟩
end
section
variable {X:Cx} {Y:YK} {tg a b c e:Expr} {es:List Expr} {pos p:Pos} {ea eb ec:DX} {K:aJ} {J:KF} {n:Nat} {d:mY} {scope:Scope}
theorem DI.less{H0:Hp}{A0:Addr->Prop}{G G':Addr->Prop}{al:List (List Addr)}{H:Hp}{st:aE}(I:DI J H0 A0 G' al H st)(s:∀c,G c->G' c)(y:J.y.Y H0 A0 G):DI J H0 A0 G al H st:=by
 have sub:∀c,Fb G al st c->Fb G' al st c:=λc z=>by
  rcases z with z | z
  ·exact .inl (s c z)
  ·exact .inr z
 have sm:aS (cutH (Fb G' al st) H) (cutH (Fb G al st) H):=jG λc o n e=>⟨λz=>n (sub c z),e⟩
 refine⟨I.len,I.nd,I.ok,λk fp c h1 h2=>?_,I.fr,I.nw,λa ha z=>I.gd a ha (s a z),λc hc=>I.gs c (s c hc),y⟩;have z:=I.cel k fp c h1 h2
 cases c with
 | live xs=>obtain⟨a,ws,e0,g1,g2⟩:=z;exact⟨a,ws,e0,g1,g2.imp λy x q=>aQ.same sm q⟩
 | froz ds=>obtain⟨a,e0,g0⟩:=z;exact⟨a,e0,aQ.same sm g0⟩
 | deep xs =>
  obtain⟨a,ws,e0,g1,g2⟩:=z;refine⟨a,ws,e0,g1,g2.imp λy x q=>?_⟩
  cases x with
  | dat d=>exact aQ.same sm q
  | ref j=>exact q
 | obj o=>exact⟨z.1,o.keep _ _ _ _ _ _ z.2 (λc hc=>I.mr hc) (λ_ _ _ e=>e) sm⟩
theorem Ks:HC J iw:=λH0 A0 G al H st Q R D cq H2 vs ys I hD k q I2 E2 g P=>by
 have sub:∀c,Fb G cq st c->Fb (λc=>G c∨c=D) cq st c:=λc z=>by
  rcases z with z | z
  ·exact .inl (.inl z)
  ·exact .inr z
 have nD:¬ Fb G cq st D:=λz=>by
  rcases z with z | z
  ·exact I.Hf hD (.inl z)
  ·exact I2.gd D z.mem (.inr rfl)
 exact k (.dat (.list ys)) st cq _ H2 E2 (I2.less (λc z=>.inl z) I.lk) (.d (aR.lst nD g (P.imp λy x z=>aR.sub z sub))) q
@[reducible] def S4:Nat->List Nat->nu->pk->DT->DX->DX:=Bj iw
theorem Mc{fin:List PyData->aE->DC->Prop}(hf:HC (kf X Y) fin)
  {elt iter:Expr} {ifs:List Expr} {g:TG} {di:nu} {dg:pk} {dt:DT} {de:DX} (own:Nat) (N:List Str) (ix:List Nat) (B:jY X own N ix scope) (hi:L4 X Y tg iter di)
  (hg:∀(C:Addr) (fp:List Addr) (s:Shared) (H:Hp),PG (X.iO N scope C fp s H) tg g) (ag:AG (kf X Y) g dg) (gb:GB own g)
  (hin:∀(C:Addr) (fp:List Addr) (s:Shared) (H:Hp),PY (X.iO N scope C fp s H) Y ifs dt/\bN (X.iO N scope C fp s H) Y elt de)
  (hs:∀x,foldedSetIterable iter X.env x=pure x:=by intro _;rfl):bN X Y (.ListComp elt [⟨tg,iter,ifs,0⟩] scope pos) (Bj fin own ix di dg dt de):=by
 obtain⟨wi,p1,a1⟩:=hi.h;exact⟨_,C4 own N ix B p1 (λC fp s H=>⟨hg C fp s H,(hin C fp s H).1.h,(hin C fp s H).2.pe⟩) hs,Kr hf a1 ag gb⟩
theorem wy{elt iter:Expr}{ifs:List Expr}{g:TG}{di:nu}{dg:pk}{dt:DT}{de:DX}(own:Nat)(N:List Str)(ix:List Nat)(B:jY X own N ix scope)(hi:L4 X Y tg iter di)
  (hg:∀(C:Addr) (fp:List Addr) (s:Shared) (H:Hp),PG (X.iO N scope C fp s H) tg g) (ag:AG (kf X Y) g dg) (gb:GB own g)
  (hin:∀(C:Addr) (fp:List Addr) (s:Shared) (H:Hp),PY (X.iO N scope C fp s H) Y ifs dt/\bN (X.iO N scope C fp s H) Y elt de)
  (hs:∀x,foldedSetIterable iter X.env x=pure x:=by intro _;rfl):bN X Y (.ListComp elt [⟨tg,iter,ifs,0⟩] scope pos) (S4 own ix di dg dt de):=Mc Ks own N ix B hi hg ag gb hin hs
@[reducible] def Md(st:aE)(k:Nat):Bool:=match st[k]? with
 | some (.live _)=>true
 | some (.froz _)=>true
 | some (.deep _)=>true
 | _=>false
@[reducible] def uw(eo:DX)(dx:mY)(env:bL)(st:aE)(Q:DC):Prop:=eo env st λo ay=>match o with
 | .ref k=>Md ay k=true/\dx env ay λxs bq=>match xs with
  | [x]=>match bq[k]? with
   | some (.deep ys)=>ys.length < 1000000/\Q (.dat .none) (bq.set k (.deep (ys++[x])))
   | _=>lj x bq λd je=>match je[k]? with
    | some (.live ds)=>ds.length < 1000000/\Q (.dat .none) (je.set k (.live (ds++[d])))
    | _=>False
  | _=>False
 | _=>False
theorem uy{H0:Hp}{A0:Addr->Prop}{G:Addr->Prop}{al:List (List Addr)}{H:Hp}{st:aE}(I:DI J H0 A0 G al H st){v:V}{k:Nat}(h:gm J (Fb G al st) H al v (.ref k))(hl:Md st k=true):∃a ys,v=.ref a/\bu J H a ys:=by
 obtain⟨a,r,h1,rfl⟩:=h;have hk:k < st.length:=by rw[← I.len];exact(eA h1).1
 have hs:=gP hk;have z:=I.cel k _ _ h1 hs;refine⟨a,?_⟩
 cases q:st[k]with
 | live ds=>rw[q]at z;obtain⟨a',ys,e0,g,_⟩:=z;cases e0;exact⟨ys,rfl,bu.of g⟩
 | deep ds=>rw[q]at z;obtain⟨a',ys,e0,g,_⟩:=z;cases e0;exact⟨ys,rfl,bu.of g⟩
 | froz ds =>
  rw[q]at z;obtain⟨a',e0,g0⟩:=z;cases e0;obtain⟨b,ys,g1,g2,_⟩:=aR.cn g0;cases g1;exact⟨ys,rfl,g2⟩
 | obj o =>
  unfold Md at hl;rw[hs,q]at hl;cases hl
theorem wz{H:Hp}{v:V}(h:∃a ys,v=.ref a/\bu K H a ys):Sf K "list" v H:=by
 obtain⟨a,ys,rfl,g⟩:=h;exact .inl ⟨rfl,ys,g⟩
theorem nz{apos cpos:Pos}{o:Expr}{eo:DX}(ho:bN X Y o eo)(ha:wa X Y (e::es) n d)(hbase:attributeBase o "append" X.env (eval o X.env)=eval o X.env:=by rfl)
  (hfew:((backTo cpos (starEach (e::es) X.env)).all (λx=>!x.1)&&(backToKw cpos (keywordEach [] X.env)).all (λx=>x.1.isSome)
   && decide ((e::es).length + ([]:List Keyword).length + (if ([]:List Keyword).isEmpty then 0 else 1) < 30))=true:=by rfl)
  (hline:(apos.endLine == cpos.line)=true:=by rfl) (hs:starEach (e::es) X.env=(false,eval e X.env)::starEach es X.env:=by rfl) (hplain:(backTo cpos (starEach es X.env)).any (·.1)=false:=by rfl) :
  bN X Y (.Call (.Attribute o "append" apos) (e::es) [] cpos) (uw eo d):=by
 obtain⟨t,p1,a1⟩:=ho.h;obtain⟨u,p2,a2⟩:=ha.h;refine⟨_,sC aaR abi abj ib p1 p2 hbase hfew hline hs hplain,λH0 A0 G al H st s env Q R I E q k=>a1 H0 A0 G al H st s env _ _ I E q λx ay aY v H1 e1 I1 d1 q1=>?_⟩;split at q1
 ·rename_i kk;refine⟨wz (uy I1 d1 q1.1),a2 H0 A0 G aY H1 ay s env _ _ I1 (E.ext e1) q1.2 λxs bq cq vs H2 e2 I2 d2 q2=>?_⟩;have q2:=q2.2;split at q2
  ·obtain⟨w,rfl,hw⟩:=Bf d2;have we:=e1.trans I1 e2;split at q2
   ·rename_i zs hs;obtain⟨a,r0,ha,rfl⟩:=d1.ext e2;obtain⟨a',ys,e0,g1,g2⟩:=I2.cel kk _ _ ha hs;cases e0;obtain⟨E4,I4⟩:=I2.putD ha hs (g2.append (.cons hw .nil));exact⟨a,ys,w,rfl,rfl,g1,by rw[g2.1];exact aah q2.1 (by decide),(k.go I2 we) _ _ _ _ _ E4 I4 (.d .non) q2.2⟩
   ·obtain⟨dd,je,E3,I3,F3,q3⟩:=lF I2 hw q2;split at q3
    ·rename_i ds hs;have P4:=we.trans I2 E3;obtain⟨a,r0,ha,rfl⟩:=(d1.ext e2).ext E3;obtain⟨a',ys,e0,g1,g2⟩:=I3.cel kk _ _ ha hs;cases e0;obtain⟨E4,I4⟩:=I3.put ha hs (g2.append (.cons F3 .nil));exact⟨a,ys,w,rfl,rfl,g1,by rw[g2.1];exact aah q3.1 (by decide),(k.go I3 P4) _ _ _ _ _ E4 I4 (.d .non) q3.2⟩
    ·exact q3.elim
  ·exact q2.elim
 ·exact q1.elim
structure eX where
 nx:bL->aE->Prop
 rt:DC
 bk:bL->aE->Prop:=λ_ _=>False
 ct:bL->aE->Prop:=λ_ _=>False
abbrev DS:=eX->bL->aE->Prop
structure Bk(J:KF)(H0:Hp)(A0:Addr->Prop)(G:Addr->Prop)(al:List (List Addr))(H:Hp)(st:aE)(DD:eX)(D:Ends):Prop where
 nx:Kq J H0 A0 G al H st DD.nx D.nx
 rt:Kn J H0 A0 G al H st DD.rt D.rt
 bk:Kq J H0 A0 G al H st DD.bk D.bk
 ct:Kq J H0 A0 G al H st DD.ct D.ct
theorem Bk.go{H0:Hp}{A0:Addr->Prop}{G:Addr->Prop}{al aY:List (List Addr)}{H H1:Hp}{st ay:aE}{DD:eX}{D:Ends}(k:Bk J H0 A0 G al H st DD D)(I:DI J H0 A0 G aY H1 ay)(e:Ext al H st aY H1 ay):Bk J H0 A0 G aY H1 ay DD D:=⟨k.nx.go I e,k.rt.go I e,k.bk.go I e,k.ct.go I e⟩
def AS(J:KF)(t:TS)(s:DS):Prop:=∀(H0:Hp) (A0:Addr->Prop) (G:Addr->Prop) (al:List (List Addr)) (H:Hp) (st:aE) (σ:St) (env:bL) (DD:eX) (D:Ends),DI J H0 A0 G al H st->mX J (Fb G al st) H al σ env->s DD env st->Bk J H0 A0 G al H st DD D->t D σ H
structure Bl(X:Cx)(Y:YK)(B4:Stmt)(s:DS):Prop where
 h:∃t,PS X B4 t/\AS (kf X Y) t s
structure wA(X:Cx)(Y:YK)(stms:List Stmt)(s:DS):Prop where
 h:∃t,pV X stms t/\AS (kf X Y) t s
@[reducible] def zY(DD:eX)(env:bL)(st:aE):Prop:=DD.nx env st
@[reducible] def DR(s u:DS)(DD:eX)(env:bL)(st:aE):Prop:=s {DD with nx:=u DD} env st
@[reducible] def DU(e:DX)(DD:eX)(env:bL)(st:aE):Prop:=e env st λ_ ay=>DD.nx env ay
@[reducible] def Me(e:DX)(DD:eX)(env:bL)(st:aE):Prop:=e env st DD.rt
@[reducible] def S5(c:DT)(s u:DS)(DD:eX)(env:bL)(st:aE):Prop:=c env st λb ay=>if b=true then s DD env ay else u DD env ay
@[reducible] def yf(e:DX)(g:pk)(DD:eX)(env:bL)(st:aE):Prop:=e env st λdv ay=>g dv env ay DD.nx
def Kt(g:pk)(s:DS)(DD:eX)(xs:List PyData)(ok:aE->Prop)(env:bL)(st:aE):Prop:=∃W:Nat->bL->aE->Prop,W 0 env st/\∀i env st,i<=xs.length->W i env st->ok st/\(i=xs.length->DD.nx env st)/\∀d,xs[i]?=some d->g (.dat d) env st λenv' st'=>s {DD with nx:=W (i + 1),ct:=W (i + 1),bk:=DD.nx} env' st'
@[reducible] def Mf(di:nu)(g:pk)(s:DS)(DD:eX)(env:bL)(st:aE):Prop:=di env st λxs ok ay=>Kt g s DD xs ok env ay
theorem uz{g:pk}{s:DS}{DD:eX}{xs:List PyData}{ok:aE->Prop}{env:bL}{st:aE}(W:Nat->bL->aE->Prop)(h0:W 0 env st)(hok:∀i env st,W i env st->ok st)
  (hs:∀i env st d,xs[i]?=some d->W i env st->g (.dat d) env st λenv' st'=>s {DD with nx:=W (i + 1),ct:=W (i + 1),bk:=DD.nx} env' st') (hd:∀env st,W xs.length env st->DD.nx env st):Kt g s DD xs ok env st :=
 ⟨W,h0,λi env st _ w=>⟨hok i env st w,λe=>hd env st (e ▸ w),λd h=>hs i env st d h w⟩⟩
variable {B4:Stmt} {stms rest:List Stmt} {s u:DS}
theorem HD:AS J pX zY:=λH0 A0 G al H st σ env DD D I E h k=>k.nx env st al σ H .refl I E h
theorem DW{t r:TS}(h1:AS J t s)(h2:AS J r u):AS J (Gy t r) (DR s u):=λH0 A0 G al H st σ env DD D I E h k=>h1 H0 A0 G al H st σ env _ _ I E h ⟨λenv' st' al' σ' H' e' I' E' q'=>h2 H0 A0 G al' H' st' σ' env' DD D I' E' q' (k.go I' e'),k.rt,k.bk,k.ct⟩
theorem dh:wA X Y [] zY:=⟨_,aM,HD⟩
theorem cY(h1:Bl X Y B4 s)(h2:wA X Y rest u):wA X Y (B4::rest) (DR s u):=by
 obtain⟨t,p1,a1⟩:=h1.h;obtain⟨r,p2,a2⟩:=h2.h;exact⟨_,qK p1 p2,DW a1 a2⟩
theorem bU(h1:Bl X Y B4 s):wA X Y [B4] s:=by
 obtain⟨t,p1,a1⟩:=h1.h;exact⟨_,qO p1,a1⟩
theorem uA(he:bN X Y e ea)(hs:swapsWith e none pos.line X.env=pure false:=by rfl):Bl X Y (.Expr e pos) (DU ea):=by
 obtain⟨t,p1,a1⟩:=he.h;exact⟨_,gQ p1 hs,λH0 A0 G al H st σ env DD D I E h k=>a1 H0 A0 G al H st σ env _ _ I E h λdv ay aY v H1 e1 I1 d1 q1=>k.nx env ay aY σ H1 e1 I1 (E.ext e1) q1⟩
theorem cN(he:bN X Y e ea):Bl X Y (.Return (some e) pos) (Me ea):=by
 obtain⟨t,p1,a1⟩:=he.h;exact⟨_,aL p1,λH0 A0 G al H st σ env DD D I E h k=>a1 H0 A0 G al H st σ env _ _ I E h k.rt⟩
theorem iQ{c:Expr}{tc:DT}{x y:List Stmt}(hc:ya X Y c tc)(ha:wA X Y x s)(hb:wA X Y y u):Bl X Y (.If c x y pos) (S5 tc s u):=by
 obtain⟨t,p1,a1⟩:=hc.h;obtain⟨r,p2,a2⟩:=ha.h;obtain⟨w,p3,a3⟩:=hb.h;refine⟨_,bg p1 p2 p3,λH0 A0 G al H st σ env DD D I E h k=>a1 H0 A0 G al H st σ env _ _ I E h λb ay aY H1 e1 I1 q1=>?_⟩
 cases b with
 | true=>exact iJ (a2 H0 A0 G aY H1 ay σ env DD D I1 (E.ext e1) (by rw[aap rfl]at q1;exact q1) (k.go I1 e1))
 | false=>exact cM (a3 H0 A0 G aY H1 ay σ env DD D I1 (E.ext e1) (by rw[aan aaj]at q1;exact q1) (k.go I1 e1))
theorem uB{t:TE}{g:TG}{dg:pk}(h1:AE J t ea)(h2:AG J g dg):AS J (Gz t g) (yf ea dg):=λH0 A0 G al H st σ env DD D I E h k=>h1 H0 A0 G al H st σ env _ _ I E h λdv ay aY v H1 e1 I1 d1 q1=>h2 H0 A0 G aY H1 ay σ env v dv _ _ I1 (E.ext e1) d1 q1 (k.nx.go I1 e1)
theorem bD{i:Nat}{x:Str}{pos':Pos}(hN:X.N.Nodup)(hi:X.N[i]?=some x)(hx:Loc X.env.scope x)(he:bN X Y e ea)(hs:swapsWith e (some (.Name x pos')) pos.line X.env=pure false:=by rfl)(hf:X.fn x=true∨X.env.scope.names.lookup x=some .local:=by first | exact .inl rfl | exact .inr rfl | assumption):Bl X Y (.Assign [.Name x pos'] e pos) (yf ea (gN i)):=by
 obtain⟨t,p1,a1⟩:=he.h;exact⟨_,cy hN hi hx p1 hs hf,uB a1 kY⟩
theorem DY{g:pk}(he:bN X Y e ea)(hg:Ot X Y tg g)(hs:swapsWithSole [tg] e pos.line X.env=pure false:=by rfl)(hw:swappedStores [tg] e X.env=pure none:=by rfl)(h1:(assignEach [tg] X.env).map (·.2)=[assign tg X.env]:=by rfl):Bl X Y (.Assign [tg] e pos) (yf ea g):=by
 obtain⟨t,p1,a1⟩:=he.h;obtain⟨gg,p2,a2⟩:=hg.h;exact⟨_,lB p1 p2 hs hw h1,uB a1 a2⟩
theorem Bm{fin:List PyData->aE->DC->Prop}(hf:HC (kf X Y) fin)
  {i:Nat} {x:Str} {pos' spos:Pos} (hN:X.N.Nodup) (hxi:X.N[i]?=some x) (hx:Loc X.env.scope x) {elt iter:Expr} {ifs:List Expr} {g:TG} {di:nu} {dg:pk} {dt:DT} {de:DX} (own:Nat) (N:List Str) (ix:List Nat) (B:jY X own N ix scope) (hi:L4 X Y tg iter di)
  (hg:∀(C:Addr) (fp:List Addr) (s:Shared) (H:Hp),PG (X.iO N scope C fp s H) tg g) (ag:AG (kf X Y) g dg) (gb:GB own g)
  (hin:∀(C:Addr) (fp:List Addr) (s:Shared) (H:Hp),PY (X.iO N scope C fp s H) Y ifs dt/\bN (X.iO N scope C fp s H) Y elt de)
  (hsw:swapsWith (.ListComp elt [⟨tg,iter,ifs,0⟩] scope pos) (some (.Name x pos')) spos.line X.env=pure true:=by rfl) (hs:∀x,foldedSetIterable iter X.env x=pure x:=by intro _;rfl)
  (hfn:X.fn x=true∨X.env.scope.names.lookup x=some .local:=by first | exact .inl rfl | exact .inr rfl):Bl X Y (.Assign [.Name x pos'] (.ListComp elt [⟨tg,iter,ifs,0⟩] scope pos) spos) (yf (Bj fin own ix di dg dt de) (gN i)):=by
 obtain⟨wi,p1,a1⟩:=hi.h;exact⟨_,ml hN hxi hx own N ix B p1 (λC fp s H=>⟨hg C fp s H,(hin C fp s H).1.h,(hin C fp s H).2.pe⟩) hsw hs hfn,uB (Kr hf a1 ag gb) kY⟩
theorem yg{iter:Expr}{body:List Stmt}{di:nu}{g:pk}(hp:PassesOwn (model X.prog X.w) X.A X.env X.xe)(hc:X.calm=true)(hi:L4 X Y tg iter di)(hg:Ot X Y tg g)(hb:wA X Y body s)(hs:∀x,foldedSetIterable iter X.env x=pure x:=by intro _;rfl):Bl X Y (.For tg iter body [] pos) (Mf di g s):=by
 obtain⟨t,p1,a1⟩:=hi.h;obtain⟨gg,p2,a2⟩:=hg.h;obtain⟨r,p3,a3⟩:=hb.h;refine⟨_,pY hp hc p1 p2 p3 hs,λH0 A0 G al H st σ env DD D I E h k=>a1 H0 A0 G al H st σ env _ _ I E h λJj xs ok ay aY H1 e1 I1 ir q1=>?_⟩;obtain⟨W,w0,step⟩:=q1;refine⟨λi m σ' H'=>(m=xs.length - i/\i<=xs.length)/\∃env' st' al',Ext aY H1 ay al' H' st'/\DI (kf X Y) H0 A0 G al' H' st'/\mX X.K (Fb G al' st') H' al' σ' env'/\W i env' st',⟨_,⟨rfl,aaQ _⟩,env,ay,aY,.refl,I1,E.ext e1,w0⟩,?_⟩;rintro i m σ2 H2 ⟨⟨em,hil⟩,i3,bq,cq,e2,I2,E2,w2⟩;obtain⟨hok,hnx,hst⟩:=step i i3 bq hil w2;have IR:=ir G cq H2 bq i (λc z=>.inl z) e2 I2 hok;have we:=e1.trans I1 e2;by_cases hx:i < xs.length
 ·obtain⟨d0,DQ⟩:∃d0,xs[i]?=some d0:=⟨xs[i],gP hx⟩;obtain⟨go,yl⟩:=IR.1 d0 DQ;refine .inr ⟨go,λσ' H'=>∃m',m' < m/\(m'=xs.length - (i + 1)/\i + 1<=xs.length)/\∃env' st' al',Ext aY H1 ay al' H' st'/\DI (kf X Y) H0 A0 G al' H' st'/\mX X.K (Fb G al' st') H' al' σ' env'/\W (i + 1) env' st',λσ' H' z=>z,λx H3 hy=>?_⟩;obtain⟨s3,r3⟩:=yl x H3 hy;have I3:=I2.same s3;have VL:Ext cq H2 bq cq H3 bq:=.same s3;refine a2 H0 A0 G cq H3 bq σ2 i3 x (.dat d0) _ _ I3 (E2.ext VL) (.d r3) (hst d0 DQ) λS6 pL L8 σ4 H4 e4 I4 E4 q4=>?_
  have S7:=VL.trans I3 e4;have PV:=e2.trans I2 S7;refine a3 H0 A0 G L8 H4 pL σ4 S6 _ _ I4 E4 q4 ⟨?_,k.rt.go I4 (we.trans I2 S7),k.nx.go I4 (we.trans I2 S7),?_⟩
  ·intro env' st' al' σ' H' e' I' E' w';exact⟨xs.length - (i + 1),by omega,⟨rfl,hx⟩,env',st',al',PV.trans I4 e',I',E',w'⟩
  ·intro env' st' al' σ' H' e' I' E' w';exact⟨xs.length - (i + 1),by omega,⟨rfl,hx⟩,env',st',al',PV.trans I4 e',I',E',w'⟩
 ·have ei:i=xs.length:=by omega
  exact .inl ⟨IR.2 (by omega) (by omega),k.nx i3 bq cq σ2 H2 we I2 E2 (hnx ei)⟩
def sX(X:Cx)(Y:YK)(body:List Stmt)(DD:eX)(env:bL)(st:aE):Prop:=∃s,wA X Y body s/\s DD env st
theorem aD{DD:eX}{env:bL}{st:aE}(h:Bl X Y B4 s)(k:∀R:bL->aE->Prop,(∀env' st',sX X Y rest DD env' st'->R env' st')->s {DD with nx:=R} env st):sX X Y (B4::rest) DD env st:=by
 obtain⟨t,p1,a1⟩:=h.h;refine⟨DR s (λDD env st=>sX X Y rest DD env st),⟨Gy t (λD σ H=>∃r,pV X rest r/\r D σ H),qK p1 (λpins s σ H D I ⟨_,hu,q⟩=>hu pins s σ H D I q),DW a1 λH0 A0 G al H st σ env DD D I E h k=>?_⟩,k _ λ_ _ z=>z⟩;obtain⟨s2,⟨r,p2,a2⟩,q⟩:=h;exact⟨r,p2,a2 H0 A0 G al H st σ env DD D I E q k⟩
theorem gW{DD:eX}{env:bL}{st:aE}(h:Bl X Y B4 s)(k:s DD env st):sX X Y [B4] DD env st:=⟨s,bU h,k⟩
theorem sY{N:List Str}{body:List Stmt}{vs:List V}{ds:List PyData}{H:Hp}{Q:VK}{P:Addr->Prop}(hP:∀c,P c->∃o,H c=some o/\j9 o)(hv:cj (aR X.K P H) vs ds)(hy:Y.Y H (λ_=>False) P)
  (h:sX X Y body {nx:=λ_ _=>∀v H',aS H H'->aR X.K P H' v .none->Q v H',rt:=λdv st=>lj dv st λd _=>∀v H',aS H H'->aR X.K P H' v d->Q v H'} (ds.map (λd=>some (DV.dat d))++List.replicate (N.length - ds.length) none) []) :
  ∃t,pV X body t/\t {nx:=λ_ H'=>Q .non H',rt:=Q} (start N vs) H:=by
 obtain⟨s,⟨t,p1,a1⟩,q⟩:=h;have lv:∀c,¬ Lv [] [] c:=λc ⟨k,xs,ce,h,_⟩=>by simp at h
 have I:DI (kf X Y) H (λ_=>False) P [] H []:=⟨rfl,List.nodup_nil,λ_ h=>by simp at h,λk a c h=>by simp at h,λc o _ e=>e,λ_ h=>by simp at h,λ_ h=>by simp at h,hP,hy⟩
 have fb:∀c,Fb P [] [] c->P c:=λc z=>by
  rcases z with z | z
  ·exact z
  ·exact absurd z (lv c)
 refine⟨t,p1,a1 H (λ_=>False) P [] H [] _ _ _ _ I ⟨by unfold start;simp[hv.1],λi dv hi=>?_⟩ q ⟨λenv' st' al' σ' H' e' I' E' q'=>?_,λdv st' al' v H' e' I' d' q'=>?_,λenv' st' al' σ' H' e' I' E' q'=>q'.elim,λenv' st' al' σ' H' e' I' E' q'=>q'.elim⟩⟩
 ·by_cases l:i < ds.length
  ·rw[List.getElem?_append_left (by simpa using l),List.getElem?_map,gP l]at hi;cases hi;obtain⟨y,hy,hr⟩:=hv.at (gP l);refine⟨y,?_,.d (aR.sub hr fb)⟩;unfold start;rw[List.getElem?_append_left (by rw[List.length_map,hv.1];exact l),List.getElem?_map,hy];rfl
  ·rw[List.getElem?_append_right (by simp;omega)]at hi;rw[List.getElem?_replicate]at hi;split at hi
   ·cases hi
   ·cases hi
 ·exact q' .non H' (λc o e=>I'.fr c o id e) .non
 ·obtain⟨d,bq,_,I2,F,q2⟩:=lF I' d' q';exact q2 v H' (λc o e=>I'.fr c o id e) (aR.sub F λc z=>.inl z)
theorem jm{N:List Str}{body:List Stmt}{vs:List V}{ds:List PyData}{H:Hp}{Q:VK}{P:Addr->Prop}(hP:∀c,P c->∃o,H c=some o/\j9 o)(hv:cj (aR X.K P H) vs ds)
  (h:sX X y0 body {nx:=λ_ _=>∀v H',aS H H'->aR X.K P H' v .none->Q v H',rt:=λdv st=>lj dv st λd _=>∀v H',aS H H'->aR X.K P H' v d->Q v H'} (ds.map (λd=>some (DV.dat d))++List.replicate (N.length - ds.length) none) []) :
  ∃t,pV X body t/\t {nx:=λ_ H'=>Q .non H',rt:=Q} (start N vs) H:=sY hP hv trivial h
end
@[reducible] def P7:DV->String
 | .dat .none=>"NoneType"
 | .dat (.bool _)=>"bool"
 | .dat (.int _)=>"int"
 | .dat (.str _)=>"str"
 | .dat (.list _)=>"list"
 | .dat (.tuple _)=>"tuple"
 | .dat (.dict _)=>"dict"
 | .ref _=>"list"
def IsT(K:aJ)(n:String)(f:String->Bool):Prop:=∀t∈(["NoneType","bool","int","str","list","tuple"]:List String),PySem.W.kitOne K (.type t) (.type n)=some (f t)
@[reducible] def HE:String->Bool:=λt=>t == "int"||t == "bool"
@[reducible] def oS(n:String):String->Bool:=λt=>t == n
@[reducible] def Mg(f:String->Bool)(ea:DX)(env:bL)(st:aE)(Q:DC):Prop:=ea env st λx ay=>match x with
 | .dat d=>Q (.dat (.bool (f (P7 (.dat d))))) ay
 | .ref k=>Md ay k=true/\Q (.dat (.bool (f "list"))) ay
theorem gm.ty{K:aJ}{P:Addr->Prop}{al:List (List Addr)}{H:Hp}{v:V}{d:PyData}(h:gm K P H al v (.dat d)):GZ K H v (P7 (.dat d))/\P7 (.dat d)∈(["NoneType","bool","int","str","list","tuple"]:List String):=by
 cases d with
 | none=>rw[aR.LL h];exact⟨.non,by simp⟩
 | bool b=>rw[aR.qu h];exact⟨.bl _,by simp⟩
 | int b=>rw[aR.ba h];exact⟨.int _,by simp⟩
 | str b=>rw[aR.cA h];exact⟨.str _,by simp⟩
 | list ds=>obtain⟨b,ys,rfl,g2,_⟩:=aR.cn h;exact⟨.lst g2,by simp⟩
 | tuple ds=>obtain⟨b,ys,rfl,g2,_⟩:=aR.gn h;exact⟨.tup g2,by simp⟩
 | dict kv=>have h:aQ K _ v (.dict kv):=h;cases h
theorem uC{X:Cx}{Y:YK}{a:Expr}{ea:DX}{pos p p2:Pos}{T:Str}{n:String}{f:String->Bool}(hf:IsT X.K n f)(hg:Gl X "isinstance")(hm:X.mg "isinstance"=none)(Xw:Gl X T)(Xx:X.mg T=none)(hb:bootBuiltins T=some (.type n))(ha:bN X Y a ea)(hn:T≠"__name__":=by decide)(hd:(T == ("__debug__" : Str))=false:=by decide)
  (h1:starEach [a,.Name T p2] X.env=(false,eval a X.env)::starEach [.Name T p2] X.env:=by rfl):bN X Y (.Call (.Name "isinstance" p) [a,.Name T p2] [] pos) (Mg f ea):=by
 obtain⟨t,p1,a1⟩:=ha.h;refine⟨_,p5 C0 hg hm rz (pK p1 (pK (Gx (v:=.ty n) Xw Xx hb rfl hn hd) pN rfl) h1) (by decide) (by decide) h1 rfl,λH0 A0 G al H st s env Q R I E q k=>a1 H0 A0 G al H st s env _ _ I E q λx ay aY v H1 e1 I1 d1 q1=>?_⟩;split at q1
 ·obtain⟨ty,mem⟩:=d1.ty;exact⟨v,n,_,_,rfl,ty,hf _ mem,(k.go I1 e1).here I1 (.d (.bl _)) q1⟩
 ·obtain⟨b,ys,rfl,g⟩:=uy I1 d1 q1.1;exact⟨_,n,"list",_,rfl,.lst g,hf _ (by simp),(k.go I1 e1).here I1 (.d (.bl _)) q1.2⟩
theorem uD{K:aJ}{n:String}{f:String->Bool}(h1:PySem.W.kitOne K (.type "NoneType") (.type n)=some (f "NoneType"))(h2:PySem.W.kitOne K (.type "bool") (.type n)=some (f "bool"))(h3:PySem.W.kitOne K (.type "int") (.type n)=some (f "int"))(h4:PySem.W.kitOne K (.type "str") (.type n)=some (f "str"))(h5:PySem.W.kitOne K (.type "list") (.type n)=some (f "list"))(h6:PySem.W.kitOne K (.type "tuple") (.type n)=some (f "tuple")):IsT K n f:=λt ht=>by
 simp only[List.mem_cons,List.not_mem_nil,or_false]at ht;rcases ht with rfl | rfl | rfl | rfl | rfl | rfl<;>assumption
@[reducible] def uE(o1 o2:Hg)(ea eb ec:DX)(env:bL)(st:aE)(Q:DC):Prop:=ea env st λx ay=>eb env ay λy bq=>o1 x y bq λz je=>match z with
 | .dat (.bool b)=>if b=true then ec env je λw pL=>o2 y w pL Q else Q (.dat (.bool false)) je
 | _=>False
theorem DZ{J:KF}{r r':R2}{o1 o2:Hg}{ta tb tc:TE}{ea eb ec:DX}(h1:AO J r o1)(h2:AO J r' o2)(ha:AE J ta ea)(hb:AE J tb eb)(hc:AE J tc ec):AE J (CB r r' ta tb tc) (uE o1 o2 ea eb ec):=λH0 A0 G al H st s env Q R I E q k=>by
 refine ha H0 A0 G al H st s env _ _ I E q λx ay aY v H1 e1 I1 d1 q1=>?_
 refine hb H0 A0 G aY H1 ay s env _ _ I1 (E.ext e1) q1 λy bq cq u H2 e2 I2 d2 q2=>?_
 have we:=e1.trans I1 e2;refine h1 H0 A0 G cq H2 bq v u x y _ _ I2 (d1.ext e2) d2 q2 λz je RG w H3 e3 I3 d3 q3=>?_
 have P4:=we.trans I2 e3;split at q3
 ·rename_i b;rw[aR.qu d3];refine⟨_,rfl,?_⟩
  cases b with
  | false=>exact cM ((k.go I3 P4).here I3 (.d (.bl _)) (by rw[aan aaj]at q3;exact q3))
  | true =>
   rw[aap rfl]at q3;refine iJ (hc H0 A0 G RG H3 je s env _ _ I3 (E.ext P4) q3 λw pL L8 u4 H4 e4 I4 d4 q4=>?_);exact h2 H0 A0 G L8 H4 pL u u4 y w Q R I4 ((d2.ext e3).ext e4) d4 q4 (k.go I4 (P4.trans I3 e4))
 ·exact q3.elim
theorem D1{X:Cx}{Y:YK}{a b c:Expr}{ea eb ec:DX}{pos:Pos}{op op':CmpOp}{r r':R2}{o1 o2:Hg}(ho:jf X (compareOp op) r)(ho':jf X (compareOp op') r')(h1:AO (kf X Y) r o1)(h2:AO (kf X Y) r' o2)(ha:bN X Y a ea)(hb:bN X Y b eb)(hc:bN X Y c ec)
  (hm:lastMarks [op,op'] [b,c]=false:=by with_unfolding_all rfl):ya X Y (.Compare a [op,op'] [b,c] pos) (FQ (uE o1 o2 ea eb ec)):=by
 obtain⟨ta,p1,a1⟩:=ha.h;obtain⟨tb,p2,a2⟩:=hb.h;obtain⟨tc,p3,a3⟩:=hc.h;exact⟨_,CD ho ho' p1 p2 p3 hm,yd (DZ h1 h2 a1 a2 a3)⟩
theorem dO{c:Prop}[Decidable c]{A B:Prop}(h1:c->A)(h2:¬ c->B):if decide c=true then A else B:=by
 by_cases e:c
 ·rw[aap (aa0 e)];exact h1 e
 ·rw[aan (λz=>e (abH z))];exact h2 e
theorem yh{α:Type}{xs:List α}{j:Nat}{x:α}(h:xs[j]?=some x):lD xs (j:Int)=some x:=by
 have hl:=(eA h).1;unfold lD xP;rw[if_pos (by omega),if_pos (by omega)];show xs[((j:Nat):Int).toNat]?=some x;rw[Int.toNat_natCast];exact h
theorem uF{α:Type}{xs:List α}{n:Int}(h:(xs.length:Int)=n)(h0:0 < n)(i:Int):∃x,x∈xs/\lD xs (i % n)=some x:=by
 have a:=Int.emod_nonneg i (b:=n) (by omega);have b:=Int.emod_lt_of_pos i h0;obtain⟨j,hj⟩:∃j:Nat,i % n=(j:Int):=⟨(i % n).toNat,by omega⟩;have hl:j < xs.length:=by omega
 rw[hj];exact⟨xs[j],aby hl,yh (gP hl)⟩
theorem wB{K:aJ}{P:Addr->Prop}{H:Hp}{ns:List Int}:cj (aR K P H) (ns.map V.int) (ns.map PyData.int):=⟨by simp,λi y x hy hx=>by
 rw[aax]at hy hx
 cases q:ns[i]? with
 | none=>rw[q]at hy;cases hy
 | some n=>rw[q]at hy hx;cases hy;cases hx;exact .int _⟩
theorem zZ{α β:Type}{f:α->β}{l:List α}{j:Nat}{a:α}(h:l[j]?=some a):lD (l.map f) (j:Int)=some (f a):=yh (by rw[aax,h];rfl)
@[reducible] def Mh(n:Nat)(ea:DX)(env:bL)(st:aE)(Q:DC):Prop:=ea env st λx ay=>match oR ay x with
 | some ds=>match ds[n]? with
  | some d=>Q (.dat d) ay
  | none=>False
 | none=>False
theorem bE{X:Cx}{Y:YK}{a:Expr}{ea:DX}{pos p:Pos}{n:Nat}{j}(ha:bN X Y a ea)(hs:tY (.Constant (.int (n:Int)) j p):=by exact λ_ _=>rfl):bN X Y (.Subscript a (.Constant (.int (n:Int)) j p) pos) (Mh n ea):=by
 obtain⟨ta,p1,a1⟩:=ha.h;refine⟨_,aI CO p1 pI hs,λH0 A0 G al H st s env Q R I E q k=>a1 H0 A0 G al H st s env _ _ I E q λx ay aY v H1 e1 I1 d1 q1=>?_⟩;split at q1
 ·rename_i ds e;split at q1
  ·rename_i d hd;obtain⟨b,ys,rfl,g1,g2⟩:=d1.RE I1 e;obtain⟨z,g3,g4⟩:=g2.lD (yh hd);have kk:=(k.go I1 e1).here I1 (.d g4) q1;rcases g1 with g1 | g1
   ·exact .inl ⟨b,ys,_,z,rfl,rfl,g1,g3,kk⟩
   ·exact .inr (.inl ⟨b,ys,_,z,rfl,rfl,g1,g3,kk⟩)
  ·exact q1.elim
 ·exact q1.elim
structure Sh(n:Nat)(d:PyData):Prop where
 cl:d.canLay0=true
 dp:d.depth<=n
theorem Sh.up{n m:Nat}{d:PyData}(h:Sh n d)(l:n<=m):Sh m d:=⟨h.cl,aaA h.dp l⟩
theorem gq{n:Nat}{i:Int}:Sh n (.int i):=⟨rfl,aaQ _⟩
theorem dE{n:Nat}{x:Str}(h:PyData.canLay0 (.str x)=true:=by decide +kernel):Sh n (.str x):=⟨h,aaQ _⟩
theorem qA{n:Nat}:∀{ds:List PyData},(∀d∈ds,Sh n d)->PyData.canLayAll0 ds=true/\PyData.depthAll ds<=n
 | [],_=>⟨rfl,aaQ _⟩
 | d::r,h=>by
  obtain⟨h1,h2⟩:=qA (ds:=r) λx hx=>h x (aal _ hx)
  have hd:=h d aae;refine⟨?_,?_⟩
  ·show(PyData.canLay0 d&&PyData.canLayAll0 r)=true;rw[hd.cl,h1];rfl
  ·show max (PyData.depth d) (PyData.depthAll r)<=n;exact Nat.max_le.mpr ⟨hd.dp,h2⟩
theorem iR{n:Nat}{ds:List PyData}(h:∀d∈ds,Sh n d):Sh (n + 1) (.list ds):=⟨(qA h).1,acm (qA h).2⟩
theorem dP{n:Nat}{ds:List PyData}(h:∀d∈ds,Sh n d):Sh (n + 1) (.tuple ds):=⟨(qA h).1,acm (qA h).2⟩
theorem cO{n:Nat}:∀d∈([]:List PyData),Sh n d:=λ_ h=>nomatch h
theorem aA{n:Nat}{x:PyData}{ds:List PyData}(h:Sh n x)(r:∀d∈ds,Sh n d):∀d∈x::ds,Sh n d:=λd hd=>by
 rcases aaB.mp hd with z | z
 ·rw[z];exact h
 ·exact r d z
theorem uG{α:Type}{n:Nat}{f:α->PyData}{l:List α}(h:∀a∈l,Sh n (f a)):∀d∈l.map f,Sh n d:=λd hd=>by
 obtain⟨a,ha,rfl⟩:=acr.mp hd;exact h a ha
theorem Sh.ok{n:Nat}{d:PyData}(h:Sh n d)(l:n<=64:=by decide):PySem.SeqAt.shaped d=true:=by
 show(d.canLay0&&decide (d.depth<=64))=true;rw[h.cl,aa0 (aaA h.dp l)];rfl
theorem Sh.self{n:Nat}{d:PyData}(h:Sh n d):PyData.eqv d d=true:=PySem.SeqAt.eqv_refl _ h.cl
def sub{α:Type}:List Nat->List α->List α
 | [],_=>[]
 | k::ks,xs=>match xs[k]? with
  | some x=>x::sub ks xs
  | none=>sub ks xs
def mZ{α:Type}:List Nat->List α->List α->List α
 | k::ks,y::ys,xs=>mZ ks ys (xs.set k y)
 | _,_,xs=>xs
theorem wC{α:Type}{k:Nat}{ks:List Nat}{xs:List α}{x:α}(h:xs[k]?=some x):sub (k::ks) xs=x::sub ks xs:=by
 show(match xs[k]? with | some x=>x::sub ks xs | none=>sub ks xs)=_;rw[h]
theorem dG{α:Type}{xs:List α}:∀{ks:List Nat},(∀k∈ks,k < xs.length)->∀(i:Nat) (y:α),(sub ks xs)[i]?=some y↔∃k,ks[i]?=some k/\xs[k]?=some y
 | [],_,i,y=>⟨λh=>by simp[sub]at h,λ⟨k,h,_⟩=>by simp at h⟩
 | k::ks,h,i,y=>by
  rw[wC (gP (h k aae))]
  cases i with
  | zero =>
   rw[abo];exact⟨λe=>⟨k,rfl,by rw[gP (h k aae)];exact e⟩,λ⟨j,e,q⟩=>by rw[abo]at e;cases e;rw[gP (h k aae)]at q;exact q⟩
  | succ i =>
   rw[abG,abG];exact dG (λj hj=>h j (aal _ hj)) i y
theorem sub_len{α:Type}{xs:List α}:∀{ks:List Nat},(∀k∈ks,k < xs.length)->(sub ks xs).length=ks.length
 | [],_=>rfl
 | k::ks,h=>by
  rw[wC (gP (h k aae)),aaE,aaE,sub_len λj hj=>h j (aal _ hj)]
theorem uH{α:Type}:∀{ks:List Nat} {ys xs:List α},(mZ ks ys xs).length=xs.length
 | [],[],_=>rfl
 | [],_::_,_=>rfl
 | _::_,[],_=>rfl
 | k::ks,y::ys,xs=>by
  show(mZ ks ys (xs.set k y)).length=_;rw[uH,aaM]
theorem eY{α:Type}:∀{ks:List Nat} {ys xs:List α} {j:Nat},j∉ks->(mZ ks ys xs)[j]?=xs[j]?
 | [],[],_,_,_=>rfl
 | [],_::_,_,_,_=>rfl
 | _::_,[],_,_,_=>rfl
 | k::ks,y::ys,xs,j,h=>by
  show(mZ ks ys (xs.set k y))[j]?=_;rw[eY λz=>h (aal _ z),aau λe=>h (by rw[← e];exact aae)]
theorem yi{α:Type}:∀{ks:List Nat} {ys xs:List α} {i k:Nat} {y:α},ks.Nodup->ks[i]?=some k->ys[i]?=some y->k < xs.length->(mZ ks ys xs)[k]?=some y
 | [],_,_,i,k,y,_,h,_,_=>by simp at h
 | _::_,[],_,i,k,y,_,_,h,_=>by simp at h
 | k0::ks,y0::ys,xs,i,k,y,nd,h1,h2,h3=>by
  show(mZ ks ys (xs.set k0 y0))[k]?=_
  cases i with
  | zero =>
   rw[abo]at h1 h2;cases h1;cases h2;rw[eY (abZ.mp nd).1,aas h3]
  | succ i =>
   rw[abG]at h1 h2;exact yi (abZ.mp nd).2 h1 h2 (by rw[aaM];exact h3)
def Ce.nd:Ce->Prop
 | .deep _=>False
 | _=>True
section
variable {K:aJ} {J:KF} {H0 H H1:Hp} {A0 G:Addr->Prop} {al aY:List (List Addr)} {st ay:aE} {ks:List Nat}
def Gc(G:Addr->Prop)(al:List (List Addr))(st:aE)(ks:List Nat):Addr->Prop:=λc=>Fb G al st c/\c∉(sub ks al).flatten
theorem qB(hk:∀k∈ks,k < al.length){c:Addr}:c∈(sub ks al).flatten↔∃k f,k∈ks/\al[k]?=some f/\c∈f:=by
 constructor
 ·intro h;obtain⟨f,hf,hc⟩:=abh.mp h;obtain⟨i,hi⟩:=aaO hf;obtain⟨k,h1,h2⟩:=(dG hk i f).mp hi;exact⟨k,f,aaz h1,h2,hc⟩
 ·rintro⟨k,f,h1,h2,h3⟩;obtain⟨i,hi⟩:=aaO h1;exact ck ((dG hk i f).mpr ⟨k,hi,h2⟩) h3
theorem uI(I:DI J H0 A0 G al H st)(hk:∀k∈ks,k < al.length){c:Addr}(h:Lv (sub ks al) (sub ks st) c):Lv al st c:=by
 obtain⟨i,f,ce,h1,h2,h3,h4⟩:=h;obtain⟨k,e1,e2⟩:=(dG hk i f).mp h1;obtain⟨k',e3,e4⟩:=(dG (λj hj=>by rw[← I.len];exact hk j hj) i ce).mp h3;rw[e1]at e3;cases e3;exact⟨k,f,ce,e2,h2,e4,h4⟩
theorem z7(I:DI J H0 A0 G al H st)(hk:∀k∈ks,k < al.length){c:Addr}(h:Fb (Gc G al st ks) (sub ks al) (sub ks st) c):Fb G al st c:=by
 rcases h with z | z
 ·exact z.1
 ·exact .inr (uI I hk z)
theorem B3.Ku{P P':Addr->Prop}{fp:List Addr}{c:Ce}{al al':List (List Addr)}(h:B3 K P H al fp c)(n:c.nd)(s:∀c,P' c->P c)(hP:∀c,P c->∃o,H c=some o/\j9 o):B3 K P' H al' fp c:=by
 cases c with
 | live xs =>
  obtain⟨a,ys,e1,e2,e3⟩:=h;exact⟨a,ys,e1,e2,e3.imp λy x r=>r.sub s⟩
 | froz ds =>
  obtain⟨a,e1,e2⟩:=h;exact⟨a,e1,e2.sub s⟩
 | deep xs=>exact n.elim
 | obj o=>exact⟨h.1,o.keep K P H fp P' H h.2 hP (λ_ _ _ e=>e) (jG λc o n e=>⟨λz=>n (s c z),e⟩)⟩
theorem DI.lend(I:DI J H0 A0 G al H st)(nd:ks.Nodup)(hk:∀k∈ks,k < al.length)(nn:∀k∈ks,∀c,st[k]?=some c->c.nd):DI (k0 J.K) H (λc=>c∈(sub ks al).flatten) (Gc G al st ks) (sub ks al) H (sub ks st):=by
 have hk':∀k∈ks,k < st.length:=λj hj=>by rw[← I.len];exact hk j hj
 refine⟨by rw[sub_len hk,sub_len hk'],?_,λb hb=>?_,λi f ce h1 h2=>?_,.refl,λb hb=>.inl hb,λb hb z=>z.2 hb,λb hb=>I.mr hb.1,trivial⟩
 ·unfold List.Nodup;rw[List.pairwise_flatten,List.pairwise_iff_getElem];refine⟨λf hf=>?_,λi j hi hj hij x hx y hy e=>?_⟩
  ·obtain⟨i,hi⟩:=aaO hf;obtain⟨k,_,h2⟩:=(dG hk i f).mp hi;exact(abx.mp I.nd).1 f (aaz h2)
  ·subst e;obtain⟨k1,a1,b1⟩:=(dG hk i _).mp (gP hi);obtain⟨k2,a2,b2⟩:=(dG hk j _).mp (gP hj);have q:=eW I.nd b1 b2 hx hy;subst q;obtain⟨p1,q1⟩:=eA a1;obtain⟨p2,q2⟩:=eA a2;exact absurd (q1.trans q2.symm) ((List.pairwise_iff_getElem.mp nd) i j p1 p2 hij)
 ·obtain⟨k,f,_,h2,h3⟩:=(qB hk).mp hb;exact I.ok b (ck h2 h3)
 ·obtain⟨k,e1,e2⟩:=(dG hk i f).mp h1;obtain⟨k',e3,e4⟩:=(dG hk' i ce).mp h2;rw[e1]at e3;cases e3;exact(I.cel k f ce e2 e4).Ku (nn k (aaz e1) ce e4) (λc hc=>z7 I hk hc) λc hc=>I.mr hc
theorem DI.back(I:DI J H0 A0 G al H st)(nd:ks.Nodup)(hk:∀k∈ks,k < al.length)(Jj:DI (k0 J.K) H (λc=>c∈(sub ks al).flatten) (Gc G al st ks) aY H1 ay)(e:Ext (sub ks al) H (sub ks st) aY H1 ay)(hl:ks.length<=aY.length)(nn:∀i < ks.length,∀c,ay[i]?=some c->c.nd):
  Ext al H st (mZ ks aY al) H1 (mZ ks ay st)/\DI J H0 A0 G (mZ ks aY al) H1 (mZ ks ay st)/\∀c,Fb G (mZ ks aY al) (mZ ks ay st) c->Fb (Gc G al st ks) aY ay c:=by
 have hk':∀k∈ks,k < st.length:=λj hj=>by rw[← I.len];exact hk j hj
 have HG:∀k∈ks,∃(i:Nat) (f:List Addr) (c:Ce),ks[i]?=some k/\i < ks.length/\aY[i]?=some f/\ay[i]?=some c/\(mZ ks aY al)[k]?=some f/\(mZ ks ay st)[k]?=some c:=λk h=>by
  obtain⟨i,hi⟩:=aaO h;obtain⟨hil,_⟩:=eA hi;have h1:=gP (l:=aY) (i:=i) (by omega);have h2:=gP (l:=ay) (i:=i) (by rw[← Jj.len];omega);exact⟨i,_,_,hi,hil,h1,h2,yi nd hi h1 (hk k h),yi nd hi h2 (hk' k h)⟩
 have lentIn:∀{c:Addr},c∈(sub ks al).flatten->c∈al.flatten:=λh=>by
  obtain⟨k,f,_,h2,h3⟩:=(qB hk).mp h;exact ck h2 h3
 have outs:∀{j:Nat} {f:List Addr} {c:Addr},j∉ks->al[j]?=some f->c∈f->c∉(sub ks al).flatten:=λhj hf hc h=>by
  obtain⟨k,g,h1,h2,h3⟩:=(qB hk).mp h;exact hj (by rw[eW I.nd hf h2 hc h3];exact h1)
 have parted:∀b∈(mZ ks aY al).flatten,(∃(i:Nat) (f:List Addr),i < ks.length/\aY[i]?=some f/\b∈f)∨∃(j:Nat) (f:List Addr),j∉ks/\al[j]?=some f/\b∈f:=λb hb=>by
  obtain⟨f,hf,hbf⟩:=abh.mp hb;obtain⟨j,hj⟩:=aaO hf;by_cases m:j∈ks
  ·obtain⟨i,g,c,_,h2,h3,_,h5,_⟩:=HG j m;rw[h5]at hj;cases hj;exact .inl ⟨i,f,h2,h3,hbf⟩
  ·rw[eY m]at hj;exact .inr ⟨j,f,m,hj,hbf⟩
 have mem:∀b∈(mZ ks aY al).flatten,b∈al.flatten∨H b=none:=λb hb=>by
  rcases parted b hb with⟨i,f,_,h2,h3⟩ | ⟨j,f,_,h2,h3⟩
  ·rcases e.nws b (ck h2 h3)with z | z
   ·exact .inl (lentIn z)
   ·exact .inr z
  ·exact .inl (ck h2 h3)
 have keepOut:∀{b:Addr} {o:HO},b∉(sub ks al).flatten->H b=some o->H1 b=some o:=λn q=>Jj.fr _ _ n q
 have E:Ext al H st (mZ ks aY al) H1 (mZ ks ay st):=⟨λb o n q=>e.keep b o (λz=>n (uI I hk z)) q,λj a r h=>by
   by_cases m:j∈ks
   ·obtain⟨i,f,c,h1,_,h3,_,h5,_⟩:=HG j m;obtain⟨r',q⟩:=e.pre i a r ((dG hk i _).mpr ⟨j,h1,h⟩);rw[h3]at q;cases q;exact⟨r',h5⟩
   ·exact⟨r,by rw[eY m];exact h⟩,mem,λb ⟨j,f,ce,h1,h2,h3,h4⟩=>by
   by_cases m:j∈ks
   ·obtain⟨i,g,c,_,_,q3,q4,q5,q6⟩:=HG j m;rw[q5]at h1;cases h1;rw[q6]at h3;cases h3;rcases e.lv b ⟨i,f,ce,q3,h2,q4,h4⟩with z | z
    ·exact .inl (uI I hk z)
    ·exact .inr z
   ·rw[eY m]at h1 h3;exact .inl ⟨j,f,ce,h1,h2,h3,h4⟩⟩
 have fb:∀c,Fb G (mZ ks aY al) (mZ ks ay st) c->Fb (Gc G al st ks) aY ay c:=λc h=>by
  rcases h with z | ⟨j,f,ce,h1,h2,h3,h4⟩
  ·exact .inl ⟨.inl z,λy=>I.gd c (lentIn y) z⟩
  ·by_cases m:j∈ks
   ·obtain⟨i,g,c',_,_,q3,q4,q5,q6⟩:=HG j m;rw[q5]at h1;cases h1;rw[q6]at h3;cases h3;exact .inr ⟨i,f,ce,q3,h2,q4,h4⟩
   ·rw[eY m]at h1 h3;exact .inl ⟨.inr ⟨j,f,ce,h1,h2,h3,h4⟩,outs m h1 h2⟩
 refine⟨E,⟨by rw[uH,uH];exact I.len,?_,λb hb=>?_,λj f ce h1 h2=>?_,λb o n q=>?_,λb hb=>?_,λb hb z=>?_,λb hb=>?_,I.lk⟩,fb⟩
 ·unfold List.Nodup;rw[List.pairwise_flatten,List.pairwise_iff_getElem]
  have far:∀(i j:Nat) f g x,aY[i]?=some f->j∉ks->al[j]?=some g->x∈f->x∈g->False:=λi j f g x h1 h2 h3 h4 h5=>by
   rcases e.nws x (ck h1 h4)with z | z
   ·exact outs h2 h3 h5 z
   ·obtain⟨o,q⟩:=I.ok x (ck h3 h5);rw[z]at q;cases q
  refine⟨λf hf=>?_,λi j hi hj hij x hx y hy w=>?_⟩
  ·obtain⟨j,hj⟩:=aaO hf;by_cases m:j∈ks
   ·obtain⟨i,g,c,_,_,h3,_,h5,_⟩:=HG j m;rw[h5]at hj;cases hj;exact(abx.mp Jj.nd).1 f (aaz h3)
   ·rw[eY m]at hj;exact(abx.mp I.nd).1 f (aaz hj)
  ·subst w;have gi:=gP hi;have gj:=gP hj;by_cases m1:i∈ks
   ·obtain⟨i1,f1,c1,a1,_,b1,_,d1,_⟩:=HG i m1;rw[d1]at gi;have hx':x∈f1:=by rw[aaq gi];exact hx
    by_cases m2:j∈ks
    ·obtain⟨i2,f2,c2,a2,_,b2,_,d2,_⟩:=HG j m2;rw[d2]at gj;have hy':x∈f2:=by rw[aaq gj];exact hy
     have q:=eW Jj.nd b1 b2 hx' hy';subst q;rw[a1]at a2;cases a2;omega
    ·rw[eY m2]at gj;exact far i1 j f1 _ x b1 m2 gj hx' hy
   ·rw[eY m1]at gi;by_cases m2:j∈ks
    ·obtain⟨i2,f2,c2,a2,_,b2,_,d2,_⟩:=HG j m2;rw[d2]at gj;have hy':x∈f2:=by rw[aaq gj];exact hy
     exact far i2 i f2 _ x b2 m1 gi hy' hx
    ·rw[eY m2]at gj;exact absurd (eW I.nd gi gj hx hy) (by omega)
 ·rcases parted b hb with⟨i,f,_,h2,h3⟩ | ⟨j,f,h1,h2,h3⟩
  ·exact Jj.ok b (ck h2 h3)
  ·obtain⟨o,q⟩:=I.ok b (ck h2 h3);exact⟨o,keepOut (outs h1 h2 h3) q⟩
 ·by_cases m:j∈ks
  ·obtain⟨i,g,c,_,q2,q3,q4,q5,q6⟩:=HG j m;rw[q5]at h1;cases h1;rw[q6]at h2;cases h2;exact(Jj.cel i f ce q3 q4).Ku (nn i q2 ce q4) fb λc hc=>Jj.mr hc
  ·rw[eY m]at h1 h2;exact(I.cel j f ce h1 h2).ext E (λc hc=>I.mr hc) λ_ b hb o q=>keepOut (outs m h1 hb) q
 ·by_cases w:b∈(sub ks al).flatten
  ·rcases I.nw b (lentIn w)with y | y
   ·exact absurd y n
   ·rw[y]at q;cases q
  ·exact keepOut w (I.fr b o n q)
 ·rcases mem b hb with z | z
  ·exact I.nw b z
  ·exact I.n0 z
 ·rcases mem b hb with w | w
  ·exact I.gd b w z
  ·exact I.Hf w (.inl z)
 ·obtain⟨o,q,m⟩:=I.gs b hb;exact⟨o,keepOut (λw=>I.gd b (lentIn w) hb) q,m⟩
end
abbrev HH:=List DV->aE->(PyData->aE->Prop)->Prop
def sZ(K:aJ)(G:Addr->Prop)(al:List (List Addr))(H:Hp)(st:aE)(Q:VK)(d:PyData)(st':aE):Prop:=∀(v:V) (H':Hp) (al':List (List Addr)) (own:aE),DI (k0 K) H (λc=>c∈al.flatten) G al' H' (st'++own)->Ext al H st al' H' (st'++own)->aR K (Fb G al' (st'++own)) H' v d->Q v H'
def S8(K:aJ)(T:HH):Sp:=λvs H Q _=>∃(G:Addr->Prop) (al:List (List Addr)) (st:aE) (xs:List DV),DI (k0 K) H (λc=>c∈al.flatten) G al H st/\cj (gm K (Fb G al st) H al) vs xs/\T xs st (sZ K G al H st Q)
def D4(K:aJ)(sp:Sp)(T:HH):Prop:=∀(vs:List V) (H:Hp) (Q:VK) (G:Addr->Prop) (al:List (List Addr)) (st:aE) (xs:List DV),DI (k0 K) H (λc=>c∈al.flatten) G al H st->cj (gm K (Fb G al st) H al) vs xs->T xs st (sZ K G al H st Q)->sp vs H Q E0
theorem D5{K:aJ}{T:HH}:D4 K (S8 K T) T:=λ_ _ _ G al st xs h1 h2 h3=>⟨G,al,st,xs,h1,h2,h3⟩
def z8(T:HH):Prop:=∀xs st (Q Q':PyData->aE->Prop),(∀d s,Q d s->Q' d s)->T xs st Q->T xs st Q'
@[reducible] def yj:List Bool->List DV->Option (List Nat)
 | [],[]=>some []
 | true::js,.ref k::xs=>match yj js xs with
  | some ks=>some (k::ks)
  | none=>none
 | false::js,.dat _::xs=>yj js xs
 | _,_=>none
@[reducible] def yk:Nat->List Bool->List DV->List DV
 | p,true::js,_::xs=>.ref p::yk (p + 1) js xs
 | p,false::js,x::xs=>x::yk p js xs
 | _,_,_=>[]
@[reducible] def Ov:aE->Bool
 | []=>true
 | .deep _::_=>false
 | _::r=>Ov r
@[reducible] def lH(js:List Bool)(T:HH)(xs:List DV)(st:aE)(Q:DC):Prop:=match yj js xs with
 | some ks=>ks.Nodup/\(∀k∈ks,k < st.length)/\Ov (sub ks st)=true/\T (yk 0 js xs) (sub ks st) λd ay=>ay.length=ks.length/\Ov ay=true/\Q (.dat d) (mZ ks ay st)
 | none=>False
theorem qC:∀{st:aE},Ov st=true->∀(i:Nat) c,st[i]?=some c->c.nd
 | [],_,i,c,h=>by simp at h
 | .deep _::_,h,_,_,_=>by cases h
 | .live x::r,h,i,c,e=>by
  cases i with
  | zero=>cases e;trivial
  | succ i=>exact qC (st:=r) h i c (by simpa using e)
 | .froz x::r,h,i,c,e=>by
  cases i with
  | zero=>cases e;trivial
  | succ i=>exact qC (st:=r) h i c (by simpa using e)
 | .obj x::r,h,i,c,e=>by
  cases i with
  | zero=>cases e;trivial
  | succ i=>exact qC (st:=r) h i c (by simpa using e)
theorem z9{α:Type}:∀{ks:List Nat} {ys zs xs:List α},ys.length=ks.length->mZ ks (ys++zs) xs=mZ ks ys xs
 | [],[],[],_,_=>rfl
 | [],[],_::_,_,_=>rfl
 | [],_::_,_,_,h=>by simp at h
 | _::_,[],_,_,h=>by simp at h
 | k::ks,y::ys,zs,xs,h=>by
  show mZ ks (ys++zs) (xs.set k y)=mZ ks ys (xs.set k y);exact z9 (by simpa using h)
section
variable {K:aJ} {J:KF} {H0 H H1:Hp} {A0 G:Addr->Prop} {al aY:List (List Addr)} {st ay:aE} {ks:List Nat}
theorem ym(I:DI J H0 A0 G al H st)(hk:∀k∈ks,k < al.length):∀{js:List Bool} {xs:List DV} {vs:List V} {r:List Nat} {p:Nat},cj (gm J (Fb G al st) H al) vs xs->yj js xs=some r->(∀i,r[i]?=ks[p + i]?)->cj (gm J (Fb (Gc G al st ks) (sub ks al) (sub ks st)) H (sub ks al)) vs (yk p js xs)
 | [],[],vs,r,p,h,e,q=>by
  cases vs with
  | nil=>exact .nil
  | cons _ _=>have:=h.1;simp at this
 | true::js,.ref k::xs,vs,r,p,h,e,q=>by
  have e:(match yj js xs with | some ks=>some (k::ks) | none=>none)=some r:=e;split at e
  ·rename_i r' e';cases e
   cases vs with
   | nil=>have:=h.1;simp at this
   | cons v vs =>
    obtain⟨a,f,h1,h2⟩:=h.2 0 v _ rfl rfl;have hp:ks[p]?=some k:=by have:=q 0;rw[abo]at this;exact this.symm
    refine .cons ⟨a,f,(dG hk p _).mpr ⟨k,hp,h1⟩,h2⟩ (ym I hk (p:=p + 1) ⟨by simpa using h.1,λi y x a b=>h.2 (i + 1) y x (by simpa using a) (by simpa using b)⟩ e' λi=>?_);have:=q (i + 1);rw[List.getElem?_cons_succ]at this;rw[this]
    congr 1
    omega
  ·cases e
 | false::js,.dat d::xs,vs,r,p,h,e,q=>by
  cases vs with
  | nil=>have:=h.1;simp at this
  | cons v vs =>
   have hd:aR J (Fb G al st) H v d:=h.2 0 v _ rfl rfl;exact .cons (.d (hd.sub λc hc=>z7 I hk hc)) (ym I hk (p:=p) ⟨by simpa using h.1,λi y x a b=>h.2 (i + 1) y x (by simpa using a) (by simpa using b)⟩ e q)
 | [],_::_,_,_,_,_,e,_=>by cases e
 | true::_,[],_,_,_,_,e,_=>by cases e
 | false::_,[],_,_,_,_,e,_=>by cases e
 | true::_,.dat _::_,_,_,_,_,e,_=>by cases e
 | false::_,.ref _::_,_,_,_,_,e,_=>by cases e
theorem D6{sp:Sp}{T:HH}{js:List Bool}(h:D4 J.K sp T)(m:z8 T):AB J (λvs H Q=>sp (vs++[]) H Q E0) (lH js T):=λH0 A0 G al H st vs xs Q R I hp q k=>by
 unfold lH at q;split at q
 ·rename_i ks e;obtain⟨nd,hk',nn,q⟩:=q;have hk:∀k∈ks,k < al.length:=λj hj=>by rw[I.len];exact hk' j hj
  rw[aaL]
  have Xy:∀k∈ks,∀c,st[k]?=some c->c.nd:=λj hj c hc=>by
   obtain⟨i,hi⟩:=aaO hj;exact qC nn i c ((dG hk' i c).mpr ⟨j,hi,hc⟩)
  refine h vs H R (Gc G al st ks) (sub ks al) (sub ks st) (yk 0 js xs) (I.lend nd hk Xy) (ym I hk hp e λi=>by rw[Nat.zero_add]) (m _ _ _ _ (λd ay hd v H' al' own Jj e F=>?_) q);obtain⟨hl,n1,hq⟩:=hd;have l1:ks.length<=al'.length:=by rw[Jj.len,aay];omega
  obtain⟨E,I2,fb⟩:=I.back nd hk Jj e l1 λi hi c hc=>qC n1 i c (by rw[aaw (by omega)]at hc;exact hc)
  rw[z9 hl]at E I2 fb;exact k (.dat d) _ _ v H' E I2 (.d (F.sub fb)) hq
 ·exact q.elim
end
section
variable {X:Cx} {Y:YK} {x:Str} {e:Expr} {es:List Expr} {p pos:Pos} {n:Nat} {d:mY}
theorem cB{kk:Nat}{ps:List Str}{sp:Sp}{T:HH}{js:List Bool}(h:ic X.prog X.w X.K X.mg X.base c6 x kk ps sp)(hs:D4 X.K sp T)(m:z8 T)(hr:cg kk X.A)(hg:Gl X x)(ha:wa X Y (e::es) n d)(hdb:(x == ("__debug__" : Str))=false:=by decide)
  (he:starEach (e::es) X.env=(false,eval e X.env)::starEach es X.env:=by rfl) (hpl:(backTo pos (starEach es X.env)).any (·.1)=false:=by rfl):bN X Y (.Call (.Name x p) (e::es) [] pos) (zS (lH js T) d):=by
 obtain⟨t,p1,a1⟩:=ha.h;exact⟨_,cI h hr hg p1 hdb he hpl,uu (D6 hs m) a1⟩
theorem tm{N:List Str}{body:List Stmt}{vs:List V}{xs:List DV}{H:Hp}{Q:VK}{G:Addr->Prop}{al:List (List Addr)}{st:aE}(I:DI (kf X y0) H (λc=>c∈al.flatten) G al H st)(hv:cj (gm X.K (Fb G al st) H al) vs xs)
  (h:sX X y0 body {nx:=λ_ bq=>sZ X.K G al H st Q .none (bq.take st.length),rt:=λdv bq=>lj dv bq λd je=>sZ X.K G al H st Q d (je.take st.length)} (xs.map some++List.replicate (N.length - xs.length) none) st) :
  ∃t,pV X body t/\t {nx:=λ_ H'=>Q .non H',rt:=Q} (start N vs) H:=by
 obtain⟨s,⟨t,p1,a1⟩,q⟩:=h;refine⟨t,p1,a1 H (λc=>c∈al.flatten) G al H st _ _ _ _ I ⟨by unfold start;simp[hv.1],λi dv hi=>?_⟩ q ⟨λenv' st' al' σ' H' e' I' E' q'=>?_,λdv st' al' v H' e' I' d' q'=>?_,λenv' st' al' σ' H' e' I' E' q'=>q'.elim,λenv' st' al' σ' H' e' I' E' q'=>q'.elim⟩⟩
 ·by_cases l:i < xs.length
  ·rw[List.getElem?_append_left (by simpa using l),List.getElem?_map,gP l]at hi;cases hi;obtain⟨y,hy,hr⟩:=hv.at (gP l);refine⟨y,?_,hr⟩;unfold start;rw[List.getElem?_append_left (by rw[List.length_map,hv.1];exact l),List.getElem?_map,hy];rfl
  ·rw[List.getElem?_append_right (by simp;omega)]at hi;rw[List.getElem?_replicate]at hi;split at hi
   ·cases hi
   ·cases hi
 ·refine q' .non H' al' (st'.drop st.length) ?_ ?_ .non
  ·rw[aa9];exact I'
  ·rw[aa9];exact e'
 ·obtain⟨d,bq,E2,I2,F,q2⟩:=lF I' d' q';refine q2 v H' al' (bq.drop st.length) ?_ ?_ ?_
  ·rw[aa9];exact I2
  ·rw[aa9];exact e'.trans I' E2
  ·rw[aa9];exact F
end
theorem pO{s u:DS}{DD:eX}{env:bL}{st:aE}(k:∀R:bL->aE->Prop,(∀env' st',u DD env' st'->R env' st')->s {DD with nx:=R} env st):DR s u DD env st:=k (u DD) (λ_ _ h=>h)
abbrev Ow:=List (Str×PyData)
def P8(K:aJ)(P:Addr->Prop)(H:Hp)(dd:Option Addr)(fs:Ow):Prop:=fs=[]∨∃dx vs,dd=some dx/\H dx=some (.ext (XD dx vs))/\¬ P dx/\vs.map (·.1)=fs.map (·.1)/\cj (aR K P H) (vs.map (·.2)) (fs.map (·.2))
def yx(K:aJ)(E:XK)(P0:Addr->Prop)(Ex:Addr->Ow->Prop):YK:=⟨λH0 A0 G=>(∀c,P0 c->G c)/\∀C fs dd H',Ex C fs->qq A0 H0 H'->P8 K P0 H' dd fs->E (.ref C) dd H',λ_ _ _ _ s h=>⟨λc z=>s c (h.1 c z),h.2⟩⟩
abbrev VM:=List PyData->(PyData->Prop)->(Addr->Ow->Prop)->Prop
def Xz(K:aJ)(T:VM):Sp:=λvs H Q E=>∃(P:Addr->Prop) (ds:List PyData),(∀c,P c->∃o,H c=some o/\j9 o)/\cj (aR K P H) vs ds/\T ds (λd=>∀v H',aS H H'->aR K P H' v d->Q v H') (λC fs=>∀dd H',aS H H'->P8 K P H' dd fs->E (.ref C) dd H')
section
variable {K:aJ} {E:XK} {P0:Addr->Prop} {Ex:Addr->Ow->Prop}
end
section
variable {X:Cx} {a b c e:Expr} {es:List Expr} {pos p:Pos} {n:Nat} {d:mY} {x:Str} {E:XK} {P0:Addr->Prop} {Ex:Addr->Ow->Prop}
@[reducible] def uJ(C:Addr)(Ex:Addr->Ow->Prop)(_:eX)(_:bL)(_:aE):Prop:=Ex C []
theorem tp{C:Addr}{np cpos:Pos}{bx:Bool}(hz:Rz X E)(hg:Gl X x)(hm:X.mg x=some (.ref C))(q:PySem.W.excIn X.K C (rB bx) (vS bx)=true)(hc:X.calm=true)(hd:(x == ("__debug__" : Str))=false:=by decide)(hpl:backTo cpos (starEach [] X.env)=[]:=by rfl):Bl X (yx X.K E P0 Ex) (.Raise (some (.Call (.Name x np) [] [] cpos)) none pos) (uJ C Ex) :=
 ⟨_,ng hz hg hm q hc hd hpl,λH0 A0 G al H st σ env DD D I En q k=>I.lk.2 C [] none H q I.fr (.inl rfl)⟩
theorem Bo{N:List Str}{body:List Stmt}{vs:List V}{ds:List PyData}{H:Hp}{Q:VK}{P:Addr->Prop}(hP:∀c,P c->∃o,H c=some o/\j9 o)(hv:cj (aR X.K P H) vs ds)(hE:∀C fs,Ex C fs->∀dd H',aS H H'->P8 X.K P H' dd fs->E (.ref C) dd H')
  (h:sX X (yx X.K E P Ex) body {nx:=λ_ _=>∀v H',aS H H'->aR X.K P H' v .none->Q v H',rt:=λdv st=>lj dv st λd _=>∀v H',aS H H'->aR X.K P H' v d->Q v H'} (ds.map (λd=>some (DV.dat d))++List.replicate (N.length - ds.length) none) []) :
  ∃t,pV X body t/\t {nx:=λ_ H'=>Q .non H',rt:=Q} (start N vs) H :=
 sY (Y:=yx X.K E P Ex) hP hv ⟨λ_ z=>z,λC fs dd H' e k x=>hE C fs e dd H' (λc o q=>k c o id q) x⟩ h
end
section
variable {X:Cx} {Y:YK} {a b c e:Expr} {es:List Expr} {pos p:Pos} {ea eb ec:DX} {K:aJ} {J:KF} {n:Nat} {d:mY}
@[reducible] def my(xs:List DV)(st:aE)(Q:DC):Prop:=match xs with
 | [.dat (.int i),.dat (.int j)]=>(0 < j/\j < 1073741824)/\Q (.dat (.tuple [.int (i / j),.int (i % j)])) st
 | _=>False
theorem Bp:AB J (λxs H Q=>∃i j,xs=[.int i,.int j]/\O0 i j/\∀p,H p=none->Q (.ref p) (upd H p (.tup [.int (i / j),.int (i % j)]))) my:=λH0 A0 G al H st vs ds Q R I h q k=>by
 unfold my at q;split at q
 ·obtain⟨v,u,rfl,h1,h2⟩:=PR h;rw[aR.ba h1,aR.ba h2];refine⟨_,_,rfl,q.1,λp hp=>?_⟩;exact k.laid I (jI hp) (.d (aR.tup (I.Hf hp) uS (.cons (.int _) (.cons (.int _) .nil)))) q.2
 ·exact q.elim
theorem Bq(hg:Gl X "divmod")(hm:X.mg "divmod"=none)(ha:wa X Y (e::es) n d)(he:starEach (e::es) X.env=(false,eval e X.env)::starEach es X.env:=by rfl)(hpl:(backTo pos (starEach es X.env)).any (·.1)=false:=by rfl):bN X Y (.Call (.Name "divmod" p) (e::es) [] pos) (zS my d):=wg vG Bp hg hm (by rfl) ha (by decide) (by decide) he hpl
@[reducible] def yn(eo:DX)(dx:mY)(env:bL)(st:aE)(Q:DC):Prop:=eo env st λo ay=>match o with
 | .ref k=>Md ay k=true/\dx env ay λxs bq=>match xs with
  | [.dat (.int i)]=>match bq[k]? with
   | some (.live ds)=>∃j dd,seqIndex? i ds.length=some j/\ds[j]?=some dd/\-9223372036854775808<=i/\i < 9223372036854775808/\Q (.dat dd) (bq.set k (.live (ds.eraseIdx j)))
   | _=>False
  | _=>False
 | _=>False
theorem Br{α:Type}{R:V->α->Prop}{ys:List V}{xs:List α}(h:cj R ys xs)(j:Nat):cj R (ys.eraseIdx j) (xs.eraseIdx j):=by
 rw[abU,abU];exact(h.take j).append (h.drop (j + 1))
theorem D7{apos cpos:Pos}{o:Expr}{eo:DX}(ho:bN X Y o eo)(ha:wa X Y (e::es) n d)(hbase:attributeBase o "pop" X.env (eval o X.env)=eval o X.env:=by rfl)
  (hfew:((backTo cpos (starEach (e::es) X.env)).all (λx=>!x.1)&&(backToKw cpos (keywordEach [] X.env)).all (λx=>x.1.isSome)
   && decide ((e::es).length + ([]:List Keyword).length + (if ([]:List Keyword).isEmpty then 0 else 1) < 30))=true:=by rfl)
  (hline:(apos.endLine == cpos.line)=true:=by rfl) (hs:starEach (e::es) X.env=(false,eval e X.env)::starEach es X.env:=by rfl) (hplain:(backTo cpos (starEach es X.env)).any (·.1)=false:=by rfl) :
  bN X Y (.Call (.Attribute o "pop" apos) (e::es) [] cpos) (yn eo d):=by
 obtain⟨t,p1,a1⟩:=ho.h;obtain⟨u,p2,a2⟩:=ha.h;refine⟨_,sC aaR PySem.F.slot_list_pop PySem.F.type_list_pop CS p1 p2 hbase hfew hline hs hplain,λH0 A0 G al H st s env Q R I E q k=>a1 H0 A0 G al H st s env _ _ I E q λx ay aY v H1 e1 I1 d1 q1=>?_⟩;split at q1
 ·rename_i kk;refine⟨wz (uy I1 d1 q1.1),a2 H0 A0 G aY H1 ay s env _ _ I1 (E.ext e1) q1.2 λxs bq cq vs H2 e2 I2 d2 q2=>?_⟩;have q2:=q2.2;split at q2
  ·obtain⟨w,rfl,hw⟩:=Bf d2;rw[aR.ba hw];split at q2
   ·rename_i ds hs;obtain⟨j,dd,h1,h2,h3,h4,q3⟩:=q2;obtain⟨a,r0,ha,rfl⟩:=d1.ext e2;obtain⟨a',ys,e0,g1,g2⟩:=I2.cel kk _ _ ha hs;cases e0;obtain⟨y,hy,ry⟩:=g2.at h2;obtain⟨E4,I4⟩:=I2.put ha hs (Br g2 j);exact⟨a,ys,_,j,y,rfl,rfl,g1,h3,h4,by rw[g2.1];exact h1,hy,(k.go I2 (e1.trans I1 e2)) _ _ _ _ _ E4 I4 (.d (ry.ext E4)) q3⟩
   ·exact q2.elim
  ·exact q2.elim
 ·exact q1.elim
end
abbrev wD:=bL->aE->(List DV->(aE->Prop)->aE->Prop)->Prop
def XA(J:KF)(H0:Hp)(A0:Addr->Prop)(G:Addr->Prop)(al:List (List Addr))(H:Hp)(st:aE)(Jj:It)(xs:List DV)(ok:aE->Prop):Prop:=∀(G1:Addr->Prop) (aY:List (List Addr)) (H1:Hp) (ay:aE) (i:Nat),(∀c,G1 c->G c∨H c=none)->Ext al H st aY H1 ay->DI J H0 A0 G1 aY H1 ay->ok ay ->
 (∀d,xs[i]?=some d->Jj.go i H1/\∀x H2,Jj.yld i H1 x H2->aS H1 H2/\gm J (Fb G1 aY ay) H2 aY x d)/\(xs.length<=i->i<=xs.length->Jj.stop i H1)
def Ta(J:KF)(wi:TI)(di:wD):Prop:=∀(H0:Hp) (A0:Addr->Prop) (G:Addr->Prop) (al:List (List Addr)) (H:Hp) (st:aE) (s:St) (env:bL) (Q:List DV->(aE->Prop)->aE->Prop) (R:It->Hp->Prop),DI J H0 A0 G al H st->mX J (Fb G al st) H al s env->di env st Q ->
 (∀Jj xs ok st' al' H',Ext al H st al' H' st'->DI J H0 A0 G al' H' st'->XA J H0 A0 G al' H' st' Jj xs ok->Q xs ok st'->R Jj H')->wi s H R
structure P9(X:Cx)(Y:YK)(tg iter:Expr)(d:wD):Prop where
 h:∃wi,PI X tg iter wi/\Ta (kf X Y) wi d
section
variable {X:Cx} {Y:YK} {tg a b c e:Expr} {es:List Expr} {pos p:Pos} {ea eb ec:DX} {K:aJ} {J:KF} {n:Nat} {d:mY} {scope:Scope}
@[reducible] def HI(di:nu)(env:bL)(st:aE)(Q:List DV->(aE->Prop)->aE->Prop):Prop:=di env st λxs ok ay=>Q (xs.map DV.dat) ok ay
theorem Mi{wi:TI}{di:nu}(h:AI J wi di):Ta J wi (HI di):=λH0 A0 G al H st s env Q R I E q k=>h H0 A0 G al H st s env _ _ I E q λJj xs ok st' al' H' e1 I1 ir q1=>k Jj _ ok st' al' H' e1 I1 (λG1 aY H1 ay i hG e2 I2 o2=>by
 obtain⟨z1,z2⟩:=ir G1 aY H1 ay i hG e2 I2 o2;refine⟨λd hd=>?_,by rw[aaf];exact z2⟩;rw[aax]at hd
 cases w:xs[i]? with
 | none=>rw[w]at hd;cases hd
 | some y =>
  rw[w]at hd;cases hd;exact z1 y w) q1
theorem nA{di:nu}(h:L4 X Y tg a di):P9 X Y tg a (HI di):=by
 obtain⟨w,p1,a1⟩:=h.h;exact⟨_,p1,Mi a1⟩
def RJ(fin:List DV->aE->DC->Prop)(dg:pk)(dt:DT)(de:DX)(xs:List DV)(ok:aE->Prop)(env:bL)(ay:aE)(Q:DC):Prop:=xs.length<=1000000/\∃I:Nat->List DV->aE->Prop,I 0 [] ay/\(∀i ys st,I i ys st->ok st) /\
 (∀i ys st d,I i ys st->xs[i]?=some d->dg d env st λi3 bq=>dt i3 bq λb je=>if b=true then de i3 je λy pL=>I (i + 1) (ys++[y]) pL else I (i + 1) ys je)/\∀ys st,I xs.length ys st->fin ys st Q
@[reducible] def HJ(fin:List DV->aE->DC->Prop)(own:Nat)(ix:List Nat)(di:wD)(dg:pk)(dt:DT)(de:DX)(env:bL)(st:aE)(Q:DC):Prop:=di env st λxs ok ay=>RJ fin dg dt de xs ok (wx own ix env) ay Q
@[reducible] def wF:List DV->aE->DC->Prop:=λys st Q=>∃ds:List PyData,ys=ds.map DV.dat/\Q (.dat (.list ds)) st
def qD(J:KF)(fin:List DV->aE->DC->Prop):Prop:=∀(H0:Hp) (A0:Addr->Prop) (G:Addr->Prop) (al:List (List Addr)) (H:Hp) (st:aE) (Q:DC) (R:VK) (D:Addr) (cq:List (List Addr)) (H2:Hp) (bq:aE) (vs:List V) (ys:List DV),DI J H0 A0 G al H st->H D=none->Kn J H0 A0 G al H st Q R->fin ys bq Q->DI J H0 A0 (λc=>G c∨c=D) cq H2 bq->Ext al H st cq H2 bq->H2 D=some (.lst vs)->cj (gm J (Fb (λc=>G c∨c=D) cq bq) H2 cq) vs ys->R (.ref D) H2
theorem nC:qD J wF:=λH0 A0 G al H st Q R D cq H2 bq vs ys I hD k q I2 E2 g P=>by
 obtain⟨ds,rfl,q⟩:=q
 have sub:∀c,Fb G cq bq c->Fb (λc=>G c∨c=D) cq bq c:=λc z=>by
  rcases z with z | z
  ·exact .inl (.inl z)
  ·exact .inr z
 have nD:¬ Fb G cq bq D:=λz=>by
  rcases z with z | z
  ·exact I.Hf hD (.inl z)
  ·exact I2.gd D z.mem (.inr rfl)
 exact k (.dat (.list ds)) bq cq _ H2 E2 (I2.less (λc z=>.inl z) I.lk) (.d (aR.lst nD g ((cj.PC P).imp λy x z=>aR.sub z sub))) q
theorem gm.Qa{P:Addr->Prop}{H H':Hp}{al:List (List Addr)}{v:V}{dv:DV}(h:gm J P H al v dv)(s:aS H H'):gm J P H' al v dv:=by
 cases dv with
 | dat d=>exact aR.same h s
 | ref k=>exact h
theorem Mj{fin:List DV->aE->DC->Prop}(hf:qD J fin)
  {own:Nat} {ix:List Nat} {wi:TI} {g:TG} {di:wD} {dg:pk} {dt:DT} {de:DX} (hi:Ta J wi di) (hg:AG J g dg) (gb:GB own g):AE J (Ol own ix wi g (DN J dt) (PX J de)) (HJ fin own ix di dg dt de):=λH0 A0 G al H st s env Q R I E q k=>by
 refine hi H0 A0 G al H st s env _ _ I E q λJj xs ok ay aY H1 e1 I1 ir q1=>?_
 intro D hD;obtain⟨hlen,Iv,i0,hok,istep,ifin⟩:=q1;have k1:=k.go I1 e1;have E1:=E.ext e1
 have gG:∀c,(G c∨c=D)->G c∨H1 c=none:=λc hc=>by
  rcases hc with z | z
  ·exact .inl z
  ·rw[z];exact .inr hD
 have n0:=I1.n0 hD;obtain⟨EB,IB⟩:=I1.DP (ys:=[]) hD;refine⟨λi m ys H2=>(m=xs.length - i/\i<=xs.length/\ys.length<=i)/\∃ds cq bq,Iv i ds bq/\H2 D=some (.lst ys)/\cj (gm J (Fb (λc=>G c∨c=D) cq bq) H2 cq) ys ds/\DI J H0 A0 (λc=>G c∨c=D) cq H2 bq/\Ext aY H1 ay cq H2 bq,⟨_,⟨rfl,aaQ _,aaQ _⟩,[],aY,ay,i0,uS,.nil,IB,EB⟩,?_⟩;rintro i m ys H2 ⟨⟨em,hil,hyl⟩,ds,cq,sx,hI,gD,hP,I2,E2⟩;refine⟨gD,?_⟩;have IR:=ir (λc=>G c∨c=D) cq H2 sx i gG E2 I2 (hok _ _ _ hI);by_cases hx:i < xs.length
 ·right
  obtain⟨d0,DQ⟩:∃d0,xs[i]?=some d0:=⟨xs[i],gP hx⟩;obtain⟨go,yl⟩:=IR.1 d0 DQ;refine⟨go,aaH (aaA hyl hil) (aaH hlen (by decide)),λys' H'=>∃m',m' < m/\(m'=xs.length - (i + 1)/\i + 1<=xs.length/\ys'.length<=i + 1)/\∃ds cq bq,Iv (i + 1) ds bq/\H' D=some (.lst ys')/\cj (gm J (Fb (λc=>G c∨c=D) cq bq) H' cq) ys' ds/\DI J H0 A0 (λc=>G c∨c=D) cq H' bq/\Ext aY H1 ay cq H' bq,λys' H' ⟨m',lt,w⟩=>⟨m',lt,w⟩,λx H3 hy=>?_⟩;obtain⟨s3,r3⟩:=yl x H3 hy;have I3:=I2.same s3;have E3:Ext aY H1 ay cq H3 sx:=E2.trans I2 (.same s3);have P3:=hP.imp λy x z=>z.Qa s3
  have g3:=s3 _ _ gD;have S0:=(E1.kn gG E3).iO own ix;refine gb x _ H3 _ _ ?_ (hg H0 A0 (λc=>G c∨c=D) cq H3 sx _ _ x d0 _ (λσ2 H4=>DN J dt σ2 H4 λb H5=>if b=true then PX J de σ2 H5 λv H6=>H6 D=some (.lst ys)/\∃m',m' < m/\(m'=xs.length - (i + 1)/\i + 1<=xs.length/\(ys++[v]).length<=i + 1)/\∃ds cq bq,Iv (i + 1) ds bq/\upd H6 D (.lst (ys++[v])) D=some (.lst (ys++[v]))/\cj (gm J (Fb (λc=>G c∨c=D) cq bq) (upd H6 D (.lst (ys++[v]))) cq) (ys++[v]) ds/\DI J H0 A0 (λc=>G c∨c=D) cq (upd H6 D (.lst (ys++[v]))) bq/\Ext aY H1 ay cq (upd H6 D (.lst (ys++[v]))) bq else ∃m',m' < m/\(m'=xs.length - (i + 1)/\i + 1<=xs.length/\ys.length<=i + 1)/\∃ds cq bq,Iv (i + 1) ds bq/\H5 D=some (.lst ys)/\cj (gm J (Fb (λc=>G c∨c=D) cq bq) H5 cq) ys ds/\DI J H0 A0 (λc=>G c∨c=D) cq H5 bq/\Ext aY H1 ay cq H5 bq) I3 S0 r3 (istep i ds sx d0 hI DQ) λi3 bq L8 s2 H4 e4 I4 P1 q4=>?_)
  ·intro s2 H4 ed q4;refine⟨?_,q4⟩;rw[ed];unfold df;rw[List.drop_left' (by simp)]
  ·refine⟨H0,A0,_,L8,bq,i3,_,I4,P1,q4,λb je P2 H5 e5 I5 q5=>?_⟩;have L9:=e4.trans I4 e5;have E5:=E3.trans I3 L9;have nL:∀(al':List (List Addr)) (H':Hp) (st':aE),DI J H0 A0 (λc=>G c∨c=D) al' H' st'->¬ Lv al' st' D:=λal' H' st' I' z=>I'.gd D z.mem (.inr rfl)
   have g5:=L9.keep D _ (nL _ _ _ I3) g3;have P5:=P3.imp λy x z=>gm.ext z L9
   cases b with
   | false =>
    rw[aan aaj]at q5;exact cM ⟨xs.length - (i + 1),by omega,⟨rfl,hx,by omega⟩,ds,P2,je,q5,g5,P5,I5,E5⟩
   | true =>
    rw[aap rfl]at q5;refine iJ ⟨H0,A0,_,P2,je,i3,_,I5,P1.ext e5,q5,λy pL Ma v H6 e6 I6 d6 q6=>?_⟩;have E6:=E5.trans I5 e6;have g6:=e6.keep D _ (nL _ _ _ I5) g5;have P6:=P5.imp λy x z=>gm.ext z e6
    obtain⟨I8,Mb⟩:=I6.grow (ys:=ys++[v]) g6 n0
    have rv':∀w dv,gm J (Fb (λc=>G c∨c=D) Ma pL) H6 Ma w dv->gm J (Fb (λc=>G c∨c=D) Ma pL) (upd H6 D (.lst (ys++[v]))) Ma w dv:=λw dv z=>by
     cases dv with
     | dat d=>exact Mb _ _ z
     | ref k=>exact z
    refine⟨g6,xs.length - (i + 1),by omega,⟨rfl,hx,by simp;omega⟩,ds++[y],Ma,pL,q6,uS,?_,I8,E6.VJ hD⟩;exact(P6.imp λy x z=>rv' y x z).append (.cons (rv' _ _ d6) .nil)
 ·left
  have ei:i=xs.length:=by omega
  subst ei;exact⟨IR.2 (aai _) (aai _),hf H0 A0 G aY H1 ay Q R D cq H2 sx ys ds I1 hD k1 (ifin ds sx hI) I2 E2 gD hP⟩
theorem ij{fin:List DV->aE->DC->Prop}(hf:qD (kf X Y) fin)
  {i:Nat} {x:Str} {pos' spos:Pos} (hN:X.N.Nodup) (hxi:X.N[i]?=some x) (hx:Loc X.env.scope x) {elt iter:Expr} {ifs:List Expr} {g:TG} {di:wD} {dg:pk} {dt:DT} {de:DX} (own:Nat) (N:List Str) (ix:List Nat) (B:jY X own N ix scope) (hi:P9 X Y tg iter di)
  (hg:∀(C:Addr) (fp:List Addr) (s:Shared) (H:Hp),PG (X.iO N scope C fp s H) tg g) (ag:AG (kf X Y) g dg) (gb:GB own g)
  (hin:∀(C:Addr) (fp:List Addr) (s:Shared) (H:Hp),PY (X.iO N scope C fp s H) Y ifs dt/\bN (X.iO N scope C fp s H) Y elt de)
  (hsw:swapsWith (.ListComp elt [⟨tg,iter,ifs,0⟩] scope pos) (some (.Name x pos')) spos.line X.env=pure true:=by rfl) (hs:∀x,foldedSetIterable iter X.env x=pure x:=by intro _;rfl)
  (hfn:X.fn x=true∨X.env.scope.names.lookup x=some .local:=by first | exact .inl rfl | exact .inr rfl):Bl X Y (.Assign [.Name x pos'] (.ListComp elt [⟨tg,iter,ifs,0⟩] scope pos) spos) (yf (HJ fin own ix di dg dt de) (gN i)):=by
 obtain⟨wi,p1,a1⟩:=hi.h;exact⟨_,ml hN hxi hx own N ix B p1 (λC fp s H=>⟨hg C fp s H,(hin C fp s H).1.h,(hin C fp s H).2.pe⟩) hsw hs hfn,uB (Mj hf a1 ag gb) kY⟩
end
abbrev uK(h:Heap)(z TI TO:Addr)(f0:Value)(b:Bool):Prop :=
 h.get? z=some {cls:=.type "zip",dict:=none,data:=.fields #[f0,.bool b,.bool false,.ref TI,.ref TO],slots:=#[]}
section
variable {prog:Program} {w:World} {A:Around} {E:Value->Shared->Prop} {s:Shared}
theorem pz{a:Addr}{Q:Option Obj->Shared->Prop}(h:Q (s.heap.get? a) s):wpAny (model prog w) A (loadIfAlive a) Q E s:=λ_ _ _=>h
theorem wG{z TI TO T:Addr}{bb:Bool}{oT:Obj}{Q:Bool->Shared->Prop}(hz:uK s.heap z TI TO (rawInt T) bb)(hT:s.heap.get? T=some oT)
  (h:∀h₁,uK h₁ z TI TO (rawInt T) true->h₁.objs.size=s.heap.objs.size->(∀c o,c≠z->s.heap.get? c=some o->h₁.get? c=some o)->Q false {s with heap:=h₁}) :
  wpAny (model prog w) A (Builtin.SmallTypes.ownedTupleIsFree (.ref z)) Q E s:=by
 unfold Builtin.SmallTypes.ownedTupleIsFree;refine wpAny_bind (wpAny_field hz rfl (x:=rawInt T) rfl ?_);show wpAny _ _ (loadIfAlive T >>= _) _ _ _;refine wpAny_bind (pz ?_);rw[hT];show wpAny _ _ (field (.ref z) 1 >>= _) _ _ _;refine wpAny_bind (wpAny_field hz rfl (x:=.bool bb) rfl ?_)
 cases bb with
 | true=>exact aag (h s.heap hz rfl λc o _ e=>e)
 | false =>
  show wpAny _ _ (setField (.ref z) 1 (.bool true) >>= _) _ _ _;refine wpAny_bind (wpAny_setField_rec hz (by simp) λh₁ hz₁ hs₁=>wpAny_pure ?_);exact h h₁ hz₁ hs₁.1 λc o n e=>hs₁.extBut _ _ n e
theorem qF{z TI TO i1 i2 l1 l2 T:Addr}{bb:Bool}{oT:Obj}{k1 k2:Nat}{xs ys:Array Value}{x y:Value}{Q:Value->Shared->Prop}(D:ZipApart z TI TO i1 i2 l1 l2)
  (hz:uK s.heap z TI TO (rawInt T) bb) (hTI:IsPair s.heap TI (.ref i1) (.ref i2)) (hT:s.heap.get? T=some oT)
  (h1:s.heap.IsListIter i1 l1 k1) (h2:s.heap.IsListIter i2 l2 k2) (ud:s.heap.IsList l1 xs) (sE:s.heap.IsList l2 ys) (hx:xs[k1]?=some x) (hy:ys[k2]?=some y)
  (hQ:∀h',uK h' z TI TO (rawInt T) true->h'.IsListIter i1 l1 (k1 + 1)->h'.IsListIter i2 l2 (k2 + 1)->IsPair h' s.heap.objs.size x y->h'.objs.size=s.heap.objs.size + 1 ->
   (∀c o,c≠z->c≠i1->c≠i2->s.heap.get? c=some o->h'.get? c=some o)->Q (.ref s.heap.objs.size) {s with heap:=h'}) :
  wpAny (model prog w) A (Builtin.«zip.__next__» ⟨[.ref z],[]⟩) (λfin s'=>∃v,fin=.done (.ret v)/\Q v s') E s:=by
 show wpAny _ _ (field (.ref z) 2 >>= _) _ _ _;refine wpAny_bind (wpAny_field hz rfl (x:=.bool false) rfl ?_);show wpAny _ _ (field (.ref z) 3 >>= _) _ _ _;refine wpAny_bind (wpAny_field hz rfl (x:=.ref TI) rfl ?_);refine wpAny_bind (wpAny_seqItems hTI rfl ?_);show wpAny _ _ (Builtin.SmallTypes.ownedTupleIsFree (.ref z) >>= _) _ _ _;refine wpAny_bind (wG hz hT λh₁ hz₁ z₁ k₁=>?_);simp only[Bool.false_eq_true,if_false];refine wpAny_bind ?_;simp only[← Array.forIn_toList,List.forIn_cons,List.forIn_nil];have h1₁:h₁.IsListIter i1 l1 k1:=h1.at λo e=>k₁ _ o D.i1z e
 have h2₁:h₁.IsListIter i2 l2 k2:=h2.at λo e=>k₁ _ o D.i2z e
 refine aac (aac (aaP ?_));show wpAny _ _ (Builtin.SmallTypes.nextOf (.ref i1) >>= _) _ _ _;have hl1₁:h₁.IsList l1 xs:=ud.at λo e=>k₁ _ o D.l1z e
 have hl2₁:h₁.IsList l2 ys:=sE.at λo e=>k₁ _ o D.l2z e
 refine aac (abJ h1₁ hl1₁ hx λh₂ h1₂ hs₂=>aag ?_);refine aag ?_;show wpAny _ _ ((holding [x] (Builtin.SmallTypes.nextOf (.ref i2) >>= λv=>pure (some v)) >>= _) >>= _) _ _ _;refine aac (aac (aaP ?_));refine aac (abJ (h2₁.extBut hs₂.extBut D.i12.symm) (hl2₁.extBut hs₂.extBut D.l2i1) hy λh₃ h2₃ hs₃=>aag ?_);refine aag ?_;refine aag ?_;show wpAny _ _ (newTuple [x,y] >>= _) _ _ _;refine aac (wpAny_newTuple ?_);have sz:h₃.objs.size=s.heap.objs.size:=by rw[hs₃.1,hs₂.1,z₁]
 have zl:z < h₃.objs.size:=by rw[sz,← z₁];exact aad hz₁
 refine aag ⟨_,rfl,?_⟩;show Q (.ref h₃.objs.size) _;have up:∀c o,h₃.get? c=some o->(h₃.push {cls:=.type "tuple",data:=.seq #[x,y]}).get? c=some o:=λc o e=>aab _ e
 have hT:=aao h₃ (o:={cls:=.type "tuple",data:=.seq #[x,y]}) rfl;rw[sz]at hT ⊢;refine hQ _ (up _ _ (hs₃.extBut _ _ D.i2z.symm (hs₂.extBut _ _ D.i1z.symm hz₁))) ((h1₂.extBut hs₃.extBut D.i12).at λo e=>up _ o e) (h2₃.at λo e=>up _ o e) hT (by rw[abv,sz]) λc o c1 c2 c3 e=>up c o (hs₃.extBut _ _ c3 (hs₂.extBut _ _ c2 (k₁ c o c1 e)))
theorem rC{z TI TO i1 i2 l1 l2 T:Addr}{bb:Bool}{oT:Obj}{k1 k2:Nat}{xs ys:Array Value}{Q:Fin->Shared->Prop}(hh:A.handled=none)(D:ZipApart z TI TO i1 i2 l1 l2)
  (hz:uK s.heap z TI TO (rawInt T) bb) (hTI:IsPair s.heap TI (.ref i1) (.ref i2)) (hT:s.heap.get? T=some oT)
  (h1:s.heap.IsListIter i1 l1 k1) (ud:s.heap.IsList l1 xs) (hx:xs[k1]?=none)
  (hE:∀h' e,(∀c o,c≠z->c≠i1->s.heap.get? c=some o->h'.get? c=some o)->(∃o,h'.get? e=some o/\o.cls=.type "StopIteration")->E (.ref e) {s with heap:=h'}) :
  wpAny (model prog w) A (Builtin.«zip.__next__» ⟨[.ref z],[]⟩) Q E s:=by
 show wpAny _ _ (field (.ref z) 2 >>= _) _ _ _;refine wpAny_bind (wpAny_field hz rfl (x:=.bool false) rfl ?_);show wpAny _ _ (field (.ref z) 3 >>= _) _ _ _;refine wpAny_bind (wpAny_field hz rfl (x:=.ref TI) rfl ?_);refine wpAny_bind (wpAny_seqItems hTI rfl ?_);show wpAny _ _ (Builtin.SmallTypes.ownedTupleIsFree (.ref z) >>= _) _ _ _;refine wpAny_bind (wG hz hT λh₁ hz₁ z₁ k₁=>?_);simp only[Bool.false_eq_true,if_false];refine wpAny_bind ?_;simp only[← Array.forIn_toList,List.forIn_cons,List.forIn_nil];refine wpAny_bind (wpAny_bind (wpAny_holding ?_));show wpAny _ _ (Builtin.SmallTypes.nextOf (.ref i1) >>= _) _ _ _;refine wpAny_bind (wpAny_nextOf_list_end hh (h1.at λo e=>k₁ _ o D.i1z e) (ud.at λo e=>k₁ _ o D.l1z e) hx λh₂ e hs₂ he=>?_);exact hE h₂ e (λc o c1 c2 x=>hs₂ _ _ c2 (k₁ c o c1 x)) he
theorem yo{z TI TO i1 i2 l1 l2 T:Addr}{bb:Bool}{oT:Obj}{k1 k2:Nat}{xs ys:Array Value}{x y:Value}{Q:Option Value->Shared->Prop}(D:ZipApart z TI TO i1 i2 l1 l2)
  (hz:uK s.heap z TI TO (rawInt T) bb) (hTI:IsPair s.heap TI (.ref i1) (.ref i2)) (hT:s.heap.get? T=some oT)
  (h1:s.heap.IsListIter i1 l1 k1) (h2:s.heap.IsListIter i2 l2 k2) (ud:s.heap.IsList l1 xs) (sE:s.heap.IsList l2 ys) (hx:xs[k1]?=some x) (hy:ys[k2]?=some y)
  (hQ:∀h',uK h' z TI TO (rawInt T) true->h'.IsListIter i1 l1 (k1 + 1)->h'.IsListIter i2 l2 (k2 + 1)->IsPair h' s.heap.objs.size x y->h'.objs.size=s.heap.objs.size + 1 ->
   (∀c o,c≠z->c≠i1->c≠i2->s.heap.get? c=some o->h'.get? c=some o)->Q (some (.ref s.heap.objs.size)) {s with heap:=h'}) :
  wpAny (model prog w) A (pyNext (.ref z)) Q E s:=by
 have hT':s.TypeIs (.ref z) "zip":=⟨_,hz,rfl⟩;unfold pyNext;exact wpAny_bind (wpAny_attempt (wpAny_callSpecial?_slot (name:=Str.ofString "__next__") hT' F.slot_zip_next
  (ack F.slot_zip_next hT' F.entry_zip_next
   (qF D hz hTI hT h1 h2 ud sE hx hy λh' a1 a2 a3 a4 a5 a6=>aag (hQ h' a1 a2 a3 a4 a5 a6)) (F.args_zip_next_1 _))))
theorem qG{z TI TO i1 i2 l1 l2 T:Addr}{bb:Bool}{oT:Obj}{k1 k2:Nat}{xs ys:Array Value}{Q:Option Value->Shared->Prop}(hh:A.handled=none)(D:ZipApart z TI TO i1 i2 l1 l2)
  (hz:uK s.heap z TI TO (rawInt T) bb) (hTI:IsPair s.heap TI (.ref i1) (.ref i2)) (hT:s.heap.get? T=some oT)
  (h1:s.heap.IsListIter i1 l1 k1) (ud:s.heap.IsList l1 xs) (hx:xs[k1]?=none)
  (hQ:∀h',(∀c o,c≠z->c≠i1->s.heap.get? c=some o->h'.get? c=some o)->Q none {s with heap:=h'}):wpAny (model prog w) A (pyNext (.ref z)) Q E s:=by
 have hT':s.TypeIs (.ref z) "zip":=⟨_,hz,rfl⟩;unfold pyNext;refine wpAny_bind (wpAny_attempt (wpAny_callSpecial?_slot (name:=Str.ofString "__next__") hT' F.slot_zip_next
  (ack F.slot_zip_next hT' F.entry_zip_next (rC (k2:=k2) (ys:=ys) hh D hz hTI hT h1 ud hx λh' e hk he=>?_) (F.args_zip_next_1 _))))
 obtain⟨o,ho,hc⟩:=he;refine aac (wpAny_isInstance (T:="StopIteration") (b:=true) ⟨o,ho,hc⟩ isSubtype_stop ?_);exact aag (hQ _ hk)
end
namespace FD
theorem j4:entryFor table "dict.update.loop"=some Builtin.«dict.update.loop»:=entryFor_of_tree (by kernel_rfl)
theorem en:plainId "dict.update.loop"=true:=by decide +kernel
end FD
structure HK(d z TI TO i1 i2 l1 l2:Addr)(xs ys:Array Value)(i:Nat)(h:Heap):Prop where
 zip:(IsZip h z TI TO .none/\∃a b,IsPair h TO a b)∨∃(T:Addr) (bb:Bool) (oT:Obj),uK h z TI TO (rawInt T) bb/\h.get? T=some oT/\T≠z/\T≠i1/\T≠i2/\T≠d
 ti:IsPair h TI (.ref i1) (.ref i2)
 i1:h.IsListIter i1 l1 i
 i2:h.IsListIter i2 l2 i
 l1:h.IsList l1 xs
 l2:h.IsList l2 ys
section
variable {prog:Program} {w:World} {K:Type} [DecidableEq K] {knd:KeyKind prog w K} {A:Around} {E:Value->Shared->Prop} {s:Shared} {R:Result->Shared->Prop}
variable {d z TI TO i1 i2 l1 l2:Addr} {xs ys:Array Value}
theorem HK.next{i:Nat}{x y:Value}{Q:Option Value->Shared->Prop}(D:ZipApart z TI TO i1 i2 l1 l2)(nd:d≠z/\d≠TI/\d≠TO/\d≠i1/\d≠i2/\d≠l1/\d≠l2)(Z:HK d z TI TO i1 i2 l1 l2 xs ys i s.heap)(hd:d < s.heap.objs.size)(hx:xs[i]?=some x)(hy:ys[i]?=some y)
  (hQ:∀h',HK d z TI TO i1 i2 l1 l2 xs ys (i + 1) h'->IsPair h' s.heap.objs.size x y->(∀c o,c≠z->c≠TO->c≠i1->c≠i2->s.heap.get? c=some o->h'.get? c=some o)->Q (some (.ref s.heap.objs.size)) {s with heap:=h'}) :
  wpAny (model prog w) A (pyNext (.ref z)) Q E s:=by
 rcases Z.zip with⟨hz,a,b,hTO⟩ | ⟨T,bb,oT,hz,hT,t1,t2,t3,t4⟩
 ·refine wpAny_pyNext_zip_item D hz Z.ti hTO Z.i1 Z.i2 Z.l1 Z.l2 hx hy λh' a1 a2 a3 a4 a5 a6 a7=>hQ h' ⟨.inr ⟨_,false,_,a1,a5,?_,?_,?_,?_⟩,a7 _ _ D.TIz D.TITO D.TIi1 D.TIi2 Z.ti,a3,a4,Z.l1.at λo e=>a7 _ o D.l1z D.l1TO D.l1i1 D.l1i2 e,Z.l2.at λo e=>a7 _ o D.l2z D.l2TO D.l2i1 D.l2i2 e⟩ a5 a7
  ·exact aaJ (aad hz)
  ·exact aaJ (by obtain⟨_,e,_⟩:=Z.i1;exact aad e)
  ·exact aaJ (by obtain⟨_,e,_⟩:=Z.i2;exact aad e)
  ·exact aaJ hd
 ·refine yo D hz Z.ti hT Z.i1 Z.i2 Z.l1 Z.l2 hx hy λh' a1 a3 a4 a5 a6 a7=>hQ h' ⟨.inr ⟨T,true,oT,a1,a7 _ _ t1 t2 t3 hT,t1,t2,t3,t4⟩,a7 _ _ D.TIz D.TIi1 D.TIi2 Z.ti,a3,a4,Z.l1.at λo e=>a7 _ o D.l1z D.l1i1 D.l1i2 e,Z.l2.at λo e=>a7 _ o D.l2z D.l2i1 D.l2i2 e⟩ a5 λc o c1 _ c3 c4 e=>a7 c o c1 c3 c4 e
theorem HK.done{i:Nat}{Q:Option Value->Shared->Prop}(hh:A.handled=none)(D:ZipApart z TI TO i1 i2 l1 l2)(Z:HK d z TI TO i1 i2 l1 l2 xs ys i s.heap)(hx:xs[i]?=none)
  (hQ:∀h',(∀c o,c≠z->c≠TO->c≠i1->c≠i2->s.heap.get? c=some o->h'.get? c=some o)->Q none {s with heap:=h'}) :
  wpAny (model prog w) A (pyNext (.ref z)) Q E s:=by
 rcases Z.zip with⟨hz,a,b,hTO⟩ | ⟨T,bb,oT,hz,hT,t1,t2,t3,t4⟩
 ·exact wpAny_pyNext_zip_end hh D hz Z.ti hTO Z.i1 Z.i2 Z.l1 Z.l2 (.inl hx) hQ
 ·exact qG (k2:=i) (ys:=ys) hh D hz Z.ti hT Z.i1 Z.l1 hx λh' k=>hQ h' λc o c1 _ c3 _ e=>k c o c1 c3 e
theorem HK.keep{i:Nat}{h h':Heap}(D:ZipApart z TI TO i1 i2 l1 l2)(nd:d≠z/\d≠TI/\d≠TO/\d≠i1/\d≠i2/\d≠l1/\d≠l2)(Z:HK d z TI TO i1 i2 l1 l2 xs ys i h)(k:∀c o,c≠d->h.get? c=some o->h'.get? c=some o):HK d z TI TO i1 i2 l1 l2 xs ys i h':=by
 obtain⟨n1,n2,n3,n4,n5,n6,n7⟩:=nd;refine⟨?_,k _ _ n2.symm Z.ti,Z.i1.at λo e=>k _ o n4.symm e,Z.i2.at λo e=>k _ o n5.symm e,Z.l1.at λo e=>k _ o n6.symm e,Z.l2.at λo e=>k _ o n7.symm e⟩;rcases Z.zip with⟨hz,a,b,hTO⟩ | ⟨T,bb,oT,hz,hT,t1,t2,t3,t4⟩
 ·exact .inl ⟨k _ _ n1.symm hz,a,b,k _ _ n3.symm hTO⟩
 ·exact .inr ⟨T,bb,oT,k _ _ n1.symm hz,k _ _ t4 hT,t1,t2,t3,t4⟩
theorem Bs(hh:A.handled=none)(D:ZipApart z TI TO i1 i2 l1 l2)(nd:d≠z/\d≠TI/\d≠TO/\d≠i1/\d≠i2/\d≠l1/\d≠l2){kvs:List (K×Value)}(hn:(kvs.map (·.1)).Nodup)(hxs:xs.size=kvs.length)(hys:ys.size=kvs.length)
  (hkv:∀(i:Nat) kv,kvs[i]?=some kv->∃x,xs[i]?=some x/\knd.is kv.1 x=true/\ys[i]?=some kv.2) (hz:kvs.length<=1000) :
  ∀(k i:Nat) (t:Tok) (s:Shared),kvs.length - i=k->i<=kvs.length->HK d z TI TO i1 i2 l1 l2 xs ys i s.heap->s.heap.DictOf knd d (kvs.take i) ->
   (∀h' tk,h'.DictOf knd d kvs->(∀c o,c≠z->c≠TO->c≠i1->c≠i2->c≠d->s.heap.get? c=some o->h'.get? c=some o)->R (.ok (.ret .none)) {s with heap:=h',toks:=tk}) ->
   codeAny (model prog w) A (.builtin "dict.update.loop" ⟨[.ref d,.ref z,.int i t,.none],[]⟩) R s:=by
 intro k
 induction k with
 | zero =>
  intro i t s hk hi Z hD hR;have hin:i=kvs.length:=by omega
  subst hin;refine codeAny_builtin FD.j4 ?_;rw[Around.under_plainId FD.en _];show wpAny _ A.in1 (pyNext (.ref z) >>= _) _ _ s;refine wpAny_bind (Z.done (by simp[hh]) D (Array.getElem?_eq_none (by omega)) λh' k=>?_);show wpAny _ A.in1 (Builtin.Dict.addKeywords d [] >>= λ_=>ret Value.none) _ _ _;rw[List.take_length]at hD;refine wpAny_bind (wpAny_pure (wpAny_pure (hR h' s.toks ?_ λc o c1 c2 c3 c4 _ e=>k c o c1 c2 c3 c4 e)));obtain⟨o,es,ep,ho,rest⟩:=hD;exact⟨o,es,ep,k _ _ nd.1 nd.2.2.1 nd.2.2.2.1 nd.2.2.2.2.1 ho,rest⟩
 | succ k ih =>
  intro i t s hk hi Z hD hR;have hlt:i < kvs.length:=by omega
  have hkvi:kvs[i]?=some kvs[i]:=gP hlt;obtain⟨x,hx,hkey,hy⟩:=hkv i _ hkvi;generalize kvs[i]=kv at hkvi hkey hy;have hdl:d < s.heap.objs.size:=by obtain⟨o,es,ep,ho,rest⟩:=hD;exact aad ho
  refine codeAny_builtin FD.j4 ?_;rw[Around.under_plainId FD.en _];show wpAny _ A.in1 (pyNext (.ref z) >>= _) _ _ s;refine aac (Z.next D nd hdl hx hy λh' Z' hP k1=>?_)
  have hD':h'.DictOf knd d (kvs.take i):=by
   obtain⟨o,es,ep,ho,rest⟩:=hD;exact⟨o,es,ep,k1 _ _ nd.1 nd.2.2.1 nd.2.2.2.1 nd.2.2.2.2.1 ho,rest⟩
  refine wpAny_bind (wpAny_holding ?_);refine wpAny_bind (wpAny_tryCatch ?_);show wpAny _ _ (Builtin.Dict.pairItems (.ref s.heap.objs.size)) _ _ _;unfold Builtin.Dict.pairItems;refine wpAny_bind (wpAny_typeOf (T:="tuple") ⟨_,hP,rfl⟩ ?_);show wpAny _ _ (seqItems? (.ref s.heap.objs.size) >>= _) _ _ _;refine wpAny_bind (wpAny_seqItems hP rfl (wpAny_pure ?_));show wpAny _ _ (holding [x,kv.2] (dictSet d x kv.2)) _ _ _;refine wpAny_holding ?_;unfold dictSet;refine wpAny_holding (wpAny_bind (knd.pyHash (k:=kv.1) hkey ?_));have hlen:(kvs.take i).length<=sizeLine:=by rw[List.length_take,sizeLine_eq];omega
  refine wpAny_dictSetHashed_pairs (s:={s with heap:=h',toks:=s.toks + 1}) hkey hD' (λh2 VN zx=>?_) hlen
  have hst:stored (kvs.take i) kv.1 kv.2=kvs.take (i + 1):=by
   have hm:=merged_take_succ ([]:List (K×Value)) kvs i kv hkvi;have VO:∀j,((kvs.take j).map (·.1)).Nodup:=λj=>by rw[List.map_take];exact(List.take_sublist _ _).nodup hn
   rw[merged_nil_of_nodup _ (VO i),merged_nil_of_nodup _ (VO (i + 1))]at hm;exact hm.symm
  rw[hst]at VN;refine aag ⟨plainId_quiet FD.en _,?_⟩;have k2:∀c o,c≠d->h'.get? c=some o->h2.get? c=some o:=λc o n e=>zx.extBut _ _ n e
  refine ih (i + 1) 0 {s with heap:=h2,toks:=s.toks + 1} (by omega) hlt (Z'.keep D nd k2) VN λh3 tk XB k3=>hR h3 tk XB λc o c1 c2 c3 c4 c5 e=>k3 c o c1 c2 c3 c4 c5 (k2 c o c5 (k1 c o c1 c2 c3 c4 e))
end
namespace FD
theorem qH:typeLookup (.type "zip") "__getattr__"=pure none:=by rw[typeLookup_type,builtinLookup_eq_fast];kernel_rfl
theorem wH:typeLookup (.type "zip") "keys"=pure none:=by rw[typeLookup_type,builtinLookup_eq_fast];kernel_rfl
theorem uL:entryFor table "zip.__getattribute__"=some Builtin.«object.__getattribute__»:=entryFor_alias (id':="object.__getattribute__") (by kernel_rfl) (by decide +kernel) (by decide +kernel) (by kernel_rfl)
end FD
set_option maxHeartbeats 4000000 in
theorem qI(a:Addr)(fs:Array Value)(sl:Array (Option Value))(u:Tok):
  Meets (Builtin.«object.__getattribute__» ⟨[.ref a,.str "keys" u],[]⟩) (λA R s=>s.heap.get? a=some {cls:=.type "zip",dict:=none,data:=.fields fs,slots:=sl}/\raisesAttr (.ref a) "keys" A R s) :=
 Meets.of_wp λprog w A R s hs=>by
  have hmiss:=FD.wH;have hname:(["__module__","__name__","__qualname__","__doc__","__annotations__"]:List Str).contains "keys"=false:=by decide +kernel
  obtain⟨hp,g,d,tk,os⟩:=s;obtain⟨hx,hs⟩:=hs;have hT:(⟨hp,g,d,tk,os⟩:Shared).TypeIs (.ref a) "zip":=⟨_,hx,rfl⟩;unfold Builtin.«object.__getattribute__»;repeat (any_goals (first | assumption | wp_step))
  try simp only[hname,Bool.false_eq_true,if_false]
  repeat (any_goals (first | assumption | wp_step))
  exact wpAny_raiseAttrError hs.1 hs.2 (attrMsg_fits (by decide +kernel) (by decide))
set_option maxHeartbeats 4000000 in
theorem D8{prog:Program}{w:World}{A:Around}{E:Value->Shared->Prop}{s:Shared}{a:Addr}{fs:Array Value}{sl:Array (Option Value)}{Q:Option Value->Shared->Prop}(hx:s.heap.get? a=some {cls:=.type "zip",dict:=none,data:=.fields fs,slots:=sl})(hA:A.handled=none)
  (h:∀h' tk,(∀b ob,s.heap.get? b=some ob->h'.get? b=some ob)->Q none {s with heap:=h',toks:=tk}):wpAny (model prog w) A (getAttr? (.ref a) "keys") Q E s:=by
 obtain⟨hp,g,d,tk,os⟩:=s;have hT:∀tk',(⟨hp,g,d,tk',os⟩:Shared).TypeIs (.ref a) "zip":=λ_=>⟨_,hx,rfl⟩
 have f1:=sub_AttributeError;have f3:=F.slot_zip_getattribute.lookup;have f4:=F.slot_zip_getattribute.bind (.ref a);have f5:=FD.qH;unfold getAttr? getAttrBy? getAttrBy
 repeat (any_goals (first | assumption | exact hT _ | ((with_reducible show wpAny _ _ (call (Value.builtin "zip.__getattribute__") _ _) _ _ _);refine call_meets F.slot_zip_getattribute (hT _) FD.uL (F.args_zip_getattribute_2 _ _) (qI a fs sl _) ⟨hx,hA,λh' tk' e hx'=>?_⟩) | wp_step))
 obtain⟨t',u',he⟩:=hx'.there;have kp:=hx'.keeps;show wpAny _ _ (getattributeRaised _ _ _ _ _ _ _) _ _ _;unfold getattributeRaised
 repeat (any_goals (first | assumption | wp_step))
 exact h _ _ kp
section
variable {prog:Program} {w:World} {K:Type} [DecidableEq K] {knd:KeyKind prog w K} {A:Around} {E:Value->Shared->Prop} {s:Shared} {z TI TO i1 i2 l1 l2:Addr} {xs ys:Array Value}
theorem rD{a b:Value}{kvs:List (K×Value)}{Q:Value->Shared->Prop}(hh:A.handled=none)(D:ZipApart z TI TO i1 i2 l1 l2)(hz:IsZip s.heap z TI TO .none)(hTI:IsPair s.heap TI (.ref i1) (.ref i2))(hTO:IsPair s.heap TO a b)
  (h1:s.heap.IsListIter i1 l1 0) (h2:s.heap.IsListIter i2 l2 0) (ud:s.heap.IsList l1 xs) (sE:s.heap.IsList l2 ys) (hn:(kvs.map (·.1)).Nodup) (hxs:xs.size=kvs.length) (hys:ys.size=kvs.length)
  (hkv:∀(i:Nat) kv,kvs[i]?=some kv->∃x,xs[i]?=some x/\knd.is kv.1 x=true/\ys[i]?=some kv.2) (hsz:kvs.length<=1000)
  (h:∀h' tk,h'.DictOf knd s.heap.objs.size kvs->(∀c o,c≠z->c≠TO->c≠i1->c≠i2->s.heap.get? c=some o->h'.get? c=some o)->Q (.ref s.heap.objs.size) {s with heap:=h',toks:=tk}) :
  wpAny (model prog w) A (call (.type "dict") [.ref z]) Q E s:=by
 refine callType_codes (Q₁:=λobj s₁=>obj=.ref s.heap.objs.size/\s₁={s with heap:=s.heap.push {cls:=.type "dict",data:=.dict #[]}}) F.kt_called_dict (F.kt_typeCall_dict_1 _) F.entry_dict_init (kt_code_dict_new _ ⟨rfl,rfl⟩) ?_;rintro obj s₁ ⟨rfl,rfl⟩;have up:∀c o,s.heap.get? c=some o->(s.heap.push {cls:=.type "dict",data:=.dict #[]}).get? c=some o:=λc o e=>aab _ e
 have hnew:(s.heap.push {cls:=.type "dict",data:=.dict #[]}).DictOf knd s.heap.objs.size []:=Heap.DictOf.new s.heap;have ne:∀c o,s.heap.get? c=some o->s.heap.objs.size≠c:=λc o e=>aaJ (aad e)
 have nd:s.heap.objs.size≠z/\s.heap.objs.size≠TI/\s.heap.objs.size≠TO/\s.heap.objs.size≠i1/\s.heap.objs.size≠i2/\s.heap.objs.size≠l1/\s.heap.objs.size≠l2 :=
  ⟨ne _ _ hz,ne _ _ hTI,ne _ _ hTO,(by obtain⟨_,e,_⟩:=h1;exact ne _ _ e),(by obtain⟨_,e,_⟩:=h2;exact ne _ _ e),(by obtain⟨_,e,_⟩:=ud;exact ne _ _ e),(by obtain⟨_,e,_⟩:=sE;exact ne _ _ e)⟩
 refine⟨hnew.typeIs,F.args_dict_init_2 _ _,?_⟩;unfold Builtin.«dict.__init__»;refine wpAny_bind ?_;unfold Builtin.Dict.selfAndRest;refine wpAny_bind (wpAny_notOrdered_dict hnew.typeIs ?_);show wpAny _ _ (pure (s.heap.objs.size,[Value.ref z])) _ _ _;refine wpAny_pure ?_;show wpAny _ _ (Builtin.Dict.updateFrom "dict.__init__" s.heap.objs.size (.ref z) [] .none) _ _ _;unfold Builtin.Dict.updateFrom;refine wpAny_bind (wpAny_typeOf (T:="zip") ⟨_,up _ _ hz,rfl⟩ ?_);rw[if_pos (by decide)];refine wpAny_bind (D8 (up _ _ hz) (by simp[hh]) λh1' ZA k1=>?_);show wpAny _ _ (rule _ >>= _) _ _ _;refine wpAny_bind (wpAny_rule ?_);refine wpAny_bind (wpAny_pyIter_zip (k1 _ _ (up _ _ hz)) ?_);refine wpAny_pure ⟨plainId_quiet FD.en _,?_⟩;refine Bs (knd:=knd) (by simp[hh]) D nd hn hxs hys hkv hsz kvs.length 0 0 _ (by omega) (Nat.zero_le _) ⟨.inl ⟨k1 _ _ (up _ _ hz),a,b,k1 _ _ (up _ _ hTO)⟩,k1 _ _ (up _ _ hTI),h1.at λo e=>k1 _ o (up _ _ e),h2.at λo e=>k1 _ o (up _ _ e),ud.at λo e=>k1 _ o (up _ _ e),sE.at λo e=>k1 _ o (up _ _ e)⟩ ?_ ?_
 ·obtain⟨o,es,ep,ho,rest⟩:=hnew;exact⟨o,es,ep,k1 _ _ ho,rest⟩
 ·intro h' tk hD kk;exact⟨rfl,h h' tk hD λc o c1 c2 c3 c4 e=>kk c o c1 c2 c3 c4 (ne _ _ e).symm (k1 _ _ (up _ _ e))⟩
end
section
variable {X:Cx} {a b:Expr} {ta:TA} {p p2 pos zpos:Pos}
def Ml(K:aJ)(ta:TA):TE:=λσ H Q=>ta σ H λvs H1=>∃(l1 l2:Addr) (ks:List Str) (ys:List V),vs=[.ref l1,.ref l2]/\bu K H1 l1 (ks.map V.str)/\bu K H1 l2 ys/\ks.Nodup/\ys.length=ks.length/\ks.length<=1000/\∀d,H1 d=none->Q (.ref d) (upd H1 d (.dK ((ks.zip ys).map λp=>(Sum.inr p.1,p.2))))
theorem D9(hgd:Gl X "dict")(hmd:X.mg "dict"=none)(hgz:Gl X "zip")(hmz:X.mg "zip"=none)(hc:X.calm=true)(ha:PA X [a,b] ta)(hs:starEach [a,b] X.env=[(false,eval a X.env),(false,eval b X.env)]:=by rfl)(zx:starEach [b] X.env=[(false,eval b X.env)]:=by rfl)
  (C8:starEach [.Call (.Name "zip" p2) [a,b] [] zpos] X.env=[(false,eval (.Call (.Name "zip" p2) [a,b] [] zpos) X.env)]:=by rfl) :
  PE X (.Call (.Name "dict" p) [.Call (.Name "zip" p2) [a,b] [] zpos] [] pos) (Ml X.K ta):=by
 intro pins s σ H Q I h;refine Call_ (lA I hgd hmd GY (aaT ?_ (by rw[C8];rfl) rfl));rw[C8];refine ab5 ?_;refine Call_ (lA I hgz hmz CY (aaT (bF (ha zpos pins s σ H _ I h) λus s1 ⟨vs,H1,I1,r1,q1⟩=>?_) (by rw[hs,zx]) (by rw[zx];rfl)));obtain⟨l1,l2,ks,ys,rfl,s1',s2',nd,hl,Qb,q⟩:=q1;obtain⟨u1,u2,rfl,Sz,SA⟩:=vals2 r1;cases Sz;cases SA;obtain⟨VB,r1,p1,_⟩:=I1.list s1';obtain⟨Kb,r2,p2',_⟩:=I1.list s2';refine call_zip_2 p1.isList p2'.isList λh' hz hTI hTO h1 h2 hsz kk=>?_
 refine ab9 ?_;have lu:VB.length=ks.length:=by rw[← r1.length,aaf]
 have lv:Kb.length=ks.length:=by rw[← r2.length,hl]
 have n1:=p1.lt;have n2:=p2'.lt;have ez:(ks.zip Kb).length=ks.length:=by rw[List.length_zip];omega
 refine rD (knd:=cK X.prog X.w) (kvs:=(ks.zip Kb).map λp=>(Sum.inr p.1,p.2)) (show X.A.handled=none from I1.ok.hd hc) ⟨?_,?_,?_,?_,?_,?_,?_,?_,?_,?_,?_,?_,?_,?_,?_,?_,?_,?_⟩ hz hTI hTO h1 h2 (p1.isList.at λo e=>kk _ o e) (p2'.isList.at λo e=>kk _ o e) ?_ ?_ ?_ ?_ ?_ ?_
 all_goals first | exact aak (abC (by decide) _) | exact aaJ (abC (by decide) _) | exact aak (abn (by decide)) | exact aaJ (abn (by decide)) | exact aak (aah n1 (aaW _ _)) | exact aak (aah n2 (aaW _ _)) | exact aak n1 | exact aak n2 | skip
 ·have e:((ks.zip Kb).map λp=>((Sum.inr p.1:Key),p.2)).map (·.1)=ks.map Sum.inr:=by
   rw[aa7,show((λx:Key×Value=>x.1) ∘ λp:Str×Value=>(Sum.inr p.1,p.2))=Sum.inr ∘ Prod.fst from rfl,← aa7,List.map_fst_zip (by omega)]
  rw[e];exact List.Pairwise.map _ (λa b h z=>h (abI z)) nd
 ·rw[List.length_map,ez];simpa using lu
 ·rw[List.length_map,ez];simpa using lv
 ·intro i kv hi;rw[aax]at hi
  cases hzp:(ks.zip Kb)[i]? with
  | none=>rw[hzp]at hi;cases hi
  | some pr =>
   rw[hzp]at hi;cases hi;obtain⟨g1,g2⟩:=List.getElem?_zip_eq_some.mp hzp;obtain⟨u,hu,ru⟩:=r1.get (i:=i) (x:=.str pr.1) (by rw[List.getElem?_map,g1];rfl);obtain⟨t,rfl⟩:=ru;exact⟨_,by simpa using hu,oM _ _ _ _,by simpa using g2⟩
 ·rw[aaf,ez];exact Qb
 intro h'' tk hD kp
 have kp':∀c o,s1.heap.get? c=some o->h''.get? c=some o:=λc o e=>by
  have hc:=aad e;have ne:∀k,c≠s1.heap.objs.size + k:=λk=>aak (aah hc (aaW _ _))
  exact kp c o (ne 4) (ne 3) (ne 0) (ne 1) (kk c o e)
 have hD':h''.DictOf (cK X.prog X.w) (s1.heap.objs.size + 5) ((ks.zip Kb).map λp=>(Sum.inr p.1,p.2)):=by
  have e:h'.objs.size=s1.heap.objs.size + 5:=hsz;rw[← e];exact hD
 have hkv:∀(ks:List Str) (ys:List V) (us:List Value),Vals ys us->KV ((ks.zip ys).map λp=>((Sum.inr p.1:Key),p.2)) ((ks.zip us).map λp=>((Sum.inr p.1:Key),p.2)):=by
  intro ks
  induction ks with
  | nil=>intro ys us _;exact .nil
  | cons k r ih =>
   intro ys us hv
   cases hv with
   | nil=>exact .nil
   | cons h t=>exact .cons ⟨rfl,h⟩ (ih _ _ t)
 have hnew:du X.prog X.w (upd H1 (s1.heap.objs.size + 5) (.dK ((ks.zip ys).map λp=>(Sum.inr p.1,p.2)))) h'' (s1.heap.objs.size + 5) (.dK ((ks.zip ys).map λp=>(Sum.inr p.1,p.2))):=by
  show((ks.zip ys).map λp=>((Sum.inr p.1:Key),p.2)).length<=sizeLine/\((s1.heap.objs.size + 5:Nat) == sysModules)=false/\_;refine⟨?_,?_,_,hkv ks ys Kb r2,hD'⟩
  ·rw[aaf,List.length_zip,abB];omega
  ·have hb:sysModules < s1.heap.objs.size:=Nat.lt_trans (by decide) (I1.mod.glob.keeps I1.bk).lt;exact beq_false_of_ne (aaJ (aah hb (aaW _ _)))
 refine⟨.ref (s1.heap.objs.size + 5),_,I1.laid (t':=tk) kp' (aaW _ 5) hnew,?_,q _ (I1.hok.fresh (aaW _ 5))⟩;show Value.ref h'.objs.size=Value.ref (s1.heap.objs.size + 5);rw[show h'.objs.size=s1.heap.objs.size + 5 from hsz]
end
section
variable {X:Cx} {CW:Addr} {cx n:Str} {i:Nat} {b₀:Stmt} {suite orelse:List Stmt} {np hpos pos:Pos} {tb te:TS}
end
section
variable {X:Cx} {Y:YK} {CW:Addr} {cx n x:Str} {i:Nat} {b₀:Stmt} {suite orelse:List Stmt} {np hpos pos:Pos} {s se:DS} {nn:Nat} {d:mY} {e:Expr} {es:List Expr}
end
theorem c7{K:aJ}{M:Model}{A:Around}{E:Value->Shared->Prop}{h:Heap}{g:Array GenState}{d:Drawn}{t:Nat}{os:OsState}{a C CW:Addr}{oe:Obj}{Q:Bool->Shared->Prop}{b:Bool}(X:K.In h)(he:h.get? a=some oe)(hcls:oe.cls=.ref C)
  (q:PySem.W.ktsIn K CW "BaseException"=true) (m:PySem.W.mroIn K C (.ref CW)=some b) (hq:Q b ⟨h,g,d,t,os⟩):wpAny M A (excMatches (.ref a) (.ref CW)) Q E ⟨h,g,d,t,os⟩:=by
 obtain⟨nm,qn,N,bs,bm,hdct,sn,sub,ab,col,dd,k0,k1,k2,k3,k5,newId,hC,hbase,_⟩:=PySem.W.kts_cls X q;have hcB:(Value.ref CW::bm).contains (.type "BaseException")=true:=by rw[ab7,hbase,acM]
 have f:=tc_notTuple;have L:=PySem.W.looks_mroIn (M:=M) X m;unfold excMatches;cases b<;>repeat (first | (with_reducible refine wpAny_loadPart_at he ?_;rw[hcls]) | with_reducible refine wpAny_loadPart_at hC ?_ | (with_reducible refine wpAny_isSubtype_exc hC ?_;rw[hcB]) | with_reducible refine L.at ?_ | wp_step)
 all_goals exact hq
structure HL(X:Cx)(pins:List (Addr×Obj))(σ:St)(H0 H:Hp)(a C t:Addr)(dd:Option Addr)(B:Heap)(s0 s1:Shared)(h:Heap):Prop where
 hst:X.stack=X.env::X.outer
 hf:X.env.frame=some X.env.locals
 hex:X.ex=[]
 I0:Inv X pins σ H0 s0
 ho:s1.os=s0.os
 hb:AllBare s1.gens
 F:Ke X.prog X.w (X.env::X.outer) H0 H s0.heap B a (.ref C) (.ref t) s1.heap
 fl:Heap.FlyingW B (X.env::X.outer) a (.ref C) (.ref t) h
 sm:s1.heap.UpToSlots h
 di:eU h a dd
section
variable {X:Cx} {pins:List (Addr×Obj)} {σ:St} {H0 H:Hp} {a C t:Addr} {dd:Option Addr} {B h:Heap} {s0 s1:Shared}
theorem HL.inv(L:HL X pins σ H0 H a C t dd B s0 s1 h){h':Heap}(st:B.StaysIn h')(u:s1.heap.UpToSlots h')(tk:Nat):Inv X pins σ H {s1 with heap:=h',toks:=tk}:=by
 refine L.I0.zp (ch:=[]) L.ho ?_ (L.F.hok.kept st) L.hb (λb z=>nomatch z);show Un (ia X.stack) [] H0 H s0.heap h';rw[L.hst];exact L.F.VG st u
theorem HL.now(L:HL X pins σ H0 H a C t dd B s0 s1 h)(tk:Nat):Inv X pins σ H {s1 with heap:=h,toks:=tk}:=L.inv L.fl.1 L.sm tk
theorem HL.RK(L:HL X pins σ H0 H a C t dd B s0 s1 h)(b:Addr)(hB:B.get? b=none)(hn:b∉ia (X.env::X.outer)):X.s₀.heap.get? b=none:=by
 cases e:X.s₀.heap.get? b with
 | none=>rfl
 | some o =>
  obtain⟨o1,e1⟩:=L.I0.base.there b o e (by rw[L.hex];exact λz=>nomatch z);obtain⟨o3,e3⟩:=L.F.there b o1 e1 hn;rw[hB]at e3;cases e3
theorem HL.Pu(L:HL X pins σ H0 H a C t dd B s0 s1 h){b:Addr}{o:Obj}{vs:Array Value}(e1:h.get? b=some o)(e2:o.data=.fields vs):b∉ia (X.env::X.outer):=λhm=>by
 obtain⟨_,o',ho',hn'⟩:=L.fl.2.2.1.mem hm;rw[e1]at ho';cases ho';exact hn' _ e2
end
def rE(X:Cx)(hs:List ExceptHandler)(th:Ends->St->XK):Prop:=∀(pins:List (Addr×Obj)) (σ:St) (H0 H:Hp) (D:Ends) (a C t:Addr) (dd:Option Addr) (B:Heap) (s0 s1:Shared) (h:Heap),
 HL X pins σ H0 H a C t dd B s0 s1 h->th D σ (.ref C) dd H->wpAny (model X.prog X.w) X.A (handleBy (.ref a) X.env hs) (SP X pins D) X.xe {s1 with heap:=h}
def Ea(E:XK):Ends->St->XK:=λ_ _=>E
def Qc(K:aJ)(CW:Addr)(i:Nat)(tb:TS)(rest:Ends->St->XK):Ends->St->XK:=λD σ cls dd H2=>∃C,cls=.ref C/\((PySem.W.mroIn K C (.ref CW)=some true /\
 ∀a,H2 a=none->tb {nx:=λσ' H'=>D.nx (σ'.set i none) H',rt:=D.rt,bk:=λσ' H'=>D.bk (σ'.set i none) H',ct:=λσ' H'=>D.ct (σ'.set i none) H'} (σ.set i (some (.ref a))) (upd H2 a (.ext (Oo C a dd)))) ∨
 (PySem.W.mroIn K C (.ref CW)=some false/\rest D σ cls dd H2))
def Tb(K:aJ)(CW:Addr)(tb:TS)(rest:Ends->St->XK):Ends->St->XK:=λD σ cls dd H2=>∃C,cls=.ref C/\((PySem.W.mroIn K C (.ref CW)=some true/\tb D σ H2)∨(PySem.W.mroIn K C (.ref CW)=some false/\rest D σ cls dd H2))
section
variable {X:Cx} {CW:Addr} {cx n:Str} {i:Nat} {b₀:Stmt} {suite:List Stmt} {np hpos pos:Pos} {tb:TS} {hs:List ExceptHandler} {th:Ends->St->XK} {E:XK}
theorem Eb(hp:kl X E):rE X [] (Ea E):=by
 intro pins σ H0 H D a C t dd B s0 s1 h L hE;refine wpAny_handleBy_nil ?_;obtain⟨f1,f2,f3,oe,vs,T,oT,ts,he,hcls,hd,h1,hnT,hTe,hT,hdT,h3⟩:=id L.fl;have hz:3 < ts.size:=(Array.getElem?_eq_some_iff.mp h3).1;unfold PySem.passOn;refine wpAny_bind (wpAny_field he hd h1 ?_);rw[if_neg (by intro z;cases z)];unfold setFlight;refine wpAny_bind (wpAny_bind (wpAny_field he hd h1 ?_));rw[if_pos (by rfl),L.hf];refine wpAny_setField hT hdT hz ?_;refine wpAny_throw ?_;have other:∀b,b≠T->(h.update T (Obj.mapFields (·.setIfInBounds 3 (rawInt X.env.locals)))).get? b=h.get? b:=λb hb=>Heap.get?_update_other _ _ (Ne.symm hb)
 have self':=aaZ (Obj.mapFields (·.setIfInBounds 3 (rawInt X.env.locals))) hT (abR (abE hdT _));have st:B.StaysIn (h.update T (Obj.mapFields (·.setIfInBounds 3 (rawInt X.env.locals)))):=λb o hbo=>(other b λq=>by rw[q,hnT]at hbo;cases hbo).trans (f1 b o hbo)
 have up:s1.heap.UpToSlots (h.update T (Obj.mapFields (·.setIfInBounds 3 (rawInt X.env.locals)))):=λb o hb hnf=>by
  obtain⟨sl,q⟩:=L.sm b o hb hnf;refine⟨sl,(other b λz=>?_).trans q⟩;rw[z,hT]at q;have e:=aaq q;rw[e]at hdT;exact hnf ts hdT
 have I':=L.inv st up s1.toks;obtain⟨od,gd,qd⟩:=L.di;exact hp pins σ H _ a C t T dd I' ⟨hTe,oe,vs,_,_,(other a (Ne.symm hTe)).trans he,hcls.1,hcls.2,hd,h1,self',Obj.data_mapFields hdT _,by simp[hz]⟩ ⟨od,(other a (Ne.symm hTe)).trans gd,qd⟩ L.F.new (kc.has L.F.hok hnT)
  (L.RK a f2 (L.Pu he hd)) (L.RK T hnT (L.Pu hT hdT)) hE
theorem HM:rE X [] (Ea E0):=λ_ _ _ _ _ _ _ _ _ _ _ _ _ _ h=>h.elim
theorem Kv(hg:Gl X cx)(hm:X.mg cx=some (.ref CW))(q:PySem.W.ktsIn X.K CW "BaseException"=true)(hN:X.N.Nodup)(hi:X.N[i]?=some n)(hk:X.env.kindOf n=some .local)(hs':∀a E,pV (X.hand a E) (b₀::suite) tb)(hr:rE X hs th)
  (hd:(cx == ("__debug__" : Str))=false:=by decide):rE X (.ExceptHandler (some (.Name cx np)) (some n) (b₀::suite) hpos::hs) (Qc X.K CW i tb th):=by
 intro pins σ H0 H D a C t dd B s0 s1 h L hE;obtain⟨C',hC',hE⟩:=hE;cases hC';have I5:=L.now s1.toks;obtain⟨oe,vs,g1,g2,g3,g4⟩:=L.fl.first;refine ab2 (abS ?_) (by intro q;cases q);refine fM (X:=X.hand a λ_ _=>False) (I5.hand a _) hg hm ?_ hd;rcases hE with⟨hsub,hE⟩ | ⟨hsub,hE⟩;rotate_left
 ·exact c7 I5.iL g1 g2 q hsub (hr pins σ H0 H D a C t dd B s0 s1 h L hE)
 refine c7 I5.iL g1 g2 q hsub (codeAny_handlers_suite_as ?_);have Mm:∀A3:Around,wpAny (model X.prog X.w) A3 (setFlight (.ref a) none) (λ_ s'=>∃h6,s'={s1 with heap:=h6}/\Heap.FlyingW B (X.env::X.outer) a (.ref C) (.ref t) h6/\h.UpToSlots h6) (λ_ _=>False) {s1 with heap:=h}:=λA3=>lands_againW (s:={s1 with heap:=h}) L.fl λh6 yp HN=>⟨h6,rfl,yp,HN⟩
 refine aat (dD (eT (.ref a) none) (Mm _)) (λ_ s6 z6=>?_) λ_ _ z=>z.elim
 obtain⟨⟨h6,rfl,yp,HN⟩,Tc⟩:=z6;obtain⟨Td,RL,VP,_⟩:eU h6 a dd:=L.di.dk Tc;have I6:=L.inv yp.1 (L.sm.trans HN) s1.toks;obtain⟨oe,vs,g1,g2,g3,g4⟩:=yp.first;have nH:H a=none:=L.F.new;have nB:B.get? a=none:=yp.2.1
 have nf:a∉ia (X.env::X.outer):=λhm=>by
  obtain⟨_,o,ho',hn'⟩:=yp.2.2.1.mem hm;rw[g1]at ho';cases ho';exact hn' _ g3
 have hL:a≠X.env.locals:=λz=>nf ((aU L.hf).mpr (.inl z))
 have hfs:a∉X.fs:=λz=>nf ((aU L.hf).mpr (.inr z))
 have old:∀b o,s0.heap.get? b=some o->b≠a:=λb o e z=>by
  subst z;obtain⟨o',e'⟩:=L.F.there b o e nf;rw[nB]at e';cases e'
 have hcc:∀x c,X.env.cells.lookup x=some c->c≠a:=λx c e z=>by
  obtain⟨v,o,ho',hd'⟩:=I6.cell x c e;have AJ:h6.get? c=some o:=ho';rw[z,g1]at AJ;cases AJ;rw[g3]at hd';cases hd'
 have hpp:∀p∈X.pn++pins,p.1≠a:=λp hp z=>by
  have:=(L.I0.pin p hp).1;exact old _ _ this z
 have qd:oe.dict=dd:=by
  have z:h6.get? a=some oe:=g1;rw[RL]at z;cases z;exact VP
 have I7:=I6.adopt (φ:=Oo C a dd) nH (L.RK a nB nf) hL hfs hcc hpp ⟨⟨oe,vs,g1,g2,g3,qd⟩,⟨oe,g1⟩,λu v ⟨o,ws,q1,q2,q3,q4⟩ k=>⟨o,ws,k o q1,q2,q3,q4⟩⟩;refine m6 I7 hN hi (.inl hk) (v:=.ref a) rfl (λs8 I8 _=>?_) (.inr hk);refine aat (hs' a _ pins s8 _ _ _ (I8.hand a _) (hE a nH)) (λfl s9 h9=>?_) (λ_ _ z=>z)
 cases fl with
 | next =>
  obtain⟨σ',H9,I9,q9⟩:=h9;exact zH (I9.fC L.I0.ok) hN hi hk λs' I'=>⟨_,H9,I',q9⟩
 | brk =>
  obtain⟨σ',H9,I9,q9⟩:=h9;exact zH (I9.fC L.I0.ok) hN hi hk λs' I'=>⟨_,H9,I',q9⟩
 | cont =>
  obtain⟨σ',H9,I9,q9⟩:=h9;exact zH (I9.fC L.I0.ok) hN hi hk λs' I'=>⟨_,H9,I',q9⟩
 | ret u =>
  obtain⟨v,σ',H9,I9,r9,q9⟩:=h9;exact zH (I9.fC L.I0.ok) hN hi hk λs' I'=>⟨v,_,H9,I',r9,q9⟩
theorem Qd(hg:Gl X cx)(hm:X.mg cx=some (.ref CW))(q:PySem.W.ktsIn X.K CW "BaseException"=true)(hs':∀a E,pV (X.hand a E) (b₀::suite) tb)(hr:rE X hs th)
  (hd:(cx == ("__debug__" : Str))=false:=by decide):rE X (.ExceptHandler (some (.Name cx np)) none (b₀::suite) hpos::hs) (Tb X.K CW tb th):=by
 intro pins σ H0 H D a C t dd B s0 s1 h L hE;obtain⟨C',hC',hE⟩:=hE;cases hC';have I5:=L.now s1.toks;obtain⟨oe,vs,g1,g2,g3,g4⟩:=L.fl.first;refine ab2 (abS ?_) (by intro q;cases q);refine fM (X:=X.hand a λ_ _=>False) (I5.hand a _) hg hm ?_ hd;rcases hE with⟨hsub,hE⟩ | ⟨hsub,hE⟩;rotate_left
 ·exact c7 I5.iL g1 g2 q hsub (hr pins σ H0 H D a C t dd B s0 s1 h L hE)
 refine c7 I5.iL g1 g2 q hsub (codeAny_handlers_suite ?_);refine lands_againW (s:={s1 with heap:=h}) L.fl λh6 yp HN=>?_
 have I6:=L.inv yp.1 (L.sm.trans HN) s1.toks;refine aat (hs' a _ pins _ _ _ _ (I6.hand a _) hE) (λfl s9 h9=>?_) (λ_ _ z=>z)
 cases fl with
 | next =>
  obtain⟨σ',H9,I9,q9⟩:=h9;exact⟨σ',H9,I9.fC L.I0.ok,q9⟩
 | brk =>
  obtain⟨σ',H9,I9,q9⟩:=h9;exact⟨σ',H9,I9.fC L.I0.ok,q9⟩
 | cont =>
  obtain⟨σ',H9,I9,q9⟩:=h9;exact⟨σ',H9,I9.fC L.I0.ok,q9⟩
 | ret u =>
  obtain⟨v,σ',H9,I9,r9,q9⟩:=h9;exact⟨v,σ',H9,I9.fC L.I0.ok,r9,q9⟩
def VQ(X:Cx)(hs:List ExceptHandler)(pins:List (Addr×Obj))(D:Ends):Value->Shared->Prop:=λe s₁=>wpAny (model X.prog X.w) X.A (noteFrame e X.env) (λ_ s₂=>wpAny (model X.prog X.w) X.A (setFlight e none) (λ_ s₃=>wpAny (model X.prog X.w) X.A (handleBy e X.env hs) (SP X pins D) X.xe s₃) X.xe s₂) X.xe s₁
theorem HP{pins:List (Addr×Obj)}{σ:St}{H:Hp}{s s1:Shared}{D:Ends}{e:Value}(hd:rE X hs th)(hst:X.stack=X.env::X.outer)(hf:X.env.frame=some X.env.locals)(hex:X.ex=[])
  (I:Inv X pins σ H s) (hc:eh X.prog X.w X.stack H s (th D σ) e s1):VQ X hs pins D e s1:=by
 obtain⟨a,C,t,H',B,dd,rfl,ho,hb,F,hdd,hE⟩:=hc;have hfr:X.A.frames=some (X.env::X.outer):=by rw[← hst];exact I.ok.frames
 have F0:Ke X.prog X.w (X.env::X.outer) H H' s.heap B a (.ref C) (.ref t) s1.heap:=by rw[← hst];exact F
 have lib1:=wpAny_looks_onW (M:=model X.prog X.w) (A:=X.A) (E:=X.xe) (s:=s1) (Q:=λ_ s'=>∃h4,s'={s1 with heap:=h4}/\Heap.HeldW B (X.env::X.outer) a (.ref C) (.ref t) X.env.locals h4/\s1.heap.UpToSlots h4) hfr hf F0.fly λh4 j0 LF=>⟨h4,rfl,j0,LF⟩
 refine aat (dD (pM (.ref a) X.env) lib1) (λ_ s4 z4=>?_) λ_ _ z=>z
 obtain⟨⟨h4,rfl,j0,LF⟩,SJ⟩:=z4;have lib2:=wpAny_landsW (M:=model X.prog X.w) (A:=X.A) (E:=X.xe) (s:={s1 with heap:=h4}) (Q:=λ_ s'=>∃h5,s'={s1 with heap:=h5}/\Heap.FlyingW B (X.env::X.outer) a (.ref C) (.ref t) h5/\h4.UpToSlots h5) j0 λh5 Qe Mn=>⟨h5,rfl,Qe,Mn⟩
 refine aat (dD (eT (.ref a) none) lib2) (λ_ s5 z5=>?_) λ_ _ z=>z
 obtain⟨⟨h5,rfl,Qe,Mn⟩,XC⟩:=z5;exact hd pins σ H H' D a C t dd B s s1 h5 ⟨hst,hf,hex,I,ho,hb,F0,Qe,LF.trans Mn,(hdd.dk SJ).dk XC⟩ hE
end
def Arr(X:Cx)(pins:List (Addr×Obj))(σ:St)(E:XK)(E':Value->Shared->Prop):Prop:=∀(H0:Hp) (s0:Shared) (e:Value) (s':Shared),Inv X pins σ H0 s0->eh X.prog X.w X.stack H0 s0 E e s'->E' e s'
def Mo(X:Cx)(e:Expr)(t:XK->TE):Prop:=∀(E':Value->Shared->Prop) (pins:List (Addr×Obj)) (s:Shared) (σ:St) (H:Hp) (Q:VK) (E:XK),Arr X pins σ E E'->Inv X pins σ H s->t E σ H Q->wpAny (model X.prog X.w) X.A (eval e X.env) (EP X pins σ Q) E' s
def RM(X:Cx)(es:List Expr)(t:XK->TA):Prop:=∀(pos:Pos) (E':Value->Shared->Prop) (pins:List (Addr×Obj)) (s:Shared) (σ:St) (H:Hp) (Q:List V->Hp->Prop) (E:XK),Arr X pins σ E E'->Inv X pins σ H s->t E σ H Q->wpAny (model X.prog X.w) X.A (spliced (backTo pos (starEach es X.env))) (AP X pins σ Q) E' s
def Qf(X:Cx)(body:List Stmt)(t:XK->TS):Prop:=∀(E':Value->Shared->Prop) (pins:List (Addr×Obj)) (s:Shared) (σ:St) (H:Hp) (D:Ends) (E:XK),Arr X pins σ E E'->Inv X pins σ H s->t E D σ H->wpAny (model X.prog X.w) X.A (execs body X.env) (SP X pins D) E' s
section
variable {X:Cx} {e o:Expr} {es:List Expr} {te:TE} {t:TA} {tx:XK->TE} {ts:XK->TA} {pos cpos apos epos p:Pos} {body:List Stmt} {tb:XK->TS}
theorem Mp(h:∀E',PE (X.eR E') e te):Mo X e (λ_=>te):=λE' pins s σ H Q _ _ I q=>bF (h E' pins s σ H Q (I.eR E') q) λ_ _ ⟨x,H1,I1,r,z⟩=>⟨x,H1,I1.fA,r,z⟩
theorem Ec{x:Str}{k:Nat}{ps:List Str}{sp:Sp}(h:ic X.prog X.w X.K X.mg X.base (eh X.prog X.w) x k ps sp)(hr:cg k X.A)(hg:Gl X x)(ha:∀E',PA (X.eR E') (e::es) t)(hdb:(x == ("__debug__" : Str))=false:=by decide)
  (he:starEach (e::es) X.env=(false,eval e X.env)::starEach es X.env:=by rfl) (hpl:(backTo cpos (starEach es X.env)).any (·.1)=false:=by rfl):Mo X (.Call (.Name x p) (e::es) [] cpos) (λE=>vH sp [] E t):=by
 intro E' pins s σ H Q E hx I hw;obtain⟨f,fd,F,b,kp,m⟩:=h.ex;refine aaX (fM (X:=X.eR E') (I.eR E') hg m ?_ hdb);refine aaY (h₀:=X.base) I.ok.mod.kin kp (bF (ha E' cpos pins s σ H _ (I.eR E') hw) λus s1 ⟨vs,H1,I1,r,q1⟩=>⟨I1.iL,?_⟩) he hpl;have I1':=I1.fA;have hl:(us++[]).length=ps.length:=by rw[← (r.append (show Vals [] []from .nil)).length];exact F.len _ _ _ _ q1
 refine abV (abw (F.run X.A X.stack s1 H1 ⟨us,[]⟩ (us++[]) (vs++[]) _ _ hr I1'.CI (b s1 us I1'.iL hl) (r.append .nil) q1) λr s' hq=>?_)
 cases r with
 | error e=>exact hx _ _ e s' I1' hq
 | ok fl =>
  cases fl with
  | ret u=>exact I1'.after hq
  | next=>exact False.elim hq
  | brk=>exact False.elim hq
  | cont=>exact False.elim hq
theorem wI{m:Str}{k:Nat}{ps:List Str}{sp:Sp}{C:Addr}{ta:TE}{pl:Sem Bool}(ho:∀E',PE (X.eR E') o ta)(h:fD X.prog X.w X.K X.mg X.base (eh X.prog X.w) C m k ps sp)(hr:cg k X.A)(ha:∀E',PA (X.eR E') (e::es) t)
  (hst:starEach (e::es) X.env=(false,eval e X.env)::starEach es X.env:=by rfl) (hpl:(backTo pos (starEach es X.env)).any (·.1)=false:=by rfl)
  (ht:eval (.Call (.Attribute o m apos) (e::es) [] pos) X.env=(do
   let ov ← eval o X.env
   standAt apos.atName
   let (f,first) ← holding [ov] (getMethod ov m pl)
   callWith pos f first (backTo pos (starEach (e::es) X.env)) (backToKw pos (keywordEach [] X.env))):=by rfl) :
  Mo X (.Call (.Attribute o m apos) (e::es) [] pos) (λE=>sr C m sp [] E ta t):=by
 intro E' pins s σ H Q E hx I hw;obtain⟨f,fd,F,b,M⟩:=h.ex;refine abQ (pl:=pl) (bF (ho E' pins s σ H _ (I.eR E') hw) λu s1 ⟨x,H1,I1,rx,a,dx,fs,ex,ea,l,q⟩=>?_) ht;subst ex;obtain rfl:u=Value.ref a:=rx;refine lC (X:=X.eR E') I1 ea h.cl M l ?_;refine aaY (first:=[.ref a]) (h₀:=X.base) I.ok.mod.kin M.kp (bF (ha E' pos pins s1 σ H1 _ I1 q) λus s2 ⟨vs,H2,I2,r,q2⟩=>⟨I2.iL,?_⟩) hst hpl;have I1':=I2.fA;have r2:Vals (V.ref a::(vs++[])) ((Value.ref a::us)++[]):=.cons rfl (r.append .nil);have hl:((Value.ref a::us)++[]).length=ps.length:=by rw[← r2.length];exact F.len _ _ _ _ q2
 refine abV (abw (F.run X.A X.stack s2 H2 ⟨Value.ref a::us,[]⟩ ((Value.ref a::us)++[]) (V.ref a::(vs++[])) _ _ hr I1'.CI (b s2 (Value.ref a::us) I1'.iL hl) r2 q2) λr s' hq=>?_)
 cases r with
 | error e=>exact hx _ _ e s' I1' hq
 | ok fl =>
  cases fl with
  | ret u=>exact I1'.after hq
  | next=>exact False.elim hq
  | brk=>exact False.elim hq
  | cont=>exact False.elim hq
theorem HQ:RM X [] (λ_=>mf):=λ_ _ _ _ _ H _ _ _ I h=>ab9 ⟨[],H,I,.nil,h⟩
theorem wJ(ha:Mo X e tx)(hr:RM X es ts)(hs:starEach (e::es) X.env=(false,eval e X.env)::starEach es X.env:=by rfl):RM X (e::es) (λE=>CH (tx E) (ts E)):=by
 intro pos E' pins s σ H Q E hx I h;rw[hs];show wpAny _ _ (spliced ((false,eval e X.env)::backTo pos (starEach es X.env))) _ _ s;refine ab5 (bF (ha E' pins s σ H _ E hx I h) λu s1 ⟨x,H1,I1,r1,q1⟩=>?_);exact bF (hr pos E' pins s1 σ H1 _ E hx I1 q1) λus s2 ⟨xs,H2,I2,r2,q2⟩=>⟨x::xs,H2,I2,.cons r1 r2,q2⟩
theorem HR{x1}(h:RM X es ts):Mo X (.Tuple es x1 pos) (λE=>Lc (ts E)):=by
 intro E' pins s σ H Q E hx I hq;refine wpAny_Tuple_spliced (bF (h pos E' pins s σ H _ E hx I hq) λus s1 ⟨xs,H1,I1,r,z,q⟩=>⟨by rw[← r.length];exact z,?_⟩);have hf:H1 s1.heap.objs.size=none:=I1.hok.fresh (aai _);refine⟨.ref s1.heap.objs.size,upd H1 s1.heap.objs.size (.tup xs),I1.laid (t':=s1.toks) (λb u e=>aab _ e) (aai _) ?_,rfl,q _ hf⟩;exact⟨z,us,r,⟨_,aao _ rfl,rfl,_,rfl⟩⟩
theorem Aa(h:Mo X e tx):Qf X [.Return (some e) pos] (λE=>K5 (tx E)):=by
 intro E' pins s σ H D E hx I hw;refine abM (bF (wpAny_Return_some (Q:=SP X pins D) (bF (h E' pins s σ H _ E hx I hw) λv s1 ⟨x,H1,I1,r1,q1⟩=>⟨x,σ,H1,I1,r1,q1⟩)) λfl s1 h1=>?_)
 cases fl with
 | next=>exact abp h1
 | brk=>exact h1
 | cont=>exact h1
 | ret u=>exact h1
theorem HS:Qf X [] (λ_=>pX):=λE' pins s σ H D E hx I hw=>abp ⟨σ,H,I,hw⟩
theorem Ed(h:Mo X e tx)(hb:Qf X body tb)(hsw:swapsWith e none epos.line X.env=pure false:=by rfl):Qf X (.Expr e epos::body) (λE=>Gy (JV (tx E)) (tb E)):=by
 intro E' pins s σ H D E hx I hw;refine abM (wpAny_Expr_any (bF (h E' pins s σ H _ E hx I hw) λv s1 ⟨x,H1,I1,r1,q1⟩=>?_) I.quiet hsw);exact hb E' pins s1 σ H1 D E hx I1 q1
def Qg(t:XK->TS)(th:Ends->St->XK):TS:=λD σ H=>t (th D σ) D σ H
theorem uM{h₀:ExceptHandler}{hs:List ExceptHandler}{th:Ends->St->XK}(hb:Qf X body tb)(hd:rE X (h₀::hs) th)(hst:X.stack=X.env::X.outer:=by rfl)(hf:X.env.frame=some X.env.locals:=by rfl)(hex:X.ex=[]:=by rfl):
  PS X (.Try body (h₀::hs) [] [] pos) (Qg tb th):=by
 intro pins s σ H D I hw;refine wpAny_Try_except ?_;refine aat (hb (VQ X (h₀::hs) pins D) pins s σ H D (th D σ) (λH0 s0 e s' I0 hc=>HP hd hst hf hex I0 hc) I hw) (λfl s1 h1=>?_) λ_ _ z=>z
 cases fl with
 | next=>exact abp h1
 | brk=>exact h1
 | cont=>exact h1
 | ret u=>exact h1
end
theorem mz{P:Program}{w:World}{K:aJ}{mg:Str->Option Value}{base:Heap}{CX:vA}{k:Nat}{f:Addr}{fd:FuncData}{ps:List Str}{sp:Sp}(h:∀vs H Q E,sp vs H Q E->False):bJ P w K mg base CX k f fd ps sp :=
 ⟨λvs H Q E z=>(h vs H Q E z).elim,λ_ _ _ H _ _ vs Q E _ _ _ _ z=>(h vs H Q E z).elim⟩
abbrev wK:=List PyData->(List PyData->Prop)->Prop
def Ab(K:aJ)(P:Addr->Prop)(H:Hp)(Q:VK)(zs:List PyData):Prop:=∀(a:Addr) (ys:List V) (H':Hp),aS H H'->H a=none->H' a=some (.lst ys)->cj (aR K (λc=>P c∨c=a) H') ys zs->Q (.ref a) H'
def Qh(K:aJ)(T:wK):Sp:=λvs H Q _=>∃(P:Addr->Prop) (ds:List PyData),(∀c,P c->∃o,H c=some o/\j9 o)/\cj (aR K P H) vs ds/\T ds (Ab K P H Q)
def Ac(K:aJ)(sp:Sp)(T:wK):Prop:=∀(vs:List V) (H:Hp) (Q:VK) (P:Addr->Prop) (ds:List PyData),(∀c,P c->∃o,H c=some o/\j9 o)->cj (aR K P H) vs ds->T ds (Ab K P H Q)->sp vs H Q E0
theorem Qi{K:aJ}{T:wK}:Ac K (Qh K T) T:=λ_ _ _ P ds h1 h2 h3=>⟨P,ds,h1,h2,h3⟩
def Ee(T:wK):Prop:=∀ds (Q Q':List PyData->Prop),(∀z,Q z->Q' z)->T ds Q->T ds Q'
@[reducible] def pP(T:wK)(xs:List DV)(st:aE)(Q:DC):Prop:=eQ xs st λds ay=>T ds λzs=>Q (.ref ay.length) (ay++[.live zs])
theorem Bt{J:KF}{sp:Sp}{T:wK}(h:Ac J.K sp T)(m:Ee T):AB J (λvs H Q=>sp (vs++[]) H Q E0) (pP T):=λH0 A0 G al H st vs ds Q R I hp q k=>by
 obtain⟨es,ay,E1,I1,F1,q1⟩:=kW I hp q;rw[aaL];refine h vs H R (Fb G al ay) es (λc hc=>I1.mr hc) F1 (m _ _ _ (λzs hz a ys H' s na ga r=>?_) q1)
 have hs:∀c,Fb G (al++[[a]]) (ay++[.live zs]) c->Fb G al ay c∨c=a:=λc hc=>by
  rcases hc with z | ⟨j,f,ce,e1,e2,e3,e4⟩
  ·exact .inl (.inl z)
  ·by_cases l:j < al.length
   ·rw[aaw l]at e1;rw[aaw (by rw[← I1.len];exact l)]at e3;exact .inl (.inr ⟨j,f,ce,e1,e2,e3,e4⟩)
   ·have hj:j=al.length:=by
     have:=(eA e1).1;rw[List.length_append]at this;simp at this;omega
    subst hj;rw[aaD (aai _),abY]at e1;cases e1;exact .inr (pT e2)
 obtain⟨E2,I2⟩:=I1.more (fp:=[a]) (c:=.live zs) (λb hb=>by rw[pT hb];exact na) (by simp) s (λb hb=>⟨.lst ys,by rw[pT hb];exact ga⟩) ⟨a,ys,rfl,ga,r.imp λy x z=>z.sub hs⟩;exact k (.ref ay.length) _ _ (.ref a) H' (E1.trans I1 E2) I2 ⟨a,[],by rw[← I1.len,List.getElem?_append_right (Nat.le_refl _),Nat.sub_self];rfl,rfl⟩ hz
section
variable {X:Cx} {Y:YK} {x:Str} {e:Expr} {es:List Expr} {p pos:Pos} {n:Nat} {d:mY}
theorem Bu{kk:Nat}{ps:List Str}{sp:Sp}{T:wK}(h:ic X.prog X.w X.K X.mg X.base c6 x kk ps sp)(hs:Ac X.K sp T)(m:Ee T)(hr:cg kk X.A)(hg:Gl X x)(ha:wa X Y (e::es) n d)(hdb:(x == ("__debug__" : Str))=false:=by decide)
  (he:starEach (e::es) X.env=(false,eval e X.env)::starEach es X.env:=by rfl) (hpl:(backTo pos (starEach es X.env)).any (·.1)=false:=by rfl):bN X Y (.Call (.Name x p) (e::es) [] pos) (zS (pP T) d):=by
 obtain⟨t,p1,a1⟩:=ha.h;exact⟨_,cI h hr hg p1 hdb he hpl,uu (Bt hs m) a1⟩
@[reducible] def Mq(T:List PyData->Prop)(dv:DV)(st:aE):Prop:=match dv with
 | .ref k=>match st[k]? with
  | some (.live zs)=>T zs
  | _=>False
 | _=>False
theorem yq{N:List Str}{body:List Stmt}{vs:List V}{ds:List PyData}{H:Hp}{Q:VK}{P:Addr->Prop}(hP:∀c,P c->∃o,H c=some o/\j9 o)(hv:cj (aR X.K P H) vs ds)
  (h:sX X y0 body {nx:=λ_ _=>False,rt:=Mq (Ab X.K P H Q)} (ds.map (λd=>some (DV.dat d))++List.replicate (N.length - ds.length) none) []) :
  ∃t,pV X body t/\t {nx:=λ_ H'=>Q .non H',rt:=Q} (start N vs) H:=by
 obtain⟨s,⟨t,p1,a1⟩,q⟩:=h;have I:DI (kf X y0) H (λ_=>False) P [] H []:=⟨rfl,List.nodup_nil,λ_ h=>by simp at h,λk a c h=>by simp at h,λc o _ e=>e,λ_ h=>by simp at h,λ_ h=>by simp at h,hP,trivial⟩;refine⟨t,p1,a1 H (λ_=>False) P [] H [] _ _ _ _ I ⟨by unfold start;simp[hv.1],λi dv hi=>?_⟩ q ⟨λenv' st' al' σ' H' e' I' E' q'=>q'.elim,λdv st' al' v H' e' I' d' q'=>?_,λenv' st' al' σ' H' e' I' E' q'=>q'.elim,λenv' st' al' σ' H' e' I' E' q'=>q'.elim⟩⟩
 ·by_cases l:i < ds.length
  ·rw[List.getElem?_append_left (by simpa using l),List.getElem?_map,gP l]at hi;cases hi;obtain⟨y,hy,hr⟩:=hv.at (gP l);refine⟨y,?_,?_⟩
   ·unfold start;rw[List.getElem?_append_left (by rw[List.length_map,hv.1];exact l),List.getElem?_map,hy];rfl
   ·exact hr.sub λc hc=>by
     rcases hc with z | ⟨k,f,ce,h,_⟩
     ·exact z
     ·simp at h
  ·rw[List.getElem?_append_right (by simp;omega)]at hi;rw[List.getElem?_replicate]at hi;split at hi
   ·cases hi
   ·cases hi
 ·cases dv with
  | dat d=>exact q'.elim
  | ref k =>
   obtain⟨a,r,ha,rfl⟩:=d';have q':(match st'[k]? with | some (.live zs)=>Ab X.K P H Q zs | _=>False):=q';split at q'
   ·rename_i zs hs;obtain⟨a',ys,e1,e2,e3⟩:=I'.cel k _ _ ha hs;cases e1;have ma:a∈al'.flatten:=ck ha aae
    have na:H a=none:=by
     rcases I'.nw a ma with z | z
     ·exact z.elim
     ·exact z
    refine q' a ys H' (λc o e=>I'.fr c o (λz=>z) e) na e2 (e3.imp λy x z=>z.sub λc hc=>?_);rcases hc with z | rfl
    ·exact .inl z
    ·exact .inr ⟨k,_,_,ha,aae,hs,rfl⟩
   ·exact q'.elim
theorem HU{body:List Stmt}{t:TS}{DD:eX}{env:bL}{st:aE}(h:pV X body t)(q:∀(H0:Hp) (A0 G:Addr->Prop) (al:List (List Addr)) (H:Hp) (σ:St) (D:Ends),DI (kf X Y) H0 A0 G al H st->mX X.K (Fb G al st) H al σ env->Bk (kf X Y) H0 A0 G al H st DD D->t D σ H):sX X Y body DD env st :=
 ⟨λDD env st=>∀(H0:Hp) (A0 G:Addr->Prop) (al:List (List Addr)) (H:Hp) (σ:St) (D:Ends),DI (kf X Y) H0 A0 G al H st->mX X.K (Fb G al st) H al σ env->Bk (kf X Y) H0 A0 G al H st DD D->t D σ H,⟨t,h,λH0 A0 G al H st σ env DD D I E q k=>q H0 A0 G al H σ D I E k⟩,q⟩
end
theorem rF:entryFor table "proto.unchain"=some Builtin.«proto.unchain»:=entryFor_of_tree (by kernel_rfl)
section
variable {prog:Program} {w:World} {A:Around} {E:Value->Shared->Prop} {s:Shared}
theorem Ef{e:Value}{a:Addr}{o:Obj}{vs:Array Value}{Q:Value->Shared->Prop}(ho:s.heap.get? a=some o)(hd:o.data=.fields vs)(h2:vs[2]?=some .none)(h:Q .none s):
  wpAny (model prog w) A (runValue (.builtin "proto.unchain" ⟨[e,.ref a,.ref a,.bool false],[]⟩)) Q E s:=by
 refine runValue_entry rF ?_;show wpAny _ _ (field (.ref a) 2 >>= _) _ _ _;refine aac (wpAny_field ho hd h2 ?_);exact aag ⟨_,rfl,h⟩
theorem rG{α:Type}{e a:Addr}{o oe:Obj}{vs ws:Array Value}{Q:α->Shared->Prop}(hh:A.handled=some (.ref a))(hne:a≠e)(ho:s.heap.get? a=some o)(hd:o.data=.fields vs)(h2:vs[2]?=some .none)(he:s.heap.get? e=some oe)(hde:oe.data=.fields ws)(hz:2 < ws.size)
  (h:E (.ref e) {s with heap:=s.heap.update e (Obj.mapFields (·.setIfInBounds 2 (.ref a)))}):wpAny (model prog w) A (raiseNew (.ref e):Sem α) Q E s:=by
 unfold raiseNew;refine wpAny_bind (wpAny_handled ?_);rw[hh];dsimp only;rw[if_pos (by simp[hne])];refine wpAny_bind (wpAny_holding (Ef ho hd h2 ?_));refine wpAny_bind (?_:wpAny _ _ (setField (.ref e) 2 (.ref a)) _ _ _);exact wpAny_setField he hde hz (wpAny_throw h)
end
section
variable {prog:Program} {w:World} {A:Around} {E:Value->Shared->Prop} {env:Env} {nm qn:Str} {C Nc:Addr} {bs bm:List Value} {hdct:Bool} {sn:List Str} {sub:List Value} {ab:Bool} {col:Option Bool} {dd:Option Addr} {k0 k1 k2 k3 k5:Option Value} {newId:String}
theorem yr{s:Shared}{x:Sem Value}{Q:Flow->Shared->Prop}{a:Addr}(hb:bm.contains (.type "BaseException")=true)(hh:A.handled=some (.ref a))
  (h:wpAny (model prog w) A x (λv s1=>∃e t0 dx o vs,v=.ref e/\s1.heap.get? C=some (excClassObj nm qn C Nc bs bm hdct sn sub ab col dd k0 k1 k2 k3 k5 newId) /\
   s1.heap.get? e=some {cls:=.ref C,dict:=dx,data:=.fields #[.ref t0,.none,.none,.none,.bool false,.none]}/\a≠e/\s1.heap.get? a=some o/\o.data=.fields vs/\vs[2]?=some .none/\E (.ref e) {s1 with heap:=s1.heap.update e (Obj.mapFields (·.setIfInBounds 2 (.ref a)))}) E s):wpAny (model prog w) A (raiseStmt env (some x) none) Q E s:=by
 have hB:(Value.ref C::bm).contains (.type "BaseException")=true:=by rw[ab7,hb,acM]
 unfold raiseStmt;refine wpAny_bind (wpAny_mono h (λv s1 z=>?_) λ_ _ z=>z);obtain⟨e,t0,dx,o,vs,rfl,gC,ge,hne,ga,gd,g2,hE⟩:=z;obtain⟨hp,g,d,tk,os⟩:=s1
 repeat (first | with_reducible refine aaF ge ?_ | (with_reducible refine ab1 gC ?_;rw[hB]) | with_reducible refine aaF gC ?_ | wp_step)
 exact rG hh hne ga gd g2 ge rfl (show(2:Nat) < 6 by decide) hE
end
def VR(X:Cx)(c:Addr)(E:XK)(E':Value->Shared->Prop):Prop:=∀(pins:List (Addr×Obj)) (σ:St) (H:Hp) (s:Shared) (a C dx:Addr),Inv X pins σ H s->X.s₀.heap.objs.size<=a->H a=some (.ext (XP C a (some dx)))->E (.ref C) (some dx) (del H a)->E' (.ref a) {s with heap:=s.heap.update a (Obj.mapFields (·.setIfInBounds 2 (.ref c)))}
def VS(X:Cx)(E:XK):Prop:=∀c:Addr,VR X c E (notedBy (model X.prog X.w) (X.A.mark (some (.ref c))) X.env (cameBackBy (model X.prog X.w) X.A X.env X.xe))
section
variable {P:Program} {w:World} {K:aJ} {mg:Str->Option Value} {base:Heap} {N:List Str} {qual:Str} {scope:Scope} {f:Addr} {cd:Value} {A:Around} {outer:List Env} {s₀:Shared} {H₀:Hp} {E:XK}
theorem Mr:VS (j8 (eh P w) P w K mg base N qual scope f cd A outer s₀ H₀ E) E:=by
 intro c pins σ H s a C dx I SG hHa hE
 let env:=envOfC qual scope s₀.heap.objs.size f cd
 have hf:env.frame=some s₀.heap.objs.size:=rfl;have SI:s₀.heap.objs.size<=a:=SG;obtain⟨⟨t0,hg⟩,_,_⟩:=I.hok a _ hHa;have hst:=I.stack
 have nfa:a∉ia (env::outer):=λhb=>by
  have:=I.iM a hb;rw[this]at hHa;cases hHa
 let hid:=a::ia (env::outer)
 let u:Obj->Obj:=Obj.mapFields (·.setIfInBounds 2 (.ref c))
 have other:∀b,b≠a->(s.heap.update a u).get? b=s.heap.get? b:=λb hb=>abt _ _ (abu hb)
 have Te:=aaZ u hg (abR (abE rfl _));have hin:∀v∈(env::outer),∀b,v.frame=some b->b∈hid:=λv hv b hb=>aal _ (aa6.mpr ⟨v,hv,hb⟩)
 have Tf:s.heap.FunFrames (hideAll s.heap hid) (env::outer):=ab4 hst hin;have hBa:(hideAll s.heap hid).get? a=none:=acq _ aae;have hBs:(hideAll s.heap hid).StaysIn (s.heap.update a u):=λb o q=>(other b λz=>by rw[z,hBa]at q;cases q).trans (of_hideAll _ q)
 have hFF:(s.heap.update a u).FunFrames (hideAll s.heap hid) (env::outer):=Tf.of_keeps λb o hb hnf=>⟨o,(other b λz=>by rw[z,hg]at hb;cases hb;exact hnf _ rfl).trans hb,rfl⟩
 have lib1:wpAny (model P w) ((j8 (eh P w) P w K mg base N qual scope f cd A outer s₀ H₀ E).A.mark (some (.ref c))) (noteFrame (.ref a) env) (λ_ s'=>∃h',s'={s with heap:=h'}/\Heap.NotedW (hideAll s.heap hid) (env::outer) a (.ref C) (.ref t0) (rawInt s₀.heap.objs.size) (s.heap.update a u) h') (λ_ _=>False) {s with heap:=s.heap.update a u}:=by
  unfold noteFrame;simp only[hf];refine wpAny_bind (wpAny_field Te (Obj.data_mapFields rfl _) (x:=.none) rfl ?_);rw[if_neg (by decide)];exact wpAny_entryW (I.ok.frames) hFF hf Te hBs hBa (Obj.data_mapFields rfl _) (by rw[Array.size_setIfInBounds];exact(show(1:Nat) < 6 by decide)) (a0:=.ref t0) rfl λh' L=>⟨h',rfl,L⟩
 refine aat (dD (pM (.ref a) env) lib1) (λ_ s' z=>?_) λ_ _ z=>z.elim
 obtain⟨⟨h1,rfl,n1,n2,n3,n4⟩,XF⟩:=z;obtain⟨oe,vs,T,oT,ts,te,tc,td,tv,tn,tne,tT,tdT,t3⟩:=n3;have tz:3 < ts.size:=(Array.getElem?_eq_some_iff.mp t3).1;unfold cameBackBy;refine wpAny_bind (wpAny_field te td tv ?_);rw[if_neg (by intro z;cases z)];unfold setFlight;refine wpAny_bind (wpAny_field te td tv ?_);rw[if_pos (by rfl)];refine wpAny_setField tT tdT tz ?_;have Eg:∀b,b≠T->(h1.update T (Obj.mapFields (·.setIfInBounds 3 (rawInt s₀.heap.objs.size)))).get? b=h1.get? b:=λb hb=>Heap.get?_update_other _ _ (Ne.symm hb)
 have selT:=aaZ (Obj.mapFields (·.setIfInBounds 3 (rawInt s₀.heap.objs.size))) tT (abR (abE tdT _))
 have noT:∀b o,h1.get? b=some o->(∀vs,o.data≠.fields vs)->b≠T:=λb o hb hnf z=>by
  rw[z,tT]at hb;cases hb;exact hnf ts tdT
 have m1:(hideAll s.heap hid).StaysIn (h1.update T (Obj.mapFields (·.setIfInBounds 3 (rawInt s₀.heap.objs.size)))):=λb o q=>(Eg b λz=>by rw[z,tn]at q;cases q).trans (n1 b o q)
 have m2:(h1.update T (Obj.mapFields (·.setIfInBounds 3 (rawInt s₀.heap.objs.size)))).FunFrames (hideAll s.heap hid) (env::outer):=n2.of_keeps λb o hb hnf=>⟨o,(Eg b (noT b o hb hnf)).trans hb,rfl⟩
 have m3:(h1.update T (Obj.mapFields (·.setIfInBounds 3 (rawInt s₀.heap.objs.size)))).TracedAtW (hideAll s.heap hid) a (.ref C) (.ref t0) (rawInt s₀.heap.objs.size):=⟨oe,vs,T,_,_,(Eg a (Ne.symm tne)).trans te,tc,td,tv,tn,tne,selT,Obj.data_mapFields tdT _,by simp[tz]⟩
 have XH:eU (h1.update T (Obj.mapFields (·.setIfInBounds 3 (rawInt s₀.heap.objs.size)))) a (some dx):=by
  obtain⟨od,gd,qd,cd⟩:eU h1 a (some dx):=eU.dk ⟨_,Te,rfl,λz=>nomatch z⟩ XF;exact⟨od,(Eg a (abu tne)).trans gd,qd,cd⟩
 show wpAny _ _ (leaving env (.ref a)) _ _ _;unfold leaving;refine wpAny_bind (wpAny_noteFrame_againW hf m3 ?_);have lib2:=wpAny_landsW (M:=model P w) (A:=(j8 (eh P w) P w K mg base N qual scope f cd A outer s₀ H₀ E).A) (E:=λ_ _=>False) (s:={s with heap:=h1.update T (Obj.mapFields (·.setIfInBounds 3 (rawInt s₀.heap.objs.size)))}) (Q:=λ_ s'=>∃h5,s'={s with heap:=h5}/\Heap.FlyingW (hideAll s.heap hid) (env::outer) a (.ref C) (.ref t0) h5/\(h1.update T (Obj.mapFields (·.setIfInBounds 3 (rawInt s₀.heap.objs.size)))).UpToSlots h5) ⟨m1,hBa,m2,m3⟩ λh5 Qe Mn=>⟨h5,rfl,Qe,Mn⟩
 refine aat (dD (eT (.ref a) none) lib2) (λ_ s' z=>?_) λ_ _ z=>z.elim
 obtain⟨⟨h2,rfl,⟨k1,_,⟨_,_,k2⟩,k3⟩,Mn⟩,dk⟩:=z
 have ni:∀b o,s₀.heap.get? b=some o->b∉ia outer->b∉hid:=λb o q nb hb=>by
  rcases aaB.mp hb with z | z
  ·exact absurd (aad q) (by rw[z];exact Nat.not_lt.mpr SI)
  ·rcases (aU hf).mp z with z | z
   ·exact absurd (aad q) (by rw[z];exact aaG _)
   ·exact nb z
 refine⟨a,C,t0,del H a,_,some dx,rfl,I.os,I.bare,⟨λb o q n nb=>?_,λb o q nb=>?_,λb o q hb=>?_,λb o q n=>?_,λb xs q=>?_,λb o u q=>?_,λb ps q=>?_,λb u q=>?_,⟨k1,hBa,k2,k3⟩⟩,XH.dk dk,hE⟩
 ·exact aaV _ (I.base.keep b o q n nb (by intro z;cases z)) (ni b o q nb)
 ·obtain⟨o',q'⟩:=I.base.there b o q (by intro z;cases z);exact⟨o',aaV _ q' (ni b o q nb)⟩
 ·obtain⟨sl,q'⟩:=I.base.slot b o q (I.ok.frf b hb) hb (by intro z;cases z);have hm:=(aU hf).mpr (.inr hb);obtain⟨_,o',ho',hn⟩:=hst.mem hm;rw[q']at ho';have e1:=aaq ho';obtain⟨Rw,q1⟩:=n4 b _ ((other b λz=>nfa (z ▸ hm)).trans q') (by rw[e1];exact hn);have J8:∀vs,o.data≠.fields vs:=by rw[← e1]at hn;exact hn
  obtain⟨sl',q2⟩:=Mn b _ ((Eg b (noT b _ q1 J8)).trans q1) J8;exact⟨sl',q2⟩
 ·have:=I.base.free b o q n (by intro z;cases z);unfold del;split
  ·rfl
  ·exact this
 ·have:=I.base.tups b xs q;rw[dM (aX this hHa (by intro z;cases z))];exact this
 ·have:=I.base.eQ b o u q;rw[dM (aX this hHa (by intro z;cases z))];exact this
 ·obtain⟨m1,e1⟩:=I.base.tbls b ps q;exact⟨m1,by rw[dM (aX e1 hHa (by intro z;cases z))];exact e1⟩
 ·have hba:b≠a:=λz=>by subst z;rw[vX]at q;cases q
  rw[dM hba]at q
  have nf:∀c v,H c=some v->c≠a->c∉hid:=λc v q' hca hb=>by
   rcases aaB.mp hb with z | z
   ·exact hca z
   ·have:=I.iM c z;rw[this]at q';cases q'
  have no:∀c,H c=some (.own b)->c≠a:=λc q'=>aX q' hHa (by intro z;cases z)
  refine(I.hok b u q).m4 (λc v hc q'=>aaV _ q' ?_) (λc q'=>by rw[dM (no c q')];exact q') λc xs q'=>by rw[dM (aX q' hHa (by intro z;cases z))];exact q'
  rcases hc with z | z
  ·rw[z];exact nf b u q hba
  ·exact nf c _ z (no c z)
end
def Qj(a:Addr):Heap->Prop:=λh=>∃o vs,h.get? a=some o/\o.data=.fields vs/\vs[2]?=some .none
def Ad(a C:Addr)(fs:List Str)(E:XK)(t:TA):TS:=λ_ σ H=>t σ H λvs H1=>H1 a=some (.ext (Qj a))/\vs.length=fs.length/\∀dx H2,H1 dx=none->aS H1 H2->H2 dx=some (.ext (XD dx (fs.zip vs)))->E (.ref C) (some dx) H2
def Tg(K:aJ)(CW:Addr)(C:Addr)(fs:List Str)(E:XK)(t:TA)(rest:Ends->St->XK):Ends->St->XK:=λD σ cls dd H2=>∃C1,cls=.ref C1/\((PySem.W.mroIn K C1 (.ref CW)=some true/\dd=none/\∀a,H2 a=none->Ad a C fs E t D σ (upd H2 a (.ext (Qj a))))∨(PySem.W.mroIn K C1 (.ref CW)=some false/\rest D σ cls dd H2))
section
variable {X:Cx} {CW C a:Addr} {fs:List Str} {cx x:Str} {np XI hpos cpos pos:Pos} {e:Expr} {es:List Expr} {t:TA} {E:XK} {E':Value->Shared->Prop} {hs:List ExceptHandler} {th:Ends->St->XK}
theorem Bv(hz:VR X a E E')(M:AY X.prog X.w X.K X.mg X.base C fs)(hr:cg 2 X.A)(hg:Gl X x)(hm:X.mg x=some (.ref C))(ok:X.Ok)(ha:PA (X.hand a E') (e::es) t)(hdb:(x == ("__debug__" : Str))=false:=by decide)
  (he:starEach (e::es) X.env=(false,eval e X.env)::starEach es X.env:=by rfl) (hpl:(backTo cpos (starEach es X.env)).any (·.1)=false:=by rfl) :
  PS (X.hand a E') (.Raise (some (.Call (.Name x np) (e::es) [] cpos)) none pos) (Ad a C fs E t):=by
 intro pins s σ H D I h;obtain⟨f,fd,M',F',b⟩:=M.ini;obtain⟨bx,hbx⟩:=M'.ex;obtain⟨bm,N,nm,qn,bs,sn,sub,ab,col,dd,k0,k1,k2,k3,k5,mN,hC,hn,T,_⟩:=mm I.mod.kin hbx;rw[arm_exec_Raise];refine aac (aba (yr (a:=a) (C:=C) (nm:=nm) (qn:=qn) (Nc:=N) (bs:=bs) (bm:=bm) (hdct:=true) (sn:=sn) (sub:=sub) (ab:=ab) (col:=col) (dd:=dd) (k0:=k0) (k1:=k1) (k2:=k2) (k3:=k3) (k5:=k5) (newId:=vS bx) (T.hasType (X:="BaseException") (b:=true) (qh bx)) rfl ?_));refine aac (aat (?_:wpAny (model X.prog X.w) (X.hand a E').A (eval (.Call (.Name x np) (e::es) [] cpos) X.env) _ E' s) (λv s1 z=>aac (aba (aag z))) λ_ _ z=>z);refine aaX (fM (X:=X.hand a E') I hg hm ?_ hdb);refine aaY (h₀:=X.base) I.ok.mod.kin M'.kp (bF (ha cpos pins s σ H _ I h) λus s1 ⟨vs,H1,I1,r,RN,hl,q⟩=>⟨I1.iL,?_⟩) he hpl;refine aat (sQ (X:=X.hand a E') (dvs:=[]) M' F' (cm:=false) ⟨(λz=>nomatch z),hr.dp,hr.un,hr.gd⟩ b .nil qb I1 r (by rw[hl,abB];have:=M.le;omega) (Q:=λv H2=>∃a1 dx,v=.ref a1/\s1.heap.objs.size<=a1/\H2 a1=some (.ext (XP C a1 (some dx)))/\a≠a1/\H2 a=some (.ext (Qj a))/\E (.ref C) (some dx) (del H2 a1)) λa1 hsz hn'=>⟨a1,C,vs++[],rfl,by rw[aaL];exact hl,M.s,M.no,uS,λdx hd hda=>⟨rfl,a1,dx,rfl,hsz,uS,nN RN hn',?_,?_⟩⟩) (λu s' z=>?_) λ_ _ z=>z
 ·rw[uN hda]at hd;have n1:=nN RN hn';rw[uN n1,uN (nN RN hd),uN n1];exact RN
 ·rw[uN hda]at hd;refine q dx _ hd (λc o z=>?_) ?_
  ·rw[dM (nN z hn'),uN (nN z hn'),uN (nN z hd),uN (nN z hn')];exact z
  ·rw[dM hda,uN hda,uS,aaL]
 ·obtain⟨v,H2,I2,rv,a1,dx,rfl,hsz,hHa,hne,hHc,hE⟩:=z;cases rv;obtain⟨⟨t0,g0⟩,_,_⟩:=I2.hok a1 _ hHa;obtain⟨⟨o,ws,c1,c2,c3⟩,_,_⟩:=I2.hok a _ hHc;exact⟨a1,t0,_,o,ws,rfl,I2.bk _ _ hC,g0,hne,c1,c2,c3,hz pins σ H2 s' a1 C dx (I2.fC ok) (aaA I1.sz hsz) hHa hE⟩
theorem Ms(hg:Gl X cx)(hm:X.mg cx=some (.ref CW))(q:PySem.W.ktsIn X.K CW "BaseException"=true)(hz:VS X E)(M:AY X.prog X.w X.K X.mg X.base C fs)(hrm:cg 2 X.A)(hgx:Gl X x)(hmx:X.mg x=some (.ref C))(ha:∀a E',PA (X.hand a E') (e::es) t)(hr:rE X hs th)
  (hd:(cx == ("__debug__" : Str))=false:=by decide) (hdb:(x == ("__debug__" : Str))=false:=by decide)
  (he:starEach (e::es) X.env=(false,eval e X.env)::starEach es X.env:=by rfl) (hpl:(backTo cpos (starEach es X.env)).any (·.1)=false:=by rfl) :
  rE X (.ExceptHandler (some (.Name cx np)) none [.Raise (some (.Call (.Name x XI) (e::es) [] cpos)) none pos] hpos::hs) (Tg X.K CW C fs E t th):=by
 intro pins σ H0 H D a C1 t1 dd B s0 s1 h L hE;obtain⟨C',hC',hE⟩:=hE;cases hC';have I5:=L.now s1.toks;obtain⟨oe,vs,g1,g2,g3,g4⟩:=L.fl.first;refine ab2 (abS ?_) (by intro q;cases q);refine fM (X:=X.hand a λ_ _=>False) (I5.hand a _) hg hm ?_ hd;rcases hE with⟨hsub,rfl,hE⟩ | ⟨hsub,hE⟩;rotate_left
 ·exact c7 I5.iL g1 g2 q hsub (hr pins σ H0 H D a C1 t1 dd B s0 s1 h L hE)
 refine c7 I5.iL g1 g2 q hsub (codeAny_handlers_suite ?_);have Mm:∀A3:Around,wpAny (model X.prog X.w) A3 (setFlight (.ref a) none) (λ_ s'=>∃h6,s'={s1 with heap:=h6}/\Heap.FlyingW B (X.env::X.outer) a (.ref C1) (.ref t1) h6/\h.UpToSlots h6) (λ_ _=>False) {s1 with heap:=h}:=λA3=>lands_againW (s:={s1 with heap:=h}) L.fl λh6 yp HN=>⟨h6,rfl,yp,HN⟩
 refine aat (dD (eT (.ref a) none) (Mm _)) (λ_ s6 z6=>?_) λ_ _ z=>z.elim
 obtain⟨⟨h6,rfl,yp,HN⟩,Tc⟩:=z6;obtain⟨Td,RL,VP,XJ⟩:eU h6 a none:=L.di.dk Tc;obtain⟨ws,gw,XM⟩:=XJ rfl;have I6:=L.inv yp.1 (L.sm.trans HN) s1.toks;obtain⟨oe,vs,g1,g2,g3,g4⟩:=yp.first;have nH:H a=none:=L.F.new;have nB:B.get? a=none:=yp.2.1
 have nf:a∉ia (X.env::X.outer):=λhm=>by
  obtain⟨_,o,ho',hn'⟩:=yp.2.2.1.mem hm;rw[g1]at ho';cases ho';exact hn' _ g3
 have hL:a≠X.env.locals:=λz=>nf ((aU L.hf).mpr (.inl z))
 have hfs:a∉X.fs:=λz=>nf ((aU L.hf).mpr (.inr z))
 have old:∀b o,s0.heap.get? b=some o->b≠a:=λb o e z=>by
  subst z;obtain⟨o',e'⟩:=L.F.there b o e nf;rw[nB]at e';cases e'
 have hcc:∀x c,X.env.cells.lookup x=some c->c≠a:=λx c e z=>by
  obtain⟨v,o,ho',hd'⟩:=I6.cell x c e;have AJ:h6.get? c=some o:=ho';rw[z,g1]at AJ;cases AJ;rw[g3]at hd';cases hd'
 have hpp:∀p∈X.pn++pins,p.1≠a:=λp hp z=>by
  have:=(L.I0.pin p hp).1;exact old _ _ this z
 have I7:=I6.adopt (φ:=Qj a) nH (L.RK a nB nf) hL hfs hcc hpp ⟨⟨Td,ws,RL,gw,XM⟩,⟨Td,RL⟩,λu v ⟨o,ws,q1,q2,q3⟩ k=>⟨o,ws,k o q1,q2,q3⟩⟩;refine aat (qO (Bv (hz a) M hrm hgx hmx L.I0.ok (ha a _) hdb he hpl) pins _ σ _ D (I7.hand a _) (hE a nH)) (λfl s9 h9=>?_) (λ_ _ z=>z)
 cases fl with
 | next =>
  obtain⟨σ',H9,I9,q9⟩:=h9;exact⟨σ',H9,I9.fC L.I0.ok,q9⟩
 | brk =>
  obtain⟨σ',H9,I9,q9⟩:=h9;exact⟨σ',H9,I9.fC L.I0.ok,q9⟩
 | cont =>
  obtain⟨σ',H9,I9,q9⟩:=h9;exact⟨σ',H9,I9.fC L.I0.ok,q9⟩
 | ret u =>
  obtain⟨v,σ',H9,I9,r9,q9⟩:=h9;exact⟨v,σ',H9,I9.fC L.I0.ok,r9,q9⟩
end
section
variable {prog:Program} {w:World} {A:Around} {E:Value->Shared->Prop} {s:Shared}
theorem Ae{h h':Heap}{it l:Addr}{items:Array Value}(x:h.IsList l items)(k:Heap.ExtBut it h h')(n:l≠it):h'.IsList l items:=by
 obtain⟨o,e,r⟩:=x;exact⟨o,k l o n e,r⟩
theorem tq{it l:Addr}{items:Array Value}(hne:l≠it):∀(n i:Nat) (s:Shared) (Q:List Value->Shared->Prop),s.heap.IsListIter it l i->s.heap.IsList l items->i + n<=items.size ->
  (∀h',h'.IsListIter it l (i + n)->Heap.SameBut it s.heap h'->Q ((items.toList.drop i).take n) {s with heap:=h'})->wpAny (model prog w) A (draw (.ref it) n) Q E s
 | 0,i,s,Q,hit,_,_,hQ=>by
  show wpAny _ _ (pure []) Q E s;exact wpAny_pure (by simpa using hQ s.heap hit (Heap.SameBut.refl ..))
 | n + 1,i,s,Q,hit,ht,hle,hQ=>by
  have hlt:i < items.size:=by omega
  show wpAny _ _ (pyNext (.ref it) >>= _) Q E s;refine wpAny_bind (wpAny_pyNext_list_item hit ht (x:=items[i]) (by simp[hlt]) λh₁ hit₁ hs₁=>?_);refine wpAny_bind (wpAny_holding (tq hne n (i + 1) _ _ hit₁ (Ae ht hs₁.extBut hne) (by omega) λh₂ hit₂ hs₂=>wpAny_pure ?_));have hd:items.toList.drop i=items[i]::items.toList.drop (i + 1):=by simp[List.drop_eq_getElem_cons,hlt]
  have:=hQ h₂ (by rw[show i + (n + 1)=i + 1 + n by omega];exact hit₂) (hs₁.trans hs₂);rw[hd,List.take_succ_cons]at this;exact this
theorem nE{l:Addr}{items:Array Value}{Q:List Value->Shared->Prop}(hh:A.handled=none)(ht:s.heap.IsList l items)
  (hQ:∀h',Heap.ExtBut s.heap.objs.size s.heap h'->Q items.toList {s with heap:=h'}):wpAny (model prog w) A (unpackItems (.ref l) items.size none) Q E s:=by
 have hlt:l≠s.heap.objs.size:=by obtain⟨o,ho,_⟩:=ht;exact aak (aad ho)
 have push:∀ob,(s.heap.push ob).IsList l items:=λob=>by obtain⟨o,e,r⟩:=ht;exact⟨o,aab _ e,r⟩
 unfold unpackItems;refine wpAny_bind ?_
 ·unfold notIterableAtAll;refine wpAny_bind (wpAny_specialOf ht.typeIs PySem.F.slot_list_iter.lookup ?_);refine wpAny_pure ?_;simp only[Bool.false_eq_true,if_false];refine wpAny_bind (wpAny_holding (wpAny_pyIter_list ht ?_));refine wpAny_bind (wpAny_holding (tq hlt items.size 0 _ _ ⟨_,Heap.get?_push_size _ rfl,rfl,rfl⟩ (push _) (by omega) λh₁ hit₁ hs₁=>?_))
  have hall:List.take items.size (List.drop 0 items.toList)=items.toList:=by
   rw[List.drop_zero];exact List.take_of_length_le (by simp)
  rw[hall];rw[if_neg (by simp)];have ht₁:h₁.IsList l items:=Ae (push _) hs₁.extBut hlt;refine wpAny_bind (wpAny_holding (wpAny_pyNext_list_end hh hit₁ ht₁ (by simp) λh₂ he₂=>?_));simp only[Option.isSome_none,Bool.false_eq_true,if_false];refine wpAny_pure (hQ h₂ λb o hb e=>he₂ b o hb (hs₁.extBut b o hb (Heap.get?_push_of_some _ e)))
theorem mB{env:Env}{elts:List Expr}{x1}{pos:Pos}{l:Addr}{items:Array Value}{Q:Unit->Shared->Prop}(hh:A.handled=none)(ht:s.heap.IsList l items)
  (hn:(assignEach elts env).length=items.size) (hstar:(assignEach elts env).findIdx? (·.1)=none)
  (h:∀h',Heap.ExtBut s.heap.objs.size s.heap h'->wpAny (model prog w) A (assignInOrder ((assignEach elts env).map (·.2)) items.toList) Q E {s with heap:=h'}) :
  wpAny (model prog w) A (assign (.Tuple elts x1 pos) env (.ref l)) Q E s:=by
 rw[assign_Tuple];refine wpAny_bind (wpAny_standAt ?_);unfold unpack;rw[hn,hstar];exact wpAny_bind (wpAny_holding (nE hh ht h))
end
section
variable {X:Cx} {pos:Pos}
def Th(K:aJ)(n:Nat)(t:B1):TG:=λv σ H Q=>∃a xs,v=.ref a/\bu K H a xs/\xs.length=n/\t xs σ H Q
theorem Mt{es:List Expr}{k:Nat}{t:B1}{n:Nat}(hc:X.calm=true)(h:Oh X es t)
  (hn:(assignEach es X.env).length=n:=by rfl) (hst:(assignEach es X.env).findIdx? (·.1)=none:=by rfl):PG X (.Tuple es k pos) (Th X.K n t):=by
 intro pins s σ H v u Q I r hw;obtain⟨a,xs,e1,hq,hl,hw⟩:=hw;subst e1;cases r;obtain⟨its,rv,ht,hz⟩:=I.list hq;refine mB (I.ok.hd hc) ht.isList (by simp[hn,← hl,rv.length]) hst λh' hx=>?_
 have I1:Inv X pins σ H {s with heap:=h'}:=I.kept (t':=s.toks) λb o e=>hx b o (aak (aad e)) e
 exact h pins _ σ H xs _ Q I1 (by simpa using rv) hw
end
end L2
local macro_rules | `(tactic| walk_at "cond")=>`(tactic| first | rfl | decide | omega | (show (0:Int) < _; decide) | (show (0:Int) < _; omega) | exact ⟨by decide,by decide⟩ | exact ⟨by omega,by omega⟩ | exact Or.inl ⟨by decide,by decide⟩ | exact Or.inr ⟨by decide,by decide⟩ | exact Or.inl ⟨by omega,by omega⟩ | exact Or.inr ⟨by omega,by omega⟩ | assumption)
local macro_rules | `(tactic| walk_at "rd1")=>`(tactic| first
 | refine⟨_,rfl,?_⟩
 | refine⟨_,_,rfl,rfl,?_⟩
 | (refine And.intro ?_ ?_;walk_at "cond"))
local macro_rules | `(tactic| walk_at "vc")=>`(tactic| try dsimp only [L2.zY,L2.DR,L2.DU,L2.Me,L2.S5,L2.yf,L2.pj,L2.eC,L2.sV,L2.oI,L2.Kj,L2.Dx,L2.wc,L2.LW,L2.uk,L2.oR,L2.jl,L2.sW,L2.PM,L2.Mh,L2.Dz,L2.DA,L2.SR,L2.FQ,L2.zP,L2.Hs,L2.DF,L2.DH,L2.DJ,L2.zS,L2.DK,L2.wj,L2.my,L2.yn,L2.HI,L2.HJ,L2.wF,L2.zU,L2.lH,L2.pP,L2.Mq,L2.uJ,List.zip_cons_cons,List.zip_nil_left,List.zip_nil_right,L2.yj,L2.yk,L2.Ov,L2.sub,L2.mZ,List.take_succ_cons,List.take_zero,L2.lj,L2.eQ,L2.Be,L2.j3,L2.Hk,L2.Hl,L2.zL,L2.Hy,L2.uv,L2.gN,L2.zX,L2.qz,L2.gT,L2.gS,L2.Md,L2.uw,L2.S4,L2.Bj,L2.Mf,L2.iw,L2.Mg,L2.P7,L2.HE,L2.oS,L2.uE,L2.wx,L2.wu,id_eq,List.map_cons,List.map_nil,List.replicate,List.getElem?_cons_zero,List.getElem?_cons_succ,List.set_cons_zero,List.set_cons_succ,List.nil_append,List.cons_append,List.length_cons,List.length_nil,Nat.zero_add,Nat.reduceAdd,Option.getD_some,Option.getD_none,List.getElem?_nil])
local macro_rules | `(tactic| walk_at "vs")=>`(tactic| try dsimp only [L2.zY,L2.DU,L2.Me,L2.S5,L2.yf,L2.pj,L2.eC,L2.sV,L2.oI,L2.Kj,L2.Dx,L2.wc,L2.LW,L2.uk,L2.oR,L2.jl,L2.sW,L2.PM,L2.Mh,L2.Dz,L2.DA,L2.SR,L2.FQ,L2.zP,L2.Hs,L2.DF,L2.DH,L2.DJ,L2.zS,L2.DK,L2.wj,L2.my,L2.yn,L2.HI,L2.HJ,L2.wF,L2.zU,L2.lH,L2.pP,L2.Mq,L2.uJ,List.zip_cons_cons,List.zip_nil_left,List.zip_nil_right,L2.yj,L2.yk,L2.Ov,L2.sub,L2.mZ,List.take_succ_cons,List.take_zero,L2.lj,L2.eQ,L2.Be,L2.j3,L2.Hk,L2.Hl,L2.zL,L2.Hy,L2.uv,L2.gN,L2.zX,L2.qz,L2.gT,L2.gS,L2.Md,L2.uw,L2.S4,L2.Bj,L2.Mf,L2.iw,L2.Mg,L2.P7,L2.HE,L2.oS,L2.uE,L2.wx,L2.wu,id_eq,List.map_cons,List.map_nil,List.replicate,List.getElem?_cons_zero,List.getElem?_cons_succ,List.set_cons_zero,List.set_cons_succ,List.nil_append,List.cons_append,List.length_cons,List.length_nil,Nat.zero_add,Nat.reduceAdd,Option.getD_some,Option.getD_none,List.getElem?_nil])
local macro_rules | `(tactic| walk_at "rd")=>`(tactic| repeat walk_at "rd1")
set_option maxHeartbeats 4000000
local macro_rules | `(tactic| walk_at "sc")=>`(tactic| exact ⟨rfl,rfl,rfl,by decide +kernel,rfl,by decide +kernel,by decide +kernel⟩)
namespace Mine
open PySem L2
theorem XN{α:Type}{P:List α->Prop}(h:P []):∀us:List α,us.length=0->P us:=λus hl=>by
 cases us with
 | nil=>exact h
 | cons a r=>exact absurd hl (abk _)
theorem FR{α:Type}{P:List α->Prop}(h:∀a0:α,P [a0]):∀us:List α,us.length=1->P us:=λus hl=>by
 cases us with
 | nil=>exact absurd hl.symm (abk _)
 | cons a r=>exact XN (P:=λr=>P (a::r)) (h a) r (abF hl)
theorem ln2{α:Type}{P:List α->Prop}(h:∀a0 a1:α,P [a0,a1]):∀us:List α,us.length=2->P us:=λus hl=>by
 cases us with
 | nil=>exact absurd hl.symm (abk _)
 | cons a r=>exact FR (P:=λr=>P (a::r)) (λa1=>h a a1) r (abF hl)
theorem wL{α:Type}{P:List α->Prop}(h:∀a0 a1 a2:α,P [a0,a1,a2]):∀us:List α,us.length=3->P us:=λus hl=>by
 cases us with
 | nil=>exact absurd hl.symm (abk _)
 | cons a r=>exact ln2 (P:=λr=>P (a::r)) (λa1 a2=>h a a1 a2) r (abF hl)
theorem Ox{α:Type}{P:List α->Prop}(h:∀a0 a1 a2 a3:α,P [a0,a1,a2,a3]):∀us:List α,us.length=4->P us:=λus hl=>by
 cases us with
 | nil=>exact absurd hl.symm (abk _)
 | cons a r=>exact wL (P:=λr=>P (a::r)) (λa1 a2 a3=>h a a1 a2 a3) r (abF hl)
theorem XO{α:Type}{P:List α->Prop}(h:∀a0 a1 a2 a3 a4:α,P [a0,a1,a2,a3,a4]):∀us:List α,us.length=5->P us:=λus hl=>by
 cases us with
 | nil=>exact absurd hl.symm (abk _)
 | cons a r=>exact Ox (P:=λr=>P (a::r)) (λa1 a2 a3 a4=>h a a1 a2 a3 a4) r (abF hl)
theorem XQ{α:Type}{xs:List α}(h:xs.length=1):∃a0,xs=[a0]:=FR (P:=λxs=>∃a0,xs=[a0]) (λa0=>⟨a0,rfl⟩) xs h
theorem HV{α:Type}{xs:List α}(h:xs.length=2):∃a0 a1,xs=[a0,a1]:=ln2 (P:=λxs=>∃a0 a1,xs=[a0,a1]) (λa0 a1=>⟨a0,a1,rfl⟩) xs h
theorem VT{α:Type}{xs:List α}(h:xs.length=3):∃a0 a1 a2,xs=[a0,a1,a2]:=wL (P:=λxs=>∃a0 a1 a2,xs=[a0,a1,a2]) (λa0 a1 a2=>⟨a0,a1,a2,rfl⟩) xs h
theorem Ti{α:Type}{xs:List α}(h:xs.length=4):∃a0 a1 a2 a3,xs=[a0,a1,a2,a3]:=Ox (P:=λxs=>∃a0 a1 a2 a3,xs=[a0,a1,a2,a3]) (λa0 a1 a2 a3=>⟨a0,a1,a2,a3,rfl⟩) xs h
theorem VU{α:Type}{xs:List α}(h:xs.length=5):∃a0 a1 a2 a3 a4,xs=[a0,a1,a2,a3,a4]:=XO (P:=λxs=>∃a0 a1 a2 a3 a4,xs=[a0,a1,a2,a3,a4]) (λa0 a1 a2 a3 a4=>⟨a0,a1,a2,a3,a4,rfl⟩) xs h
def tf(p:Program)(i:Nat):Stmt:=p.main.body.getD i (.Pass ⟨0,0,0,0⟩)
def top(i:Nat):Stmt:=tf PySem.Challenge.pw_stackwarden_k65_expressions_reckoned i
abbrev kq:Stmt:=top 34
abbrev kr:Stmt:=top 40
abbrev i4:Stmt:=top 36
abbrev iy:Stmt:=top 37
abbrev ku:Stmt:=top 38
abbrev nF:Stmt:=top 39
abbrev lI:Stmt:=top 31
abbrev lJ:Stmt:=top 33
abbrev ky:Stmt:=top 35
abbrev jJ:Stmt:=top 32
abbrev nG:Stmt:=top 5
abbrev jK:Stmt:=top 6
abbrev i5:Stmt:=top 20
abbrev lK:Stmt:=top 21
abbrev gr:Stmt:=iC (top 28) 3
abbrev dQ:Stmt:=iC (top 28) 5
abbrev cD:Stmt:=iC (top 28) 6
abbrev nI:Stmt:=top 14
abbrev nJ:Stmt:=top 16
abbrev lL:Stmt:=top 15
abbrev cQ:Stmt:=iC (top 28) 7
abbrev eZ:Stmt:=iC (top 26) 0
abbrev eD:Stmt:=iC (top 28) 4
abbrev cR:Stmt:=iC (top 28) 9
abbrev fE:Stmt:=iC (top 28) 8
abbrev gx:Stmt:=iC (top 27) 0
abbrev gy:Stmt:=iC (top 28) 2
abbrev fF:Stmt:=iC (top 28) 1
abbrev eE:Stmt:=iC (top 28) 0
abbrev kz:Stmt:=top 29
abbrev mC:Stmt:=top 41
structure ax(K:aJ)(C:Addr):Prop where
 cl:zz K C
 pQ:dC K C "depth"
 uO:dC K C "known"
structure aw(K:aJ)(C:Addr):Prop where
 cl:zz K C
 tD:dC K C "program"
 yt:dC K C "said"
 qJ:dC K C "left"
structure ak(K:aJ)(C:Addr):Prop where
 cl:zz K C
 Mu:dC K C "make"
 qL:dC K C "fields"
abbrev kX:Stmt:=inner (top 23)
inductive Kd where
 | any | num | whole (c:Nat) | raw (c m:Nat)
 deriving DecidableEq
def rH:Kd->List PyData
 | .any=>[.str "any"]
 | .num=>[.str "number"]
 | .whole c=>[.str "whole",.int c]
 | .raw c m=>[.str "raw",.int c,.int m]
abbrev FT:=List (Option Nat×List Kd)
structure Wf(ms:FT):Prop where
 ne:0 < ms.length
 few:ms.length<=8
 first:∀m,ms[0]?=some m->m.1=none
 ahead:∀(i:Nat) m,ms[i]?=some m->0 < i->∃j,m.1=some j/\j < i
def Tj(ms:FT)(c:Nat):Option Nat:=(ms[c]?).bind (·.1)
def Qk(ms:FT):Nat->Nat->List Nat
 | 0,_=>[]
 | n + 1,c=>c::(match Tj ms c with | none=>[] | some j=>Qk ms n j)
def yu(ms:FT)(c:Nat):List Nat:=Qk ms (c + 1) c
def rest(ms:FT):Option Nat->List Nat
 | none=>[]
 | some j=>yu ms j
def Tn(zs:List Nat):Kd->Prop
 | .any=>True
 | .num=>True
 | .whole c=>c < zs.length
 | .raw c m=>∃z,zs[c]?=some z/\m < 2 ^ z
theorem aC{H:Hp}{p:Addr}(h:H p=none)(o:HO):aS H (upd H p o):=λb u q=>by rw[uN (nN q h)];exact q
structure XR(sh:List (Option Nat×Nat))(zs:List Nat):Prop where
 len:sh.length=zs.length
 ne:0 < sh.length
 s0:sh[0]?=some (none,0)
 z0:zs[0]?=some 0
 six:∀z∈zs,z<=6
 go:∀(i:Nat) (s:Option Nat×Nat),0 < i->sh[i]?=some s->∃j z,s.1=some j/\j < i/\zs[j]?=some z/\zs[i]?=some (z + s.2)
structure Good(ms:FT)(zs:List Nat):Prop where
 wf:Wf ms
 len:ms.length=zs.length
 XS:∀m,ms[0]?=some m->m.2=[]
 z0:zs[0]?=some 0
 six:∀z∈zs,z<=6
 go:∀(i:Nat) m,0 < i->ms[i]?=some m->∃j z,m.1=some j/\j < i/\zs[j]?=some z/\zs[i]?=some (z + m.2.length)
 kds:∀(i:Nat) m,ms[i]?=some m->∀k∈m.2,Tn zs k
def ownOf(ms:FT)(c:Nat):List Kd:=match ms[c]? with | some m=>m.2 | none=>[]
def wM(ms:FT):List Nat->List Kd
 | []=>[]
 | e::r=>wM ms r++ownOf ms e
def fields(ms:FT)(c:Nat):List Kd:=wM ms (yu ms c)
theorem da.append{K:aJ}{H:Hp}:∀{xs ys:List V} {ds es:List PyData},da K H xs ds->da K H ys es->da K H (xs++ys) (ds++es)
 | [],_,[],_,_,r=>r
 | [],_,_::_,_,h,_=>nomatch h.1
 | _::_,_,[],_,h,_=>nomatch h.1
 | x::xs,ys,d::ds,es,h,r=>da.cons (h.2 0 x d rfl rfl) (da.append ⟨by simpa using h.1,λi a b h1 h2=>h.2 (i + 1) a b (by simpa using h1) (by simpa using h2)⟩ r)
abbrev qM(ks:List Kd):List PyData:=ks.map λk=>PyData.tuple (rH k)
def below(ms:FT):Kd->Kd->Bool
 | _,.any=>true
 | .num,.num=>true
 | .whole c,.whole d=>decide (d∈yu ms c)
 | .raw c m,.raw d n=>decide (c=d)&&decide (m&&&n=n)
 | _,_=>false
theorem Mv(k:Kd):PySem.SeqAt.shaped (.tuple (rH k))=true:=by
 cases k<;>(simp only[rH,PySem.SeqAt.shaped,PyData.canLay0,PyData.canLayAll0,PyData.depth,PyData.depthAll];decide +kernel)
theorem aQ.gn{K:aJ}{H:Hp}{v:V}{ds:List PyData}(h:aQ K H v (.tuple ds)):∃(a:Addr) (xs:List V),v=.ref a/\bV K H a xs/\da K H xs ds:=by
 cases h with
 | tup h hl hi=>exact⟨_,_,rfl,h,hl,hi⟩
theorem aQ.ba{K:aJ}{H:Hp}{v:V}{i:Int}(h:aQ K H v (.int i)):v=.int i:=by cases h;rfl
def fY(n:Int):Prop:=-2147483648<=n/\n<=2147483647
def fS(n:Int):Int:=(n + 2147483648) % 4294967296 - 2147483648
def rk(sign:Str)(a b:Int):Int :=
 if sign="add" then fS (a + b)else if sign="sub" then fS (a - b)else if sign="mul" then fS (a * b)
 else if sign="less" then(if a < b then 1 else 0)else if sign="same" then(if a=b then 1 else 0)else if sign="div" then fS (a.fdiv b)else a.fmod b
def parts(sign:Str):Prop:=sign="div"∨sign="rem"
instance (sign:Str):Decidable (parts sign):=by unfold parts;exact inferInstance
theorem Af(n:Int):-2147483648<=fS n/\fS n<=2147483647/\(n - fS n) % 4294967296=0:=by
 unfold fS;omega
theorem dv:¬ parts "add"/\¬ parts "sub"/\¬ parts "mul"/\¬ parts "less"/\¬ parts "same":=by decide +kernel
theorem yv(a b:Int):rk "add" a b=fS (a + b):=by unfold rk;rw[if_pos rfl]
theorem uP(a b:Int):rk "sub" a b=fS (a - b):=by unfold rk;rw[if_neg (by decide +kernel),if_pos rfl]
theorem yw(a b:Int):rk "mul" a b=fS (a * b):=by unfold rk;rw[if_neg (by decide +kernel),if_neg (by decide +kernel),if_pos rfl]
theorem uQ(a b:Int):rk "less" a b=if a < b then 1 else 0:=by unfold rk;rw[if_neg (by decide +kernel),if_neg (by decide +kernel),if_neg (by decide +kernel),if_pos rfl]
theorem uR(a b:Int):rk "same" a b=if a=b then 1 else 0:=by unfold rk;rw[if_neg (by decide +kernel),if_neg (by decide +kernel),if_neg (by decide +kernel),if_neg (by decide +kernel),if_pos rfl]
theorem yy(a b:Int):rk "div" a b=fS (a.fdiv b):=by unfold rk;rw[if_neg (by decide +kernel),if_neg (by decide +kernel),if_neg (by decide +kernel),if_neg (by decide +kernel),if_neg (by decide +kernel),if_pos rfl]
theorem yz(a b:Int):rk "rem" a b=a.fmod b:=by unfold rk;rw[if_neg (by decide +kernel),if_neg (by decide +kernel),if_neg (by decide +kernel),if_neg (by decide +kernel),if_neg (by decide +kernel),if_neg (by decide +kernel)]
theorem aQ.cn{K:aJ}{H:Hp}{v:V}{ds:List PyData}(h:aQ K H v (.list ds)):∃(a:Addr) (xs:List V),v=.ref a/\bu K H a xs/\da K H xs ds:=by
 cases h with
 | lst h hl hi=>exact⟨_,_,rfl,h,hl,hi⟩
theorem wN{H H':Hp}{a:Addr}(s:aS H H')(hn:H a=none)(o:HO):aS H (upd H' a o):=λc p e=>by
 rw[uN (nN e hn)];exact s c p e
def FU(t:Str×Kd):PyData:=.tuple [.str t.1,.tuple (rH t.2)]
def zy(h:List Kd×Kd):PyData:=.tuple [.list (qM h.1),.tuple (rH h.2)]
def ka(b sd:Addr)(bud:Int):List (Str×V):=[("program",.ref b),("said",.ref sd),("left",.int bud)]
def Bw(p:Int)(d:Addr):List (Str×V):=[("depth",.int p),("known",.ref d)]
theorem Oy{f:Str}{v:V}{r:List (Str×V)}:List.lookup f ((f,v)::r)=some v:=by simp
theorem Kw{f g:Str}{v:V}{r:List (Str×V)}(h:¬ g=f):List.lookup g ((f,v)::r)=List.lookup g r:=by
 have hb:(g == f)=false:=by simpa using h
 simp[List.lookup,hb]
theorem XT{f:Str}{v w:V}{r:List (Str×V)}:cV f w ((f,v)::r)=(f,w)::r:=by
 show(if f=f then _ else _)=_;rw[aap rfl]
theorem Mw{f g:Str}{v w:V}{r:List (Str×V)}(h:¬ f=g):cV g w ((f,v)::r)=(f,v)::cV g w r:=by
 show(if f=g then _ else _)=_;rw[aan h]
theorem wO{p:Int}{d:Addr}:(Bw p d).lookup ("known" : Str)=some (.ref d):=by
 unfold Bw;rw[Kw (by decide +kernel),Oy]
theorem Mx{p:Int}{d:Addr}:cV "known" (.ref d) (cV "depth" (.int p) [])=Bw p d:=by
 have e1:cV "depth" (.int p) []=([("depth",.int p)]:List (Str×V)):=rfl;rw[e1,Mw (by decide +kernel)];rfl
theorem yA{b sd:Addr}{bud:Int}:(ka b sd bud).lookup ("program" : Str)=some (.ref b):=Oy
theorem Ag{b sd:Addr}{bud:Int}:(ka b sd bud).lookup ("said" : Str)=some (.ref sd):=by
 unfold ka;rw[Kw (by decide +kernel),Oy]
theorem uT{b sd:Addr}{bud:Int}:(ka b sd bud).lookup ("left" : Str)=some (.int bud):=by
 unfold ka;rw[Kw (by decide +kernel),Kw (by decide +kernel),Oy]
theorem cE{b sd:Addr}{bud:Int}{m:Str}(h:¬ m∈(["program","said","left"]:List Str)):(ka b sd bud).lookup m=none:=by
 simp only[List.mem_cons,List.not_mem_nil,or_false,not_or]at h;unfold ka;rw[Kw h.1,Kw h.2.1,Kw h.2.2];rfl
theorem My{b sd:Addr}{bud:Int}:cV "left" (.int bud) (cV "said" (.ref sd) (cV "program" (.ref b) []))=ka b sd bud:=by
 have e1:cV "program" (.ref b) []=([("program",.ref b)]:List (Str×V)):=rfl;have e2:cV "said" (.ref sd) ([("program",.ref b)]:List (Str×V))=([("program",.ref b),("said",.ref sd)]:List (Str×V)):=by rw[Mw (by decide +kernel)];rfl
 rw[e1,e2,Mw (by decide +kernel),Mw (by decide +kernel)];rfl
theorem nK(v:Int){m:Int}{n:Nat}(e:m=(n:Int))(h:0 < n):∃c:Nat,v % m=(c:Int)/\c < n:=by
 subst e;have a:=Int.emod_nonneg v (show(n:Int)≠0 by omega);have b:=Int.emod_lt_of_pos v (show(0:Int) < (n:Int)by omega);exact⟨(v % (n:Int)).toNat,by omega,by omega⟩
theorem tE{α:Type}{fin:List PyData->aE->DC->Prop}{dg:pk}{dt:DT}{de:DX}{xs:List PyData}{env:bL}{ay:aE}{Q:DC}(as:List α)(g f:α->PyData)(hx:xs=as.map g)(hl:as.length<=1000000)
  (hs:∀(i:Nat) a,as[i]?=some a->∀(P:PyData->Prop) (N:Prop),P (f a)->dg (.dat (g a)) env ay λi3 bq=>bq=ay/\dt i3 ay λb je=>je=ay/\if b=true then de i3 ay λy pL=>lj y pL λdy xq=>xq=ay/\P dy else N)
  (hd:fin (as.map f) ay Q):SY fin dg dt de xs (λ_=>True) env ay Q:=by
 subst hx;refine PZ (λi ys=>ys=(as.take i).map f) (by rw[List.length_map];exact hl) (by simp) (λi ys d hd' hy=>?_) (λys hy=>?_)
 ·rw[aax]at hd'
  cases w:as[i]? with
  | none=>rw[w]at hd';cases hd'
  | some a =>
   rw[w]at hd';cases hd';refine hs i a w (λdy=>ys++[dy]=(as.take (i + 1)).map f) (ys=(as.take (i + 1)).map f) ?_;rw[hy,acb,w,aaU];rfl
 ·rw[aaf,acs]at hy;rw[hy];exact hd
structure kZ where
 tk:List (Str×Kd)
 gv:Kd
 bd:List PyData
 an:PyData
 nm:List Str
def vB(p:kZ):PyData:=.tuple [.list (p.tk.map FU),.tuple (rH p.gv),.list p.bd,p.an]
def Kx(ms:PyData)(ps:List kZ):PyData:=.tuple [ms,.list (ps.map vB)]
def yB(ps:List kZ):List (List Kd×Kd):=ps.map λp=>(p.tk.map (·.2),p.gv)
structure md where
 said:List Int
 left:Int
 env:Str->Option Int
inductive Res where
 | val (k:Int) | vals (ks:List Int) | ok | fault (k:Int) | gave (k:Int) | weary | rcd (ks:List Int)
def Res.HW:Res->Bool
 | .rcd _=>true
 | _=>false
def Res.bad:Res->Bool
 | .fault _=>true
 | .gave _=>true
 | .weary=>true
 | _=>false
inductive Tk where
 | E (t:PyData) | Es (ts:List PyData) | Cl (p:Nat) (ts:List PyData) | Tw (op:Str) (a b:PyData) | G (p:Nat) (ks:List Int) | Ss (ts:List PyData) | S (t:PyData) | N (t:PyData) | W (c:PyData) (b:List PyData) | T (a:List PyData) (x:Str) (b:List PyData)
def Tk.VV:Tk->Bool
 | .E _=>true
 | .Es _=>true
 | .Cl _ _=>true
 | .Tw _ _ _=>true
 | _=>false
def Bx(x:Str)(k:Int)(e:Str->Option Int):Str->Option Int:=λy=>if y=x then some k else e y
def wQ(op:Str):Prop:=op="add"∨op="sub"∨op="mul"∨op="less"∨op="same"∨parts op
inductive Act(m:List Str):PyData->PyData->Int->md->Res->md->Prop where
 | let' {x:Str} {kd e:PyData} {k:Int} {s:md}:x∈m->Act m (.tuple [.str "let",.str x,kd,e]) e k s .ok {s with env:=Bx x k s.env}
 | say {e:PyData} {k:Int} {s:md}:s.said.length < 1000000->Act m (.tuple [.str "say",e]) e k s .ok {s with said:=s.said++[k]}
inductive Arg:PyData->PyData->Prop where
 | let' {x:Str} {kd e:PyData}:Arg (.tuple [.str "let",.str x,kd,e]) e
 | say {e:PyData}:Arg (.tuple [.str "say",e]) e
inductive Ql:PyData->Prop where
 | if' {c:PyData} {a b:List PyData}:Ql (.tuple [.str "if",c,.list a,.list b])
 | wh {c:PyData} {b:List PyData}:Ql (.tuple [.str "while",c,.list b])
 | tr {x:Str} {a b:List PyData}:Ql (.tuple [.str "try",.list a,.str x,.list b])
def envOf(ns:List Str)(ks:List Int):Str->Option Int:=λx=>((ns.zip ks).find? λq=>decide (q.1=x)).map (·.2)
inductive Ev(ps:List kZ):Nat->Int->List Str->Tk->md->Res->md->Prop where
 | num {n d m k s}:Ev ps (n + 1) d m (.E (.tuple [.str "num",.int k])) s (.val k) s
 | var {n d m x k} {s:md}:s.env x=some k->Ev ps (n + 1) d m (.E (.tuple [.str "var",.str x])) s (.val k) s
 | callE {n d m p ts s r s'}:ts.length<=100->Ev ps n d m (.Cl p ts) s r s'->Ev ps (n + 1) d m (.E (.tuple [.str "call",.int (p:Nat),.list ts])) s r s'
 | two {n d m op a b s r s'}:wQ op->Ev ps n d m (.Tw op a b) s r s'->Ev ps (n + 1) d m (.E (.tuple [.str op,a,b])) s r s'
 | nil {n d m s}:Ev ps (n + 1) d m (.Es []) s (.vals []) s
 | cons {n d m t ts k ks s s1 s2}:Ev ps n d m (.E t) s (.val k) s1->Ev ps (n + 1) d m (.Es ts) s1 (.vals ks) s2->Ev ps (n + 1) d m (.Es (t::ts)) s (.vals (k::ks)) s2
 | consB {n d m t ts r s s1}:Ev ps n d m (.E t) s r s1->r.bad=true->Ev ps (n + 1) d m (.Es (t::ts)) s r s1
 | consC {n d m t ts k r s s1 s2}:Ev ps n d m (.E t) s (.val k) s1->Ev ps (n + 1) d m (.Es ts) s1 r s2->r.bad=true->Ev ps (n + 1) d m (.Es (t::ts)) s r s2
 | clB {n d m p ts r s s1}:Ev ps n d m (.Es ts) s r s1->r.bad=true->Ev ps (n + 1) d m (.Cl p ts) s r s1
 | clW {n d m p ts ks s s1}:Ev ps n d m (.Es ts) s (.vals ks) s1->s1.left<=0->Ev ps (n + 1) d m (.Cl p ts) s .weary s1
 | clD {n d m p ts ks s s1}:Ev ps n d m (.Es ts) s (.vals ks) s1->0 < s1.left->12<=d->Ev ps (n + 1) d m (.Cl p ts) s (.fault 2) {s1 with left:=s1.left - 1}
 | clG {n d m p ts ks r s s1 s2}:Ev ps n d m (.Es ts) s (.vals ks) s1->0 < s1.left->d < 12->Ev ps n (d + 1) [] (.G p ks) {s1 with left:=s1.left - 1} r s2->Ev ps (n + 1) d m (.Cl p ts) s r {s2 with env:=s1.env}
 | gB {n d m p ks r s s1 s2} {q:kZ}:ps[p]?=some q->ks.length=q.tk.length->Ev ps n d q.nm (.Ss q.bd) {s with env:=envOf (q.tk.map (·.1)) ks} .ok s1->Ev ps n d q.nm (.E q.an) s1 r s2->r.HW=false->Ev ps (n + 1) d m (.G p ks) s r s2
 | gG {n d m p ks k s s1} {q:kZ}:ps[p]?=some q->ks.length=q.tk.length->Ev ps n d q.nm (.Ss q.bd) {s with env:=envOf (q.tk.map (·.1)) ks} (.gave k) s1->Ev ps (n + 1) d m (.G p ks) s (.val k) s1
 | gX {n d m p ks r s s1} {q:kZ}:ps[p]?=some q->ks.length=q.tk.length->Ev ps n d q.nm (.Ss q.bd) {s with env:=envOf (q.tk.map (·.1)) ks} r s1->r.bad=true->(∀k,r≠.gave k)->Ev ps (n + 1) d m (.G p ks) s r s1
 | twB {n d m op a b r s s1}:Ev ps n d m (.Es [a,b]) s r s1->r.bad=true->Ev ps (n + 1) d m (.Tw op a b) s r s1
 | twG {n d m op a b k l s s1}:Ev ps n d m (.Es [a,b]) s (.vals [k,l]) s1->(parts op->l≠0)->fY k->fY l->Ev ps (n + 1) d m (.Tw op a b) s (.val (rk op k l)) s1
 | ssN {n d m s}:Ev ps (n + 1) d m (.Ss []) s .ok s
 | ssC {n d m t ts r s s1 s2}:Ev ps n d m (.S t) s .ok s1->Ev ps (n + 1) d m (.Ss ts) s1 r s2->Ev ps (n + 1) d m (.Ss (t::ts)) s r s2
 | ssB {n d m t ts r s s1}:Ev ps n d m (.S t) s r s1->r.bad=true->Ev ps (n + 1) d m (.Ss (t::ts)) s r s1
 | sG {n d m t e k r s s1 s2}:Ev ps n d m (.E e) s (.val k) s1->Act m t e k s1 r s2->Ev ps (n + 1) d m (.S t) s r s2
 | sB {n d m t e r s s1}:Arg t e->Ev ps n d m (.E e) s r s1->r.bad=true->Ev ps (n + 1) d m (.S t) s r s1
 | sN {n d m t r s s1}:Ql t->Ev ps n d m (.N t) s r s1->Ev ps (n + 1) d m (.S t) s r s1
 | twF {n d m op a b k s s1}:Ev ps n d m (.Es [a,b]) s (.vals [k,0]) s1->parts op->fY k->Ev ps (n + 1) d m (.Tw op a b) s (.fault 1) s1
 | newG {n d m c ts ks s s1}:ts.length<=100->Ev ps n d m (.Es ts) s (.vals ks) s1->Ev ps (n + 1) d m (.E (.tuple [.str "new",.int c,.list ts])) s (.rcd ks) s1
 | newB {n d m c ts r s s1}:ts.length<=100->Ev ps n d m (.Es ts) s r s1->r.bad=true->Ev ps (n + 1) d m (.E (.tuple [.str "new",.int c,.list ts])) s r s1
 | getG {n d m c t k ks s s1} {f:Nat}:Ev ps n d m (.E t) s (.rcd ks) s1->ks[f]?=some k->Ev ps (n + 1) d m (.E (.tuple [.str "get",c,.int (f:Int),t])) s (.val k) s1
 | getB {n d m c f t r s s1}:Ev ps n d m (.E t) s r s1->r.bad=true->Ev ps (n + 1) d m (.E (.tuple [.str "get",c,f,t])) s r s1
 | eiG {n d m c a b k r s s1 s2}:Ev ps n d m (.E c) s (.val k) s1->Ev ps n d m (.E (if k=0 then b else a)) s1 r s2->r.HW=false->Ev ps (n + 1) d m (.E (.tuple [.str "either",c,a,b])) s r s2
 | eiB {n d m c a b r s s1}:Ev ps n d m (.E c) s r s1->r.bad=true->Ev ps (n + 1) d m (.E (.tuple [.str "either",c,a,b])) s r s1
 | putG {n d m c t e k ks s s1 s2} {f:Nat}:Ev ps n d m (.E t) s (.rcd ks) s1->Ev ps n d m (.E e) s1 (.val k) s2->f < ks.length->Ev ps (n + 1) d m (.S (.tuple [.str "put",c,.int (f:Int),t,e])) s .ok s2
 | putB {n d m c f t e r s s1}:Ev ps n d m (.E t) s r s1->r.bad=true->Ev ps (n + 1) d m (.S (.tuple [.str "put",c,f,t,e])) s r s1
 | putC {n d m c f t e r ks s s1 s2}:Ev ps n d m (.E t) s (.rcd ks) s1->Ev ps n d m (.E e) s1 r s2->r.bad=true->Ev ps (n + 1) d m (.S (.tuple [.str "put",c,f,t,e])) s r s2
section
variable {ps:List kZ} {n:Nat} {d:Int} {m:List Str} {t:Tk} {s s':md} {r:Res}
theorem Act.arg{t e:PyData}{k:Int}(h:Act m t e k s r s'):Arg t e:=by cases h<;>constructor
theorem Ev.up(h:Ev ps n d m t s r s'):Ev ps (n + 1) d m t s r s':=by
 induction h with
 | num=>exact .num
 | var h=>exact .var h
 | nil=>exact .nil
 | ssN=>exact .ssN
 | callE a _ ih=>exact .callE a ih
 | two a _ ih=>exact .two a ih
 | cons _ _ i1 i2=>exact .cons i1 i2
 | consB _ a ih=>exact .consB ih a
 | consC _ _ a i1 i2=>exact .consC i1 i2 a
 | clB _ a ih=>exact .clB ih a
 | clW _ a ih=>exact .clW ih a
 | clD _ a b ih=>exact .clD ih a b
 | clG _ a b _ i1 i2=>exact .clG i1 a b i2
 | gB a b _ _ c i1 i2=>exact .gB a b i1 i2 c
 | gG a b _ ih=>exact .gG a b ih
 | gX a b _ c e ih=>exact .gX a b ih c e
 | twB _ a ih=>exact .twB ih a
 | twG _ a b c ih=>exact .twG ih a b c
 | ssC _ _ i1 i2=>exact .ssC i1 i2
 | ssB _ a ih=>exact .ssB ih a
 | sG _ a ih=>exact .sG ih a
 | sB a _ b ih=>exact .sB a ih b
 | sN a _ ih=>exact .sN a ih
 | twF _ a b ih=>exact .twF ih a b
 | newG a _ ih=>exact .newG a ih
 | newB a _ b ih=>exact .newB a ih b
 | getG _ a ih=>exact .getG ih a
 | getB _ a ih=>exact .getB ih a
 | eiG _ _ a i1 i2=>exact .eiG i1 i2 a
 | eiB _ a ih=>exact .eiB ih a
 | putG _ _ a i1 i2=>exact .putG i1 i2 a
 | putB _ a ih=>exact .putB ih a
 | putC _ _ a i1 i2=>exact .putC i1 i2 a
theorem Ev.mono{k:Nat}(h:Ev ps n d m t s r s')(l:n<=k):Ev ps k d m t s r s':=by
 induction l with
 | refl=>exact h
 | step _ ih=>exact ih.up
theorem Ev.rJ(h:Ev ps n d m t s r s'):t.VV=true->s'.env=s.env:=by
 induction h with
 | num=>intro _;rfl
 | var _=>intro _;rfl
 | nil=>intro _;rfl
 | callE _ _ ih=>intro _;exact ih rfl
 | two _ _ ih=>intro _;exact ih rfl
 | cons _ _ i1 i2=>intro _;rw[i2 rfl,i1 rfl]
 | consB _ _ ih=>intro _;exact ih rfl
 | consC _ _ _ i1 i2=>intro _;rw[i2 rfl,i1 rfl]
 | clB _ _ ih=>intro _;exact ih rfl
 | clW _ _ ih=>intro _;exact ih rfl
 | clD _ _ _ ih=>intro _;exact ih rfl
 | clG _ _ _ _ i1 _=>intro _;exact i1 rfl
 | twB _ _ ih=>intro _;exact ih rfl
 | twG _ _ _ _ ih=>intro _;exact ih rfl
 | twF _ _ _ ih=>intro _;exact ih rfl
 | newG _ _ ih=>intro _;exact ih rfl
 | newB _ _ _ ih=>intro _;exact ih rfl
 | getG _ _ ih=>intro _;exact ih rfl
 | getB _ _ ih=>intro _;exact ih rfl
 | eiG _ _ _ i1 i2=>intro _;rw[i2 rfl,i1 rfl]
 | eiB _ _ ih=>intro _;exact ih rfl
 | _=>intro z;cases z
end
structure RW where
 x:Addr
 dx:Addr
 b:Addr
 sd:Addr
 ms:PyData
 ps:List kZ
 H0:Hp
structure CL where
 c:Addr
 dc:Addr
 d:Addr
 dep:Int
 nm:List Str
structure To(ps:List kZ):Prop where
 few:ps.length<=100
 tks:∀q∈ps,q.tk.length<=100
 nd:∀q∈ps,(q.tk.map (·.1)).Nodup
 sub:∀q∈ps,∀x∈q.tk.map (·.1),x∈q.nm
 nms:∀q∈ps,q.nm.length<=900
structure fZ(K:aJ)(C:Addr)(R:RW)(H:Hp)(said:List Int)(left:Int):Prop where
 hx:H R.x=some (.ins C R.dx (ka R.b R.sd left))
 hs:H R.sd=some (.lst (said.map V.int))
 s0:aS R.H0 H
 pr:aQ K R.H0 (.ref R.b) (Kx R.ms R.ps)
 nx:R.H0 R.x=none
 ns:R.H0 R.sd=none
 wf:To R.ps
structure jL(CC:Addr)(R:RW)(L:CL)(H:Hp)(env:Str->Option Int):Prop where
 hc:H L.c=some (.ins CC L.dc (Bw L.dep L.d))
 hd:∃kvs:List (Key×V),H L.d=some (.dK kvs)/\(kvs.map (·.1)).Nodup/\(∀k∈kvs.map (·.1),∃y∈L.nm,k=Sum.inr y)/\∀y,fQ kvs (Sum.inr y)=(env y).map V.int
 nd:R.H0 L.d=none
 few:L.nm.length<=900
def j5(R:RW)(H H':Hp):Prop:=∀a o,a≠R.x->a≠R.sd->H a=some o->H' a=some o
def wR(R:RW)(L:CL)(H H':Hp):Prop:=∀a o,a≠R.x->a≠R.sd->a≠L.d->H a=some o->H' a=some o
def VW(f:Str)(k:Int)(dd:Option Addr)(H:Hp):Prop:=∃dx,dd=some dx/\H dx=some (.ext (XD dx [(f,.int k)]))
def qN(mg:Str->Option Value)(E:XK):Res->Hp->Prop
 | .fault k,H=>∀C dd,mg "Fault"=some (.ref C)->VW "number" k dd H->E (.ref C) dd H
 | .gave k,H=>∀C dd,mg "Gave"=some (.ref C)->VW "value" k dd H->E (.ref C) dd H
 | .weary,H=>∀C dd,mg "Weary"=some (.ref C)->E (.ref C) dd H
 | _,_=>True
def uU(Q:VK):Res->Hp->Prop
 | .val k,H=>Q (.int k) H
 | .ok,H=>Q .non H
 | _,_=>True
theorem uU.bad{Q:VK}{r:Res}{H:Hp}(h:r.bad=true):uU Q r H:=by cases r<;>first | trivial | cases h
section
variable {R:RW} {L:CL} {H H1 H2:Hp}
theorem j5.refl:j5 R H H:=λ_ _ _ _ h=>h
theorem j5.trans(a:j5 R H H1)(b:j5 R H1 H2):j5 R H H2:=λc o n1 n2 h=>b c o n1 n2 (a c o n1 n2 h)
theorem j5.of(s:aS H H1):j5 R H H1:=λc o _ _ h=>s c o h
theorem j5.s(k:j5 R H H1):wR R L H H1:=λc o n1 n2 _ h=>k c o n1 n2 h
theorem wR.refl:wR R L H H:=λ_ _ _ _ _ h=>h
theorem wR.trans(a:wR R L H H1)(b:wR R L H1 H2):wR R L H H2:=λc o n1 n2 n3 h=>b c o n1 n2 n3 (a c o n1 n2 n3 h)
end
section
variable {K:aJ} {C CC:Addr} {R:RW} {L:CL} {H H1:Hp} {said VX:List Int} {left Ah:Int} {env:Str->Option Int}
theorem fZ.xs(I:fZ K C R H said left):R.x≠R.sd:=aX I.hx I.hs (by intro z;cases z)
theorem jL.cx(J:jL CC R L H env)(I:fZ K C R H said left):L.c≠R.x:=aX J.hc I.hx (by intro z;injection z with _ _ h;have:=abb List.length h;cases this)
theorem jL.cs(J:jL CC R L H env)(I:fZ K C R H said left):L.c≠R.sd:=aX J.hc I.hs (by intro z;cases z)
theorem jL.dx(J:jL CC R L H env)(I:fZ K C R H said left):L.d≠R.x:=let ⟨_,h,_⟩:=J.hd;aX h I.hx (by intro z;cases z)
theorem jL.ds(J:jL CC R L H env)(I:fZ K C R H said left):L.d≠R.sd:=let ⟨_,h,_⟩:=J.hd;aX h I.hs (by intro z;cases z)
theorem jL.cd(J:jL CC R L H env):L.c≠L.d:=let ⟨_,h,_⟩:=J.hd;aX J.hc h (by intro z;cases z)
theorem jL.keep(J:jL CC R L H env)(I:fZ K C R H said left)(k:j5 R H H1):jL CC R L H1 env :=
 ⟨k _ _ (J.cx I) (J.cs I) J.hc,let ⟨kvs,h,a,b,c⟩:=J.hd;⟨kvs,k _ _ (J.dx I) (J.ds I) h,a,b,c⟩,J.nd,J.few⟩
theorem fZ.same(I:fZ K C R H said left)(s:aS H H1):fZ K C R H1 said left:=⟨s _ _ I.hx,s _ _ I.hs,I.s0.trans s,I.pr,I.nx,I.ns,I.wf⟩
theorem jL.same(J:jL CC R L H env)(s:aS H H1):jL CC R L H1 env:=⟨s _ _ J.hc,let ⟨kvs,h,a,b,c⟩:=J.hd;⟨kvs,s _ _ h,a,b,c⟩,J.nd,J.few⟩
theorem fZ.spent(I:fZ K C R H said left):fZ K C R (upd H R.x (.ins C R.dx (ka R.b R.sd Ah))) said Ah :=
 ⟨uS,(uN I.xs.symm).trans I.hs,λa o e=>(uN (nN e I.nx)).trans (I.s0 _ _ e),I.pr,I.nx,I.ns,I.wf⟩
theorem fZ.say(I:fZ K C R H said left)(k:Int):fZ K C R (upd H R.sd (.lst (said.map V.int++[.int k]))) (said++[k]) left :=
 ⟨(uN I.xs).trans I.hx,by rw[uS];simp,λa o e=>(uN (nN e I.ns)).trans (I.s0 _ _ e),I.pr,I.nx,I.ns,I.wf⟩
theorem fZ.dict(I:fZ K C R H said left)(J:jL CC R L H env)(o:HO):fZ K C R (upd H L.d o) said left :=
 ⟨(uN (J.dx I).symm).trans I.hx,(uN (J.ds I).symm).trans I.hs,λa o e=>(uN (nN e J.nd)).trans (I.s0 _ _ e),I.pr,I.nx,I.ns,I.wf⟩
end
theorem Mz{b sd:Addr}{l l1:Int}:cV "left" (.int l1) (ka b sd l)=ka b sd l1:=by
 unfold ka;rw[Mw (by decide +kernel),Mw (by decide +kernel),XT]
theorem qP{K:aJ}{H0 H:Hp}{v:V}{ds:List PyData}(h:aQ K H0 v (.tuple ds))(s:aS H0 H):∃(t:Addr) (ts:List V),v=.ref t/\bV K H t ts/\ts.length=ds.length/\∀(i:Nat) x d,ts[i]?=some x->ds[i]?=some d->aQ K H0 x d:=by
 obtain⟨t,ts,e,hT,hR⟩:=aQ.gn h;exact⟨t,ts,e,s.tup hT,hR.1,hR.2⟩
theorem aQ.cA{K:aJ}{H:Hp}{v:V}{x:Str}(h:aQ K H v (.str x)):v=.str x:=by cases h;rfl
theorem oU{K:aJ}{H0 H:Hp}{v:V}{w:Str}{a:PyData}(h:aQ K H0 v (.tuple [.str w,a]))(s:aS H0 H):∃(t:Addr) (x:V),v=.ref t/\bV K H t [.str w,x]/\aQ K H0 x a:=by
 obtain⟨t,ts,e,hT,hl,hR⟩:=qP h s;obtain⟨u0,u1,rfl⟩:=HV hl;have z:=aQ.cA (hR 0 u0 _ rfl rfl);subst z;exact⟨t,u1,e,hT,hR 1 u1 _ rfl rfl⟩
theorem lp{K:aJ}{H0 H:Hp}{v:V}{w:Str}{a b:PyData}(h:aQ K H0 v (.tuple [.str w,a,b]))(s:aS H0 H):∃(t:Addr) (x y:V),v=.ref t/\bV K H t [.str w,x,y]/\aQ K H0 x a/\aQ K H0 y b:=by
 obtain⟨t,ts,e,hT,hl,hR⟩:=qP h s;obtain⟨u0,u1,u2,rfl⟩:=VT hl;have z:=aQ.cA (hR 0 u0 _ rfl rfl);subst z;exact⟨t,u1,u2,e,hT,hR 1 u1 _ rfl rfl,hR 2 u2 _ rfl rfl⟩
theorem oV{K:aJ}{H0 H:Hp}{v:V}{w:Str}{a b c:PyData}(h:aQ K H0 v (.tuple [.str w,a,b,c]))(s:aS H0 H):∃(t:Addr) (x y z:V),v=.ref t/\bV K H t [.str w,x,y,z]/\aQ K H0 x a/\aQ K H0 y b/\aQ K H0 z c:=by
 obtain⟨t,ts,e,hT,hl,hR⟩:=qP h s;obtain⟨u0,u1,u2,u3,rfl⟩:=Ti hl;have z:=aQ.cA (hR 0 u0 _ rfl rfl);subst z;exact⟨t,u1,u2,u3,e,hT,hR 1 u1 _ rfl rfl,hR 2 u2 _ rfl rfl,hR 3 u3 _ rfl rfl⟩
def endOf:Res->Option (List V)
 | .val k=>some [.str "gave",.int k]
 | .fault k=>some [.str "fault",.int k]
 | .weary=>some [.str "weary"]
 | _=>none
theorem Ai{op:Str}(h:wQ op):op≠"num"/\op≠"var"/\op≠"call"/\op≠"new"/\op≠"get"/\op≠"either":=by
 rcases h with rfl | rfl | rfl | rfl | rfl | rfl | rfl<;>decide +kernel
theorem HY{K:aJ}{i:Nat}{a:Addr}{xs:List V}{σ:St}{H:Hp}{R:It->Hp->Prop}{A B:Prop}(e:σ[i]?=some (some (.ref a)))(hA:A∨B)(h1:A->bu K H a xs)(h2:B->bV K H a xs)(h:∀J,(J=FN K a/\A)∨(J=Oi K a/\B)->R J H):SU K (Gw i) σ H R:=by
 refine⟨_,e,a,rfl,?_⟩;rcases hA with hA | hA
 ·exact .inl ⟨⟨_,h1 hA⟩,h _ (.inl ⟨rfl,hA⟩)⟩
 ·exact .inr ⟨⟨_,h2 hA⟩,h _ (.inr ⟨rfl,hA⟩)⟩
theorem Qm{own:Nat}{ix:List Nat}{σ:St}{K:aJ}{J:It}{a:Addr}{xs:List V}{g:TG}{tt:TT}{te:TE}{H1:Hp}{Q:VK}{D:Addr}{A B:Prop}(hJ:(J=FN K a/\A)∨(J=Oi K a/\B))(Pv:Nat->List V->Hp->Prop)(hn:xs.length<=sizeLine)(h0:Pv 0 [] (upd H1 D (.lst [])))(hD:∀i ys H,i<=xs.length->Pv i ys H->H D=some (.lst ys)/\ys.length<=i/\(A->bu K H a xs)/\(B->bV K H a xs))
  (hs:∀i x ys H2,xs[i]?=some x->Pv i ys H2->g x (df own ix σ) H2 λσ2 H4=>σ2.drop own=(ix.map λi=>(σ[i]?).getD none)/\tt σ2 H4 λb H5=>if b=true then te σ2 H5 λv H6=>H6 D=some (.lst ys)/\Pv (i + 1) (ys++[v]) (upd H6 D (.lst (ys++[v])))else Pv (i + 1) ys H5)
  (hd:∀ys H2,Pv xs.length ys H2->Q (.ref D) H2) :
  Oj J own ix σ g tt te D H1 Q:=by
 rcases hJ with⟨rfl,h⟩ | ⟨rfl,h⟩
 ·exact mj Pv hn h0 (λi ys H hi p=>⟨(hD i ys H hi p).1,(hD i ys H hi p).2.1,(hD i ys H hi p).2.2.1 h⟩) hs hd
 ·exact C3 Pv hn h0 (λi ys H hi p=>⟨(hD i ys H hi p).1,(hD i ys H hi p).2.1,(hD i ys H hi p).2.2.2 h⟩) hs hd
structure VY(K:aJ)(C:Addr)(R:RW)(L:CL)(n:Nat)(ts:List PyData)(s s':md)(r:Res)(H:Hp)(D:Addr)(i:Nat)(zs:List V)(H2:Hp)(si:md)(ks:List Int)(r':Res):Prop where
 ez:zs=ks.map V.int
 len:ks.length=i
 kp:j5 R H H2
 hD:H2 D=some (.lst zs)
 I:fZ K C R H2 si.said si.left
 env:si.env=s.env
 ev:Ev R.ps (n + 1) L.dep L.nm (.Es (ts.drop i)) si r' s'
 rr:(∃ks',r'=.vals ks'/\r=.vals (ks++ks'))∨(r'=r/\r.bad=true)
section
variable {K:aJ} {C CC:Addr} {R:RW} {L:CL} {H H1:Hp} {said:List Int} {left:Int} {env:Str->Option Int} {a:Addr} {xs:List V}
theorem j5.tup(k:j5 R H H1)(I:fZ K C R H said left)(h:bV K H a xs):bV K H1 a xs:=by
 rcases h with(h | ⟨o,h⟩) | h
 ·exact .inl (.inl (k _ _ (aX h I.hx (by intro z;cases z)) (aX h I.hs (by intro z;cases z)) h))
 ·exact .inl (.inr ⟨o,k _ _ (aX h I.hx (by intro z;cases z)) (aX h I.hs (by intro z;cases z)) h⟩)
 ·exact .inr h
theorem fZ.h0(I:fZ K C R H said left)(h:H a=none):R.H0 a=none:=by
 cases e:R.H0 a with
 | none=>rfl
 | some o=>rw[I.s0 _ _ e]at h;cases h
theorem fZ.other(I:fZ K C R H said left)(nx:a≠R.x)(ns:a≠R.sd)(n0:R.H0 a=none)(o:HO):fZ K C R (upd H a o) said left :=
 ⟨(uN nx.symm).trans I.hx,(uN ns.symm).trans I.hs,λc u e=>(uN (nN e n0)).trans (I.s0 _ _ e),I.pr,I.nx,I.ns,I.wf⟩
theorem j5.new(k:j5 R H H1)(n:H a=none)(o:HO):j5 R H (upd H1 a o):=λc u n1 n2 e=>(uN (nN e n)).trans (k c u n1 n2 e)
end
theorem Ev.XU{ps:List kZ}{n:Nat}{d:Int}{m:List Str}{ts:List PyData}{s s':md}{r:Res}(h:Ev ps n d m (.Es ts) s r s'):(∃ks,r=.vals ks)∨r.bad=true:=by
 cases h with
 | nil=>exact .inl ⟨_,rfl⟩
 | cons _ _=>exact .inl ⟨_,rfl⟩
 | consB _ b=>exact .inr b
 | consC _ _ b=>exact .inr b
theorem j5.VZ{R:RW}{H:Hp}{o:HO}:j5 R H (upd H R.x o):=λ_ _ n _ h=>(uN n).trans h
theorem qQ{p:Int}{d:Addr}:(Bw p d).lookup ("depth" : Str)=some (.int p):=Oy
theorem Eh:∀{l:List Key} {nm:List Str},l.Nodup->(∀k∈l,∃y∈nm,k=Sum.inr y)->l.length<=nm.length
 | [],_,_,_=>aaQ _
 | k::r,nm,nd,h=>by
  obtain⟨y,hy,e⟩:=h k aae;obtain⟨n1,n2⟩:=abZ.mp nd
  have z:=Eh (l:=r) (nm:=nm.erase y) n2 λk' hk'=>by
   obtain⟨y',hy',e'⟩:=h k' (aal _ hk');refine⟨y',(List.mem_erase_of_ne λw=>n1 ?_).mpr hy',e'⟩;rw[e,← w,← e'];exact hk'
  rw[List.length_erase_of_mem hy]at z;have:=List.length_pos_of_mem hy;rw[aaE];omega
theorem tF{kvs:List (Key×V)}{k:Key}{v:V}(nd:(kvs.map (·.1)).Nodup):((putK kvs k v).map (·.1)).Nodup/\∀k'∈(putK kvs k v).map (·.1),k'∈kvs.map (·.1)∨k'=k:=by
 unfold putK;split
 ·have e:(kvs.map λkv=>if kv.1=k then(kv.1,v)else kv).map (·.1)=kvs.map (·.1):=by
   rw[aa7];refine List.map_congr_left λp _=>?_
   show(if p.1=k then(p.1,v)else p).1=p.1;split<;>rfl
  rw[e];exact⟨nd,λk' h=>.inl h⟩
 ·rename_i h;rw[List.map_append];refine⟨List.nodup_append.mpr ⟨nd,by simp,λa ha b hb w=>h ?_⟩,λk' hk'=>?_⟩
  ·rw[List.map_singleton,aaN]at hb;obtain⟨p,hp,e⟩:=acr.mp ha;exact List.any_eq_true.mpr ⟨p,hp,aa0 (e.trans (w.trans hb))⟩
  ·rcases aaK.mp hk' with z | z
   ·exact .inl z
   ·rw[List.map_singleton,aaN]at z;exact .inr z
theorem jL.put{CC:Addr}{R:RW}{L:CL}{H:Hp}{env:Str->Option Int}(J:jL CC R L H env){x:Str}(hx:x∈L.nm)(k:Int):∃o:HO,v5 H L.d (.str x) (.int k) (upd H L.d o)/\jL CC R L (upd H L.d o) (Bx x k env):=by
 obtain⟨kvs,h,nd,hk,hv⟩:=J.hd;have l:=Eh nd hk;rw[aaf]at l;have f:=J.few;refine⟨_,v5.k (k:=Sum.inr x) h (sK (by omega)),⟨(uN J.cd).trans J.hc,⟨_,uS,(tF nd).1,λk' hk'=>?_,λy=>?_⟩,J.nd,J.few⟩⟩
 ·rcases (tF nd).2 k' hk' with z | z
  ·exact hk k' z
  ·exact⟨x,hx,z⟩
 ·rw[qp];unfold Bx;by_cases e:y=x
  ·rw[aap (by rw[e]),aap e];rfl
  ·rw[aan (λz=>e (abI z)),aan e];exact hv y
theorem wR.XW{R:RW}{L:CL}{H:Hp}{o:HO}:wR R L H (upd H L.d o):=λ_ _ _ _ n h=>(uN n).trans h
theorem wR.XX{R:RW}{L:CL}{H:Hp}{o:HO}:wR R L H (upd H R.sd o):=λ_ _ _ n _ h=>(uN n).trans h
theorem wR.tup{K:aJ}{C CC:Addr}{R:RW}{L:CL}{H H1:Hp}{said:List Int}{left:Int}{env:Str->Option Int}{a:Addr}{xs:List V}(k:wR R L H H1)(I:fZ K C R H said left)(J:jL CC R L H env)(h:bV K H a xs):bV K H1 a xs:=by
 obtain⟨kvs,hd,_⟩:=J.hd;rcases h with(h | ⟨o,h⟩) | h
 ·exact .inl (.inl (k _ _ (aX h I.hx (by intro z;cases z)) (aX h I.hs (by intro z;cases z)) (aX h hd (by intro z;cases z)) h))
 ·exact .inl (.inr ⟨o,k _ _ (aX h I.hx (by intro z;cases z)) (aX h I.hs (by intro z;cases z)) (aX h hd (by intro z;cases z)) h⟩)
 ·exact .inr h
theorem Ev.B4{ps:List kZ}{n:Nat}{d:Int}{m:List Str}{t:PyData}{s s':md}{r:Res}(h:Ev ps (n + 1) d m (.S t) s r s'):(∃e r1 s1,Arg t e/\Ev ps n d m (.E e) s r1 s1/\((∃k,r1=.val k/\Act m t e k s1 r s')∨(r1.bad=true/\r1=r/\s1=s')))∨(Ql t/\Ev ps n d m (.N t) s r s')∨∃c f t' e,t=.tuple [.str "put",c,f,t',e]/\((∃ks k s1,∃j:Nat,f=.int (j:Int)/\Ev ps n d m (.E t') s (.rcd ks) s1/\Ev ps n d m (.E e) s1 (.val k) s'/\j < ks.length/\r=.ok)∨(Ev ps n d m (.E t') s r s'/\r.bad=true)∨∃ks s1,Ev ps n d m (.E t') s (.rcd ks) s1/\Ev ps n d m (.E e) s1 r s'/\r.bad=true):=by
 cases h with
 | sG h a=>exact .inl ⟨_,_,_,a.arg,h,.inl ⟨_,rfl,a⟩⟩
 | sB a h b=>exact .inl ⟨_,_,_,a,h,.inr ⟨b,rfl,rfl⟩⟩
 | sN a h=>exact .inr (.inl ⟨a,h⟩)
 | putG a b c=>exact .inr (.inr ⟨_,_,_,_,rfl,.inl ⟨_,_,_,_,rfl,a,b,c,rfl⟩⟩)
 | putB a b=>exact .inr (.inr ⟨_,_,_,_,rfl,.inr (.inl ⟨a,b⟩)⟩)
 | putC a b c=>exact .inr (.inr ⟨_,_,_,_,rfl,.inr (.inr ⟨_,_,a,b,c⟩)⟩)
theorem Ev.Tp{ps:List kZ}{n:Nat}{d:Int}{m:List Str}{t:Tk}{s s':md}{r:Res}(h:Ev ps n d m t s r s'):(t.VV=true∨∃p ks,t=.G p ks)->∀k,r≠.gave k:=by
 induction h with
 | num=>intro _ _ z;cases z
 | var _=>intro _ _ z;cases z
 | nil=>intro _ _ z;cases z
 | callE _ _ ih=>intro _;exact ih (.inl rfl)
 | two _ _ ih=>intro _;exact ih (.inl rfl)
 | cons _ _ _ _=>intro _ _ z;cases z
 | consB _ _ ih=>intro _;exact ih (.inl rfl)
 | consC _ _ _ _ i2=>intro _;exact i2 (.inl rfl)
 | clB _ _ ih=>intro _;exact ih (.inl rfl)
 | clW _ _ _=>intro _ _ z;cases z
 | clD _ _ _ _=>intro _ _ z;cases z
 | clG _ _ _ _ _ i2=>intro _;exact i2 (.inr ⟨_,_,rfl⟩)
 | gB _ _ _ _ _ _ i2=>intro _;exact i2 (.inl rfl)
 | gG _ _ _ _=>intro _ _ z;cases z
 | gX _ _ _ _ h _=>intro _;exact h
 | twB _ _ ih=>intro _;exact ih (.inl rfl)
 | twG _ _ _ _ _=>intro _ _ z;cases z
 | twF _ _ _ _=>intro _ _ z;cases z
 | newG _ _ _=>intro _ _ z;cases z
 | newB _ _ _ ih=>intro _;exact ih (.inl rfl)
 | getG _ _ _=>intro _ _ z;cases z
 | getB _ _ ih=>intro _;exact ih (.inl rfl)
 | eiG _ _ _ _ i2=>intro _;exact i2 (.inl rfl)
 | eiB _ _ ih=>intro _;exact ih (.inl rfl)
 | _=>intro z;rcases z with z | ⟨_,_,z⟩<;>cases z
theorem Aj:∀(ns:List Str) (ks:List Int) (y:Str),fQ ((ns.zip (ks.map V.int)).map λp=>((Sum.inr p.1:Key),p.2)) (Sum.inr y)=(envOf ns ks y).map V.int
 | [],_,_=>rfl
 | _::_,[],_=>rfl
 | a::ns,k::ks,y=>by
  have ih:=Aj ns ks y;unfold envOf at ih ⊢;show fQ (((Sum.inr a:Key),V.int k)::((ns.zip (ks.map V.int)).map λp=>((Sum.inr p.1:Key),p.2))) (Sum.inr y)=(((a,k)::ns.zip ks).find? _ |>.map _).map _;by_cases e:a=y
  ·rw[cW (by rw[e]),List.find?_cons_of_pos (by simpa using e)];rfl
  ·rw[cX (λz=>e (Sum.inr.inj z)),List.find?_cons_of_neg (by simpa using e)];exact ih
theorem tG{ns:List Str}{ks:List Int}(h:ks.length=ns.length):((ns.zip (ks.map V.int)).map λp=>((Sum.inr p.1:Key),p.2)).map (·.1)=ns.map Sum.inr:=by
 rw[aa7];show(ns.zip (ks.map V.int)).map (λp=>(Sum.inr p.1:Key))=_;rw[show(λp:Str×V=>(Sum.inr p.1:Key))=Sum.inr ∘ Prod.fst from rfl,← aa7,List.map_fst_zip (by rw[aaf];omega)]
def Tk.XY:Tk->Bool
 | .E _=>true
 | .Cl _ _=>true
 | .Tw _ _ _=>true
 | .G _ _=>true
 | _=>false
theorem Ev.vR{ps:List kZ}{n:Nat}{d:Int}{m:List Str}{t:Tk}{s s':md}{r:Res}(h:Ev ps n d m t s r s'):t.XY=true->(∃k,r=.val k)∨r.bad=true∨r.HW=true:=by
 induction h with
 | num=>intro _;exact .inl ⟨_,rfl⟩
 | var _=>intro _;exact .inl ⟨_,rfl⟩
 | callE _ _ ih=>intro _;exact ih rfl
 | two _ _ ih=>intro _;exact ih rfl
 | clB _ b _=>intro _;exact .inr (.inl b)
 | clW _ _ _=>intro _;exact .inr (.inl rfl)
 | clD _ _ _ _=>intro _;exact .inr (.inl rfl)
 | clG _ _ _ _ _ i2=>intro _;exact i2 rfl
 | gB _ _ _ _ _ _ i2=>intro _;exact i2 rfl
 | gG _ _ _ _=>intro _;exact .inl ⟨_,rfl⟩
 | gX _ _ _ b _ _=>intro _;exact .inr (.inl b)
 | twB _ b _=>intro _;exact .inr (.inl b)
 | twG _ _ _ _ _=>intro _;exact .inl ⟨_,rfl⟩
 | twF _ _ _ _=>intro _;exact .inr (.inl rfl)
 | newG _ _ _=>intro _;exact .inr (.inr rfl)
 | newB _ _ b _=>intro _;exact .inr (.inl b)
 | getG _ _ _=>intro _;exact .inl ⟨_,rfl⟩
 | getB _ b _=>intro _;exact .inr (.inl b)
 | eiG _ _ _ _ i2=>intro _;exact i2 rfl
 | eiB _ b _=>intro _;exact .inr (.inl b)
 | _=>intro z;cases z
theorem Ev.gR{ps:List kZ}{n:Nat}{d:Int}{m:List Str}{p:Nat}{ks:List Int}{s s':md}{r:Res}(h:Ev ps n d m (.G p ks) s r s'):r.HW=false:=by
 cases h with
 | gB _ _ _ _ h=>exact h
 | gG _ _ _=>rfl
 | gX _ _ _ b _=>cases r<;>first | rfl | cases b
def Ei(c:Int)(l:Addr):List (Str×V):=[("make",.int c),("fields",.ref l)]
theorem tH{c:Int}{l:Addr}:(Ei c l).lookup ("fields" : Str)=some (.ref l):=by
 unfold Ei;rw[Kw (by decide +kernel),Oy]
theorem MA{c:Int}{l:Addr}:cV "fields" (.ref l) (cV "make" (.int c) [])=Ei c l:=by
 have e1:cV "make" (.int c) []=([("make",.int c)]:List (Str×V)):=rfl;rw[e1,Mw (by decide +kernel)];rfl
theorem HZ{r:Res}{ks:List Int}(h:r.HW=false)(e:r=.rcd ks):False:=by rw[e]at h;cases h
theorem Ia{r:Res}{ks:List Int}(h:r.bad=true)(e:r=.rcd ks):False:=by rw[e]at h;cases h
theorem Tq{r:Res}{ks:List Int}(h:r.bad=true)(e:r=.vals ks):False:=by rw[e]at h;cases h
def aK(ns:List Int):List PyData:=ns.map PyData.int
structure gK(src:List Int):Prop where
 ne:src≠[]
 few:src.length<=100
mutual
inductive Ex where
 | num (k:Int) | var (x:Str) | call (a b:Ex) | get (c f c2:Nat) (es:br) | either (a b c:Ex) | two (op:Str) (a b:Ex)
inductive br where
 | nil | cons (e:Ex) (es:br)
end
mutual
def Ex.D(p:Nat):Ex->PyData
 | .num k=>.tuple [.str "num",.int k]
 | .var x=>.tuple [.str "var",.str x]
 | .call a b=>.tuple [.str "call",.int (p:Int),.list [a.D p,b.D p]]
 | .get c f c2 es=>.tuple [.str "get",.int (c:Int),.int (f:Int),.tuple [.str "new",.int (c2:Int),.list (es.L p)]]
 | .either a b c=>.tuple [.str "either",a.D p,b.D p,c.D p]
 | .two op a b=>.tuple [.str op,a.D p,b.D p]
def br.L(p:Nat):br->List PyData
 | .nil=>[]
 | .cons e es=>e.D p::es.L p
end
def br.len:br->Nat
 | .nil=>0
 | .cons _ es=>es.len + 1
theorem br.oW{p:Nat}:∀es:br,(es.L p).length=es.len
 | .nil=>by rw[br.L];rfl
 | .cons e es=>by rw[br.L,aaE,br.oW es];rfl
inductive Ou(α:Type) where
 | val (a:α) | fault | weary
structure LS where
 said:List Int
 left:Int
def gL{α β:Type}(x:Ou α×LS)(f:α->LS->Ou β×LS):Ou β×LS:=match x with
 | (.val a,s)=>f a s
 | (.fault,s)=>(.fault,s)
 | (.weary,s)=>(.weary,s)
def tells(k l:Int)(s:LS):Ou Int×LS:=if s.left<=0 then(.weary,s)else(.val (fS (k - l)),⟨s.said++[k,l],s.left - 1⟩)
def Ky(op:Str)(k l:Int)(s:LS):Ou Int×LS:=if parts op/\l=0 then(.fault,s)else(.val (rk op k l),s)
mutual
def Ex.lv(v:Str->Int):Ex->LS->Ou Int×LS
 | .num k,s=>(.val k,s)
 | .var x,s=>(.val (v x),s)
 | .call a b,s=>gL (a.lv v s) λk s=>gL (b.lv v s) λl s=>tells k l s
 | .get _ f _ es,s=>gL (es.jc v s) λks s=>(.val (ks.getD f 0),s)
 | .either a b c,s=>gL (a.lv v s) λk s=>if k=0 then c.lv v s else b.lv v s
 | .two op a b,s=>gL (a.lv v s) λk s=>gL (b.lv v s) λl s=>Ky op k l s
def br.jc(v:Str->Int):br->LS->Ou (List Int)×LS
 | .nil,s=>(.val [],s)
 | .cons e es,s=>gL (e.lv v s) λk s=>gL (es.jc v s) λks s=>(.val (k::ks),s)
end
mutual
def Ex.wf(ns:List Str):Ex->Nat->Prop
 | .num k,_=>fY k
 | .var x,_=>x∈ns
 | .call a b,n=>∃j,n=j + 1/\a.wf ns j/\b.wf ns j
 | .get _ f _ es,n=>∃j,n=j + 1/\es.pA ns j/\f < es.len/\es.len<=100
 | .either a b c,n=>∃j,n=j + 1/\a.wf ns j/\b.wf ns j/\c.wf ns j
 | .two op a b,n=>∃j,n=j + 1/\wQ op/\a.wf ns j/\b.wf ns j
def br.pA(ns:List Str):br->Nat->Prop
 | .nil,_=>True
 | .cons e es,n=>e.wf ns n/\es.pA ns n
end
def Ou.res:Ou Int->Res
 | .val k=>.val k
 | .fault=>.fault 1
 | .weary=>.weary
def Ou.Tr:Ou (List Int)->Res
 | .val ks=>.vals ks
 | .fault=>.fault 1
 | .weary=>.weary
def LS.ok(s:LS):Prop:=0<=s.left/\(s.said.length:Int) + 2 * s.left<=100000
def LS.st(s:LS)(v:Str->Option Int):md:=⟨s.said,s.left,v⟩
theorem kA(n:Int):fY (fS n):=⟨(Af n).1,(Af n).2.1⟩
theorem MB{op:Str}(h:wQ op){k l:Int}(hk:fY k)(hl:fY l)(hz:parts op->l≠0):fY (rk op k l):=by
 rcases h with rfl | rfl | rfl | rfl | rfl | rfl | rfl
 ·rw[yv];exact kA _
 ·rw[uP];exact kA _
 ·rw[yw];exact kA _
 ·rw[uQ];split<;>(unfold fY;decide)
 ·rw[uR];split<;>(unfold fY;decide)
 ·rw[yy];exact kA _
 ·rw[yz];have z:=hz (.inr rfl);unfold fY at hl ⊢;by_cases p:0 < l
  ·have a:=acC k p;have b:=Int.fmod_lt_of_pos k p;omega
  ·have e:k.fmod l=-((-k).fmod (-l)):=by rw[Int.neg_fmod_neg,Int.neg_neg]
   have a:=acC (-k) (show 0 < -l by omega);have b:=Int.fmod_lt_of_pos (-k) (show 0 < -l by omega);omega
def gM:kZ:=⟨[("x",.num),("y",.num)],.num,[.tuple [.str "say",.tuple [.str "var",.str "x"]],.tuple [.str "say",.tuple [.str "var",.str "y"]]],.tuple [.str "sub",.tuple [.str "var",.str "x"],.tuple [.str "var",.str "y"]],["x","y"]⟩
theorem Qn(k l:Int):envOf ["x","y"] [k,l] "x"=some k/\envOf ["x","y"] [k,l] "y"=some l:=by
 unfold envOf
 constructor
 ·show(List.find? _ [(("x" : Str),k),(("y" : Str),l)]).map _=_;rw[List.find?_cons_of_pos (by simp)];rfl
 ·show(List.find? _ [(("x" : Str),k),(("y" : Str),l)]).map _=_;rw[List.find?_cons_of_neg (by simp only[decide_eq_true_eq];decide +kernel),List.find?_cons_of_pos (by simp)];rfl
theorem Ic{ps:List kZ}{p:Nat}(he:ps[p]?=some gM){k l:Int}(hk:fY k)(hl:fY l)(d:Int)(m:List Str)(s:md)(hs:s.said.length + 2<=1000000):Ev ps 8 d m (.G p [k,l]) s (.val (fS (k - l))) ⟨s.said++[k,l],s.left,envOf ["x","y"] [k,l]⟩:=by
 have e:=Qn k l;have x1:∀(n:Nat) (sd:List Int),Ev ps (n + 1) d ["x","y"] (.E (.tuple [.str "var",.str "x"])) ⟨sd,s.left,envOf ["x","y"] [k,l]⟩ (.val k) ⟨sd,s.left,envOf ["x","y"] [k,l]⟩:=λn sd=>.var e.1
 have y1:∀(n:Nat) (sd:List Int),Ev ps (n + 1) d ["x","y"] (.E (.tuple [.str "var",.str "y"])) ⟨sd,s.left,envOf ["x","y"] [k,l]⟩ (.val l) ⟨sd,s.left,envOf ["x","y"] [k,l]⟩:=λn sd=>.var e.2
 refine .gB (q:=gM) (s1:=⟨s.said++[k,l],s.left,envOf ["x","y"] [k,l]⟩) he rfl ?_ ?_ rfl
 ·have z:Ev ps 7 d ["x","y"] (.Ss gM.bd) ⟨s.said,s.left,envOf ["x","y"] [k,l]⟩ .ok ⟨(s.said++[k])++[l],s.left,envOf ["x","y"] [k,l]⟩ :=
   .ssC (.sG (x1 4 _) (.say (by show s.said.length < _;omega))) (.ssC (.sG (y1 4 _) (.say (by show(s.said++[k]).length < _;rw[aay,acE];omega))) .ssN)
  rw[acd]at z;exact z
 ·rw[← uP];exact .two (.inr (.inl rfl)) (.twG (.cons (x1 3 _) (.cons (y1 3 _) .nil)) (λhp=>absurd hp dv.2.1) hk hl)
def fu:Nat->Nat
 | 0=>12
 | n + 1=>fu n + 3
theorem yC(n:Nat):∃q,fu n=q + 1/\11<=q:=by
 induction n with
 | zero=>exact⟨11,rfl,aai _⟩
 | succ n ih=>obtain⟨q,e,h⟩:=ih;exact⟨q + 3,by show fu n + 3=_;rw[e],by omega⟩
structure Oz(ps:List kZ)(n:Nat)(d:Int)(m:List Str)(v:Str->Option Int)(t:PyData)(s:LS)(r:Ou Int×LS):Prop where
 ev:Ev ps n d m (.E t) (s.st v) r.1.res (r.2.st v)
 ok:r.2.ok
 wd:∀k,r.1=.val k->fY k
structure V0(ps:List kZ)(n:Nat)(d:Int)(m:List Str)(v:Str->Option Int)(ts:List PyData)(s:LS)(r:Ou (List Int)×LS):Prop where
 ev:Ev ps n d m (.Es ts) (s.st v) r.1.Tr (r.2.st v)
 ok:r.2.ok
 wd:∀ks,r.1=.val ks->ks.length=ts.length/\∀k∈ks,fY k
theorem getD_in{ks:List Int}(h:∀k∈ks,fY k)(f:Nat):fY (ks.getD f 0):=by
 rw[abA]
 cases e:ks[f]? with
 | none=>exact⟨by decide,by decide⟩
 | some k=>exact h k (aaz e)
mutual
theorem Ex.ev{ps:List kZ}{p:Nat}(he:ps[p]?=some gM){ns:List Str}{w:Str->Int}{v:Str->Option Int}(hv:∀x∈ns,v x=some (w x)/\fY (w x)){d:Int}(hd:d < 12){m:List Str}:∀(e:Ex) (n:Nat) (s:LS),e.wf ns n->s.ok->Oz ps (fu n) d m v (e.D p) s (e.lv w s)
 | .num k,n,s,hw,hs=>by
  obtain⟨q,e,_⟩:=yC n;rw[Ex.lv,Ex.D,e];rw[Ex.wf]at hw;exact⟨.num,hs,λk' z=>by cases z;exact hw⟩
 | .var x,n,s,hw,hs=>by
  obtain⟨q,e,_⟩:=yC n;rw[Ex.lv,Ex.D,e];rw[Ex.wf]at hw;exact⟨.var (hv x hw).1,hs,λk' z=>by cases z;exact(hv x hw).2⟩
 | .call a b,n,s,hw,hs=>by
  rw[Ex.wf]at hw;obtain⟨j,rfl,ha,hb⟩:=hw;rw[Ex.lv,Ex.D];have i1:=Ex.ev he hv hd (m:=m) a j s ha hs;generalize a.lv w s=q1 at i1 ⊢;obtain⟨r1,s1⟩:=q1
  cases r1 with
  | fault=>exact⟨.callE (by show 2<=100;decide) (.clB (.consB i1.ev rfl) rfl),i1.ok,λ_ z=>nomatch z⟩
  | weary=>exact⟨.callE (by show 2<=100;decide) (.clB (.consB i1.ev rfl) rfl),i1.ok,λ_ z=>nomatch z⟩
  | val k =>
   show Oz _ _ _ _ _ _ _ (gL (b.lv w s1) λl s=>tells k l s);have i2:=Ex.ev he hv hd (m:=m) b j s1 hb i1.ok;generalize b.lv w s1=q2 at i2 ⊢;obtain⟨r2,s2⟩:=q2
   cases r2 with
   | fault=>exact⟨.callE (by show 2<=100;decide) (.clB (.consC i1.ev (.consB i2.ev rfl) rfl) rfl),i2.ok,λ_ z=>nomatch z⟩
   | weary=>exact⟨.callE (by show 2<=100;decide) (.clB (.consC i1.ev (.consB i2.ev rfl) rfl) rfl),i2.ok,λ_ z=>nomatch z⟩
   | val l =>
    show Oz _ _ _ _ _ _ _ (tells k l s2);unfold tells;have o2:=i2.ok;unfold LS.ok at o2;have o2:0<=s2.left/\(s2.said.length:Int) + 2 * s2.left<=100000:=o2;by_cases hz:s2.left<=0
    ·rw[aap hz];exact⟨.callE (by show 2<=100;decide) (.clW (.cons i1.ev (.cons i2.ev .nil)) hz),i2.ok,λ_ z=>nomatch z⟩
    ·rw[if_neg hz];have g:=Ic he (i1.wd k rfl) (i2.wd l rfl) (d + 1) [] {s2.st v with left:=s2.left - 1} (by show s2.said.length + 2<=_;omega);obtain⟨q,e,ZC⟩:=yC j;refine⟨.callE (by show 2<=100;decide) (.clG (.cons i1.ev (.cons i2.ev .nil)) (by show 0 < s2.left;omega) hd (g.mono (by omega))),?_,λk' z=>by cases z;exact kA _⟩;unfold LS.ok;dsimp only;rw[List.length_append];show 0<=s2.left - 1/\((s2.said.length + 2:Nat):Int) + 2 * (s2.left - 1)<=100000;omega
 | .get c f c2 es,n,s,hw,hs=>by
  rw[Ex.wf]at hw;obtain⟨j,rfl,ha,hf,hl⟩:=hw;rw[Ex.lv,Ex.D];have i1:=br.ev he hv hd (m:=m) es j s ha hs;have ll:=br.oW (p:=p) es;generalize es.jc w s=q1 at i1 ⊢;obtain⟨r1,s1⟩:=q1
  cases r1 with
  | fault=>exact⟨.getB (.newB (by omega) i1.ev rfl) rfl,i1.ok,λ_ z=>nomatch z⟩
  | weary=>exact⟨.getB (.newB (by omega) i1.ev rfl) rfl,i1.ok,λ_ z=>nomatch z⟩
  | val ks =>
   obtain⟨lk,wk⟩:=i1.wd ks rfl;refine⟨.getG (.newG (by omega) i1.ev) ?_,i1.ok,λk' z=>by cases z;exact getD_in wk f⟩;rw[abA,gP (show f < ks.length by omega)];rfl
 | .either a b c,n,s,hw,hs=>by
  rw[Ex.wf]at hw;obtain⟨j,rfl,ha,hb,hc⟩:=hw;rw[Ex.lv,Ex.D];have i1:=Ex.ev he hv hd (m:=m) a j s ha hs;generalize a.lv w s=q1 at i1 ⊢;obtain⟨r1,s1⟩:=q1
  cases r1 with
  | fault=>exact⟨.eiB (i1.ev.mono (by show fu j<=fu j + 2;omega)) rfl,i1.ok,λ_ z=>nomatch z⟩
  | weary=>exact⟨.eiB (i1.ev.mono (by show fu j<=fu j + 2;omega)) rfl,i1.ok,λ_ z=>nomatch z⟩
  | val k =>
   show Oz _ _ _ _ _ _ _ (if k=0 then c.lv w s1 else b.lv w s1);have nR:∀r:Ou Int,r.res.HW=false:=λr=>by cases r<;>rfl
   by_cases z:k=0
   ·rw[aap z];have i2:=Ex.ev he hv hd (m:=m) c j s1 hc i1.ok;exact⟨.eiG (i1.ev.mono (by show fu j<=fu j + 2;omega)) (by rw[aap z];exact i2.ev.mono (by omega)) (nR _),i2.ok,i2.wd⟩
   ·rw[aan z];have i2:=Ex.ev he hv hd (m:=m) b j s1 hb i1.ok;exact⟨.eiG (i1.ev.mono (by show fu j<=fu j + 2;omega)) (by rw[aan z];exact i2.ev.mono (by omega)) (nR _),i2.ok,i2.wd⟩
 | .two op a b,n,s,hw,hs=>by
  rw[Ex.wf]at hw;obtain⟨j,rfl,ho,ha,hb⟩:=hw;rw[Ex.lv,Ex.D];have i1:=Ex.ev he hv hd (m:=m) a j s ha hs;generalize a.lv w s=q1 at i1 ⊢;obtain⟨r1,s1⟩:=q1
  cases r1 with
  | fault=>exact⟨.two ho (.twB (.consB i1.ev rfl) rfl),i1.ok,λ_ z=>nomatch z⟩
  | weary=>exact⟨.two ho (.twB (.consB i1.ev rfl) rfl),i1.ok,λ_ z=>nomatch z⟩
  | val k =>
   show Oz _ _ _ _ _ _ _ (gL (b.lv w s1) λl s=>Ky op k l s);have i2:=Ex.ev he hv hd (m:=m) b j s1 hb i1.ok;generalize b.lv w s1=q2 at i2 ⊢;obtain⟨r2,s2⟩:=q2
   cases r2 with
   | fault=>exact⟨.two ho (.twB (.consC i1.ev (.consB i2.ev rfl) rfl) rfl),i2.ok,λ_ z=>nomatch z⟩
   | weary=>exact⟨.two ho (.twB (.consC i1.ev (.consB i2.ev rfl) rfl) rfl),i2.ok,λ_ z=>nomatch z⟩
   | val l =>
    show Oz _ _ _ _ _ _ _ (Ky op k l s2);unfold Ky;by_cases hz:parts op/\l=0
    ·rw[aap hz];obtain⟨hp,rfl⟩:=hz;exact⟨.two ho (.twF (.cons i1.ev (.cons i2.ev .nil)) hp (i1.wd k rfl)),i2.ok,λ_ z=>nomatch z⟩
    ·rw[aan hz];have h0:parts op->l≠0:=λhp e=>hz ⟨hp,e⟩
     exact⟨.two ho (.twG (.cons i1.ev (.cons i2.ev .nil)) h0 (i1.wd k rfl) (i2.wd l rfl)),i2.ok,λk' z=>by cases z;exact MB ho (i1.wd k rfl) (i2.wd l rfl) h0⟩
theorem br.ev{ps:List kZ}{p:Nat}(he:ps[p]?=some gM){ns:List Str}{w:Str->Int}{v:Str->Option Int}(hv:∀x∈ns,v x=some (w x)/\fY (w x)){d:Int}(hd:d < 12){m:List Str}:∀(es:br) (n:Nat) (s:LS),es.pA ns n->s.ok->V0 ps (fu n + 1) d m v (es.L p) s (es.jc w s)
 | .nil,n,s,hw,hs=>by
  rw[br.jc,br.L];exact⟨.nil,hs,λks z=>by cases z;exact⟨rfl,λ_ h=>nomatch h⟩⟩
 | .cons e es,n,s,hw,hs=>by
  rw[br.pA]at hw;rw[br.jc,br.L];have i1:=Ex.ev he hv hd (m:=m) e n s hw.1 hs;generalize e.lv w s=q1 at i1 ⊢;obtain⟨r1,s1⟩:=q1
  cases r1 with
  | fault=>exact⟨.consB i1.ev rfl,i1.ok,λ_ z=>nomatch z⟩
  | weary=>exact⟨.consB i1.ev rfl,i1.ok,λ_ z=>nomatch z⟩
  | val k =>
   show V0 _ _ _ _ _ _ _ (gL (es.jc w s1) λks s=>(.val (k::ks),s));have i2:=br.ev he hv hd (m:=m) es n s1 hw.2 i1.ok;generalize es.jc w s1=q2 at i2 ⊢;obtain⟨r2,s2⟩:=q2
   cases r2 with
   | fault=>exact⟨.consC i1.ev i2.ev rfl,i2.ok,λ_ z=>nomatch z⟩
   | weary=>exact⟨.consC i1.ev i2.ev rfl,i2.ok,λ_ z=>nomatch z⟩
   | val ks =>
    refine⟨.cons i1.ev i2.ev,i2.ok,λks' z=>?_⟩;cases z;obtain⟨l1,l2⟩:=i2.wd ks rfl;refine⟨by rw[aaE,aaE,l1],λk' hk'=>?_⟩;rcases aaB.mp hk' with rfl | h
    ·exact i1.wd _ rfl
    ·exact l2 _ h
end
inductive Fi where
 | fault | weary | gave (k:Int)
structure LT where
 said:List Int
 left:Int
 fin:Option Fi
def LT.ls(s:LT):LS:=⟨s.said,s.left⟩
def after{α:Type}:Ou α×LS->LT
 | (.val _,t)=>⟨t.said,t.left,none⟩
 | (.fault,t)=>⟨t.said,t.left,some .fault⟩
 | (.weary,t)=>⟨t.said,t.left,some .weary⟩
def iw(w:Str->Int)(es:br)(s:LT):LT:=match s.fin with
 | none=>after (es.jc w s.ls)
 | some _=>s
theorem jo{w:Str->Int}{es:br}{s:LT}(h:s.fin=none):iw w es s=after (es.jc w s.ls):=by unfold iw;rw[h]
theorem jq{w:Str->Int}{es:br}{s:LT}(h:s.fin≠none):iw w es s=s:=by
 unfold iw
 cases e:s.fin with
 | none=>exact absurd e h
 | some _=>rfl
theorem wU{w:Str->Int}{s:LT}:iw w .nil s=s:=by
 unfold iw
 cases e:s.fin with
 | none=>obtain⟨sd,lf,f⟩:=s;cases e;dsimp only;rw[br.jc];rfl
 | some _=>rfl
theorem tI{w:Str->Int}{e:Ex}{es:br}{s:LT}(h:s.fin=none):iw w (.cons e es) s=iw w es (after (e.lv w s.ls)):=by
 rw[jo h,br.jc];generalize e.lv w s.ls=q;obtain⟨r,t⟩:=q
 cases r with
 | fault=>rfl
 | weary=>rfl
 | val k =>
  show after (gL (es.jc w t) λks s=>(Ou.val (k::ks),s))=iw w es ⟨t.said,t.left,none⟩;rw[jo rfl];show _=after (es.jc w t);generalize es.jc w t=q2;obtain⟨r2,t2⟩:=q2;cases r2<;>rfl
theorem wV{β:Type}{w:Str->Int}{a b:Ex}{s:LS}{f:Int->Int->LS->Ou β×LS}:gL (a.lv w s) (λk s=>gL (b.lv w s) λl s=>f k l s)=gL ((br.cons a (.cons b .nil)).jc w s) λks s=>f (ks.getD 0 0) (ks.getD 1 0) s:=by
 rw[br.jc];generalize a.lv w s=q1;obtain⟨r1,s1⟩:=q1
 cases r1 with
 | fault=>rfl
 | weary=>rfl
 | val k =>
  show gL (b.lv w s1) _=gL (gL ((br.cons b .nil).jc w s1) _) _;rw[br.jc];generalize b.lv w s1=q2;obtain⟨r2,s2⟩:=q2
  cases r2 with
  | fault=>rfl
  | weary=>rfl
  | val l =>
   show f k l s2=gL (gL (gL (br.nil.jc w s2) λks s=>(Ou.val (l::ks),s)) λks s=>(Ou.val (k::ks),s)) λks s=>f (ks.getD 0 0) (ks.getD 1 0) s
   rw[br.jc];rfl
def qD(K:aJ)(H:Hp)(fv:V):Option Fi->Prop
 | none=>fv=.non
 | some .fault=>∃t,fv=.ref t/\bV K H t [.str "fault",.int 1]
 | some .weary=>∃t,fv=.ref t/\bV K H t [.str "weary"]
 | some (.gave k)=>∃t,fv=.ref t/\bV K H t [.str "gave",.int k]
theorem qD.aW{K:aJ}{H:Hp}{fv:V}{f:Option Fi}(h:qD K H fv f):fv=.non↔f=none:=by
 cases f with
 | none=>exact⟨λ_=>rfl,λ_=>h⟩
 | some x=>cases x<;>(obtain⟨t,rfl,_⟩:=h;exact⟨λz=>(nomatch z),λz=>(nomatch z)⟩)
theorem qD.same{K:aJ}{H H':Hp}{fv:V}{f:Option Fi}(h:qD K H fv f)(s:∀t xs,bV K H t xs->bV K H' t xs):qD K H' fv f:=by
 cases f with
 | none=>exact h
 | some x=>cases x<;>(obtain⟨t,e,z⟩:=h;exact⟨t,e,s _ _ z⟩)
structure iI(K:aJ)(H0:Hp)(a l:Addr)(fv:V)(H:Hp)(s:LT):Prop where
 ha:H a=some (.lst [.ref l,.int s.left,fv])
 hf:qD K H fv s.fin
 hl:H l=some (.lst (s.said.map V.int))
 ne:a≠l
 s0:aS H0 H
 na:H0 a=none
 nl:H0 l=none
theorem uV{K:aJ}{H:Hp}{a:Addr}{ys zs:List V}(h:H a=some (.lst ys))(t:Addr)(xs:List V)(z:bV K H t xs):bV K (upd H a (.lst zs)) t xs:=by
 rcases z with(z | ⟨o,z⟩) | z
 ·exact .inl (.inl ((uN (aX z h (by intro w;cases w))).trans z))
 ·exact .inl (.inr ⟨o,(uN (aX z h (by intro w;cases w))).trans z⟩)
 ·exact .inr z
section
variable {K:aJ} {H0 H:Hp} {a l:Addr} {fv:V} {s:LT}
theorem iI.same{H':Hp}(I:iI K H0 a l fv H s)(e:aS H H'):iI K H0 a l fv H' s:=⟨e _ _ I.ha,I.hf.same λ_ _ z=>e.tup z,e _ _ I.hl,I.ne,I.s0.trans e,I.na,I.nl⟩
theorem iI.left(I:iI K H0 a l fv H s)(k:Int):iI K H0 a l fv (upd H a (.lst [.ref l,.int k,fv])) {s with left:=k} :=
 ⟨uS,I.hf.same (uV I.ha),(uN I.ne.symm).trans I.hl,I.ne,λc o e=>(uN (nN e I.na)).trans (I.s0 _ _ e),I.na,I.nl⟩
theorem iI.put(I:iI K H0 a l fv H s){fw:V}{f:Option Fi}(h:qD K H fw f):iI K H0 a l fw (upd H a (.lst [.ref l,.int s.left,fw])) {s with fin:=f} :=
 ⟨uS,h.same (uV I.ha),(uN I.ne.symm).trans I.hl,I.ne,λc o e=>(uN (nN e I.na)).trans (I.s0 _ _ e),I.na,I.nl⟩
theorem iI.says(I:iI K H0 a l fv H s)(ks:List Int):iI K H0 a l fv (upd H l (.lst (s.said.map V.int++ks.map V.int))) {s with said:=s.said++ks} :=
 ⟨(uN I.ne).trans I.ha,I.hf.same (uV I.hl),by rw[uS];simp,I.ne,λc o e=>(uN (nN e I.nl)).trans (I.s0 _ _ e),I.na,I.nl⟩
theorem iI.new{D:Addr}{o o':HO}(I:iI K H0 a l fv H s)(h:H D=some o)(n0:H0 D=none)(na:D≠a)(nl:D≠l)(hm:∃ys,o=.lst ys):iI K H0 a l fv (upd H D o') s:=by
 obtain⟨ys,rfl⟩:=hm;refine⟨(uN na.symm).trans I.ha,I.hf.same λt xs z=>?_,(uN nl.symm).trans I.hl,I.ne,λc u e=>(uN (nN e n0)).trans (I.s0 _ _ e),I.na,I.nl⟩;rcases z with(z | ⟨o,z⟩) | z
 ·exact .inl (.inl ((uN (aX z h (by intro w;cases w))).trans z))
 ·exact .inl (.inr ⟨o,(uN (aX z h (by intro w;cases w))).trans z⟩)
 ·exact .inr z
end
def lM(a l:Addr)(H H':Hp):Prop:=∀c o,c≠a->c≠l->H c=some o->H' c=some o
theorem lM.refl{a l:Addr}{H:Hp}:lM a l H H:=λ_ _ _ _ h=>h
theorem lM.of{a l:Addr}{H H':Hp}(s:aS H H'):lM a l H H':=λc o _ _ h=>s c o h
theorem lM.trans{a l:Addr}{H H1 H2:Hp}(x:lM a l H H1)(y:lM a l H1 H2):lM a l H H2:=λc o n1 n2 h=>y c o n1 n2 (x c o n1 n2 h)
theorem lM.Ts{a l:Addr}{H:Hp}{o:HO}:lM a l H (upd H a o):=λ_ _ n _ h=>(uN n).trans h
theorem lM.XZ{a l:Addr}{H:Hp}{o:HO}:lM a l H (upd H l o):=λ_ _ _ n h=>(uN n).trans h
structure V1(H0:Hp)(dn:Addr)(ns:List Str)(w:Str->Int):Prop where
 ex:∃kvs,H0 dn=some (.dK kvs)/\∀x∈ns,fQ kvs (Sum.inr x)=some (.int (w x))
 wd:∀x∈ns,fY (w x)
structure uW(K:aJ)(p:Nat)(H0 H:Hp)(a l D:Addr)(w:Str->Int)(ns:List Str)(j:Nat)(es:br)(s:LT)(i:Nat)(zs:List V)(H2:Hp):Prop where
 ex:∃(er:br) (si:LT) (fw:V),er.L p=(es.L p).drop i/\er.pA ns j/\iI K H0 a l fw H2 si/\si.ls.ok/\iw w er si=iw w es s/\(si.fin=none->∃ks:List Int,zs=ks.map V.int/\∀r t,er.jc w si.ls=(.val r,t)->es.jc w s.ls=(.val (ks++r),t))
 le:i<=(es.L p).length
 len:zs.length=i
 kp:lM a l H H2
 hD:H2 D=some (.lst zs)
 ig:∀v∈zs,∃k:Int,v=V.int k
theorem iS{ns:List Str}{w:Str->Int}(hw:∀x∈ns,fY (w x))(e:Ex){j:Nat}{s:LS}(h:e.wf ns j)(o:s.ok):(e.lv w s).2.ok/\∀k,(e.lv w s).1=.val k->fY k :=
 let z:=Ex.ev (ps:=[gM]) (p:=0) rfl (v:=λx=>some (w x)) (λx hx=>⟨rfl,hw x hx⟩) (d:=1) (by decide) (m:=[]) e j s h o
 ⟨z.ok,z.wd⟩
theorem wW{ns:List Str}{w:Str->Int}(hw:∀x∈ns,fY (w x))(es:br){j:Nat}{s:LS}(h:es.pA ns j)(o:s.ok):(es.jc w s).2.ok/\∀ks,(es.jc w s).1=.val ks->ks.length=es.len/\∀k∈ks,fY k :=
 let z:=br.ev (ps:=[gM]) (p:=0) rfl (v:=λx=>some (w x)) (λx hx=>⟨rfl,hw x hx⟩) (d:=1) (by decide) (m:=[]) es j s h o
 ⟨z.ok,λks e=>by rw[← br.oW (p:=0) es];exact z.wd ks e⟩
theorem qR{α:Type}{r:Ou α×LS}(h:r.2.ok):(after r).ls.ok:=by
 obtain⟨r,t⟩:=r;cases r<;>exact h
section
variable {K:aJ} {p:Nat} {H0 H H2:Hp} {a l D:Addr} {w:Str->Int} {ns:List Str} {j:Nat} {es:br} {s:LT} {i:Nat} {zs:List V}
theorem uW.start{fv:V}(I:iI K H0 a l fv H s)(hw:es.pA ns j)(o:s.ls.ok)(hD:H D=none):uW K p H0 H a l D w ns j es s 0 [] (upd H D (.lst [])) :=
 have s1:=aC hD (.lst [])
 ⟨⟨es,s,fv,rfl,hw,I.same s1,o,rfl,λ_=>⟨[],rfl,λr t h=>h⟩⟩,aaQ _,rfl,.of s1,uS,(λ_ h=>nomatch h)⟩
theorem uW.next(B:uW K p H0 H a l D w ns j es s i zs H2)(hi:i < (es.L p).length)(hwd:∀x∈ns,fY (w x))(X0:H D=none)(n0:H0 D=none)(na:D≠a)(nl:D≠l):
  ∃(e:Ex) (si:LT) (fw:V),(es.L p)[i]?=some (e.D p)/\e.wf ns j/\iI K H0 a l fw H2 si/\si.ls.ok /\
   (∀H' fw',si.fin≠none->lM a l H2 H'->iI K H0 a l fw' H' si->H' D=some (.lst zs)/\uW K p H0 H a l D w ns j es s (i + 1) (zs++[.int 0]) (upd H' D (.lst (zs++[.int 0])))) /\
   ∀H' fw' k,si.fin=none->lM a l H2 H'->iI K H0 a l fw' H' (after (e.lv w si.ls))->(∀k0 t,e.lv w si.ls=(.val k0,t)->k=k0)->H' D=some (.lst zs)/\uW K p H0 H a l D w ns j es s (i + 1) (zs++[.int k]) (upd H' D (.lst (zs++[.int k]))):=by
 obtain⟨er,si,fw,el,ew,I,o,ef,ek⟩:=B.ex;rw[aa1 hi]at el
 cases er with
 | nil=>rw[br.L]at el;cases el
 | cons e r =>
  rw[br.L]at el;have e1:=(acH el).1;have e2:=(acH el).2;rw[br.pA]at ew
  have mk:∀{H':Hp} {fw':V} {k:Int} {sn:LT},lM a l H2 H'->iI K H0 a l fw' H' sn->sn.ls.ok->iw w r sn=iw w es s->(sn.fin=none->∃ks:List Int,zs++[V.int k]=ks.map V.int/\∀r' t,r.jc w sn.ls=(.val r',t)->es.jc w s.ls=(.val (ks++r'),t))->H' D=some (.lst zs)/\uW K p H0 H a l D w ns j es s (i + 1) (zs++[.int k]) (upd H' D (.lst (zs++[.int k]))):=λ{H' fw' k sn} kp I' o' f' k'=>by
   have hd:=kp _ _ na nl B.hD
   exact⟨hd,⟨⟨r,sn,fw',e2,ew.2,I'.new hd n0 na nl ⟨_,rfl⟩,o',f',k'⟩,hi,by rw[aay,B.len];rfl,λc o n1 n2 h=>(uN (nN h X0)).trans ((B.kp.trans kp) c o n1 n2 h),uS,λv hv=>by
    rcases aaK.mp hv with z | z
    ·exact B.ig v z
    ·exact⟨k,pT z⟩⟩⟩
  refine⟨e,si,fw,by rw[e1,gP hi],ew.1,I,o,λH' fw' hf kp I'=>mk kp I' o ?_ λz=>absurd z hf,λH' fw' k hf kp I' hk=>mk kp I' (qR (iS hwd e ew.1 o).1) ?_ λz=>?_⟩
  ·rw[jq hf]at ef ⊢;exact ef
  ·rw[tI hf]at ef;exact ef
  ·obtain⟨ks,ez,hk'⟩:=ek hf;have hl:=λr' t h=>hk' r' t h
   rw[br.jc]at hl
   revert hl z hk
   generalize e.lv w si.ls=q;obtain⟨q1,t1⟩:=q
   cases q1 with
   | fault=>intro _ z;cases z
   | weary=>intro _ z;cases z
   | val k0 =>
    intro hk _ hl;have e:=hk k0 t1 rfl;subst e;refine⟨ks++[k],by rw[ez,aaU];rfl,λr' t h=>?_⟩;rw[acd];refine hl (k::r') t ?_;show gL (r.jc w t1) _=_;have h':r.jc w t1=(.val r',t):=h;rw[h'];rfl
theorem uW.done(B:uW K p H0 H a l D w ns j es s (es.L p).length zs H2)(hf:s.fin=none):∃(fw:V),iI K H0 a l fw H2 (after (es.jc w s.ls))/\lM a l H H2/\H2 D=some (.lst zs)/\∀ks t,es.jc w s.ls=(.val ks,t)->zs=ks.map V.int:=by
 obtain⟨er,si,fw,el,ew,I,o,ef,ek⟩:=B.ex;rw[abz]at el
 cases er with
 | cons e r=>rw[br.L]at el;cases el
 | nil =>
  rw[wU,jo hf]at ef;rw[ef]at I ek;refine⟨fw,I,B.kp,B.hD,λks t h=>?_⟩;rw[h]at ek;obtain⟨ks',e1,e2⟩:=ek rfl;have e3:=e2 [] _ (by rw[br.jc]);rw[aaL]at e3;rw[e1,show ks=ks' from Ou.val.inj (Prod.mk.inj e3).1]
end
theorem lM.tup{K:aJ}{H0 H H1:Hp}{a l t:Addr}{fv:V}{s:LT}{xs:List V}(k:lM a l H H1)(I:iI K H0 a l fv H s)(h:bV K H t xs):bV K H1 t xs:=by
 rcases h with(h | ⟨o,h⟩) | h
 ·exact .inl (.inl (k _ _ (aX h I.ha (by intro z;cases z)) (aX h I.hl (by intro z;cases z)) h))
 ·exact .inl (.inr ⟨o,k _ _ (aX h I.ha (by intro z;cases z)) (aX h I.hl (by intro z;cases z)) h⟩)
 ·exact .inr h
theorem By{α β:Type}{q:Ou α×LS}{f:α->β}:after (gL q λx s=>(Ou.val (f x),s))=after q:=by
 obtain⟨r,t⟩:=q;cases r<;>rfl
def br.of:List Ex->br
 | []=>.nil
 | e::r=>.cons e (br.of r)
theorem MC{p:Nat}:∀es:List Ex,(br.of es).L p=es.map (Ex.D p)
 | []=>by rw[br.of,br.L];rfl
 | e::r=>by rw[br.of,br.L,MC r];rfl
theorem qS:∀es:List Ex,(br.of es).len=es.length
 | []=>rfl
 | e::r=>abb (· + 1) (qS r)
theorem yD{ns:List Str}{n:Nat}:∀es:List Ex,(∀e∈es,e.wf ns n)->(br.of es).pA ns n
 | [],_=>by rw[br.of,br.pA];trivial
 | e::r,h=>by rw[br.of,br.pA];exact⟨h e aae,yD r λx hx=>h x (aal _ hx)⟩
mutual
theorem Ex.mD{ns:List Str}:∀(e:Ex) (n:Nat),e.wf ns n->e.wf ns (n + 1)
 | .num k,n,h=>by rw[Ex.wf]at h ⊢;exact h
 | .var x,n,h=>by rw[Ex.wf]at h ⊢;exact h
 | .call a b,n,h=>by rw[Ex.wf]at h ⊢;obtain⟨j,rfl,h1,h2⟩:=h;exact⟨_,rfl,Ex.mD a j h1,Ex.mD b j h2⟩
 | .get _ _ _ es,n,h=>by rw[Ex.wf]at h ⊢;obtain⟨j,rfl,h1,h2,h3⟩:=h;exact⟨_,rfl,br.yE es j h1,h2,h3⟩
 | .either a b c,n,h=>by rw[Ex.wf]at h ⊢;obtain⟨j,rfl,h1,h2,h3⟩:=h;exact⟨_,rfl,Ex.mD a j h1,Ex.mD b j h2,Ex.mD c j h3⟩
 | .two op a b,n,h=>by rw[Ex.wf]at h ⊢;obtain⟨j,rfl,h1,h2,h3⟩:=h;exact⟨_,rfl,h1,Ex.mD a j h2,Ex.mD b j h3⟩
theorem br.yE{ns:List Str}:∀(es:br) (n:Nat),es.pA ns n->es.pA ns (n + 1)
 | .nil,n,h=>by rw[br.pA];trivial
 | .cons e es,n,h=>by rw[br.pA]at h ⊢;exact⟨Ex.mD e n h.1,br.yE es n h.2⟩
end
theorem Ex.wX{ns:List Str}{e:Ex}{n k:Nat}(h:e.wf ns n)(l:n<=k):e.wf ns k:=by
 induction l with
 | refl=>exact h
 | step _ ih=>exact Ex.mD e _ ih
def RO(p:Nat)(ns:List Str)(d:Nat)(i:Nat)(ys:List DV)(st:aE):Prop:=∃(es:List Ex) (src:List Int),es.length=i/\(∀e∈es,e.wf ns d)/\ys=es.map (λe=>DV.dat (e.D p))/\st=[.live (aK src)]/\gK src
theorem RO.more{p:Nat}{ns:List Str}{d i:Nat}{es:List Ex}{src:List Int}{e:Ex}(h1:es.length=i)(h2:∀e∈es,e.wf ns d)(he:e.wf ns d)(hs:gK src):RO p ns d (i + 1) (es.map (λe=>DV.dat (e.D p))++[.dat (e.D p)]) [.live (aK src)] :=
 ⟨es++[e],src,by rw[aay,h1];rfl,λx hx=>by
  rcases aaK.mp hx with z | z
  ·exact h2 x z
  ·rw[pT z];exact he,by rw[aaU];rfl,rfl,hs⟩
inductive Sm where
 | say (e:Ex) | lt (x:Str) (e:Ex) | put (f:Nat) (es:br) (e:Ex)
def Sm.D(p:Nat):Sm->PyData
 | .say e=>.tuple [.str "say",e.D p]
 | .lt x e=>.tuple [.str "let",.str x,.tuple [.str "number"],e.D p]
 | .put f es e=>.tuple [.str "put",.int 1,.int (f:Int),.tuple [.str "new",.int 1,.list (es.L p)],e.D p]
def yF(x:Str)(k:Int)(w:Str->Int):Str->Int:=λy=>if y=x then k else w y
def Sm.run(w:Str->Int):Sm->LS->Ou (Str->Int)×LS
 | .say e,s=>gL (e.lv w s) λk t=>(.val w,⟨t.said++[k],t.left⟩)
 | .lt x e,s=>gL (e.lv w s) λk t=>(.val (yF x k w),t)
 | .put _ es e,s=>gL (es.jc w s) λ_ t=>gL (e.lv w t) λ_ t=>(.val w,t)
def runs:List Sm->(Str->Int)->LS->Ou (Str->Int)×LS
 | [],w,s=>(.val w,s)
 | m::r,w,s=>gL (m.run w s) λw' t=>runs r w' t
def whole(sts:List Sm)(an:Ex)(w:Str->Int)(s:LS):Ou Int×LS:=gL (runs sts w s) λw' t=>an.lv w' t
def mu(s:LS):Int:=(s.said.length:Int) + 2 * s.left
theorem kB{α β:Type}{q:Ou α×LS}{f:α->LS->Ou β×LS}{s:LS}(h:mu q.2<=mu s)(g:∀a t,mu (f a t).2<=mu t):mu (gL q f).2<=mu s:=by
 obtain⟨r,t⟩:=q
 cases r with
 | val a=>exact Int.le_trans (g a t) h
 | fault=>exact h
 | weary=>exact h
mutual
theorem Ex.gO(w:Str->Int):∀(e:Ex) (s:LS),mu (e.lv w s).2<=mu s
 | .num k,s=>by rw[Ex.lv];exact abK _
 | .var x,s=>by rw[Ex.lv];exact abK _
 | .call a b,s=>by
  rw[Ex.lv];refine kB (Ex.gO w a s) λk t=>kB (Ex.gO w b t) λl u=>?_
  unfold tells;split
  ·exact abK _
  ·unfold mu;dsimp only;rw[List.length_append];show((u.said.length + 2:Nat):Int) + 2 * (u.left - 1)<=_;omega
 | .get _ f _ es,s=>by rw[Ex.lv];exact kB (br.gO w es s) λ_ _=>abK _
 | .either a b c,s=>by
  rw[Ex.lv];refine kB (Ex.gO w a s) λk t=>?_
  split
  ·exact Ex.gO w c t
  ·exact Ex.gO w b t
 | .two op a b,s=>by
  rw[Ex.lv];refine kB (Ex.gO w a s) λk t=>kB (Ex.gO w b t) λl u=>?_
  unfold Ky;split<;>exact Int.le_refl _
theorem br.gO(w:Str->Int):∀(es:br) (s:LS),mu (es.jc w s).2<=mu s
 | .nil,s=>by rw[br.jc];exact abK _
 | .cons e es,s=>by rw[br.jc];exact kB (Ex.gO w e s) λk t=>kB (br.gO w es t) λ_ _=>abK _
end
inductive pR:List Str->List Sm->List Str->Prop where
 | nil {ns}:pR ns [] ns
 | say {ns e r ns'}:e.wf ns 6->pR ns r ns'->pR ns (.say e::r) ns'
 | lt {ns x e r ns'}:e.wf ns 6->pR (ns++[x]) r ns'->pR ns (.lt x e::r) ns'
 | put {ns f es e r ns'}:es.pA ns 6->f < es.len->es.len<=100->e.wf ns 6->pR ns r ns'->pR ns (.put f es e::r) ns'
def MD(ns:List Str)(w:Str->Int)(v:Str->Option Int):Prop:=∀x∈ns,v x=some (w x)/\fY (w x)
theorem MD.put{ns:List Str}{w:Str->Int}{v:Str->Option Int}(h:MD ns w v){x:Str}{k:Int}(hk:fY k):MD (ns++[x]) (yF x k w) (Bx x k v):=λy hy=>by
 unfold yF Bx;by_cases z:y=x
 ·rw[aap z,aap z];exact⟨rfl,hk⟩
 ·rw[aan z,aan z];rcases aaK.mp hy with q | q
  ·exact h y q
  ·exact absurd (pT q) z
def Ou.Qo{α:Type}:Ou α->Res
 | .val _=>.ok
 | .fault=>.fault 1
 | .weary=>.weary
theorem pR.ev{ps:List kZ}{p:Nat}(he:ps[p]?=some gM){d:Int}(hd:d < 12){m:List Str}{ns ns':List Str}{sts:List Sm}(h:pR ns sts ns'):∀(w:Str->Int) (v:Str->Option Int) (s:LS),(∀x∈ns',x∈m)->MD ns w v->0<=s.left->mu s + sts.length<=100000 ->
  ∃v',Ev ps 40 d m (.Ss (sts.map (Sm.D p))) (s.st v) (runs sts w s).1.Qo ((runs sts w s).2.st v')/\0<=(runs sts w s).2.left/\mu (runs sts w s).2<=mu s + sts.length/\∀w',(runs sts w s).1=.val w'->MD ns' w' v':=by
 induction h with
 | nil=>intro w v s hm hk hl hmu;exact⟨v,.ssN,hl,by unfold runs;simp,λw' e=>by cases e;exact hk⟩
 | @say ns e r ns' hw _ ih =>
  intro w v s hm hk hl hmu;rw[List.length_cons]at hmu;have o:s.ok:=⟨hl,by unfold mu at hmu;omega⟩;have i1:=Ex.ev he hk hd (m:=m) e 6 s hw o;have m1:=Ex.gO w e s;rw[runs,Sm.run,List.map_cons,Sm.D]
  revert i1 m1
  generalize e.lv w s=q;obtain⟨r1,t1⟩:=q;intro i1 m1
  cases r1 with
  | fault=>exact⟨v,.ssB (.sB .say (i1.ev.mono (by decide)) rfl) rfl,i1.ok.1,by show mu t1<=_;have:mu t1<=mu s:=m1;omega,λ_ z=>nomatch z⟩
  | weary=>exact⟨v,.ssB (.sB .say (i1.ev.mono (by decide)) rfl) rfl,i1.ok.1,by show mu t1<=_;have:mu t1<=mu s:=m1;omega,λ_ z=>nomatch z⟩
  | val k =>
   have m1:mu t1<=mu s:=m1;have m2:mu ⟨t1.said++[k],t1.left⟩=mu t1 + 1:=by unfold mu;dsimp only;rw[List.length_append,List.length_singleton];omega
   obtain⟨v',e2,l2,u2,k2⟩:=ih w v ⟨t1.said++[k],t1.left⟩ hm hk i1.ok.1 (by rw[m2];omega);refine⟨v',.ssC (.sG (i1.ev.mono (by decide)) (.say ?_)) e2,l2,by show mu (runs r w _).2<=_;rw[List.length_cons];omega,k2⟩;have:=i1.ok;unfold LS.ok at this;show t1.said.length < _;have z:0<=t1.left/\(t1.said.length:Int) + 2 * t1.left<=100000:=this;omega
 | @lt ns x e r ns' hw hr ih =>
  intro w v s hm hk hl hmu;rw[List.length_cons]at hmu;have o:s.ok:=⟨hl,by unfold mu at hmu;omega⟩;have i1:=Ex.ev he hk hd (m:=m) e 6 s hw o;have m1:=Ex.gO w e s;rw[runs,Sm.run,List.map_cons,Sm.D]
  revert i1 m1
  generalize e.lv w s=q;obtain⟨r1,t1⟩:=q;intro i1 m1
  cases r1 with
  | fault=>exact⟨v,.ssB (.sB .let' (i1.ev.mono (by decide)) rfl) rfl,i1.ok.1,by show mu t1<=_;have:mu t1<=mu s:=m1;omega,λ_ z=>nomatch z⟩
  | weary=>exact⟨v,.ssB (.sB .let' (i1.ev.mono (by decide)) rfl) rfl,i1.ok.1,by show mu t1<=_;have:mu t1<=mu s:=m1;omega,λ_ z=>nomatch z⟩
  | val k =>
   have m1:mu t1<=mu s:=m1
   have sub:∀{ns sts ns'},pR ns sts ns'->∀x∈ns,x∈ns':=λ{ns sts ns'} h=>by
    induction h with
    | nil=>exact λ_ h=>h
    | say _ _ ih=>exact ih
    | lt _ _ ih=>exact λx hx=>ih x (abf _ hx)
    | put _ _ _ _ _ ih=>exact ih
   obtain⟨v',e2,l2,u2,k2⟩:=ih (yF x k w) (Bx x k v) t1 hm (hk.put (i1.wd k rfl)) i1.ok.1 (by omega);exact⟨v',.ssC (.sG (i1.ev.mono (by decide)) (.let' (hm x (sub hr x (aav _ aae))))) e2,l2,by show mu (runs r _ _).2<=_;rw[aaE];omega,k2⟩
 | @put ns f es e r ns' hes hf Qp hw _ ih =>
  intro w v s hm hk hl hmu;rw[List.length_cons]at hmu;have o:s.ok:=⟨hl,by unfold mu at hmu;omega⟩;have i0:=br.ev he hk hd (m:=m) es 6 s hes o;have m0:=br.gO w es s;have ll:=br.oW (p:=p) es;rw[runs,Sm.run,List.map_cons,Sm.D]
  revert i0 m0
  generalize es.jc w s=q;obtain⟨r0,t0⟩:=q;intro i0 m0;have m0:mu t0<=mu s:=m0
  cases r0 with
  | fault=>exact⟨v,.ssB (.putB (.newB (by omega) (i0.ev.mono (by decide)) rfl) rfl) rfl,i0.ok.1,by show mu t0<=_;omega,λ_ z=>nomatch z⟩
  | weary=>exact⟨v,.ssB (.putB (.newB (by omega) (i0.ev.mono (by decide)) rfl) rfl) rfl,i0.ok.1,by show mu t0<=_;omega,λ_ z=>nomatch z⟩
  | val ks =>
   have i1:=Ex.ev he hk hd (m:=m) e 6 t0 hw i0.ok;have m1:=Ex.gO w e t0;show ∃v',Ev ps 40 d m _ _ (gL (gL (e.lv w t0) λ_ t=>(Ou.val w,t)) λw' t=>runs r w' t).1.Qo ((gL (gL (e.lv w t0) λ_ t=>(Ou.val w,t)) λw' t=>runs r w' t).2.st v')/\0<=(gL (gL (e.lv w t0) λ_ t=>(Ou.val w,t)) λw' t=>runs r w' t).2.left/\mu (gL (gL (e.lv w t0) λ_ t=>(Ou.val w,t)) λw' t=>runs r w' t).2<=_/\∀w',(gL (gL (e.lv w t0) λ_ t=>(Ou.val w,t)) λw' t=>runs r w' t).1=.val w'->MD ns' w' v'
   revert i1 m1
   generalize e.lv w t0=q;obtain⟨r1,t1⟩:=q;intro i1 m1;have m1:mu t1<=mu t0:=m1;have Qq:=(i0.wd ks rfl).1
   cases r1 with
   | fault=>exact⟨v,.ssB (.putC (.newG (by omega) (i0.ev.mono (by decide:_<=37))) (i1.ev.mono (by decide)) rfl) rfl,i1.ok.1,by show mu t1<=_;omega,λ_ z=>nomatch z⟩
   | weary=>exact⟨v,.ssB (.putC (.newG (by omega) (i0.ev.mono (by decide:_<=37))) (i1.ev.mono (by decide)) rfl) rfl,i1.ok.1,by show mu t1<=_;omega,λ_ z=>nomatch z⟩
   | val k =>
    obtain⟨v',e2,l2,u2,k2⟩:=ih w v t1 hm hk i1.ok.1 (by omega);exact⟨v',.ssC (.putG (.newG (by omega) (i0.ev.mono (by decide:_<=37))) (i1.ev.mono (by decide)) (by omega)) e2,l2,by show mu (runs r _ _).2<=_;rw[aaE];omega,k2⟩
theorem Ej:∀{ns:List Str} {ks:List Int},ks.length=ns.length->∀x∈ns,∃k∈ks,envOf ns ks x=some k
 | [],_,_,x,hx=>nomatch hx
 | a::ns,[],h,_,_=>by cases h
 | a::ns,k::ks,h,x,hx=>by
  unfold envOf;show ∃k'∈k::ks,(((a,k)::ns.zip ks).find? λq=>decide (q.1=x)).map (·.2)=some k';by_cases z:a=x
  ·rw[List.find?_cons_of_pos (by simpa using z)];exact⟨k,List.mem_cons_self,rfl⟩
  ·rw[List.find?_cons_of_neg (by simpa using z)];obtain⟨k',h1,h2⟩:=Ej (ns:=ns) (ks:=ks) (Nat.succ.inj h) x ((List.mem_cons.mp hx).resolve_left λe=>z e.symm);exact⟨k',List.mem_cons_of_mem _ h1,h2⟩
def w0(ns:List Str)(ks:List Int):Str->Int:=λx=>(envOf ns ks x).getD 0
theorem ME{ns:List Str}{ks:List Int}(hl:ks.length=ns.length)(hw:∀k∈ks,fY k):MD ns (w0 ns ks) (envOf ns ks):=λx hx=>by
 obtain⟨k,h1,h2⟩:=Ej hl x hx;unfold w0;rw[h2];exact⟨rfl,hw k h1⟩
def cZ(p:Nat)(ns:List Str)(sts:List Sm)(an:Ex)(ns':List Str):kZ:=⟨ns.map λx=>(x,.num),.num,sts.map (Sm.D p),an.D p,ns'⟩
theorem Qr{ps:List kZ}{p j:Nat}(he:ps[p]?=some gM){ns ns':List Str}{sts:List Sm}{an:Ex}(hj:ps[j]?=some (cZ p ns sts an ns'))(h:pR ns sts ns')(ha:an.wf ns' 6){ks:List Int}(hl:ks.length=ns.length)(hw:∀k∈ks,fY k){bud:Int}(hb:0<=bud)(Tt:bud<=10000)(Tu:sts.length<=20):
  ∃v',Ev ps 60 1 [] (.G j ks) ⟨[],bud,λ_=>none⟩ (whole sts an (w0 ns ks) ⟨[],bud⟩).1.res ((whole sts an (w0 ns ks) ⟨[],bud⟩).2.st v'):=by
 have m0:mu ⟨[],bud⟩=2 * bud:=by unfold mu;simp
 have e0:(cZ p ns sts an ns').tk.map (·.1)=ns:=by unfold cZ;rw[List.map_map];exact List.map_id _
 have l0:ks.length=(cZ p ns sts an ns').tk.length:=by unfold cZ;rw[List.length_map];exact hl
 obtain⟨v',e1,l1,u1,k1⟩:=h.ev he (d:=1) (by decide) (m:=ns') (w0 ns ks) (envOf ns ks) ⟨[],bud⟩ (λ_ h=>h) (ME hl hw) hb (by omega);unfold whole
 revert e1 l1 u1 k1
 generalize runs sts (w0 ns ks) ⟨[],bud⟩=q;obtain⟨r1,t1⟩:=q;intro e1 l1 u1 k1;have u9:mu t1<=2 * bud + sts.length:=by rw[← m0];exact u1
 cases r1 with
 | fault=>exact⟨v',.gX hj l0 (by rw[e0];exact e1.mono (by decide)) rfl (λ_ z=>nomatch z)⟩
 | weary=>exact⟨v',.gX hj l0 (by rw[e0];exact e1.mono (by decide)) rfl (λ_ z=>nomatch z)⟩
 | val w' =>
  have i2:=Ex.ev he (k1 w' rfl) (d:=1) (by decide) (m:=ns') an 6 t1 ha ⟨l1,by have z:(t1.said.length:Int) + 2 * t1.left<=2 * bud + sts.length:=u9;omega⟩;show ∃v',Ev ps 60 1 [] (.G j ks) _ (an.lv w' t1).1.res ((an.lv w' t1).2.st v');exact⟨v',.gB hj l0 (by rw[e0];exact e1.mono (by decide)) (i2.ev.mono (by decide)) (by cases (an.lv w' t1).1<;>rfl)⟩
def mE(a l:Addr)(H:Hp):Hp:=λc=>if c=a∨c=l then none else H c
theorem Ak{a l c:Addr}{H:Hp}(h1:c≠a)(h2:c≠l):mE a l H c=H c:=by unfold mE;rw[if_neg (λz=>z.elim h1 h2)]
theorem MF{a l:Addr}{H:Hp}:mE a l H a=none:=by unfold mE;rw[if_pos (.inl rfl)]
theorem MG{a l:Addr}{H:Hp}:mE a l H l=none:=by unfold mE;rw[if_pos (.inr rfl)]
theorem Bz{a l:Addr}{H:Hp}:aS (mE a l H) H:=λc o e=>by
 unfold mE at e;split at e
 ·cases e
 ·exact e
theorem iI.cut{K:aJ}{He H:Hp}{a l:Addr}{fv:V}{s:LT}(I:iI K He a l fv H s):iI K (mE a l H) a l fv H s:=⟨I.ha,I.hf,I.hl,I.ne,Bz,MF,MG⟩
theorem iI.Kz{K:aJ}{He H:Hp}{a l:Addr}{fv:V}{s:LT}(I:iI K He a l fv H s):aS He (mE a l H):=λc o e=>(Ak (nN e I.na) (nN e I.nl)).trans (I.s0 c o e)
theorem iI.back{K:aJ}{He H H':Hp}{a l:Addr}{fv fw:V}{s s':LT}(I:iI K He a l fv H s)(J:iI K (mE a l H) a l fw H' s'):iI K He a l fw H' s':=⟨J.ha,J.hf,J.hl,J.ne,I.Kz.trans J.s0,I.na,I.nl⟩
theorem KA:∀{ns:List Str} {ks:List Int},ns.Nodup->∀(i:Nat) x k,ns[i]?=some x->ks[i]?=some k->w0 ns ks x=k
 | [],_,_,i,x,k,h,_=>by simp at h
 | a::ns,[],_,i,x,k,_,h=>by simp at h
 | a::ns,b::ks,nd,0,x,k,h1,h2=>by
  cases h1;cases h2;unfold w0 envOf;show(((((a,b)::ns.zip ks).find? λq=>decide (q.1=a)).map (·.2)).getD 0)=b;rw[List.find?_cons_of_pos (by simp)];rfl
 | a::ns,b::ks,nd,i + 1,x,k,h1,h2=>by
  have h1':ns[i]?=some x:=by simpa using h1
  have h2':ks[i]?=some k:=by simpa using h2
  have z:a≠x:=λe=>(abZ.mp nd).1 (e ▸ aaz h1')
  have ih:=KA (List.nodup_cons.mp nd).2 i x k h1' h2';unfold w0 envOf at ih ⊢;show(((((a,b)::ns.zip ks).find? λq=>decide (q.1=x)).map (·.2)).getD 0)=k;rw[List.find?_cons_of_neg (by simpa using z)];exact ih
def mF(r:Ou Int×LS):LT:=match r with
 | (.val k,t)=>⟨t.said,t.left,some (.gave k)⟩
 | (.fault,t)=>⟨t.said,t.left,some .fault⟩
 | (.weary,t)=>⟨t.said,t.left,some .weary⟩
def Ek:Ou Int->List V
 | .val k=>[.str "gave",.int k]
 | .fault=>[.str "fault",.int 1]
 | .weary=>[.str "weary"]
def Tv(sts:List Sm)(an:Ex)(w:Str->Int)(E:LT)(s:LT):Prop:=(s.fin=none->mF (whole sts an w s.ls)=E)/\(s.fin≠none->s=E)
theorem wY{kvs:List (Key×V)}{k:Key}{v:V}:(putK kvs k v).length<=kvs.length + 1:=by
 unfold putK;split
 ·rw[aaf];exact abg _
 ·rw[aay];exact aai _
def kC(w:Str->Int)(e:Ex)(s:LT):LT:=match s.fin with
 | none=>after (e.lv w s.ls)
 | some _=>s
theorem c8{w:Str->Int}{e:Ex}{s:LT}(h:s.fin=none):kC w e s=after (e.lv w s.ls):=by unfold kC;rw[h]
theorem eM{w:Str->Int}{e:Ex}{s:LT}(h:s.fin≠none):kC w e s=s:=by
 unfold kC
 cases z:s.fin with
 | none=>exact absurd z h
 | some _=>rfl
theorem iz{α:Type}{r:Ou α×LS}(h:(after r).fin=none):∃a,r=(.val a,(after r).ls):=by
 obtain⟨r,t⟩:=r
 cases r with
 | val a=>exact⟨a,rfl⟩
 | fault=>cases h
 | weary=>cases h
theorem El{α:Type}(r:Ou α×LS):mu (after r).ls=mu r.2:=by
 obtain⟨r,t⟩:=r;cases r<;>rfl
theorem eF{m:Sm}{r:List Sm}{an:Ex}{w:Str->Int}{s:LS}:whole (m::r) an w s=gL (m.run w s) λw' t=>whole r an w' t:=by
 unfold whole;rw[runs];generalize m.run w s=q;obtain⟨r1,t1⟩:=q;cases r1<;>rfl
def X1(a l dn:Addr)(H H':Hp):Prop:=∀c o,c≠a->c≠l->c≠dn->H c=some o->H' c=some o
structure wZ(K:aJ)(He H9:Hp)(a l dn:Addr)(fw:V)(H:Hp)(s:LT)(ns:List Str)(w:Str->Int)(n:Nat):Prop where
 I:iI K He a l fw H s
 lf:0<=s.left
 mu:mu s.ls<=20000 + n
 d:∃kvs:List (Key×V),H dn=some (.dK kvs)/\kvs.length<=5 + n/\(s.fin=none->∀x∈ns,fQ kvs (Sum.inr x)=some (.int (w x)))
 wd:s.fin=none->∀x∈ns,fY (w x)
 kp:X1 a l dn H9 H
 nda:dn≠a
 ndl:dn≠l
 ne:He dn=none
section
variable {K:aJ} {He H9 H H':Hp} {a l dn:Addr} {fw fw':V} {s s':LT} {ns:List Str} {w:Str->Int} {n:Nat}
theorem wZ.nm(D:wZ K He H9 a l dn fw H s ns w n)(hf:s.fin=none):V1 (mE a l H) dn ns w:=⟨let ⟨kvs,h,_,v⟩:=D.d;⟨kvs,(Ak D.nda D.ndl).trans h,v hf⟩,D.wd hf⟩
theorem wZ.ok(D:wZ K He H9 a l dn fw H s ns w n)(hn:n<=1000):s.ls.ok:=⟨D.lf,by have:=D.mu;unfold Mine.mu at this;show(s.said.length:Int) + 2 * s.left<=100000;have z:(s.said.length:Int) + 2 * s.left<=20000 + n:=this;omega⟩
theorem wZ.val(D:wZ K He H9 a l dn fw H s ns w n)(hn:n<=1000)(e:Ex)(hw:s.fin=none->e.wf ns 6)(k:lM a l H H')(J:iI K (mE a l H) a l fw' H' (kC w e s)):wZ K He H9 a l dn fw' H' (kC w e s) ns w n:=by
 have fn:(kC w e s).fin=none->s.fin=none:=λh=>by
  by_cases z:s.fin=none
  ·exact z
  ·rw[eM z]at h;exact h
 refine⟨D.I.back J,?_,?_,let ⟨kvs,h,r1,r2⟩:=D.d;⟨kvs,k _ _ D.nda D.ndl h,r1,λz=>r2 (fn z)⟩,λz=>D.wd (fn z),λc o n1 n2 n3 h=>k c o n1 n2 (D.kp c o n1 n2 n3 h),D.nda,D.ndl,D.ne⟩
 ·by_cases z:s.fin=none
  ·rw[c8 z];exact(qR (iS (D.wd z) e (hw z) (D.ok hn)).1).1
  ·rw[eM z];exact D.lf
 ·by_cases z:s.fin=none
  ·rw[c8 z,El];exact Int.le_trans (Ex.gO w e s.ls) D.mu
  ·rw[eM z];exact D.mu
end
theorem wZ.up{K:aJ}{He H9 H:Hp}{a l dn:Addr}{fw:V}{s:LT}{ns:List Str}{w:Str->Int}{n:Nat}(D:wZ K He H9 a l dn fw H s ns w n):wZ K He H9 a l dn fw H s ns w (n + 1):=⟨D.I,D.lf,by have:=D.mu;omega,let ⟨kvs,h,l,r⟩:=D.d;⟨kvs,h,by omega,r⟩,D.wd,D.kp,D.nda,D.ndl,D.ne⟩
theorem Al{α β:Type}{r:Ou α×LS}{f:α->LS->Ou β×LS}{g:β->LS->Ou Int×LS}(h:(after r).fin≠none):mF (gL (gL r f) g)=after r:=by
 obtain⟨r,t⟩:=r
 cases r with
 | val a=>exact absurd rfl h
 | fault=>rfl
 | weary=>rfl
theorem wZ.tup{K:aJ}{He H9 H:Hp}{a l dn t:Addr}{fw fv:V}{s s0:LT}{ns:List Str}{w:Str->Int}{n:Nat}{kvs:List (Key×V)}{xs:List V}(D:wZ K He H9 a l dn fw H s ns w n)(I:iI K He a l fv H9 s0)(hk:H9 dn=some (.dK kvs))(h:bV K H9 t xs):bV K H t xs:=by
 rcases h with(h | ⟨o,h⟩) | h
 ·exact .inl (.inl (D.kp _ _ (aX h I.ha (by intro z;cases z)) (aX h I.hl (by intro z;cases z)) (aX h hk (by intro z;cases z)) h))
 ·exact .inl (.inr ⟨o,D.kp _ _ (aX h I.ha (by intro z;cases z)) (aX h I.hl (by intro z;cases z)) (aX h hk (by intro z;cases z)) h⟩)
 ·exact .inr h
theorem Em{w:Str->Int}{e:Ex}{es:br}{s:LT}:iw w (.cons e es) s=iw w es (kC w e s):=by
 by_cases h:s.fin=none
 ·rw[tI h,c8 h]
 ·rw[jq h,eM h,jq h]
theorem mG{w:Str->Int}{e:Ex}{s:LT}(h:(kC w e s).fin=none):s.fin=none:=by
 by_cases z:s.fin=none
 ·exact z
 ·rw[eM z]at h;exact h
theorem iI.dict{K:aJ}{H0 H:Hp}{a l dn:Addr}{fv:V}{s:LT}{kvs:List (Key×V)}{o:HO}(I:iI K H0 a l fv H s)(h:H dn=some (.dK kvs))(n0:H0 dn=none)(na:dn≠a)(nl:dn≠l):iI K H0 a l fv (upd H dn o) s:=by
 refine⟨(uN na.symm).trans I.ha,I.hf.same λt xs z=>?_,(uN nl.symm).trans I.hl,I.ne,λc u e=>(uN (nN e n0)).trans (I.s0 _ _ e),I.na,I.nl⟩;rcases z with(z | ⟨o,z⟩) | z
 ·exact .inl (.inl ((uN (aX z h (by intro w;cases w))).trans z))
 ·exact .inl (.inr ⟨o,(uN (aX z h (by intro w;cases w))).trans z⟩)
 ·exact .inr z
theorem Eo{w:Str->Int}{es:br}{s:LT}(h:(iw w es s).fin=none):s.fin=none:=by
 by_cases z:s.fin=none
 ·exact z
 ·rw[jq z]at h;exact h
theorem Tx{w:Str}:∀ks:List Int,ks.length<=2->cutD (.str w::aK ks) (some 1) none=aK ks
 | [],_=>rfl
 | [_],_=>rfl
 | [_,_],_=>rfl
theorem Ie{ns:List Int}{i:Nat}{d:PyData}(h:(aK ns)[i]?=some d):∃k,d=.int k:=by
 unfold aK at h;rw[List.getElem?_map]at h
 cases e:ns[i]? with
 | none=>rw[e]at h;cases h
 | some k=>rw[e]at h;cases h;exact⟨k,rfl⟩
theorem tJ(a b:List Int):aK (a++b)=aK a++aK b:=aaU
theorem nM(a:List Int):(aK a).length=a.length:=aaf _
def B5(a b k:Nat):Str:=Txt.slice (Str.ofString "aaa") none (some (a:Int))++⟨#[112 + k]⟩++Txt.slice (Str.ofString "zzzz") none (some (b:Int))
theorem MI:∀i:Nat,i < 3->lD (Str.ofString "pqrstu").cps.toList (i:Int)=some (112 + i):=by decide +kernel
theorem MJ:∀a:Nat,a < 4->∀b:Nat,b < 5->∀i:Nat,i < 3->∀j:Nat,j < 3->(i=j∨B5 a b i≠B5 a b j):=by decide +kernel
theorem Am:∀a:Nat,a < 4->∀b:Nat,b < 5->∀i:Nat,i < 3->PyData.canLay0 (.str (B5 a b i))=true:=by decide +kernel
def iA(a b m:Nat):List Str:=(List.range m).map (B5 a b)
theorem yG{a b m:Nat}(ha:a < 4)(hb:b < 5)(hm:m<=3):(iA a b m).Nodup:=by
 unfold iA;refine List.pairwise_map.mpr (List.Pairwise.imp_of_mem (λ{x y} hx hy h=>(MJ a ha b hb x ?_ y ?_).resolve_left h) List.nodup_range)
 ·have:=ab3.mp hx;omega
 ·have:=ab3.mp hy;omega
theorem pR.app{a b c:List Str}{s1 s2:List Sm}(h:pR a s1 b):pR b s2 c->pR a (s1++s2) c:=by
 induction h with
 | nil=>intro g;exact g
 | say h _ ih=>intro g;exact .say h (ih g)
 | lt h _ ih=>intro g;exact .lt h (ih g)
 | put h1 h2 h3 h4 _ ih=>intro g;exact .put h1 h2 h3 h4 (ih g)
def w4(i:Nat):Str:=Str.ofString "let"++⟨#[97 + i]⟩
theorem Ig:∀i:Nat,i < 3->lD (Str.ofString "abc").cps.toList (i:Int)=some (97 + i):=by decide +kernel
theorem Ep:∀i:Nat,i < 3->PyData.canLay0 (.str (w4 i))=true:=by decide +kernel
def Ih(p:Nat)(ns:List Str)(d:Nat)(bd:List PyData)(i:Nat)(ys:List DV)(st:aE):Prop:=∃(es:List Ex) (src:List Int),es.length=i/\(∀e∈es,e.wf ns d)/\ys=es.map (λe=>DV.dat (e.D p))/\st=[.live (aK src),.live bd]/\gK src
theorem Ih.more{p:Nat}{ns:List Str}{d i:Nat}{bd:List PyData}{es:List Ex}{src:List Int}{e:Ex}(h1:es.length=i)(h2:∀e∈es,e.wf ns d)(he:e.wf ns d)(hs:gK src):Ih p ns d bd (i + 1) (es.map (λe=>DV.dat (e.D p))++[.dat (e.D p)]) [.live (aK src),.live bd] :=
 ⟨es++[e],src,by rw[aay,h1];rfl,λx hx=>by
  rcases aaK.mp hx with z | z
  ·exact h2 x z
  ·rw[pT z];exact he,by rw[aaU];rfl,rfl,hs⟩
def X2(ns:List Int)(cl:Int)(ec one tw m0 na nb:Nat)(i:Nat)(env:bL)(st:aE):Prop:=∃(sts:List Sm) (nsi:List Str) (src:List Int) (w6 Qs:Option DV),env=[some (.dat (.list (List.map PyData.int ns))),some (.ref 0),some (.dat (.int cl)),some (.dat (.int (ec:Int))),some (.dat (.int (one:Int))),some (.dat (.int (tw:Int))),some (.dat (.tuple [.str "number"])),some (.dat (.list (nsi.map PyData.str))),some (.dat (.list ((List.range (m0 + 1)).map λk=>.tuple [.str (B5 na nb k),.tuple [.str "number"]]))),some (.dat (.list [.int (ec:Int),.int (one:Int),.int (tw:Int)])),some (.ref 1),w6,Qs,none,none,none,none,none,none,none,none,none,none]/\st=[.live (aK src),.live (sts.map (Sm.D ec))]/\pR (iA na nb (m0 + 1)) sts nsi/\sts.length=3 * i/\nsi≠[]/\nsi.length=m0 + 1 + i/\gK src/\∀x∈nsi,PyData.canLay0 (.str x)=true
theorem vJ{α:Type}(xs:List α)(d:α):lD (xs++[d]) (-1)=some d:=by
 unfold lD xP;rw[if_neg (by decide),List.length_append,List.length_singleton,if_pos (by omega),show((-1:Int) + ((xs.length + 1:Nat):Int)).toNat=xs.length by omega];show(xs++[d])[xs.length]?=some d;rw[List.getElem?_append_right (Nat.le_refl _),Nat.sub_self];rfl
def BA(ec:Nat)(D:kZ):List kZ:=if ec=0 then [gM,D]else [D,gM]
theorem MK{ec:Nat}(h:ec < 2)(D:kZ):lD [PyData.list [vB gM,vB D],.list [vB D,vB gM]] (ec:Int)=some (.list ((BA ec D).map vB)):=by
 have z:ec=0∨ec=1:=by omega
 rcases z with rfl | rfl
 ·exact aN (j:=0) rfl
 ·exact aN (j:=1) rfl
theorem yH{ec:Nat}(h:ec < 2)(D:kZ):(BA ec D)[ec]?=some gM/\(BA ec D)[1 - ec]?=some D:=by
 have z:ec=0∨ec=1:=by omega
 rcases z with rfl | rfl<;>exact⟨rfl,rfl⟩
theorem Ii{ec na nb m:Nat}{sts:List Sm}{an:Ex}{nsi:List Str}:PyData.tuple [.list ((List.range m).map λk=>.tuple [.str (B5 na nb k),.tuple [.str "number"]]),.tuple [.str "number"],.list (sts.map (Sm.D ec)),an.D ec]=vB (cZ ec (iA na nb m) sts an nsi):=by
 unfold vB cZ iA;rw[List.map_map,List.map_map];rfl
def X3(bd:List PyData)(i:Nat)(ys:List DV)(st:aE):Prop:=∃(ks:List Int) (src:List Int),ks.length=i/\(∀k∈ks,fY k)/\ys=ks.map (λk=>DV.dat (.int k))/\st=[.live (aK src),.froz bd]/\gK src
theorem Er{a b m:Nat}(ha:a < 4)(hb:b < 5)(hm:m<=3):∀x∈iA a b m,PyData.canLay0 (.str x)=true:=λx hx=>by
 unfold iA at hx;obtain⟨i,hi,rfl⟩:=List.mem_map.mp hx;exact Am a ha b hb i (by have:=List.mem_range.mp hi;omega)
theorem Ij{ns:List Str}{x:Str}(h:∀x∈ns,PyData.canLay0 (.str x)=true)(hx:PyData.canLay0 (.str x)=true):∀y∈ns++[x],PyData.canLay0 (.str y)=true:=λy hy=>by
 rcases aaK.mp hy with z | z
 ·exact h y z
 ·rw[pT z];exact hx
theorem ML{op:Str}(h:wQ op):PyData.canLay0 (.str op)=true:=by
 rcases h with rfl | rfl | rfl | rfl | rfl | rfl | rfl<;>decide +kernel
mutual
theorem Ex.sh{p:Nat}{ns:List Str}(hx:∀x∈ns,PyData.canLay0 (.str x)=true):∀(e:Ex) (n:Nat),e.wf ns n->Sh (3 * n + 1) (e.D p)
 | .num k,n,_=>by rw[Ex.D];exact dP (aA (dE (by decide +kernel)) (aA gq cO))
 | .var x,n,h=>by rw[Ex.wf]at h;rw[Ex.D];exact dP (aA (dE (by decide +kernel)) (aA (dE (hx x h)) cO))
 | .call a b,n,h=>by
  rw[Ex.wf]at h;obtain⟨j,rfl,ha,hb⟩:=h;rw[Ex.D];exact(dP (aA (dE (by decide +kernel)) (aA gq (aA (iR (aA (Ex.sh hx a j ha) (aA (Ex.sh hx b j hb) cO))) cO)))).up (by omega)
 | .get c f c2 es,n,h=>by
  rw[Ex.wf]at h;obtain⟨j,rfl,he,_,_⟩:=h;rw[Ex.D];exact(dP (aA (dE (by decide +kernel)) (aA gq (aA gq (aA (dP (aA (dE (by decide +kernel)) (aA gq (aA (iR (br.sh hx es j he)) cO)))) cO))))).up (by omega)
 | .either a b c,n,h=>by
  rw[Ex.wf]at h;obtain⟨j,rfl,ha,hb,hc⟩:=h;rw[Ex.D];exact(dP (aA (dE (by decide +kernel)) (aA (Ex.sh hx a j ha) (aA (Ex.sh hx b j hb) (aA (Ex.sh hx c j hc) cO))))).up (by omega)
 | .two op a b,n,h=>by
  rw[Ex.wf]at h;obtain⟨j,rfl,ho,ha,hb⟩:=h;rw[Ex.D];exact(dP (aA (dE (ML ho)) (aA (Ex.sh hx a j ha) (aA (Ex.sh hx b j hb) cO)))).up (by omega)
theorem br.sh{p:Nat}{ns:List Str}(hx:∀x∈ns,PyData.canLay0 (.str x)=true):∀(es:br) (n:Nat),es.pA ns n->∀d∈es.L p,Sh (3 * n + 1) d
 | .nil,n,_=>by rw[br.L];exact cO
 | .cons e es,n,h=>by rw[br.pA]at h;rw[br.L];exact aA (Ex.sh hx e n h.1) (br.sh hx es n h.2)
end
theorem pR.sub{a b:List Str}{sts:List Sm}(h:pR a sts b):∀x∈a,x∈b:=by
 induction h with
 | nil=>exact λ_ h=>h
 | say _ _ ih=>exact ih
 | lt _ _ ih=>exact λx hx=>ih x (abf _ hx)
 | put _ _ _ _ _ ih=>exact ih
theorem pR.sh{p:Nat}{a b:List Str}{sts:List Sm}(h:pR a sts b):(∀x∈b,PyData.canLay0 (.str x)=true)->∀d∈sts.map (Sm.D p),Sh 22 d:=by
 induction h with
 | nil=>intro _;exact cO
 | @say ns e r ns' he hr ih =>
  intro hb;exact aA ((dP (aA (dE (by decide +kernel)) (aA (Ex.sh (λx hx=>hb x (hr.sub x hx)) e 6 he) cO))).up (by decide)) (ih hb)
 | @lt ns x e r ns' he hr ih =>
  intro hb;exact aA ((dP (aA (dE (by decide +kernel)) (aA (dE (hb x (hr.sub x (aav _ aae)))) (aA ((dP (aA (dE (by decide +kernel)) cO)).up (show 1<=19 by decide)) (aA (Ex.sh (λx hx=>hb x (hr.sub x (abf _ hx))) e 6 he) cO))))).up (by decide)) (ih hb)
 | @put ns f es e r ns' hs _ _ he hr ih =>
  intro hb;have z:∀x∈ns,PyData.canLay0 (.str x)=true:=λx hx=>hb x (hr.sub x hx)
  exact aA (dP (aA (dE (by decide +kernel)) (aA gq (aA gq (aA (dP (aA (dE (by decide +kernel)) (aA gq (aA (iR (br.sh z es 6 hs)) cO)))) (aA ((Ex.sh z e 6 he).up (by decide)) cO)))))) (ih hb)
theorem MM{ec:Nat}{ns ns':List Str}{sts:List Sm}{an:Ex}(h:pR ns sts ns')(nd:ns.Nodup)(l5:ns.length<=5)(l9:ns'.length<=900):To (BA ec (cZ ec ns sts an ns')):=by
 have mem:∀q∈BA ec (cZ ec ns sts an ns'),q=gM∨q=cZ ec ns sts an ns':=λq hq=>by
  unfold BA at hq;split at hq
  ·simp at hq;exact hq
  ·simp at hq;exact hq.symm
 have len:(BA ec (cZ ec ns sts an ns')).length=2:=by unfold BA;split<;>rfl
 have e0:(cZ ec ns sts an ns').tk.map (·.1)=ns:=by unfold cZ;rw[List.map_map];exact List.map_id _
 refine⟨by omega,λq hq=>?_,λq hq=>?_,λq hq=>?_,λq hq=>?_⟩<;>rcases mem q hq with rfl | rfl
 ·show 2<=100;decide
 ·unfold cZ;rw[List.length_map];omega
 ·show([("x" : Str),"y"]:List Str).Nodup;decide +kernel
 ·rw[e0];exact nd
 ·intro x hx;exact hx
 ·rw[e0];exact h.sub
 ·show 2<=900;decide
 ·exact l9
def Et:Ou Int->Str
 | .val _=>"gave"
 | .fault=>"fault"
 | .weary=>"weary"
def Eu:Ou Int->List Int
 | .val k=>[k]
 | .fault=>[1]
 | .weary=>[]
theorem An(r:Ou Int):Ek r=.str (Et r)::(Eu r).map V.int:=by cases r<;>rfl
theorem Ik(r:Ou Int):endOf r.res=some (Ek r):=by cases r<;>rfl
theorem Ew(r:Ou Int):(Eu r).length<=2/\PyData.canLay0 (.str (Et r))=true:=by
 cases r with
 | val k=>exact⟨by show 1<=2;decide,by show PyData.canLay0 (.str "gave")=true;decide +kernel⟩
 | fault=>exact⟨by show 1<=2;decide,by show PyData.canLay0 (.str "fault")=true;decide +kernel⟩
 | weary=>exact⟨by show 0<=2;decide,by show PyData.canLay0 (.str "weary")=true;decide +kernel⟩
theorem yI{ns ns':List Str}{sts:List Sm}{an:Ex}(h:pR ns sts ns')(ha:an.wf ns' 6){ks:List Int}(hl:ks.length=ns.length)(hw:∀k∈ks,fY k){bud:Int}(hb:0<=bud)(Tt:bud<=10000)(Tu:sts.length<=20):
  (whole sts an (w0 ns ks) ⟨[],bud⟩).2.said.length<=100000:=by
 have m0:mu ⟨[],bud⟩=2 * bud:=by unfold mu;simp
 obtain⟨v',_,l1,u1,k1⟩:=h.ev (ps:=[gM]) (p:=0) rfl (d:=1) (by decide) (m:=ns') (w0 ns ks) (envOf ns ks) ⟨[],bud⟩ (λ_ h=>h) (ME hl hw) hb (by omega);unfold whole
 revert l1 u1 k1
 generalize runs sts (w0 ns ks) ⟨[],bud⟩=q;obtain⟨r1,t1⟩:=q;intro l1 u1 k1;have l1:0<=t1.left:=l1;have u9:(t1.said.length:Int) + 2 * t1.left<=2 * bud + sts.length:=by rw[← m0];exact u1
 cases r1 with
 | fault=>show t1.said.length<=_;omega
 | weary=>show t1.said.length<=_;omega
 | val w' =>
  obtain⟨⟨g1,g2⟩,_⟩:=iS (λx hx=>(k1 w' rfl x hx).2) an ha (s:=t1) ⟨l1,by omega⟩;show(an.lv w' t1).2.said.length<=_;omega
structure Sg(σ:St)(v3 v8 v10 KC Ey Ez OA Qt:V):Prop where
 len:σ.length=23
 s3:σ[3]?=some (some v3)
 s8:σ[8]?=some (some v8)
 Ly:σ[10]?=some (some v10)
 V2:σ[13]?=some (some KC)
 FV:σ[16]?=some (some Ey)
 Tz:σ[17]?=some (some Ez)
 Ao:σ[18]?=some (some OA)
 RP:σ[19]?=some (some Qt)
theorem kD{σ:St}{i j:Nat}{x:Option V}{y:Option V}(h:σ[i]?=some x)(n:j≠i):(σ.set j y)[i]?=some x:=by rw[aau n];exact h
theorem EA{σ:St}{i:Nat}{y:Option V}(h:i < σ.length):(σ.set i y)[i]?=some y:=aas h
theorem Sg.set{σ:St}{v3 v8 v10 KC Ey Ez OA Qt:V}(h:Sg σ v3 v8 v10 KC Ey Ez OA Qt){j:Nat}(hj:20<=j)(y:Option V):Sg (σ.set j y) v3 v8 v10 KC Ey Ez OA Qt :=
 ⟨by rw[aaM];exact h.len,kD h.s3 (by omega),kD h.s8 (by omega),kD h.Ly (by omega),kD h.V2 (by omega),kD h.FV (by omega),kD h.Tz (by omega),kD h.Ao (by omega),kD h.RP (by omega)⟩
theorem qT{K:aJ}{H:Hp}(ns:List Int):da K H (ns.map V.int) (aK ns):=by
 refine⟨by unfold aK;rw[List.length_map,List.length_map],λi x d hx hd=>?_⟩;unfold aK at hd;rw[List.getElem?_map]at hx hd
 cases e:ns[i]? with
 | none=>rw[e]at hx;cases hx
 | some k=>rw[e]at hx hd;cases hx;cases hd;exact .int _
theorem Ap{K:aJ}{H:Hp}{t u l:Addr}{w:Str}{ks ns:List Int}{k:Int}(g1:bV K H t [.ref u,.ref l,.int k])(g2:bV K H u (.str w::ks.map V.int))(g3:H l=some (.lst (ns.map V.int))):aQ K H (.ref t) (.tuple [.tuple (.str w::aK ks),.list (aK ns),.int k]) :=
 aQ.CZ g1 (.cons (aQ.CZ g2 (.cons (.str _) (qT ks))) (.cons (aQ.AQ (bu.of g3) (qT ns)) (.cons (.int _) .nil)))
theorem Aq{K:aJ}{H:Hp}:∀{xs:List V} {ks:List Int},da K H xs (aK ks)->xs=ks.map V.int
 | [],[],_=>rfl
 | [],_::_,h=>by have:=h.1;unfold aK at this;simp at this
 | _::_,[],h=>by have:=h.1;unfold aK at this;simp at this
 | x::xs,k::ks,h=>by
  have e:=aQ.ba (h.2 0 x (.int k) rfl rfl);subst e;rw[Aq (xs:=xs) (ks:=ks) ⟨by have:=h.1;unfold aK at this ⊢;simpa using this,λi x d hx hd=>h.2 (i + 1) x d hx hd⟩];rfl
def kE:Bh:=λds Q=>∃(n:Int),ds=[.int n]/\Q (.bool true)
def gY(K:aJ):Sp:=Oq K kE
theorem uX:Bi kE:=by
 rintro ds Q Q' f ⟨n,z1,q⟩;exact⟨n,z1,by intros;apply f;apply q<;>assumption⟩
theorem uY{K:aJ}:L3 K (gY K) kE:=DL
def w8:Bh:=λds Q=>∃(w:Str) (ks ns:List Int) (l:Int),ds=[.tuple [.tuple (.str w::aK ks),.list (aK ns),.int l],.tuple [.tuple (.str w::aK ks),.list (aK ns),.int l]]/\ks.length<=2/\ns.length<=100000/\PyData.canLay0 (.str w)=true/\Q (.bool true)
def gZ(K:aJ):Sp:=Oq K w8
def e9(_K:aJ):Sp:=λvs H Q _=>∃n:Int,vs=[.int n]/\Q (.int (fS n)) H
def gz(K:aJ):Sp:=λvs H Q _=>∃(H0:Hp) (a l:Addr) (fv:V) (op:Str) (k m:Int) (s:LT),vs=[.str op,.int k,.int m,.ref a]/\wQ op/\fY k/\fY m/\iI K H0 a l fv H s/\(parts op->m=0->∀H' fw,lM a l H H'->iI K H0 a l fw H' {s with fin:=some .fault}->Q (.int 0) H')/\((parts op->m≠0)->∀H',lM a l H H'->iI K H0 a l fv H' s->Q (.int (rk op k m)) H')
def cT(K:aJ)(n:Nat):Sp:=λvs H Q _=>∃(H0:Hp) (a l dn:Addr) (fv tv:V) (e:Ex) (p j:Nat) (ns:List Str) (w:Str->Int) (s:LT),n=j + 1/\vs=[tv,.ref dn,.ref a]/\aQ K H0 tv (e.D p)/\iI K H0 a l fv H s/\(s.fin=none->e.wf ns j/\V1 H0 dn ns w/\s.ls.ok)/\(∀H' fw,s.fin≠none->lM a l H H'->iI K H0 a l fw H' s->Q (.int 0) H')/\∀H' fw k,s.fin=none->lM a l H H'->iI K H0 a l fw H' (after (e.lv w s.ls))->(∀k0 t,e.lv w s.ls=(.val k0,t)->k=k0)->Q (.int k) H'
def lN(K:aJ):Sp:=λvs H Q _=>∃(tv:V) (il:Addr) (bud:Int) (p:Nat) (ns ns':List Str) (sts:List Sm) (an:Ex) (ks:List Int),vs=[tv,.ref il,.int bud]/\aQ K H tv (vB (cZ p ns sts an ns'))/\bu K H il (ks.map V.int)/\ks.length=ns.length/\(∀k∈ks,fY k)/\ns.Nodup/\ns.length<=5/\sts.length<=20/\pR ns sts ns'/\an.wf ns' 6/\0<=bud/\bud<=10000/\∀(t u l:Addr) (H':Hp),aS H H'->H l=none->bV K H' t [.ref u,.ref l,.int (whole sts an (w0 ns ks) ⟨[],bud⟩).2.left]->bV K H' u (Ek (whole sts an (w0 ns ks) ⟨[],bud⟩).1)->H' l=some (.lst ((whole sts an (w0 ns ks) ⟨[],bud⟩).2.said.map V.int))->Q (.ref t) H'
def lO:HH:=λxs st Q=>∃(src:List Int) (m:Int),xs=[.ref 0,.dat (.int m)]/\st=[.live (aK src)]/\gK src/\0 < m/\∀(r:Int) (src':List Int),0<=r->r < m->gK src'->Q (.int r) [.live (aK src')]
def fT(K:aJ) : Sp:=S8 K (lO )
theorem iT:z8 lO:=by
 rintro xs st Q Q' f ⟨src,m,e1,e2,h0,hm,q⟩;exact⟨src,m,e1,e2,h0,hm,λr src' a b c=>f _ _ (q r src' a b c)⟩
theorem iU{K:aJ} : D4 K (fT K ) (lO ):=D5
def jM:Bh:=λds Q=>∃(c:Int),ds=[.int c]/\∀n:Int,fY n->Q (.int n)
def fU(K:aJ):Sp:=Oq K jM
theorem oX:Bi jM:=by
 rintro ds Q Q' f ⟨c,z1,q⟩;exact⟨c,z1,by intros;apply f;apply q<;>assumption⟩
theorem oY{K:aJ}:L3 K (fU K) jM:=DL
def fV(n:Nat):HH:=λxs st Q=>∃(src:List Int) (ns:List Str) (ec one two deep:Nat),xs=[.ref 0,.dat (.list (ns.map PyData.str)),.dat (.list [.int (ec:Int),.int (one:Int),.int (two:Int)]),.dat (.int (deep:Int))]/\st=[.live (aK src)]/\gK src/\ns≠[]/\ns.length<=10/\1<=one/\one<=3/\two<=3/\deep<=4/\deep < n/\∀(e:Ex) (src':List Int),e.wf ns deep->gK src'->Q (e.D ec) [.live (aK src')]
def fe(K:aJ)(n:Nat):Sp:=S8 K (fV n)
theorem bO{n:Nat}:z8 (fV n):=by
 rintro xs st Q Q' f ⟨src,ns,ec,one,two,deep,e1,e2,h0,rK,nO,o1,o3,t3,d4,hdn,q⟩;exact⟨src,ns,ec,one,two,deep,e1,e2,h0,rK,nO,o1,o3,t3,d4,hdn,λe s a b=>f _ _ (q e s a b)⟩
theorem bP{K:aJ}{n:Nat}:D4 K (fe K n) (fV n):=D5
def jN:wK:=λds Q=>∃(ns:List Int),ds=[.list (aK ns)]/\ns.length<=63/\∀src,gK src->Q (aK src)
def fN(K:aJ):Sp:=Qh K jN
theorem rL:Ee jN:=by
 rintro ds Q Q' f ⟨ns,e,h,q⟩;exact⟨ns,e,h,λsrc z=>f _ (q src z)⟩
theorem rM{K:aJ}:Ac K (fN K) jN:=Qi
def i6:Kd->Bool
 | .num=>true
 | _=>false
theorem EC(k:Kd):PyData.eqv (.tuple (rH k)) (.tuple [.str "number"])=i6 k:=by
 cases k with
 | any=>decide +kernel
 | num=>decide +kernel
 | whole c=>rfl
 | raw c m=>rfl
def jO(K:aJ):Sp:=λvs H Q _=>∃(tl:Addr) (g:V) (ys:List V) (ks:List Kd) (gk:Kd),vs=[.ref tl,g]/\bu K H tl ys/\da K H ys (qM ks)/\aQ K H g (.tuple (rH gk))/\ks.length<=100 /\
 ∀(H':Hp),aS H H'->Q (.bl ((ks++[gk]).all i6)) H'
def tK:Bh:=λds Q=>∃(ks:List Kd) (gk:Kd),ds=[.list (qM ks),.tuple (rH gk)]/\ks.length<=100/\Q (.bool ((ks++[gk]).all i6))
theorem yJ:Bi tK:=by
 rintro ds Q Q' f ⟨ks,gk,e,h,q⟩;exact⟨ks,gk,e,h,f _ q⟩
theorem yK{K:aJ}:L3 K (jO K) tK:=by
 rintro vs H Q P ds hP hv ⟨ks,gk,rfl,h,q⟩;obtain⟨v,u,rfl,r1,r2⟩:=PR hv;obtain⟨a,ys,rfl,g1,_,g2⟩:=aR.cn r1;exact⟨a,u,ys,ks,gk,rfl,g1,⟨g2.1,λi x d a b=>(g2.2 i x d a b).now⟩,r2.now,h,λH' s=>q _ H' s (.bl _)⟩
def xa(hs:List (List Kd×Kd))(j:Int)(n:Nat):Prop:=∃h,0<=j/\hs[j.toNat]?=some h/\(h.1++[h.2]).all i6=true/\n=h.1.length
def uZ(bR:Addr):VM:=λds Q Ex=>∃(hs:List (List Kd×Kd)) (j:Int) (ws:List Int),ds=[.list (hs.map zy),.int j,.list (ws.map PyData.int)]/\(∀h∈hs,h.1.length<=100)/\(xa hs j ws.length->Q .none)/\(¬ xa hs j ws.length->Ex bR [])
def i7(K:aJ)(bR:Addr):Sp:=Xz K (uZ bR)
def i8:Bh:=λds Q=>∃(p:kZ),ds=[vB p]/\p.tk.length<=100/\Q (.list (qM (p.tk.map (·.2))))
def ff(K:aJ):Sp:=Oq K i8
theorem qU:Bi i8:=by
 rintro ds Q Q' f ⟨p,e,h,q⟩;exact⟨p,e,h,f _ q⟩
theorem qV{K:aJ}:L3 K (ff K) i8:=DL
def yL:Bh:=λds Q=>∃(ms:PyData) (ps:List kZ),ds=[Kx ms ps]/\ps.length<=100/\(∀p∈ps,p.tk.length<=100)/\Q (.list ((yB ps).map zy))
def kF(K:aJ):Sp:=Oq K yL
def qW(K:aJ)(C:Addr)(mg:Str->Option Value):Sp:=λvs H Q E=>∃(R:RW) (said:List Int) (left:Int),vs=[.ref R.x]/\fZ K C R H said left/\(left<=0->∀C' dd,mg "Weary"=some (.ref C')->E (.ref C') dd H)/\(0 < left->Q .non (upd H R.x (.ins C R.dx (ka R.b R.sd (left - 1)))))
def fg(K:aJ)(n:Nat)(C:Addr)(aj:Addr)(mg:Str->Option Value):Sp:=λvs H Q E=>∃(R:RW) (L:CL) (a:Addr) (us:List V) (ts:List PyData) (s s':md) (r:Res),vs=[.ref R.x,.ref L.c,.ref a]/\fZ K C R H s.said s.left/\jL aj R L H s.env/\(bu K R.H0 a us∨bV K H a us)/\da K R.H0 us ts/\ts.length<=100/\Ev R.ps n L.dep L.nm (.Es ts) s r s'/\(∀H' l ks,r=.vals ks->j5 R H H'->fZ K C R H' s'.said s'.left->H l=none->H' l=some (.lst (ks.map V.int))->Q (.ref l) H')/\∀H',j5 R H H'->fZ K C R H' s'.said s'.left->qN mg E r H'
def fG(K:aJ)(n:Nat)(C:Addr)(aj:Addr)(mg:Str->Option Value):Sp:=λvs H Q E=>∃(R:RW) (L:CL) (tv:V) (p:Nat) (ts:List PyData) (s s':md) (r:Res),vs=[.ref R.x,.ref L.c,tv]/\fZ K C R H s.said s.left/\jL aj R L H s.env/\aQ K R.H0 tv (.tuple [.str "call",.int (p:Int),.list ts])/\ts.length<=100/\Ev R.ps n L.dep L.nm (.Cl p ts) s r s'/\∀H',j5 R H H'->fZ K C R H' s'.said s'.left->uU Q r H'/\qN mg E r H'
def jP(_K:aJ):Sp:=λvs H Q _=>∃n:Int,vs=[.int n]/\Q (.int (fS n)) H
def lP(_K:aJ)(mg:Str->Option Value):Sp:=λvs H Q E=>∃(sign:Str) (a b:Int),vs=[.str sign,.int a,.int b]/\parts sign/\fY a/\fY b/\(b=0->∀C,mg "Nought"=some (.ref C)->E (.ref C) none H)/\(b≠0->Q (.int (rk sign a b)) H)
def kG(_K:aJ)(mg:Str->Option Value):Sp:=λvs H Q E=>∃(sign:Str) (a b:Int),vs=[.str sign,.int a,.int b]/\(sign="add"∨sign="sub"∨sign="mul"∨sign="less"∨sign="same"∨parts sign)/\fY a/\fY b/\(parts sign->b=0->∀C,mg "Nought"=some (.ref C)->E (.ref C) none H)/\((parts sign->b≠0)->Q (.int (rk sign a b)) H)
def gA(K:aJ)(n:Nat)(C:Addr)(aj:Addr)(mg:Str->Option Value):Sp:=λvs H Q E=>∃(R:RW) (L:CL) (tv:V) (op:Str) (a b:PyData) (s s':md) (r:Res),vs=[.ref R.x,.ref L.c,tv]/\fZ K C R H s.said s.left/\jL aj R L H s.env/\aQ K R.H0 tv (.tuple [.str op,a,b])/\wQ op/\Ev R.ps n L.dep L.nm (.Tw op a b) s r s'/\∀H',j5 R H H'->fZ K C R H' s'.said s'.left->uU Q r H'/\qN mg E r H'
def iB(_K:aJ)(C:Addr):Sp:=λvs H Q _=>∃(x dx l:Addr) (c:Int),vs=[.ref x,.int c,.ref l]/\H x=some (.ins C dx []) /\
 ∀(H':Hp),H' x=some (.ins C dx (Ei c l))->(∀c o,c≠x->H c=some o->H' c=some o)->Q .non H'
def bY(K:aJ)(n:Nat)(C:Addr)(aj:Addr)(ai:Addr)(mg:Str->Option Value):Sp:=λvs H Q E=>∃(R:RW) (L:CL) (tv:V) (tree:PyData) (s s':md) (r:Res),vs=[.ref R.x,.ref L.c,tv]/\fZ K C R H s.said s.left/\jL aj R L H s.env/\aQ K R.H0 tv tree/\Ev R.ps n L.dep L.nm (.E tree) s r s'/\(∀H',j5 R H H'->fZ K C R H' s'.said s'.left->uU Q r H'/\qN mg E r H')/\∀H' ks a dr l c,r=.rcd ks->j5 R H H'->fZ K C R H' s'.said s'.left->H l=none->H' a=some (.ins ai dr (Ei c l))->H' l=some (.lst (ks.map V.int))->Q (.ref a) H'
def gE(K:aJ)(n:Nat)(C:Addr)(aj:Addr)(mg:Str->Option Value):Sp:=λvs H Q E=>∃(R:RW) (L:CL) (tv:V) (t:PyData) (s s':md) (r:Res),vs=[.ref R.x,.ref L.c,tv]/\fZ K C R H s.said s.left/\jL aj R L H s.env/\aQ K R.H0 tv t/\Ev R.ps n L.dep L.nm (.S t) s r s'/\∀H',wR R L H H'->fZ K C R H' s'.said s'.left->jL aj R L H' s'.env->uU Q r H'/\qN mg E r H'
def nP(K:aJ)(n:Nat)(C:Addr)(aj:Addr)(mg:Str->Option Value):Sp:=λvs H Q E=>∃(R:RW) (L:CL) (tv:V) (ts:List PyData) (s s':md) (r:Res),vs=[.ref R.x,.ref L.c,tv]/\fZ K C R H s.said s.left/\jL aj R L H s.env/\aQ K R.H0 tv (.list ts)/\Ev R.ps n L.dep L.nm (.Ss ts) s r s'/\∀H',wR R L H H'->fZ K C R H' s'.said s'.left->jL aj R L H' s'.env->uU Q r H'/\qN mg E r H'
def jQ(_K:aJ)(C:Addr):Sp:=λvs H Q _=>∃(x dx d:Addr) (p:Int),vs=[.ref x,.int p,.ref d]/\H x=some (.ins C dx []) /\
 ∀(H':Hp),H' x=some (.ins C dx (Bw p d))->(∀c o,c≠x->H c=some o->H' c=some o)->Q .non H'
def mH(K:aJ)(n:Nat)(C:Addr)(mg:Str->Option Value):Sp:=λvs H Q E=>∃(R:RW) (il:Addr) (p:Nat) (dep:Int) (ks:List Int) (m:List Str) (s s':md) (r:Res),vs=[.ref R.x,.int (p:Int),.ref il,.int dep]/\fZ K C R H s.said s.left/\bu K H il (ks.map V.int)/\Ev R.ps n dep m (.G p ks) s r s'/\∀H',j5 R H H'->fZ K C R H' s'.said s'.left->uU Q r H'/\qN mg E r H'
def nQ(K:aJ)(C:Addr)(mg:Str->Option Value):Sp:=λvs H Q _=>∃(R:RW) (il:Addr) (p:Nat) (ks:List Int) (m:List Str) (s s':md) (r:Res),vs=[.ref R.x,.int (p:Int),.ref il]/\fZ K C R H s.said s.left/\bu K H il (ks.map V.int)/\Ev R.ps 60 1 m (.G p ks) s r s'/\∀H' t ts,j5 R H H'->fZ K C R H' s'.said s'.left->bV K H' t ts->endOf r=some ts->Q (.ref t) H'
def gF(_K:aJ)(C:Addr):Sp:=λvs H Q _=>∃(x dx b:Addr) (bud:Int),vs=[.ref x,.ref b,.int bud]/\H x=some (.ins C dx []) /\
 ∀(sd:Addr) (H':Hp),H sd=none->H' x=some (.ins C dx (ka b sd bud))->H' sd=some (.lst [])->(∀c o,c≠x->H c=some o->H' c=some o)->Q .non H'
def g7(K:aJ):Sp:=λvs H Q _=>∃(b il:Addr) (j:Nat) (bud:Int) (ms:PyData) (ps:List kZ) (p:kZ) (ks:List Int) (m:List Str) (s':md) (r:Res) (ts:List V),vs=[.ref b,.int (j:Int),.ref il,.int bud]/\aQ K H (.ref b) (Kx ms ps)/\To ps/\bu K H il (ks.map V.int)/\ps[j]?=some p/\(p.tk.map (·.2)++[p.gv]).all i6=true/\ks.length=p.tk.length/\Ev ps 60 1 m (.G j ks) ⟨[],bud,λ_=>none⟩ r s'/\endOf r=some ts/\∀(t u l:Addr) (H':Hp),aS H H'->H l=none->bV K H' t [.ref u,.ref l,.int s'.left]->bV K H' u ts->H' l=some (.lst (s'.said.map V.int))->Q (.ref t) H'
def va(K:aJ):Sp:=λvs H Q _=>∃(a:Addr) (ns:List Int),vs=[.ref a]/\bu K H a (ns.map V.int)/\ns.length<=63/\∀H',Q (.bl true) H'
section
variable {P:Program} {w:World} {K:aJ} {mg:Str->Option Value} {base:Heap}
theorem yM:aO ["self","number"] ["self","number"] (dS kX):=by walk_at "sc"
theorem yN{f:Addr}{fd:FuncData}(F:jj K "__init__" "Fault.__init__" kX f fd):bJ P w K mg base c6 1 f fd ["self","number"] (Df K ["number"]) false:=by
 refine F.ok yM (λvs H Q E h=>?_) (λcdv A outer s H vs Q E hr h=>?_)
 ·obtain⟨a,C,ys,rfl,hl,_⟩:=h;exact abb (· + 1) hl
 obtain⟨a,C,ys,rfl,hl,hk,hno,e,q⟩:=h;obtain⟨y0,rfl⟩:=XQ hl;refine⟨_,(qO (Pq (pv 0) (pv 1) rfl)),?_⟩;refine⟨_,rfl,_,rfl,a,C,rfl,hk,hno _ (List.Mem.head _),.inl ⟨e,λdx hd hda=>?_⟩⟩;exact q dx hd hda
theorem rN:aO ["_law_found"] ["_law_found"] (dS kq):=by walk_at "sc"
theorem rO{f:Addr}{fd:FuncData}(F:jj K "_law_whole" "_law_whole" kq f fd)(qX:mg "bool"=none)(qY:mg "int"=none)(bQ:mg "isinstance"=none){ai:Addr}(az:ak K ai){aj:Addr}(aG:ax K aj)(mI:IsT K "bool" (oS "bool"))(qZ:IsT K "int" HE):bJ P w K mg base c6 1 f fd ["_law_found"] (gY K):=by
 refine F.ok rN (λvs H Q E h=>?_) (λcdv A outer s H vs Q E hr h=>?_)
 ·obtain⟨PP,ds,hP,hv,n,rfl,q⟩:=h;exact hv.1
 obtain⟨PP,ds,hP,hv,n,rfl,q⟩:=h;refine jm hP hv ?_;show sX _ _ _ _ [some _] [];clear hP hv;refine gW (cN (Ht (uC qZ rfl bQ rfl qY CU (ah 0)) (LY (Hu (uC mI rfl bQ rfl qX GX (ah 0)))))) ?_;walk_at "vc";rw[show(!("int" == "bool"))=true by decide,aap (by decide)];exact q
theorem lq:aO ["_law_found","_law_due_here","_law_word_here"] ["_law_found","_law_due_here"] (dS kr):=by walk_at "sc"
theorem rP{f:Addr}{fd:FuncData}(F:jj K "_law_alike" "_law_alike" kr f fd)(bQ:mg "isinstance"=none)(jr:mg "len"=none)(gH:mg "list"=none)(mJ:mg "tuple"=none){ai:Addr}(az:ak K ai){aj:Addr}(aG:ax K aj)(vb:ic P w K mg base c6 "_law_whole" 1 ["_law_found"] (gY K))(mK:IsT K "list" (oS "list"))(kH:IsT K "tuple" (oS "tuple")):bJ P w K mg base c6 2 f fd ["_law_found","_law_due_here"] (gZ K):=by
 refine F.ok lq (λvs H Q E h=>?_) (λcdv A outer s H vs Q E hr h=>?_)
 ·obtain⟨PP,ds,hP,hv,w,ks,ns,l,rfl,h1,h2,hc,q⟩:=h;exact hv.1
 obtain⟨PP,ds,hP,hv,w,ks,ns,l,rfl,h1,h2,hc,q⟩:=h;refine jm hP hv ?_;show sX _ _ _ _ [some _,some _,none] [];clear hP hv;refine aD (iQ (Ba.dt (zR (qw (ur (uC kH rfl bQ rfl mJ CV (ah 0)))) (zR (Ko (hr.units) (nq rfl jr (ae (ah 0) au)) ar) (ye (qw (ur (uC mK rfl bQ rfl gH mi (bE (n:=1) (ah 0))))))))) (bU (cN Ki)) dh) (λR kk=>?_);walk_at "vc";refine Sj rfl (Sj rfl (Sj rfl (kk _ _ ?_)));clear kk R;refine aD (yg abr rfl (ny (dN (dN (bE (n:=1) (ah 0)) (eB (ae (bE (n:=2) (ah 0)) au))) (zT rfl gH (ae (DE (bE (n:=0) (ah 0)) (uo ar) um) au)))) (mx (i:=2) lq.nd rfl (aar rfl)) (bU (iQ (qw (ur (mw vb uY uX (hr.mono (by decide)) rfl (ae (ah 2) au)))) (bU (cN Ki)) dh))) (λR kk=>?_);walk_at "vc";rw[Tx ks h1,show [PyData.int l]=aK [l]from rfl,← tJ,← tJ,nM,nM,nM];refine⟨by omega,by rw[aay];show ns.length + 1 + ks.length<=1000000;omega,?_⟩;refine uz (λi env st=>∃o,env=[some (.dat (.tuple [.tuple (.str w::aK ks),.list (aK ns),.int l])),some (.dat (.tuple [.tuple (.str w::aK ks),.list (aK ns),.int l])),o]/\st=[]) ⟨_,rfl,rfl⟩ (λ_ _ _ _=>trivial) ?_ ?_
 ·rintro i env st d hd ⟨o,rfl,rfl⟩;obtain⟨k,rfl⟩:=Ie hd;walk_at "vc";exact⟨k,rfl,cM ⟨_,rfl,rfl⟩⟩
 ·rintro env st ⟨o,rfl,rfl⟩;refine kk _ _ ?_;clear kk R;refine gW (cN (PL (hr.units) (ah 0) (ah 1))) ?_;walk_at "vc";have sh:Sh 4 (.tuple [.tuple (.str w::aK ks),.list (aK ns),.int l]):=dP (aA (dP (aA (dE hc) (uG λ_ _=>gq))) (aA (iR (uG λ_ _=>gq)) (aA gq cO)));refine⟨⟨sh.ok,sh.ok⟩,?_⟩;rw[sh.self];exact q
theorem pB:aO ["_law_number"] ["_law_number"] (dS i4):=by walk_at "sc"
theorem pC{f:Addr}{fd:FuncData}(F:jj K "_law_wrapped" "_law_wrapped" i4 f fd){ai:Addr}(az:ak K ai){aj:Addr}(aG:ax K aj):bJ P w K mg base c6 1 f fd ["_law_number"] (e9 K):=by
 refine F.ok pB (λvs H Q E h=>?_) (λcdv A outer s H vs Q E hr h=>?_)
 ·obtain⟨n,rfl,q⟩:=h;rfl
 obtain⟨n,rfl,q⟩:=h;refine⟨_,(qO (aL (cz ik (cz xB (cz m9 (pv 0) pI) pI) pI))),?_⟩;exact⟨_,rfl,_,_,rfl,rfl,_,_,rfl,rfl,by decide,_,_,rfl,rfl,q⟩
theorem nS:aO ["_law_sign","_law_one","_law_two","_law_state"] ["_law_sign","_law_one","_law_two","_law_state"] (dS iy):=by walk_at "sc"
theorem nU{f:Addr}{fd:FuncData}(F:jj K "_law_reckoned" "_law_reckoned" iy f fd)(qY:mg "int"=none){ai:Addr}(az:ak K ai){aj:Addr}(aG:ax K aj)(cG:ic P w K mg base c6 "_law_wrapped" 1 ["_law_number"] (e9 K)):bJ P w K mg base c6 2 f fd ["_law_sign","_law_one","_law_two","_law_state"] (gz K):=by
 refine F.ok nS (λvs H Q E h=>?_) (λcdv A outer s H vs Q E hr h=>?_)
 ·obtain⟨H0,a,l,fv,op,k,m,s,rfl,ho,hk,hm,I,q0,q⟩:=h;rfl
 obtain⟨H0,a,l,fv,op,k,m,s,rfl,ho,hk,hm,I,q0,q⟩:=h;refine⟨_,(qK (bg (PW.pt (pw_and (tR AK (pv 0) (ip (pK aP (pK aP pN))) rfl) (pw_and1 (tR bo (pv 2) pI (aF _))))) (qK (lB (gf (pK aP (pK pI pN))) (m7 (pv 3) pI set_list))
   (qO (aL pI))) aM)
   (qK (bg (tR bo (pv 0) aP (aF _)) (qO (aL (cI cG (hr.mono (by decide)) rfl (pK (cz qi (pv 1) (pv 2)) pN)))) aM)
   (qK (bg (tR bo (pv 0) aP (aF _)) (qO (aL (cz ik (pv 1) (cz xA (cz qi (pv 1) (pv 2)) (pv 2))))) aM)
   (qK (bg (tR bo (pv 0) aP (aF _)) (qO (aL (cI cG (hr.mono (by decide)) rfl (pK (cz m9 (pv 1) (pv 2)) pN)))) aM)
   (qK (bg (tR bo (pv 0) aP (aF _)) (qO (aL (cI cG (hr.mono (by decide)) rfl (pK (cz ik (pv 1) (pv 2)) pN)))) aM)
   (qK (bg (tR bo (pv 0) aP (aF _)) (qO (aL (cI cG (hr.mono (by decide)) rfl (pK (cz xA (pv 1) (pv 2)) pN)))) aM)
   (qO (aL (jh AF rfl qY CU (pK (OS (xv (jE bo (pv 0) aP (aF _)) (tP (jE zv (pv 1) (pv 2) (aF _)))) (tP (xv (jE bo (pv 0) aP (aF _)) (tP (jE bo (pv 1) (pv 2) (aF _)))))) pN)))))))))),?_⟩
 refine⟨_,rfl,FL,λu hu=>?_⟩;have s1:=aC hu (.lst [.str "div",.str "rem"]);have I1:=I.same s1;have Qu:upd H u (.lst [.str "div",.str "rem"]) u=some (.lst [.str "div",.str "rem"]):=uS;generalize upd H u (.lst [.str "div",.str "rem"])=H1 at s1 I1 Qu ⊢;refine⟨u,_,rfl,.inl (bu.of Qu),rfl,rfl,_,rfl,?_⟩;rw[aan aaj];have y0:∀v,(parts op->m≠0)->rk op k m=v->Q (.int v) H1:=λv h e=>e ▸ q h H1 (.of s1) I1
 have no:∀{x y:Str},x≠y->¬ (V.str x=V.str y):=λh z=>h (V.str.inj z)
 have dz:m≠0->sL k m:=λz=>⟨z,by unfold fY at hm;omega⟩
 have bad:parts op->m=0->∀t,H1 t=none->Q (.int 0) (upd (upd H1 t (.tup [.str "fault",.int 1])) a (.lst [.ref l,.int s.left,.ref t])):=λhp e t ht=>by
  have s2:=aC ht (.tup [.str "fault",.int 1]);exact q0 hp e _ _ ((lM.of (s1.trans s2)).trans .Ts) ((I1.same s2).put (fw:=.ref t) (f:=some .fault) ⟨t,rfl,bV.of uS⟩)
 clear q q0;rcases ho with rfl | rfl | rfl | rfl | rfl | rfl | rfl
 ·rw[show GR (V.str "add") [.str "div",.str "rem"]=false by decide +kernel];refine cM (cM ?_);refine⟨_,rfl,rfl,_,rfl,bj (no (by decide +kernel)) ?_⟩;refine⟨_,rfl,rfl,_,rfl,bj (no (by decide +kernel)) ?_⟩;refine⟨_,rfl,rfl,_,rfl,fP rfl ?_⟩;exact⟨_,rfl,_,rfl,_,_,rfl,rfl,_,rfl,y0 _ (λh=>absurd h dv.1) (yv _ _)⟩
 ·rw[show GR (V.str "sub") [.str "div",.str "rem"]=false by decide +kernel];refine cM (cM ?_);refine⟨_,rfl,rfl,_,rfl,bj (no (by decide +kernel)) ?_⟩;refine⟨_,rfl,rfl,_,rfl,bj (no (by decide +kernel)) ?_⟩;refine⟨_,rfl,rfl,_,rfl,bj (no (by decide +kernel)) ?_⟩;refine⟨_,rfl,rfl,_,rfl,fP rfl ?_⟩;exact⟨_,rfl,_,rfl,_,_,rfl,rfl,_,rfl,y0 _ (λh=>absurd h dv.2.1) (uP _ _)⟩
 ·rw[show GR (V.str "mul") [.str "div",.str "rem"]=false by decide +kernel];refine cM (cM ?_);refine⟨_,rfl,rfl,_,rfl,bj (no (by decide +kernel)) ?_⟩;refine⟨_,rfl,rfl,_,rfl,bj (no (by decide +kernel)) ?_⟩;refine⟨_,rfl,rfl,_,rfl,bj (no (by decide +kernel)) ?_⟩;refine⟨_,rfl,rfl,_,rfl,bj (no (by decide +kernel)) ?_⟩;refine⟨_,rfl,rfl,_,rfl,fP rfl ?_⟩;exact⟨_,rfl,_,rfl,_,_,rfl,rfl,.inl ⟨by unfold fY at hk;omega,by unfold fY at hk;omega⟩,_,rfl,y0 _ (λh=>absurd h dv.2.2.1) (yw _ _)⟩
 ·rw[show GR (V.str "less") [.str "div",.str "rem"]=false by decide +kernel];refine cM (cM ?_);refine⟨_,rfl,rfl,_,rfl,bj (no (by decide +kernel)) ?_⟩;refine⟨_,rfl,rfl,_,rfl,bj (no (by decide +kernel)) ?_⟩;refine⟨_,rfl,rfl,_,rfl,bj (no (by decide +kernel)) ?_⟩;refine⟨_,rfl,rfl,_,rfl,bj (no (by decide +kernel)) ?_⟩;refine⟨_,rfl,rfl,_,rfl,bj (no (by decide +kernel)) ?_⟩;have e:=uQ k m;refine⟨_,rfl,rfl,_,rfl,fP rfl ⟨_,rfl,_,rfl,_,_,rfl,rfl,_,rfl,?_⟩⟩;by_cases z:k < m
  ·refine fP z (.inr ⟨true,rfl,y0 _ (λh=>absurd h dv.2.2.2.1) ?_⟩);rw[e,aap z];rfl
  ·refine bj z ⟨_,rfl,rfl,_,rfl,bj (no (by decide +kernel)) (.inr ⟨false,rfl,y0 _ (λh=>absurd h dv.2.2.2.1) ?_⟩)⟩;rw[e,aan z];rfl
 ·rw[show GR (V.str "same") [.str "div",.str "rem"]=false by decide +kernel];refine cM (cM ?_);refine⟨_,rfl,rfl,_,rfl,bj (no (by decide +kernel)) ?_⟩;refine⟨_,rfl,rfl,_,rfl,bj (no (by decide +kernel)) ?_⟩;refine⟨_,rfl,rfl,_,rfl,bj (no (by decide +kernel)) ?_⟩;refine⟨_,rfl,rfl,_,rfl,bj (no (by decide +kernel)) ?_⟩;refine⟨_,rfl,rfl,_,rfl,bj (no (by decide +kernel)) ?_⟩;have e:=uR k m;refine⟨_,rfl,rfl,_,rfl,bj (no (by decide +kernel)) ⟨_,rfl,cM ⟨_,rfl,rfl,_,rfl,fP rfl ⟨_,rfl,_,rfl,rfl,.inr ⟨_,rfl,y0 _ (λh=>absurd h dv.2.2.2.2) ?_⟩⟩⟩⟩⟩;rw[e];by_cases z:k=m
  ·rw[aap z,aap (aa0 (by rw[z]))]
  ·rw[aan z,aan (λy=>z (V.int.inj (abH y)))]
 ·rw[show GR (V.str "div") [.str "div",.str "rem"]=true by decide +kernel];refine iJ ⟨_,rfl,rfl,_,rfl,?_⟩;by_cases z:m=0
  ·refine fP (by rw[z]) ?_;refine⟨FL,λt ht=>?_⟩;exact⟨_,rfl,a,_,_,2,rfl,rfl,(aC ht (.tup [.str "fault",.int 1])) _ _ I1.ha,rfl,bad (.inl rfl) z t ht⟩
  refine bj (λy=>z (V.int.inj y)) ?_;refine⟨_,rfl,rfl,_,rfl,fP rfl ?_⟩;exact⟨_,rfl,_,rfl,_,_,rfl,rfl,dz z,_,rfl,y0 _ (λ_=>z) (yy _ _)⟩
 ·rw[show GR (V.str "rem") [.str "div",.str "rem"]=true by decide +kernel];refine iJ ⟨_,rfl,rfl,_,rfl,?_⟩;by_cases z:m=0
  ·refine fP (by rw[z]) ?_;refine⟨FL,λt ht=>?_⟩;exact⟨_,rfl,a,_,_,2,rfl,rfl,(aC ht (.tup [.str "fault",.int 1])) _ _ I1.ha,rfl,bad (.inr rfl) z t ht⟩
  refine bj (λy=>z (V.int.inj y)) ?_;refine⟨_,rfl,rfl,_,rfl,bj (no (by decide +kernel)) ?_⟩;refine⟨_,rfl,rfl,_,rfl,fP rfl ?_⟩;exact⟨_,rfl,_,rfl,_,rfl,_,_,rfl,rfl,dz z,_,rfl,_,_,rfl,rfl,.inr ⟨by unfold fY at hm;omega,by unfold fY at hm;omega⟩,_,_,rfl,rfl,y0 _ (λ_=>z) (by rw[yz];have e:=Int.mul_fdiv_add_fmod k m;rw[Int.mul_comm]at e;omega)⟩
theorem c9:aO ["_law_e","_law_names","_law_state","_law_values","_law_some","_law_one","_law_two"] ["_law_e","_law_names","_law_state"] (dS ku):=by walk_at "sc"
theorem rQ{n:Nat}{f:Addr}{fd:FuncData}(F:jj K "_law_value" "_law_value" ku f fd){ai:Addr}(az:ak K ai){aj:Addr}(aG:ax K aj)(pD:ic P w K mg base c6 "_law_reckoned" 2 ["_law_sign","_law_one","_law_two","_law_state"] (gz K))(bZ:ic P w K mg base c6 "_law_value" (n + 2) ["_law_e","_law_names","_law_state"] (cT K n))(cG:ic P w K mg base c6 "_law_wrapped" 1 ["_law_number"] (e9 K)):bJ P w K mg base c6 (n + 2 + 1) f fd ["_law_e","_law_names","_law_state"] (cT K (n + 1)):=by
 refine F.ok c9 (λvs H Q E h=>?_) (λcdv A outer s H vs Q E hr h=>?_)
 ·obtain⟨H0,a,l,dn,fv,tv,e,p,j,ns,w,s,hn,rfl,hT,I,hpre,q0,q⟩:=h;rfl
 obtain⟨H0,a,l,dn,fv,tv,e,p,j,ns,w,s,hn,rfl,hT,I,hpre,q0,q⟩:=h;refine⟨_,(qK (bg (tR zw (aI bT (pv 2) pI (λ_ _=>rfl)) lz (aF _)) (qO (aL pI)) aM)
   (qK (bg (tR bo (aI aH (pv 0) pI (λ_ _=>rfl)) aP (aF _)) (qO (aL (aI aH (pv 0) pI (λ_ _=>rfl)))) aM)
   (qK (bg (tR bo (aI aH (pv 0) pI (λ_ _=>rfl)) aP (aF _)) (qO (aL (zJ (vL hr) (pv 1) (aI aH (pv 0) pI (λ_ _=>rfl)) (λ_ _=>rfl)))) aM)
   (qK (bg (tR bo (aI aH (pv 0) pI (λ_ _=>rfl)) aP (aF _)) (qK (ml (i:=3) c9.nd rfl (aar rfl) 1 ["_law_one","_law_names","_law_state"] [1,2] ⟨rfl,rfl,rfl,rfl,rfl,rfl,rfl,rfl⟩ (zV (aI aH (aI aH (pv 0) pI (λ_ _=>rfl)) pI (λ_ _=>rfl))) (λ_ _ _ _=>⟨(bf (i:=0) (show List.Nodup (["_law_one","_law_names","_law_state"]:List Str)by decide +kernel) rfl (aar rfl)),kU,(cI bZ (hr.mono (by omega)) rfl (pK (pv 0) (pK (pv 1) (pK (pv 2) pN))))⟩))
   (qO (aL (aI bT (pv 3) (aI aH (pv 0) pI (λ_ _=>rfl)) (λ_ _=>rfl))))) aM)
   (qK (bg (tR bo (aI aH (pv 0) pI (λ_ _=>rfl)) aP (aF _)) (qK (bg (tR zu (cI bZ (hr.mono (by omega)) rfl (pK (aI aH (pv 0) pI (λ_ _=>rfl)) (pK (pv 1) (pK (pv 2) pN)))) pI (aF _)) (qO (aL (cI bZ (hr.mono (by omega)) rfl (pK (aI aH (pv 0) pI (λ_ _=>rfl)) (pK (pv 1) (pK (pv 2) pN)))))) aM)
   (qO (aL (cI bZ (hr.mono (by omega)) rfl (pK (aI aH (pv 0) pI (λ_ _=>rfl)) (pK (pv 1) (pK (pv 2) pN))))))) aM)
   (qK (cy (i:=4) c9.nd rfl (aar rfl) (p7 xO (pv 0) (tV pI) tU))
   (qK (bg (tR bo (aI aH (pv 0) pI (λ_ _=>rfl)) aP (aF _)) (qO (cy (i:=4) c9.nd rfl (aar rfl) (aI aH (pv 0) pI (λ_ _=>rfl)))) aM)
   (qK (lB (C4 1 ["_law_part","_law_names","_law_state"] [1,2] ⟨rfl,rfl,rfl,rfl,rfl,rfl,rfl,rfl⟩ (zV (pv 4)) (λ_ _ _ _=>⟨(bf (i:=0) (show List.Nodup (["_law_part","_law_names","_law_state"]:List Str)by decide +kernel) rfl (aar rfl)),kU,(cI bZ (hr.mono (by omega)) rfl (pK (pv 0) (pK (pv 1) (pK (pv 2) pN))))⟩)) (Mt rfl (ke (bf (i:=5) c9.nd rfl (aar rfl)) (ke (bf (i:=6) c9.nd rfl (aar rfl)) tQ))))
   (qK (bg (tR zw (aI bT (pv 2) pI (λ_ _=>rfl)) lz (aF _)) (qO (aL pI)) aM)
   (qK (bg (tR zu (aI aH (pv 0) pI (λ_ _=>rfl)) aP (aF _)) (qO (aL (cI pD (hr.mono (by omega)) rfl (pK (aI aH (pv 0) pI (λ_ _=>rfl)) (pK (pv 5) (pK (pv 6) (pK (pv 2) pN))))))) aM)
   (qK (bg (tR bo (aI bT (pv 2) pI (λ_ _=>rfl)) pI (aF _)) (qK (lB (gf (pK aP pN)) (m7 (pv 2) pI set_list))
   (qO (aL pI))) aM)
   (qK (lB (cz ik (aI bT (pv 2) pI (λ_ _=>rfl)) pI) (m7 (pv 2) pI set_list))
   (qK (gQ (sC aaR PySem.F.slot_list_extend PySem.F.type_list_extend AL (aI bT (pv 2) pI (λ_ _=>rfl)) (pK (ip (pK (pv 5) (pK (pv 6) pN))) pN)))
   (qO (aL (cI cG (hr.mono (by omega)) rfl (pK (cz ik (pv 5) (pv 6)) pN))))))))))))))))),?_⟩
 obtain rfl:n=j:=abF hn;refine⟨_,rfl,a,_,_,_,rfl,rfl,bu.of I.ha,aN (j:=2) rfl,rfl,_,rfl,?_⟩;by_cases hf:s.fin=none;rotate_left
 ·exact rA (λz=>hf (I.hf.aW.mp z)) (q0 H fv hf .refl I)
 obtain⟨hw,hN,ho⟩:=hpre hf;refine vM (I.hf.aW.mpr hf) ?_;have I0:iI K H0 a l fv H ⟨s.said,s.left,none⟩:=by obtain⟨sd,lf,f⟩:=s;cases hf;exact I
 have vcs:∀(es:br) (us:List V) (m:Nat) (x:V) (D:Addr) (zs:List V) (i:Nat) (H2:Hp) (Hb:Hp),da K H0 us (es.L p)->es.pA ns m->us[i]?=some x->Hb D=none->H0 D=none->D≠a->D≠l->uW K p H0 Hb a l D w ns m es s i zs H2->cT K (m + 1) [x,.ref dn,.ref a] H2 (λv H6=>H6 D=some (.lst zs)/\uW K p H0 Hb a l D w ns m es s (i + 1) (zs++[v]) (upd H6 D (.lst (zs++[v])))) E0:=λes us m x D zs i H2 Hb hU hes hx hDb n0 na nl B=>by
  have hi:i < (es.L p).length:=by rw[← hU.1];exact(eA hx).1
  obtain⟨e,si,fw,he,hwe,I2,o2,g0,g1⟩:=B.next hi hN.wd hDb n0 na nl;exact⟨H0,a,l,dn,fw,x,e,p,m,ns,w,si,rfl,rfl,hU.2 i x _ hx he,I2,(λ_=>⟨hwe,hN,o2⟩),λH' fw' z kp I'=>g0 H' fw' z kp I',λH' fw' k z kp I' hk=>g1 H' fw' k z kp I' hk⟩
 have two:∀(e1 e2:Ex) (m:Nat),n=m + 1->e1.wf ns m->e2.wf ns m->(br.cons e1 (.cons e2 .nil)).pA ns m:=λe1 e2 m _ h1 h2=>by rw[br.pA,br.pA,br.pA];exact⟨h1,h2,trivial⟩
 cases e with
 | num k =>
  rw[Ex.D]at hT;obtain⟨t,x1,rfl,hS,h1⟩:=oU hT I.s0;have z1:=aQ.ba h1;subst z1;refine⟨_,rfl,t,_,_,_,rfl,rfl,hS,aN (j:=0) rfl,rfl,_,rfl,fP rfl ?_⟩;exact⟨_,rfl,t,_,_,_,rfl,rfl,hS,aN (j:=1) rfl,q H fv k hf .refl (by rw[Ex.lv];exact I0) (λk0 t h=>by rw[Ex.lv]at h;cases h;rfl)⟩
 | var x =>
  rw[Ex.D]at hT;rw[Ex.wf]at hw;obtain⟨t,x1,rfl,hS,h1⟩:=oU hT I.s0;have z1:=aQ.cA h1;subst z1;obtain⟨kvs,hk,hv⟩:=hN.ex;have dg:=xZ.k (k:=Sum.inr x) (I.s0 _ _ hk);rw[hv x hw]at dg;refine⟨_,rfl,t,_,_,_,rfl,rfl,hS,aN (j:=0) rfl,rfl,_,rfl,bj (by decide +kernel) ?_⟩;refine⟨_,rfl,t,_,_,_,rfl,rfl,hS,aN (j:=0) rfl,rfl,_,rfl,fP rfl ?_⟩;exact⟨_,rfl,_,rfl,t,_,_,_,rfl,rfl,hS,aN (j:=1) rfl,dn,_,rfl,dg,q H fv (w x) hf .refl (by rw[Ex.lv];exact I0) (λk0 t h=>by rw[Ex.lv]at h;cases h;rfl)⟩
 | get c f c2 es =>
  rw[Ex.D]at hT;rw[Ex.wf]at hw;obtain⟨m,rfl,hes,hfl,hl⟩:=hw;obtain⟨t,x1,x2,x3,rfl,hS,h1,h2,h3⟩:=oV hT I.s0;have z2:=aQ.ba h2;subst z2;obtain⟨t3,y1,y2,rfl,yO,g1,g2⟩:=lp h3 I.s0;obtain⟨al,us,rfl,hL,hU⟩:=aQ.cn g2;refine⟨_,rfl,t,_,_,_,rfl,rfl,hS,aN (j:=0) rfl,rfl,_,rfl,bj (by decide +kernel) ?_⟩;refine⟨_,rfl,t,_,_,_,rfl,rfl,hS,aN (j:=0) rfl,rfl,_,rfl,bj (by decide +kernel) ?_⟩;refine⟨_,rfl,t,_,_,_,rfl,rfl,hS,aN (j:=0) rfl,rfl,_,rfl,fP rfl ?_⟩;refine⟨_,rfl,t,_,_,_,rfl,rfl,hS,aN (j:=3) rfl,t3,_,_,_,rfl,rfl,yO,aN (j:=2) rfl,al,rfl,.inl ⟨⟨_,I.s0.seq hL⟩,λD hD=>?_⟩⟩;have nDa:D≠a:=(nN I.ha hD).symm;have nDl:D≠l:=(nN I.hl hD).symm
  have n0:H0 D=none:=by
   cases z:H0 D with
   | none=>rfl
   | some o=>rw[I.s0 _ _ z]at hD;cases hD
  refine mj (xs:=us) (λi zs H2=>uW K p H0 H a l D w ns m es s i zs H2) (aa3 (sK (by rw[hU.1,br.oW];omega))) (uW.start I hes ho hD) ?_ ?_ ?_
  ·rintro i zs H2 hi B;obtain⟨_,_,_,_,_,I2,_⟩:=B.ex;exact⟨B.hD,by rw[B.len];exact aai _,I2.s0.seq hL⟩
  ·rintro i x zs H2 hx B;exact⟨rfl,_,rfl,_,rfl,_,rfl,vcs es us m x D zs i H2 H hU hes hx hD n0 nDa nDl B⟩
  ·rintro zs H2 B;rw[hU.1]at B;obtain⟨fw,I2,kp,hd,hz⟩:=B.done hf;have fz:f < zs.length:=by rw[B.len,br.oW];exact hfl
   obtain⟨k,hk⟩:=B.ig _ (aby fz);have B6:zs[f]?=some (.int k):=by rw[gP fz,hk]
   refine⟨_,rfl,_,rfl,t,_,_,_,rfl,rfl,kp.tup I hS,aN (j:=2) rfl,D,_,_,_,rfl,rfl,bu.of hd,aN B6,q H2 fw k hf kp (by rw[Ex.lv,By];exact I2) λk0 t' h=>?_⟩;rw[Ex.lv]at h
   revert h hz
   generalize es.jc w s.ls=q1;obtain⟨r1,t1⟩:=q1
   cases r1 with
   | fault=>intro _ h;cases h
   | weary=>intro _ h;cases h
   | val ks =>
    intro hz h;have e1:=hz ks t1 rfl;rw[e1,aax]at B6;cases h
    cases z:ks[f]? with
    | none=>rw[z]at B6;cases B6
    | some k1=>rw[z]at B6;cases B6;rw[abA,z];rfl
 | either e1 e2 e3 =>
  rw[Ex.D]at hT;rw[Ex.wf]at hw;obtain⟨m,rfl,h1,h2,h3⟩:=hw;obtain⟨t,x1,x2,x3,rfl,hS,g1,g2,g3⟩:=oV hT I.s0;refine⟨_,rfl,t,_,_,_,rfl,rfl,hS,aN (j:=0) rfl,rfl,_,rfl,bj (by decide +kernel) ?_⟩;refine⟨_,rfl,t,_,_,_,rfl,rfl,hS,aN (j:=0) rfl,rfl,_,rfl,bj (by decide +kernel) ?_⟩;refine⟨_,rfl,t,_,_,_,rfl,rfl,hS,aN (j:=0) rfl,rfl,_,rfl,bj (by decide +kernel) ?_⟩;refine⟨_,rfl,t,_,_,_,rfl,rfl,hS,aN (j:=0) rfl,rfl,_,rfl,fP rfl ?_⟩;refine⟨_,rfl,t,_,_,_,rfl,rfl,hS,aN (j:=1) rfl,_,rfl,_,rfl,H0,a,l,dn,fv,x1,e1,p,m,ns,w,s,rfl,rfl,g1,I,(λ_=>⟨h1,hN,ho⟩),(λ_ _ z=>absurd hf z),λH1 fw k _ kp I1 hk=>?_⟩;refine⟨rfl,_,rfl,?_⟩;have o1:=qR (iS hN.wd e1 h1 ho).1;have yP:=kp.tup I hS;rw[Ex.lv]at q
  have fin:∀(x:V) (e:Ex),aQ K H0 x (e.D p)->e.wf ns m->(∀t1,e1.lv w s.ls=(.val k,t1)->(if k=0 then e3.lv w t1 else e2.lv w t1)=e.lv w t1)->cT K (m + 1) [x,.ref dn,.ref a] H1 Q E0:=λx e hx he hs=>by
   revert I1 hk o1 q hs
   generalize e1.lv w s.ls=r1;obtain⟨r1,t1⟩:=r1
   cases r1 with
   | val k0 =>
    intro q I1 hk o1 hs;have z:=hk k0 t1 rfl;subst z;refine⟨H0,a,l,dn,fw,x,e,p,m,ns,w,_,rfl,rfl,hx,I1,(λ_=>⟨he,hN,o1⟩),(λ_ _ z=>absurd rfl z),λH2 Qw k2 _ tL I2 MN=>?_⟩;have z:(gL (Ou.val k,t1) λk s=>if k=0 then e3.lv w s else e2.lv w s)=e.lv w t1:=hs t1 rfl;rw[z]at q;exact q H2 Qw k2 hf (kp.trans tL) I2 MN
   | fault =>
    intro q I1 hk o1 hs;exact⟨H0,a,l,dn,fw,x,e,p,m,ns,w,_,rfl,rfl,hx,I1,(λ_=>⟨he,hN,o1⟩),(λH2 Qw _ tL I2=>q H2 Qw 0 hf (kp.trans tL) I2 λ_ _ h=>nomatch h),λ_ _ _ z=>nomatch z⟩
   | weary =>
    intro q I1 hk o1 hs;exact⟨H0,a,l,dn,fw,x,e,p,m,ns,w,_,rfl,rfl,hx,I1,(λ_=>⟨he,hN,o1⟩),(λH2 Qw _ tL I2=>q H2 Qw 0 hf (kp.trans tL) I2 λ_ _ h=>nomatch h),λ_ _ _ z=>nomatch z⟩
  by_cases Qq:k=0
  ·refine vM (by rw[Qq]) ?_;exact⟨_,rfl,t,_,_,_,rfl,rfl,yP,aN (j:=3) rfl,_,rfl,_,rfl,fin x3 e3 g3 h3 λt1 _=>aap Qq⟩
  ·refine rA (λz=>Qq (V.int.inj z)) ?_;exact⟨_,rfl,t,_,_,_,rfl,rfl,yP,aN (j:=2) rfl,_,rfl,_,rfl,fin x2 e2 g2 h2 λt1 _=>aan Qq⟩
 | call e1 e2 =>
  rw[Ex.D]at hT;rw[Ex.wf]at hw;obtain⟨m,rfl,h1,h2⟩:=hw;have hes:=two e1 e2 m rfl h1 h2;obtain⟨t,y1,y2,rfl,hS,g0,g⟩:=lp hT I.s0;have z0:=aQ.ba g0;subst z0;obtain⟨al,us,rfl,hL,V3⟩:=aQ.cn g;obtain⟨x1,x2,rfl⟩:=HV V3.1;have hU:da K H0 [x1,x2] ((br.cons e1 (.cons e2 .nil)).L p):=by rw[br.L,br.L,br.L];exact V3
  obtain⟨es,ees⟩:∃es,es=br.cons e1 (.cons e2 .nil):=⟨_,rfl⟩;rw[← ees]at hes hU;refine⟨_,rfl,t,_,_,_,rfl,rfl,hS,aN (j:=0) rfl,rfl,_,rfl,bj (by decide +kernel) ?_⟩;refine⟨_,rfl,t,_,_,_,rfl,rfl,hS,aN (j:=0) rfl,rfl,_,rfl,bj (by decide +kernel) ?_⟩;refine⟨_,rfl,t,_,_,_,rfl,rfl,hS,aN (j:=0) rfl,rfl,_,rfl,bj (by decide +kernel) ?_⟩;refine⟨_,rfl,t,_,_,_,rfl,rfl,hS,aN (j:=0) rfl,rfl,_,rfl,bj (by decide +kernel) ?_⟩;refine⟨_,rfl,_,rfl,t,_,rfl,hS,(by show ¬ (HT.dJ 3 0 (some 1)=0/\HT.dJ 3 3 none=3);decide),λu hu=>?_⟩;have s1:=aC hu (.tup [.int (p:Int),.ref al]);have I1:=I.same s1;have yP:=s1.tup hS;refine⟨_,rfl,t,_,_,_,rfl,rfl,yP,aN (j:=0) rfl,rfl,_,rfl,fP rfl ?_⟩;refine⟨_,rfl,t,_,_,_,rfl,rfl,yP,aN (j:=2) rfl,?_⟩;refine⟨_,rfl,al,rfl,.inl ⟨⟨_,I1.s0.seq hL⟩,λD hD=>?_⟩⟩;have hD:(upd H u (.tup [.int (p:Int),.ref al])) D=none:=hD;have nDa:D≠a:=(nN I1.ha hD).symm;have nDl:D≠l:=(nN I1.hl hD).symm
  have n0:H0 D=none:=by
   cases z:H0 D with
   | none=>rfl
   | some o=>rw[I1.s0 _ _ z]at hD;cases hD
  refine mj (xs:=[x1,x2]) (λi zs H2=>uW K p H0 (upd H u (.tup [.int (p:Int),.ref al])) a l D w ns m es s i zs H2) (aa3 (sK (by show 2<=1000;decide))) (uW.start I1 hes ho hD) ?_ ?_ ?_
  ·rintro i zs H2 hi B;obtain⟨_,_,_,_,_,I2,_⟩:=B.ex;exact⟨B.hD,by rw[B.len];exact aai _,I2.s0.seq hL⟩
  ·rintro i x zs H2 hx B;exact⟨rfl,_,rfl,_,rfl,_,rfl,vcs es [x1,x2] m x D zs i H2 _ hU hes hx hD n0 nDa nDl B⟩
  ·rintro zs H2 B;have sE:(es.L p).length=2:=by rw[br.oW,ees];rfl
   have B':uW K p H0 (upd H u (.tup [.int (p:Int),.ref al])) a l D w ns m es s (es.L p).length zs H2:=by rw[sE];exact B
   obtain⟨fw,I2,kp,hd,hz⟩:=B'.done hf;have Il:=(lM.of (a:=a) (l:=l) s1).trans kp;have gd:=wW hN.wd es hes ho;rw[show es.len=2 by rw[ees];rfl]at gd;have FW:=kp.tup I1 yP;obtain⟨v1,v2,rfl⟩:=HV B.len;obtain⟨k1,rfl⟩:=B.ig v1 (aae);obtain⟨k2,rfl⟩:=B.ig v2 (aal _ aae);refine⟨D,_,rfl,bu.of hd,rfl,_,_,rfl,_,_,rfl,rfl,?_⟩;refine⟨_,rfl,a,_,_,_,rfl,rfl,bu.of I2.ha,aN (j:=2) rfl,rfl,_,rfl,?_⟩;rw[Ex.lv,wV,← ees]at q
   revert I2 hz q gd
   generalize es.jc w s.ls=r1;obtain⟨r1,t1⟩:=r1
   cases r1 with
   | fault =>
    intro q I2 gd hz;exact rA (λz=>nomatch (I2.hf.aW.mp z)) (q H2 fw 0 hf Il I2 λ_ _ h=>nomatch h)
   | weary =>
    intro q I2 gd hz;exact rA (λz=>nomatch (I2.hf.aW.mp z)) (q H2 fw 0 hf Il I2 λ_ _ h=>nomatch h)
   | val ks =>
    intro q I2 gd hz;obtain⟨lk,wk⟩:=gd.2 ks rfl;have og:=gd.1;have ez:=hz ks t1 rfl;obtain⟨j1,j2,rfl⟩:=HV lk;cases ez;have B6:=wk k1 aae;have MN:=wk k2 (aal _ aae);clear hz wk lk gd;refine vM (I2.hf.aW.mpr rfl) ?_;refine⟨_,rfl,t,_,_,_,rfl,rfl,FW,aN (j:=0) rfl,rfl,_,rfl,vM rfl ?_⟩;refine⟨_,rfl,a,_,_,_,rfl,rfl,bu.of I2.ha,aN (j:=1) rfl,rfl,_,rfl,?_⟩;have qt:∀k:Nat,(gL (Ou.val [k1,k2],t1) λks s=>tells (ks.getD 0 0) (ks.getD 1 0) s)=tells k1 k2 t1:=λ_=>rfl
    rw[qt 0]at q;unfold tells at q;have og':0<=t1.left/\(t1.said.length:Int) + 2 * t1.left<=100000:=og;by_cases hz:t1.left=0
    ·rw[aap (by omega)]at q;refine fP (by show V.int t1.left=_;rw[hz]) ?_;refine⟨OL,λv hv=>?_⟩;have s3:=aC hv (.tup [.str "weary"]);refine⟨_,rfl,a,_,_,2,rfl,rfl,s3 _ _ I2.ha,rfl,?_⟩;exact q _ _ 0 hf (Il.trans ((lM.of s3).trans .Ts)) ((I2.same s3).put (fw:=.ref v) (f:=some .weary) ⟨v,rfl,bV.of uS⟩) λ_ _ h=>nomatch h
    ·rw[aan (by omega)]at q;refine bj (λz=>hz (V.int.inj z)) ?_;refine⟨_,rfl,a,_,_,_,rfl,rfl,bu.of I2.ha,aN (j:=1) rfl,_,_,rfl,rfl,?_⟩;refine⟨_,rfl,a,_,_,1,rfl,rfl,I2.ha,rfl,?_⟩;have I3:=I2.left (t1.left - 1);refine⟨_,rfl,a,_,_,_,rfl,rfl,bu.of I3.ha,aN (j:=0) rfl,.inl ⟨rfl,_,bu.of I3.hl⟩,_,rfl,_,rfl,FL,λv hv=>?_⟩;have s3:=aC hv (.lst [.int k1,.int k2]);have I4:=(I3.same s3).says [k1,k2];refine⟨l,v,_,_,rfl,rfl,s3 _ _ I3.hl,uS,?_,?_⟩
     ·rw[aaf];show t1.said.length + 2<=sizeLine;rw[abB];omega
     ·exact⟨_,rfl,_,rfl,_,_,rfl,rfl,_,rfl,q _ fw _ hf (Il.trans ((lM.Ts.trans (.of s3)).trans .XZ)) I4 λ_ _ h=>by cases h;rfl⟩
 | two op e1 e2 =>
  rw[Ex.D]at hT;rw[Ex.wf]at hw;obtain⟨m,rfl,ho',h1,h2⟩:=hw;have nn:=Ai ho';have hes:=two e1 e2 m rfl h1 h2;obtain⟨t,x1,x2,rfl,hS,g1,g2⟩:=lp hT I.s0;have hU:da K H0 [x1,x2] ((br.cons e1 (.cons e2 .nil)).L p):=by rw[br.L,br.L,br.L];exact .cons g1 (.cons g2 .nil)
  obtain⟨es,ees⟩:∃es,es=br.cons e1 (.cons e2 .nil):=⟨_,rfl⟩;rw[← ees]at hes hU;refine⟨_,rfl,t,_,_,_,rfl,rfl,hS,aN (j:=0) rfl,rfl,_,rfl,bj (λz=>nn.1 (V.str.inj z)) ?_⟩;refine⟨_,rfl,t,_,_,_,rfl,rfl,hS,aN (j:=0) rfl,rfl,_,rfl,bj (λz=>nn.2.1 (V.str.inj z)) ?_⟩;refine⟨_,rfl,t,_,_,_,rfl,rfl,hS,aN (j:=0) rfl,rfl,_,rfl,bj (λz=>nn.2.2.2.2.1 (V.str.inj z)) ?_⟩;refine⟨_,rfl,t,_,_,_,rfl,rfl,hS,aN (j:=0) rfl,rfl,_,rfl,bj (λz=>nn.2.2.2.2.2 (V.str.inj z)) ?_⟩;refine⟨_,rfl,_,rfl,t,_,rfl,hS,(by show ¬ (HT.dJ 3 0 (some 1)=0/\HT.dJ 3 3 none=3);decide),λu hu=>?_⟩;have s1:=aC hu (.tup [x1,x2]);have I1:=I.same s1;have yP:=s1.tup hS;have Qu:bV K (upd H u (.tup [x1,x2])) u [x1,x2]:=bV.of uS;refine⟨_,rfl,t,_,_,_,rfl,rfl,yP,aN (j:=0) rfl,rfl,_,rfl,bj (λz=>nn.2.2.1 (V.str.inj z)) ?_⟩;refine⟨_,rfl,u,rfl,.inr ⟨⟨_,Qu⟩,λD hD=>?_⟩⟩;have hD:(upd H u (.tup [x1,x2])) D=none:=hD;have nDa:D≠a:=(nN I1.ha hD).symm;have nDl:D≠l:=(nN I1.hl hD).symm
  have n0:H0 D=none:=by
   cases z:H0 D with
   | none=>rfl
   | some o=>rw[I1.s0 _ _ z]at hD;cases hD
  refine C3 (xs:=[x1,x2]) (λi zs H2=>uW K p H0 (upd H u (.tup [x1,x2])) a l D w ns m es s i zs H2) (aa3 (sK (by show 2<=1000;decide))) (uW.start I1 hes ho hD) ?_ ?_ ?_
  ·rintro i zs H2 hi B;obtain⟨_,_,_,_,_,I2,_⟩:=B.ex;exact⟨B.hD,by rw[B.len];exact aai _,B.kp.tup I1 Qu⟩
  ·rintro i x zs H2 hx B;exact⟨rfl,_,rfl,_,rfl,_,rfl,vcs es [x1,x2] m x D zs i H2 _ hU hes hx hD n0 nDa nDl B⟩
  ·rintro zs H2 B;have sE:(es.L p).length=2:=by rw[br.oW,ees];rfl
   have B':uW K p H0 (upd H u (.tup [x1,x2])) a l D w ns m es s (es.L p).length zs H2:=by rw[sE];exact B
   obtain⟨fw,I2,kp,hd,hz⟩:=B'.done hf;have Il:=(lM.of (a:=a) (l:=l) s1).trans kp;have gd:=wW hN.wd es hes ho;rw[show es.len=2 by rw[ees];rfl]at gd;have FW:=kp.tup I1 yP;obtain⟨v1,v2,rfl⟩:=HV B.len;obtain⟨k1,rfl⟩:=B.ig v1 (aae);obtain⟨k2,rfl⟩:=B.ig v2 (aal _ aae);refine⟨D,_,rfl,bu.of hd,rfl,_,_,rfl,_,_,rfl,rfl,?_⟩;refine⟨_,rfl,a,_,_,_,rfl,rfl,bu.of I2.ha,aN (j:=2) rfl,rfl,_,rfl,?_⟩;rw[Ex.lv,wV,← ees]at q
   revert I2 hz q gd
   generalize es.jc w s.ls=r1;obtain⟨r1,t1⟩:=r1
   cases r1 with
   | fault =>
    intro q I2 gd hz;exact rA (λz=>nomatch (I2.hf.aW.mp z)) (q H2 fw 0 hf Il I2 λ_ _ h=>nomatch h)
   | weary =>
    intro q I2 gd hz;exact rA (λz=>nomatch (I2.hf.aW.mp z)) (q H2 fw 0 hf Il I2 λ_ _ h=>nomatch h)
   | val ks =>
    intro q I2 gd hz;obtain⟨lk,wk⟩:=gd.2 ks rfl;have og:=gd.1;have ez:=hz ks t1 rfl;obtain⟨j1,j2,rfl⟩:=HV lk;cases ez;have B6:=wk k1 aae;have MN:=wk k2 (aal _ aae);clear hz wk lk gd;refine vM (I2.hf.aW.mpr rfl) ?_;refine⟨_,rfl,t,_,_,_,rfl,rfl,FW,aN (j:=0) rfl,rfl,_,rfl,rA (λz=>nn.2.2.1 (V.str.inj z)) ?_⟩;have qt:∀k:Nat,(gL (Ou.val [k1,k2],t1) λks s=>Ky op (ks.getD 0 0) (ks.getD 1 0) s)=Ky op k1 k2 t1:=λ_=>rfl
    rw[qt 0]at q;unfold Ky at q;exact⟨_,rfl,t,_,_,_,rfl,rfl,FW,aN (j:=0) rfl,_,rfl,_,rfl,_,rfl,H0,a,l,fw,op,k1,k2,_,rfl,ho',B6,MN,I2,λhp z H' fw' kp' I'=>(by rw[if_pos ⟨hp,z⟩]at q;exact q H' fw' 0 hf (Il.trans kp') I' λ_ _ h=>nomatch h),λhz H' kp' I'=>(by rw[if_neg (λy=>hz y.1 y.2)]at q;exact q H' fw (rk op k1 k2) hf (Il.trans kp') I' λ_ _ h=>by cases h;rfl)⟩
theorem cJ:aO ["_law_part","_law_inputs","_law_budget","_law_names","_law_take","_law_word_here","_law_state","_law_s","_law_e"] ["_law_part","_law_inputs","_law_budget"] (dS nF):=by walk_at "sc"
theorem xb{f:Addr}{fd:FuncData}(F:jj K "_law_due" "_law_due" nF f fd)(ra:mg "zip"=none){ai:Addr}(az:ak K ai){aj:Addr}(aG:ax K aj)(bZ:ic P w K mg base c6 "_law_value" 9 ["_law_e","_law_names","_law_state"] (cT K 7)):bJ P w K mg base c6 10 f fd ["_law_part","_law_inputs","_law_budget"] (lN K):=by
 refine F.ok cJ (λvs H Q E h=>?_) (λcdv A outer s H vs Q E hr h=>?_)
 ·obtain⟨tv,il,bud,p,ns,ns',sts,an,ks,rfl,hT,hI,hkl,hkw,hnd,X4,Tu,hW,hA,hb,Tt,q⟩:=h;rfl
 obtain⟨tv,il,bud,p,ns,ns',sts,an,ks,rfl,hT,hI,hkl,hkw,hnd,X4,Tu,hW,hA,hb,Tt,q⟩:=h;refine⟨_,(qK (cy (i:=3) cJ.nd rfl (aar rfl) Dv)
   (qK (pY abr rfl (LA true true rfl ra (pK (aI aH (pv 0) pI (λ_ _=>rfl)) (pK (pv 1) pN))) (Ct rfl (ke (bf (i:=4) cJ.nd rfl (aar rfl)) (ke (bf (i:=5) cJ.nd rfl (aar rfl)) tQ))) (qO (ui (vL hr) (pv 3) (aI aH (pv 4) pI (λ_ _=>rfl)) (pv 5) rfl)))
   (qK (cy (i:=6) cJ.nd rfl (aar rfl) (ip (pK (ip pN) (pK (pv 2) (pK lz pN)))))
   (qK (pY abr rfl (me (cz ub (aI aH (pv 0) pI (λ_ _=>rfl)) (ip (pK (gf (pK aP (pK (aI aH (pv 0) pI (λ_ _=>rfl)) pN))) pN)))) (bf (i:=7) cJ.nd rfl (aar rfl)) (qK (bg (tR bo (aI aH (pv 7) pI (λ_ _=>rfl)) aP (aF _)) (qO (pY abr rfl (me (aI aH (aI aH (pv 7) pI (λ_ _=>rfl)) pI (λ_ _=>rfl))) (bf (i:=8) cJ.nd rfl (aar rfl)) (qO (gQ (cI bZ (hr.mono (by decide)) rfl (pK (pv 8) (pK (pv 3) (pK (pv 6) pN)))))))) aM)
   (qK (cy (i:=5) cJ.nd rfl (aar rfl) (cI bZ (hr.mono (by decide)) rfl (pK (aI aH (pv 7) (JX Cy pI) (λ_ _=>rfl)) (pK (pv 3) (pK (pv 6) pN)))))
   (qO (bg (PW.pt (pw_and (tR xC (aI bT (pv 6) pI (λ_ _=>rfl)) lz (aF _)) (pw_and1 (tR bo (aI aH (pv 7) pI (λ_ _=>rfl)) aP (aF _))))) (qO (ui (vL hr) (pv 3) (aI aH (pv 7) pI (λ_ _=>rfl)) (pv 5) rfl)) (qO (bg (PW.pt (pw_and (tR xC (aI bT (pv 6) pI (λ_ _=>rfl)) lz (aF _)) (pw_and1 (tR bo (aI aH (pv 7) pI (λ_ _=>rfl)) aP (aF _))))) (qO (gQ (sC aaR abi abj ib (aI bT (pv 6) pI (λ_ _=>rfl)) (pK (pv 5) pN)))) (qO (bg (PW.pt (pw_and (tR xC (aI bT (pv 6) pI (λ_ _=>rfl)) lz (aF _)) (pw_and1 (tR bo (aI aH (pv 7) pI (λ_ _=>rfl)) aP (aF _))))) (qO (lB (gf (pK aP (pK (pv 5) pN))) (m7 (pv 6) pI set_list))) aM)))))))))
   (qO (aL (gf (pK (aI bT (pv 6) pI (λ_ _=>rfl)) (pK (aI bT (pv 6) pI (λ_ _=>rfl)) (pK (aI bT (pv 6) pI (λ_ _=>rfl)) pN)))))))))),?_⟩
 obtain⟨t,ts,rfl,hTt,hRt⟩:=aQ.gn (show aQ K H tv (.tuple [.list ((cZ p ns sts an ns').tk.map FU),.tuple (rH .num),.list (sts.map (Sm.D p)),an.D p])from hT);obtain⟨t0,t1,t2,t3,rfl⟩:=Ti hRt.1;obtain⟨nl,nv,rfl,hN,hNR⟩:=aQ.cn (hRt.2 0 t0 _ rfl rfl);obtain⟨bl,bv,rfl,hB,hBR⟩:=aQ.cn (hRt.2 2 t2 _ rfl rfl);have hAn:=hRt.2 3 t3 _ rfl rfl;have ln:nv.length=ns.length:=by rw[hNR.1,aaf];exact aaf _
 intro dn hdn;have sd:=aC hdn (.dK []);refine⟨_,rfl,t,_,_,_,rfl,rfl,sd.tup hTt,aN (j:=0) rfl,_,rfl,nl,il,_,_,rfl,sd.seq hN,sd.seq hI,?_⟩;refine G6 ns.length (λi σ H4=>∃(o4 o5:Option V) (kvs:List (Key×V)),σ=[some (.ref t),some (.ref il),some (.int bud),some (.ref dn),o4,o5,none,none,none]/\aS H H4/\H4 dn=some (.dK kvs)/\kvs.length<=i/\∀x∈ns.take i,fQ kvs (Sum.inr x)=some (.int (w0 ns ks x))) (by rw[ln];exact aai _) (by rw[aaf,hkl];exact aai _) (.inl (by rw[ln];exact aai _)) ⟨none,none,[],rfl,sd,uS,aai _,(λx hx=>by rw[List.take_zero]at hx;cases hx)⟩ ?_ ?_ ?_
 ·rintro i σ H4 hi ⟨o4,o5,kvs,rfl,s4,_⟩;exact⟨s4.seq hN,s4.seq hI⟩
 ·rintro i u v σ H4 T hu hv hi ⟨o4,o5,kvs,rfl,s4,MO,X5,Qy⟩ hTn;have hru:=hNR.2 i u (FU (ns[i],.num)) hu (by show((ns.map λx=>(x,Kd.num)).map FU)[i]?=_;rw[aax,aax,gP hi];rfl);have sT:=aC hTn (.tup [u,v]);have s5:=s4.trans sT;obtain⟨tt,x1,rfl,hTT,_⟩:=oU (show aQ K H u (.tuple [.str ns[i],.tuple (rH .num)])from hru) s5
  have hvi:∃k,ks[i]?=some k/\v=.int k:=by
   rw[aax]at hv
   cases e:ks[i]? with
   | none=>rw[e]at hv;cases hv
   | some k=>rw[e]at hv;cases hv;exact⟨k,rfl,rfl⟩
  obtain⟨k,hki,rfl⟩:=hvi;have dp:=v5.k (k:=Sum.inr ns[i]) (v:=.int k) (sT _ _ MO) (sK (by omega));refine⟨T,_,rfl,bV.of uS,rfl,_,_,rfl,_,_,rfl,rfl,?_⟩;refine⟨_,rfl,_,rfl,_,rfl,tt,_,_,_,rfl,rfl,hTT,aN (j:=0) rfl,dn,_,rfl,dp,some _,some _,_,rfl,?_,uS,?_,λx hx=>?_⟩
  ·exact λc o e=>(uN (nN e hdn)).trans (s5 c o e)
  ·exact aaA wY (by omega)
  ·rw[qp];by_cases z:x=ns[i]
   ·rw[aap (by rw[z]),KA hnd i x k (by rw[z];exact gP hi) hki]
   ·rw[aan (λy=>z (abI y))];refine Qy x ?_;rw[acb,gP hi]at hx;rcases aaK.mp hx with y | y
    ·exact y
    ·exact absurd (pT y) z
 rintro σ H4 ⟨o4,o5,kvs,rfl,s4,MO,X5,Qy⟩;rw[acs]at Qy;refine⟨Vn,λl hl=>⟨_,rfl,OM,λa ha=>?_⟩⟩;have sl:=aC hl (.lst []);have sa:=aC ha (.lst [.ref l,.int bud,.non]);have s6:=s4.trans (sl.trans sa);have hal:a≠l:=λz=>by rw[z,uS]at ha;cases ha
 have nHa:H a=none:=by
  cases z:H a with
  | none=>rfl
  | some o=>rw[sl _ _ (s4 _ _ z)]at ha;cases ha
 have nHl:H l=none:=by
  cases z:H l with
  | none=>rfl
  | some o=>rw[s4 _ _ z]at hl;cases hl
 have I0:iI K H a l .non (upd (upd H4 l (.lst [])) a (.lst [.ref l,.int bud,.non])) ⟨[],bud,none⟩:=⟨uS,rfl,(uN hal.symm).trans uS,hal,s6,nHa,nHl⟩;have OB:(upd (upd H4 l (.lst [])) a (.lst [.ref l,.int bud,.non])) dn=some (.dK kvs):=sa _ _ (sl _ _ MO);generalize upd (upd H4 l (.lst [])) a (.lst [.ref l,.int bud,.non])=H6 at s6 I0 OB ⊢;clear sl sa hl ha MO s4;refine⟨_,rfl,t,_,_,_,rfl,rfl,s6.tup hTt,aN (j:=2) rfl,_,rfl,t,_,_,_,rfl,rfl,s6.tup hTt,aN (j:=3) rfl,FL,λte hte=>⟨OL,λel hel=>?_⟩⟩;have s7:=aC hte (.tup [.str "end",t3]);have s8:=aC hel (.lst [.ref te]);have lb:bv.length=sts.length:=by rw[hBR.1,aaf]
 refine⟨bl,el,_,_,rfl,rfl,(s6.trans (s7.trans s8)).seq hB,bu.of uS,?_,λcl hcl=>?_⟩
 ·rw[lb,abB];show sts.length + 1<=_;omega
 have s9:=s7.trans (s8.trans (aC hcl (.lst (bv++[.ref te]))));have g9:=uS (H:=upd (upd H6 te (.tup [.str "end",t3])) el (.lst [.ref te])) (a:=cl) (o:=.lst (bv++[.ref te]));have ge:bV K (upd (upd (upd H6 te (.tup [.str "end",t3])) el (.lst [.ref te])) cl (.lst (bv++[.ref te]))) te [.str "end",t3]:=(aC hcl (.lst (bv++[.ref te]))).tup (s8.tup (bV.of uS));generalize upd (upd (upd H6 te (.tup [.str "end",t3])) el (.lst [.ref te])) cl (.lst (bv++[.ref te]))=H9 at s9 g9 ge ⊢;have S9:=s6.trans s9;have I9:=I0.same s9;have TB:=s9 _ _ OB;have nda:dn≠a:=aX OB I0.ha (by intro z;cases z);have ndl:dn≠l:=aX OB I0.hl (by intro z;cases z);have nca:cl≠a:=(nN ((s7.trans s8) _ _ I0.ha) hcl).symm;have ncl:cl≠l:=(nN ((s7.trans s8) _ _ I0.hl) hcl).symm;have ncd:cl≠dn:=(nN ((s7.trans s8) _ _ OB) hcl).symm;have D0:wZ K H H9 a l dn .non H9 ⟨[],bud,none⟩ ns (w0 ns ks) 0:=⟨I9,hb,by show mu (LS.mk [] bud)<=_;unfold mu;simp;omega,⟨kvs,TB,by omega,λ_=>Qy⟩,λ_ x hx=>((ME hkl hkw) x hx).2,λ_ _ _ _ _ h=>h,nda,ndl,hdn⟩;have hk9':=TB;clear s7 s8 hcl hel hte I0 I9 OB TB s6 s9 Qy;refine⟨cl,rfl,⟨_,bu.of g9⟩,?_⟩;refine pZ (xs:=bv++[.ref te]) (λi σ H2=>∃(o5 o7 o8:Option V) (s:LT) (w:Str->Int) (nsi:List Str) (fw:V),σ=[some (.ref t),some (.ref il),some (.int bud),some (.ref dn),o4,o5,some (.ref a),o7,o8]/\wZ K H H9 a l dn fw H2 s nsi w i/\((i<=sts.length/\pR nsi (sts.drop i) ns'/\Tv (sts.drop i) an w (mF (whole sts an (w0 ns ks) ⟨[],bud⟩)) s)∨(i=sts.length + 1/\s=mF (whole sts an (w0 ns ks) ⟨[],bud⟩)))) ⟨o5,none,none,⟨[],bud,none⟩,w0 ns ks,ns,.non,rfl,D0,.inl ⟨Nat.zero_le _,hW,λ_=>rfl,λz=>absurd rfl z⟩⟩ ?_ ?_ ?_
 ·rintro i σ H2 _ ⟨o5,o7,o8,s,w,nsi,fw,rfl,D2,_⟩;exact bu.of (D2.kp _ _ nca ncl ncd g9)
 ·rintro i x σ H2 hx ⟨o5,o7,o8,s,w,nsi,fw,rfl,D2,h⟩
  have hi:i < sts.length + 1:=by
   have z:=(eA hx).1;rw[aay,lb]at z;exact z
  have hn:i<=1000:=by omega
  rcases h with⟨_,hWi,hDu⟩ | ⟨z,_⟩;rotate_left
  ·omega
  have vl:∀(H2:Hp) (fw:V) (s:LT) (e:Ex) (x:V) (Qv:VK),wZ K H H9 a l dn fw H2 s nsi w i->aQ K H x (e.D p)->(s.fin=none->e.wf nsi 6)->(∀H' fw' k,wZ K H H9 a l dn fw' H' (kC w e s) nsi w i->lM a l H2 H'->(s.fin=none->∀k0 t,e.lv w s.ls=(.val k0,t)->k=k0)->Qv (.int k) H')->cT K 7 [x,.ref dn,.ref a] H2 Qv E0:=λH2 fw s e x Qv D2 hx hw hq =>
   ⟨mE a l H2,a,l,dn,fw,x,e,p,6,nsi,w,s,rfl,rfl,aQ.same D2.I.Kz hx,D2.I.cut,(λz=>⟨hw z,D2.nm z,D2.ok hn⟩),λH' fw' z kp J=>hq H' fw' 0 (D2.val hn e hw kp (by rw[eM z];exact J)) kp λy=>absurd y z,λH' fw' k z kp J hk=>hq H' fw' k (D2.val hn e hw kp (by rw[c8 z];exact J)) kp λ_=>hk⟩
  by_cases hlt:i < sts.length;rotate_left
  ·have ei:i=sts.length:=by omega
   have hxe:x=.ref te:=by
    rw[ei,aaD (by rw[lb];exact aai _),lb,abY]at hx;exact(aaq hx).symm
   subst hxe;obtain⟨ts,ets⟩:∃ts,ts=te:=⟨_,rfl⟩;rw[← ets]at ge ⊢;have hS:=D2.tup D0.I hk9' ge;rw[ei,abz]at hWi hDu;obtain rfl:nsi=ns':=by cases hWi;rfl
   have hw:=hA;have g1:=hAn;obtain⟨e,ee⟩:∃e,e=an:=⟨_,rfl⟩;rw[← ee]at hw g1;refine⟨_,rfl,ts,_,_,_,rfl,rfl,hS,aN (j:=0) rfl,rfl,_,rfl,bj (by decide +kernel) ?_⟩;refine⟨_,rfl,_,rfl,ts,_,_,_,rfl,rfl,hS,(show lD [V.str "end",t3] (-1)=some t3 from rfl),_,rfl,_,rfl,?_⟩;dsimp only[mf,List.append_nil];refine vl H2 fw s e t3 _ D2 g1 (λ_=>hw) λH3 B7 k D3 kp hk=>?_
   have yO:=kp.tup D2.I hS;by_cases eS:(kC w e s).fin=none
   ·have hf:=mG eS;rw[c8 hf]at D3 eS;obtain⟨k0,ek⟩:=iz eS;have hkk:=hk hf k0 _ ek;subst hkk;have hnon:=D3.I.hf.aW.mpr eS;have Im:=(iS (D2.wd hf) e hw (D2.ok hn)).2 k (by rw[ek]);refine⟨_,rfl,a,_,_,_,rfl,rfl,bu.of D3.I.ha,aN (j:=2) rfl,rfl,_,rfl,fP hnon ⟨_,rfl,ts,_,_,_,rfl,rfl,yO,aN (j:=0) rfl,rfl,_,rfl,bj (by decide +kernel) ?_⟩⟩;refine⟨_,rfl,a,_,_,_,rfl,rfl,bu.of D3.I.ha,aN (j:=2) rfl,rfl,_,rfl,fP hnon ⟨_,rfl,ts,_,_,_,rfl,rfl,yO,aN (j:=0) rfl,rfl,_,rfl,bj (by decide +kernel) ?_⟩⟩;refine⟨_,rfl,a,_,_,_,rfl,rfl,bu.of D3.I.ha,aN (j:=2) rfl,rfl,_,rfl,fP hnon ⟨_,rfl,ts,_,_,_,rfl,rfl,yO,aN (j:=0) rfl,rfl,_,rfl,fP rfl ?_⟩⟩;refine⟨_,rfl,FL,λtg htg=>?_⟩;have sg:=aC htg (.tup [.str "gave",.int k]);have I5:=(D3.I.same sg).put (fw:=.ref tg) (f:=some (.gave k)) ⟨tg,rfl,bV.of uS⟩;refine⟨_,rfl,a,_,_,2,rfl,rfl,sg _ _ D3.I.ha,rfl,some _,some _,_,_,w,nsi,_,rfl,⟨I5,D3.lf,by have:=D3.mu;show mu _<=_;exact Int.le_trans this (by omega),let ⟨kvs,h,l,r⟩:=D3.d;⟨kvs,(uN D3.nda).trans (sg _ _ h),by omega,λz=>nomatch z⟩,(λz=>nomatch z),λc o n1 n2 n3 h=>(uN n1).trans (sg _ _ (D3.kp c o n1 n2 n3 h)),D3.nda,D3.ndl,D3.ne⟩,.inr ⟨by omega,?_⟩⟩;rw[← hDu.1 hf];unfold whole;rw[runs];show _=mF (an.lv w s.ls);rw[← ee,ek];rfl
   ·have hbad:kC w e s=mF (whole sts an (w0 ns ks) ⟨[],bud⟩):=by
     by_cases z:s.fin=none
     ·rw[← hDu.1 z];rw[c8 z]at eS ⊢;unfold whole;rw[runs];show _=mF (an.lv w s.ls);rw[← ee]
      revert eS
      generalize e.lv w s.ls=q;obtain⟨r,t⟩:=q;intro eS
      cases r with
      | val k=>exact absurd rfl eS
      | fault=>rfl
      | weary=>rfl
     ·rw[eM z];exact hDu.2 z
    refine⟨_,rfl,a,_,_,_,rfl,rfl,bu.of D3.I.ha,aN (j:=2) rfl,rfl,_,rfl,bj (λz=>eS (D3.I.hf.aW.mp z)) (cM ?_)⟩;refine⟨_,rfl,a,_,_,_,rfl,rfl,bu.of D3.I.ha,aN (j:=2) rfl,rfl,_,rfl,bj (λz=>eS (D3.I.hf.aW.mp z)) (cM ?_)⟩;refine⟨_,rfl,a,_,_,_,rfl,rfl,bu.of D3.I.ha,aN (j:=2) rfl,rfl,_,rfl,bj (λz=>eS (D3.I.hf.aW.mp z)) (cM ?_)⟩;exact⟨some _,some _,_,_,w,nsi,B7,rfl,D3.up,.inr ⟨by omega,hbad⟩⟩
  ·have hd:=aa1 hlt;rw[aaw (by rw[lb];exact hlt)]at hx;have hrx:=hBR.2 i x (Sm.D p sts[i]) hx (by rw[aax,gP hlt];rfl);rw[hd]at hWi hDu;generalize sts[i]=sm at hrx hWi hDu
   have hbadD:∀(e:Ex) (s:LT) (f:Int->LS->Ou (Str->Int)×LS),(kC w e s).fin≠none->(s.fin=none->mF (gL (gL (e.lv w s.ls) f) λw' t=>whole (sts.drop (i + 1)) an w' t)=mF (whole sts an (w0 ns ks) ⟨[],bud⟩))->(s.fin≠none->s=mF (whole sts an (w0 ns ks) ⟨[],bud⟩))->kC w e s=mF (whole sts an (w0 ns ks) ⟨[],bud⟩):=λe s f hb h1 h2=>by
    by_cases z:s.fin=none
    ·rw[c8 z]at hb ⊢;rw[← h1 z,Al hb]
    ·rw[eM z];exact h2 z
   cases hWi with
   | @say _ e _ _ hw hr =>
    obtain⟨ts,x1,rfl,hS,g1⟩:=oU (show aQ K H x (.tuple [.str "say",e.D p])from hrx) D2.I.s0;refine⟨_,rfl,ts,_,_,_,rfl,rfl,hS,aN (j:=0) rfl,rfl,_,rfl,bj (by decide +kernel) ?_⟩;refine⟨_,rfl,_,rfl,ts,_,_,_,rfl,rfl,hS,(show lD [V.str "say",x1] (-1)=some x1 from rfl),_,rfl,_,rfl,?_⟩;dsimp only[mf,List.append_nil];refine vl H2 fw s e x1 _ D2 g1 (λ_=>hw) λH3 B7 k D3 kp hk=>?_
    have yO:=kp.tup D2.I hS;by_cases eS:(kC w e s).fin=none
    ·have hf:=mG eS;rw[c8 hf]at D3 eS;obtain⟨k0,ek⟩:=iz eS;have hkk:=hk hf k0 _ ek;subst hkk;have hnon:=D3.I.hf.aW.mpr eS;have Im:=(iS (D2.wd hf) e hw (D2.ok hn)).2 k (by rw[ek]);refine⟨_,rfl,a,_,_,_,rfl,rfl,bu.of D3.I.ha,aN (j:=2) rfl,rfl,_,rfl,fP hnon ⟨_,rfl,ts,_,_,_,rfl,rfl,yO,aN (j:=0) rfl,rfl,_,rfl,bj (by decide +kernel) ?_⟩⟩;refine⟨_,rfl,a,_,_,_,rfl,rfl,bu.of D3.I.ha,aN (j:=2) rfl,rfl,_,rfl,fP hnon ⟨_,rfl,ts,_,_,_,rfl,rfl,yO,aN (j:=0) rfl,rfl,_,rfl,fP rfl ?_⟩⟩;refine⟨_,rfl,a,_,_,_,rfl,rfl,bu.of D3.I.ha,aN (j:=0) rfl,.inl ⟨rfl,_,bu.of D3.I.hl⟩,_,rfl,l,_,_,rfl,rfl,D3.I.hl,?_,some _,some _,_,⟨(after (e.lv w s.ls)).said++[k],(after (e.lv w s.ls)).left,none⟩,w,nsi,B7,rfl,⟨by have z:=D3.I.says [k];rw[eS]at z;exact z,D3.lf,?_,let ⟨kvs,h,l,r⟩:=D3.d;⟨kvs,(uN D3.ndl).trans h,by omega,λ_=>r eS⟩,λ_=>D3.wd eS,λc o n1 n2 n3 h=>(uN n2).trans (D3.kp c o n1 n2 n3 h),D3.nda,D3.ndl,D3.ne⟩,.inl ⟨hlt,hr,λ_=>?_,λz=>absurd rfl z⟩⟩
     ·rw[List.length_map];have z:=D3.ok hn;unfold LS.ok at z;have z:0<=(after (e.lv w s.ls)).left/\((after (e.lv w s.ls)).said.length:Int) + 2 * (after (e.lv w s.ls)).left<=100000:=z;rw[sizeLine_eq];omega
     ·have z:=D3.mu;unfold mu at z ⊢;have z:((after (e.lv w s.ls)).said.length:Int) + 2 * (after (e.lv w s.ls)).left<=20000 + (i:Int):=z;show(((after (e.lv w s.ls)).said++[k]).length:Int) + 2 * (after (e.lv w s.ls)).left<=_;rw[List.length_append,List.length_singleton];omega
     ·rw[← hDu.1 hf,eF,Sm.run];rw[ek];rfl
    ·have hbad:=hbadD e s _ eS (λz=>by have y:=hDu.1 z;rw[eF,Sm.run]at y;exact y) hDu.2;refine⟨_,rfl,a,_,_,_,rfl,rfl,bu.of D3.I.ha,aN (j:=2) rfl,rfl,_,rfl,bj (λz=>eS (D3.I.hf.aW.mp z)) (cM ?_)⟩;refine⟨_,rfl,a,_,_,_,rfl,rfl,bu.of D3.I.ha,aN (j:=2) rfl,rfl,_,rfl,bj (λz=>eS (D3.I.hf.aW.mp z)) (cM ?_)⟩;refine⟨_,rfl,a,_,_,_,rfl,rfl,bu.of D3.I.ha,aN (j:=2) rfl,rfl,_,rfl,bj (λz=>eS (D3.I.hf.aW.mp z)) (cM ?_)⟩;exact⟨some _,some _,_,_,w,nsi,B7,rfl,D3.up,.inl ⟨hlt,hr,λz=>absurd z eS,λ_=>hbad⟩⟩
   | @lt _ y e _ _ hw hr =>
    obtain⟨ts,x0,x1,x2,rfl,hS,g0,_,g1⟩:=oV (show aQ K H x (.tuple [.str "let",.str y,.tuple [.str "number"],e.D p])from hrx) D2.I.s0;have z0:=aQ.cA g0;subst z0;refine⟨_,rfl,ts,_,_,_,rfl,rfl,hS,aN (j:=0) rfl,rfl,_,rfl,bj (by decide +kernel) ?_⟩;refine⟨_,rfl,_,rfl,ts,_,_,_,rfl,rfl,hS,(show lD [V.str "let",.str y,x1,x2] (-1)=some x2 from rfl),_,rfl,_,rfl,?_⟩;dsimp only[mf,List.append_nil];refine vl H2 fw s e x2 _ D2 g1 (λ_=>hw) λH3 B7 k D3 kp hk=>?_
    have yO:=kp.tup D2.I hS;by_cases eS:(kC w e s).fin=none
    ·have hf:=mG eS;rw[c8 hf]at D3 eS;obtain⟨k0,ek⟩:=iz eS;have hkk:=hk hf k0 _ ek;subst hkk;have hnon:=D3.I.hf.aW.mpr eS;have Im:=(iS (D2.wd hf) e hw (D2.ok hn)).2 k (by rw[ek]);refine⟨_,rfl,a,_,_,_,rfl,rfl,bu.of D3.I.ha,aN (j:=2) rfl,rfl,_,rfl,fP hnon ⟨_,rfl,ts,_,_,_,rfl,rfl,yO,aN (j:=0) rfl,rfl,_,rfl,fP rfl ?_⟩⟩;obtain⟨kvs,Qz,ZD,X6⟩:=D3.d;have dp:=v5.k (k:=Sum.inr y) (v:=.int k) Qz (sK (by omega));refine⟨_,rfl,_,rfl,_,rfl,ts,_,_,_,rfl,rfl,yO,aN (j:=1) rfl,dn,_,rfl,dp,some _,some _,_,after (e.lv w s.ls),yF y k w,nsi++[y],B7,rfl,⟨?_,D3.lf,by have:=D3.mu;omega,⟨_,uS,aaA wY (by omega),λ_ z hz=>?_⟩,λ_ z hz=>?_,λc o n1 n2 n3 h=>(uN n3).trans (D3.kp c o n1 n2 n3 h),D3.nda,D3.ndl,D3.ne⟩,.inl ⟨hlt,hr,λ_=>?_,λz=>absurd eS z⟩⟩
     ·exact D3.I.dict Qz D3.ne D3.nda D3.ndl
     ·rw[qp];unfold yF;by_cases q:z=y
      ·rw[aap (by rw[q]),aap q]
      ·rw[aan (λp=>q (abI p)),aan q];exact X6 eS z ((aaK.mp hz).resolve_right λp=>q (pT p))
     ·unfold yF;by_cases q:z=y
      ·rw[aap q];exact Im
      ·rw[aan q];exact D3.wd eS z ((aaK.mp hz).resolve_right λp=>q (pT p))
     ·rw[← hDu.1 hf,eF,Sm.run];generalize hq:e.lv w s.ls=q at ek ⊢;rw[ek];rfl
    ·have hbad:=hbadD e s _ eS (λz=>by have y:=hDu.1 z;rw[eF,Sm.run]at y;exact y) hDu.2;refine⟨_,rfl,a,_,_,_,rfl,rfl,bu.of D3.I.ha,aN (j:=2) rfl,rfl,_,rfl,bj (λz=>eS (D3.I.hf.aW.mp z)) (cM ?_)⟩;refine⟨_,rfl,a,_,_,_,rfl,rfl,bu.of D3.I.ha,aN (j:=2) rfl,rfl,_,rfl,bj (λz=>eS (D3.I.hf.aW.mp z)) (cM ?_)⟩;refine⟨_,rfl,a,_,_,_,rfl,rfl,bu.of D3.I.ha,aN (j:=2) rfl,rfl,_,rfl,bj (λz=>eS (D3.I.hf.aW.mp z)) (cM ?_)⟩;have Du:=D3.up;exact⟨some _,some _,_,_,w,nsi++[y],B7,rfl,⟨Du.I,Du.lf,Du.mu,let ⟨kvs,h,l,r⟩:=Du.d;⟨kvs,h,l,λz=>absurd z eS⟩,λz=>absurd z eS,Du.kp,Du.nda,Du.ndl,Du.ne⟩,.inl ⟨hlt,hr,λz=>absurd z eS,λ_=>hbad⟩⟩
   | @put _ f es e _ _ hes hfl Qp hw hr =>
    obtain⟨ts,ZE,rfl,TC,X7,TH⟩:=qP (show aQ K H x (.tuple [.str "put",.int 1,.int (f:Int),.tuple [.str "new",.int 1,.list (es.L p)],e.D p])from hrx) D2.I.s0;obtain⟨u0,u1,u2,u3,u4,rfl⟩:=VU X7;have z0:=aQ.cA (TH 0 u0 _ rfl rfl);subst z0;have g3:=TH 3 u3 _ rfl rfl;have g1:=TH 4 u4 _ rfl rfl;obtain⟨tn,n1,n2,rfl,hSn,_,gl⟩:=lp g3 D2.I.s0;obtain⟨al,us,rfl,hL,hU⟩:=aQ.cn gl;refine⟨_,rfl,ts,_,_,_,rfl,rfl,TC,aN (j:=0) rfl,rfl,_,rfl,fP rfl ?_⟩;refine⟨_,rfl,ts,_,_,_,rfl,rfl,TC,aN (j:=3) rfl,tn,_,_,_,rfl,rfl,hSn,aN (j:=2) rfl,al,rfl,⟨_,D2.I.s0.seq hL⟩,?_⟩;refine pZ (xs:=us) (λi' σ' H'=>∃(o8':Option V) (er:br) (si:LT) (fw':V),σ'=[some (.ref t),some (.ref il),some (.int bud),some (.ref dn),o4,o5,some (.ref a),some (.ref ts),o8']/\er.L p=(es.L p).drop i'/\er.pA nsi 6/\wZ K H H9 a l dn fw' H' si nsi w i/\iw w er si=iw w es s/\lM a l H2 H') ⟨_,es,s,fw,rfl,rfl,hes,D2,rfl,.refl⟩ ?_ ?_ ?_
    ·rintro i' σ' H' _ ⟨_,_,_,_,rfl,_,_,D',_⟩;exact D'.I.s0.seq hL
    ·rintro i' x' σ' H' hx' ⟨o8',er,si,fw',rfl,el,ew,D',ef,kp'⟩;have hi':i' < (es.L p).length:=by rw[← hU.1];exact(eA hx').1
     have hrx':=hU.2 i' x' _ hx' (gP hi');rw[aa1 hi']at el
     cases er with
     | nil=>rw[br.L]at el;cases el
     | cons e' r' =>
      rw[br.L]at el;rw[br.pA]at ew;rw[← (List.cons.inj el).1]at hrx';refine⟨_,rfl,_,rfl,_,rfl,?_⟩;dsimp only[mf,List.append_nil];refine vl H' fw' si e' x' _ D' hrx' (λ_=>ew.1) λH3 B7 k D3 kp hk=>?_
      exact⟨some _,r',_,B7,rfl,(acH el).2,ew.2,D3,by rw[← ef,Em],kp'.trans kp⟩
    ·rintro σ' H' ⟨o8',er,si,fw',rfl,el,ew,D',ef,kp'⟩;rw[hU.1,abz]at el
     cases er with
     | cons e' r'=>rw[br.L]at el;cases el
     | nil =>
      rw[wU]at ef;have hS:=kp'.tup D2.I TC
      have lvk:si.fin=none->s.fin=none/\∃ks,es.jc w s.ls=(.val ks,si.ls):=λz=>by
       have zs:s.fin=none:=by rw[ef]at z;exact Eo z
       rw[ef,jo zs]at z ⊢;exact⟨zs,iz z⟩
      refine⟨_,rfl,_,rfl,ts,_,_,_,rfl,rfl,hS,(show lD [V.str "put",u1,u2,.ref tn,u4] (-1)=some u4 from rfl),_,rfl,_,rfl,?_⟩;dsimp only[mf,List.append_nil];refine vl H' fw' si e u4 _ D' g1 (λ_=>hw) λH3 B7 k D3 kp hk=>?_
      have yO:=kp.tup D'.I hS;by_cases eS:(kC w e si).fin=none
      ·have hf:=mG eS;rw[c8 hf]at D3 eS;obtain⟨k0,ek⟩:=iz eS;have hkk:=hk hf k0 _ ek;subst hkk;have hnon:=D3.I.hf.aW.mpr eS;have Im:=(iS (D'.wd hf) e hw (D'.ok hn)).2 k (by rw[ek]);refine⟨_,rfl,a,_,_,_,rfl,rfl,bu.of D3.I.ha,aN (j:=2) rfl,rfl,_,rfl,fP hnon ⟨_,rfl,ts,_,_,_,rfl,rfl,yO,aN (j:=0) rfl,rfl,_,rfl,bj (by decide +kernel) ?_⟩⟩;refine⟨_,rfl,a,_,_,_,rfl,rfl,bu.of D3.I.ha,aN (j:=2) rfl,rfl,_,rfl,fP hnon ⟨_,rfl,ts,_,_,_,rfl,rfl,yO,aN (j:=0) rfl,rfl,_,rfl,bj (by decide +kernel) ?_⟩⟩;refine⟨_,rfl,a,_,_,_,rfl,rfl,bu.of D3.I.ha,aN (j:=2) rfl,rfl,_,rfl,fP hnon ⟨_,rfl,ts,_,_,_,rfl,rfl,yO,aN (j:=0) rfl,rfl,_,rfl,bj (by decide +kernel) ?_⟩⟩
       exact⟨some _,some _,_,_,w,nsi,B7,rfl,D3.up,.inl ⟨hlt,hr,λ_=>by
        obtain⟨zs,QA,TJ⟩:=lvk hf;rw[← hDu.1 zs,eF,Sm.run,TJ];show _=mF (gL (gL (e.lv w si.ls) λ_ t=>(Ou.val w,t)) λw' t=>whole (sts.drop (i + 1)) an w' t);generalize hq:e.lv w si.ls=q at ek ⊢;rw[ek];rfl,λz=>absurd eS z⟩⟩
      ·have hbad:=hbadD e si (λ_ t=>(Ou.val w,t)) eS (λz=>by
        obtain⟨zs,QA,TJ⟩:=lvk z;rw[← hDu.1 zs,eF,Sm.run,TJ]
        rfl) (λz=>by
        by_cases zs:s.fin=none
        ·rw[← hDu.1 zs,eF,Sm.run];rw[jo zs]at ef;rw[ef]at z ⊢;rw[Al z]
        ·rw[jq zs]at ef;rw[ef];exact hDu.2 zs)
       refine⟨_,rfl,a,_,_,_,rfl,rfl,bu.of D3.I.ha,aN (j:=2) rfl,rfl,_,rfl,bj (λz=>eS (D3.I.hf.aW.mp z)) (cM ?_)⟩;refine⟨_,rfl,a,_,_,_,rfl,rfl,bu.of D3.I.ha,aN (j:=2) rfl,rfl,_,rfl,bj (λz=>eS (D3.I.hf.aW.mp z)) (cM ?_)⟩;refine⟨_,rfl,a,_,_,_,rfl,rfl,bu.of D3.I.ha,aN (j:=2) rfl,rfl,_,rfl,bj (λz=>eS (D3.I.hf.aW.mp z)) (cM ?_)⟩;exact⟨some _,some _,_,_,w,nsi,B7,rfl,D3.up,.inl ⟨hlt,hr,λz=>absurd z eS,λ_=>hbad⟩⟩
 ·rintro σ H2 ⟨o5,o7,o8,s,w,nsi,fw,rfl,D2,h⟩;have hlen:(bv++[V.ref te]).length=sts.length + 1:=by rw[aay,lb];rfl
  rw[hlen]at h;rcases h with⟨z,_⟩ | ⟨_,rfl⟩
  ·omega
  have hf:=D2.I.hf;have ha:=D2.I.ha;have hl:=D2.I.hl;have s0:=D2.I.s0
  obtain⟨u,rfl,hu⟩:∃u,fw=.ref u/\bV K H2 u (Ek (whole sts an (w0 ns ks) ⟨[],bud⟩).1):=by
   revert hf
   generalize whole sts an (w0 ns ks) ⟨[],bud⟩=q;obtain⟨r,t⟩:=q;intro hf;cases r<;>exact hf
  have eL:(mF (whole sts an (w0 ns ks) ⟨[],bud⟩)).left=(whole sts an (w0 ns ks) ⟨[],bud⟩).2.left/\(mF (whole sts an (w0 ns ks) ⟨[],bud⟩)).said=(whole sts an (w0 ns ks) ⟨[],bud⟩).2.said:=by
   generalize whole sts an (w0 ns ks) ⟨[],bud⟩=q;obtain⟨r,t⟩:=q;cases r<;>exact⟨rfl,rfl⟩
  rw[eL.1]at ha;rw[eL.2]at hl;refine⟨_,rfl,a,_,_,_,rfl,rfl,bu.of ha,aN (j:=2) rfl,_,rfl,a,_,_,_,rfl,rfl,bu.of ha,aN (j:=0) rfl,_,rfl,a,_,_,_,rfl,rfl,bu.of ha,aN (j:=1) rfl,OM,λtt htt=>?_⟩;have sT:=aC htt (.tup [.ref u,.ref l,.int (whole sts an (w0 ns ks) ⟨[],bud⟩).2.left]);exact q tt u l _ (s0.trans sT) nHl (bV.of uS) (sT.tup hu) (sT _ _ hl)
theorem jR:aO ["_law_source_here","_law_many","_law_cell"] ["_law_source_here","_law_many"] (dS lI):=by walk_at "sc"
theorem vc{f:Addr}{fd:FuncData}(F:jj K "_law_next" "_law_next" lI f fd)(jr:mg "len"=none){ai:Addr}(az:ak K ai){aj:Addr}(aG:ax K aj):bJ P w K mg base c6 1 f fd ["_law_source_here","_law_many"] (fT K):=by
 refine F.ok jR (λvs H Q E h=>?_) (λcdv A outer s H vs Q E hr h=>?_)
 ·obtain⟨GG,QB,TK,TL,hI,hv,src,m,rfl,rfl,h0,hm,q⟩:=h;exact hv.1
 obtain⟨GG,QB,TK,TL,hI,hv,src,m,rfl,rfl,h0,hm,q⟩:=h;refine tm hI hv ?_;show sX _ _ _ _ [some _,some _,none] _;clear hI hv;obtain⟨x,r,rfl⟩:∃x r,src=x::r:=by cases src with | nil=>exact absurd rfl h0.ne | cons x r=>exact⟨x,r,rfl⟩
 rw[show aK (x::r)=.int x::aK r from rfl];refine aD (bD (i:=2) jR.nd rfl (aar rfl) (cv (bC (uj (bE (n:=0) (ah 0)) ar) ar) ar)) (λR kk=>?_);walk_at "vc";refine⟨.inl (.inr ⟨by decide,by decide⟩),by decide,⟨by decide,by decide⟩,kk _ _ ?_⟩;clear kk R;refine aD (iQ (Km (nq rfl jr (ae (ah 0) au)) ar) (bU (bD (i:=2) jR.nd rfl (aar rfl) (D7 (ah 0) (ae ar au)))) dh) (λR kk=>?_)
 have nx:∀(c:Int) (r':List Int),r'.length<=r.length->R [some (.ref 0),some (.dat (.int m)),some (.dat (.int c))] [.live (.int x::aK r')]:=λc r' hl=>by
  refine kk _ _ ?_;clear kk R;refine aD (DY (bC (dN (dN (uj (bE (n:=0) (ah 0)) ar) (bC (ah 2) ar)) ar) ar) (L7 (ah 0) ar)) (λR kk=>?_);walk_at "vc";refine⟨.inl (.inr ⟨by decide,by decide⟩),by decide,by decide,0,?_,kk _ _ ?_⟩
  ·unfold xP;rw[if_pos (by decide),if_pos (by omega)];rfl
  clear kk R;rw[List.set_cons_zero];refine gW (cN (bC (ah 2) (ah 1))) ?_;walk_at "vc";refine⟨hm,q _ (_::r') (Int.emod_nonneg _ (by omega)) (Int.emod_lt_of_pos _ hm) ⟨by simp,?_⟩⟩;have:=h0.few;rw[List.length_cons]at this ⊢;omega
 clear kk;walk_at "vc"
 cases r with
 | nil=>exact bj (by decide) (nx _ [] (aai _))
 | cons y r =>
  refine fP (by show(1:Int) < (((aK r).length + 1 + 1:Nat):Int);omega) ⟨rfl,1,.int y,?_,rfl,by decide,by decide,nx y r (Nat.le_succ _)⟩;show seqIndex? 1 ((aK r).length + 1 + 1)=some 1;unfold seqIndex?;show(if (decide ((0:Int)<=1)&&decide ((1:Int) < (((aK r).length + 1 + 1:Nat):Int)))=true then some 1 else none)=some 1;rw[if_pos (by simp;omega)]
theorem jS:aO ["_law_cell","_law_way"] ["_law_cell"] (dS lJ):=by walk_at "sc"
theorem vd{f:Addr}{fd:FuncData}(F:jj K "_law_word" "_law_word" lJ f fd)(kI:mg "divmod"=none){ai:Addr}(az:ak K ai){aj:Addr}(aG:ax K aj):bJ P w K mg base c6 1 f fd ["_law_cell"] (fU K):=by
 refine F.ok jS (λvs H Q E h=>?_) (λcdv A outer s H vs Q E hr h=>?_)
 ·obtain⟨PP,ds,hP,hv,c,rfl,q⟩:=h;exact hv.1
 obtain⟨PP,ds,hP,hv,c,rfl,q⟩:=h;refine jm hP hv ?_;show sX _ _ _ _ [some _,none] [];clear hP hv;refine aD (DY (Bq rfl kI (ae (ah 0) (ae ar au))) (L6 (m:=2) rfl (wq (mx (i:=0) jS.nd rfl (Or.inl rfl)) (wq (mx (i:=1) jS.nd rfl (Or.inl rfl)) HB)))) (λR kk=>?_);walk_at "vc";refine⟨⟨by decide,by decide⟩,rfl,kk _ _ ?_⟩;clear kk R;refine aD (iQ (Kl (ah 1) ar) (bU (cN (nk (bC (ah 0) ar) ar))) dh) (λR kk=>?_);walk_at "vc";refine dO (λ_=>⟨by decide,q _ (by unfold fY;omega)⟩) λ_=>kk _ _ ?_
 clear kk R;refine aD (iQ (mv (hr.units) (ah 1) ar) (bU (cN (nk (bC (uj (ah 0) ar) ar) ar))) dh) (λR kk=>?_);walk_at "vc";refine dO (λ_=>⟨.inl (.inr ⟨by decide,by decide⟩),by decide,q _ (by unfold fY;omega)⟩) λ_=>kk _ _ ?_
 clear kk R;refine gW (cN (ko (eB (ae ar (ae (yc ar) (ae ar (ae (yc ar) au))))) (bC (ah 0) ar) (λ_ _=>rfl))) ?_;walk_at "vc";obtain⟨d,hd,ed⟩:=uF (xs:=[PyData.int 2147483647,PyData.int (-2147483648),PyData.int 65536,PyData.int (-46341)]) (n:=4) rfl (by decide) (c / 4);refine⟨by decide,d,ed,?_⟩;simp only[List.mem_cons,List.not_mem_nil,or_false]at hd;rcases hd with rfl | rfl | rfl | rfl<;>exact q _ (by unfold fY;omega)
theorem bz:aO ["_law_source_here","_law_names","_law_world","_law_deep","_law_way","_law_cell","_law_es","_law_c","_law_many"] ["_law_source_here","_law_names","_law_world","_law_deep"] (dS ky):=by walk_at "sc"
theorem Io{ns:List Str}{cl:Int}{X:PyData->Prop}{ec d:Nat}(rK:ns≠[])(hx:∀e:Ex,e.wf ns d->X (e.D ec)):(0:Int) < 2/\if decide (cl % 2=0)=true then zO 2/\(0:Int) < ((ns.map PyData.str).length:Int)/\∃d,lD (ns.map PyData.str) (cl / 2 % ((ns.map PyData.str).length:Int))=some d/\X (.tuple [.str "var",d])else zO 2/\jM [.int (cl / 2)] λd=>X (.tuple [.str "num",d]):=by
 have hl:0 < (ns.map PyData.str).length:=by rw[aaf];exact List.length_pos_iff.mpr rK
 refine⟨by decide,dO (λ_=>⟨⟨by decide,by decide⟩,by omega,?_⟩) λ_=>⟨⟨by decide,by decide⟩,_,rfl,λk hk=>?_⟩⟩
 ·obtain⟨c,ec',hc⟩:=nK (cl / 2) (m:=((ns.map PyData.str).length:Int)) rfl hl;rw[ec'];rw[aaf]at hc;refine⟨.str ns[c],aN (by rw[aax,gP hc];rfl),?_⟩;have z:=hx (.var ns[c]) (by rw[Ex.wf];exact aby hc);rw[Ex.D]at z;exact z
 ·have z:=hx (.num k) (by rw[Ex.wf];exact hk);rw[Ex.D]at z;exact z
theorem Ip{c d:Prop}[Decidable c][Decidable d]{A B:Prop}(h1:c->d->A)(h2:B):if decide c=true then(if decide d=true then A else B)else B:=by
 by_cases x:c
 ·rw[aap (aa0 x)];by_cases y:d
  ·rw[aap (aa0 y)];exact h1 x y
  ·rw[aan (λz=>y (abH z))];exact h2
 ·rw[aan (λz=>x (abH z))];exact h2
theorem mL{n:Nat}{ns:List Str}{ec one two dd:Nat}{dI j:Int}{env:bL}{m:Nat}{src:List Int}{Q:DC}(ej:dI - j=(dd:Int))(rK:ns≠[])(nO:ns.length<=10)(o1:1<=one)(o3:one<=3)(t3:two<=3)(d4:dd<=4)(hdn:dd < n)
  (ee:env=[none,some (.ref 0),some (.dat (.list (ns.map PyData.str))),some (.dat (.list [.int (ec:Int),.int (one:Int),.int (two:Int)])),some (.dat (.int dI))]) (hm:m<=6) (hs:gK src)
  (hQ:∀(es:List Ex) (src':List Int),es.length=m->(∀e∈es,e.wf ns dd)->gK src'->Q (.dat (.list (es.map (Ex.D ec)))) [.live (aK src')]) :
  RJ wF (gN 0) wu (zS (lH [true,false,false,false] (fV n)) (j3 (pj 1) (j3 (pj 2) (j3 (pj 3) (j3 (sV (Kj λi j=>PyData.int (i - j)) (pj 4) (eC (PyData.int j))) Be))))) (List.map DV.dat (wm 0 m)) (λ_=>True) env [.live (aK src)] Q:=by
 subst ee;refine⟨by rw[aaf,iu];omega,RO ec ns dd,⟨[],src,rfl,(λ_ h=>nomatch h),rfl,rfl,hs⟩,λ_ _ _ _=>trivial,?_,?_⟩
 ·rintro i ys st d ⟨es,src,h1,h2,rfl,rfl,hs⟩ hd;walk_at "vc";rw[ej];exact iJ ⟨by simp,by simp,rfl,src,ns,ec,one,two,dd,rfl,rfl,hs,rK,nO,o1,o3,t3,d4,hdn,λe src' he hs'=>⟨rfl,rfl,RO.more h1 h2 he hs'⟩⟩
 ·rintro ys st ⟨es,src',h1,h2,rfl,rfl,hs⟩;rw[aaf,iu]at h1;exact⟨es.map (Ex.D ec),by rw[aa7];rfl,hQ es src' h1 h2 hs⟩
theorem rR{n:Nat}{f:Addr}{fd:FuncData}(F:jj K "_law_grown" "_law_grown" ky f fd)(jr:mg "len"=none)(dm:mg "range"=none){ai:Addr}(az:ak K ai){aj:Addr}(aG:ax K aj)(bA:ic P w K mg base c6 "_law_grown" (n + 1) ["_law_source_here","_law_names","_law_world","_law_deep"] (fe K n))(fW:ic P w K mg base c6 "_law_next" 1 ["_law_source_here","_law_many"] (fT K))(kJ:ic P w K mg base c6 "_law_word" 1 ["_law_cell"] (fU K)):bJ P w K mg base c6 (n + 1 + 1) f fd ["_law_source_here","_law_names","_law_world","_law_deep"] (fe K (n + 1)):=by
 refine F.ok bz (λvs H Q E h=>?_) (λcdv A outer s H vs Q E hr h=>?_)
 ·obtain⟨GG,QB,TK,TL,hI,hv,src,ns,ec,one,two,deep,rfl,rfl,h0,rK,nO,o1,o3,t3,d4,hdn,q⟩:=h;exact hv.1
 obtain⟨GG,QB,TK,TL,hI,hv,src,ns,ec,one,two,deep,rfl,rfl,h0,rK,nO,o1,o3,t3,d4,hdn,q⟩:=h;refine tm hI hv ?_;show sX _ _ _ _ [some _,some _,some _,some _,none,none,none,none,none] _;clear hI hv;refine aD (bD (i:=4) bz.nd rfl (Or.inl rfl) (cB (js:=[true,false]) fW iU iT (hr.mono (by omega)) rfl (ae (ah 0) (ae ar au)))) (λR kk=>?_);walk_at "vc";refine⟨by simp,by simp,rfl,src,9,rfl,rfl,h0,by decide,λway MP w0 w9 h1=>⟨rfl,rfl,kk _ _ ?_⟩⟩;clear kk R;refine aD (bD (i:=5) bz.nd rfl (Or.inl rfl) (cB (js:=[true,false]) fW iU iT (hr.mono (by omega)) rfl (ae (ah 0) (ae (yb ar ar) au)))) (λR kk=>?_);walk_at "vc";refine⟨⟨by decide,by decide,by decide⟩,by simp,by simp,rfl,MP,_,rfl,rfl,h1,by decide,λcl BB c0 c1 h2=>⟨rfl,rfl,kk _ _ ?_⟩⟩;clear kk R;refine aD (iQ (Ba.dt (zR (Kl (ah 3) ar) (ye (mv (hr.units) (ah 4) ar)))) (cY (iQ (mv (hr.units) (bC (ah 5) ar) ar) (bU (cN (bc (ae aT (ae (ko (ah 1) (bC (cv (ah 5) ar) (nq rfl jr (ae (ah 1) au))) (λ_ _=>rfl)) au))))) dh)
   (bU (cN (bc (ae aT (ae (mw kJ oY oX (hr.mono (by omega)) rfl (ae (cv (ah 5) ar) au)) au)))))) dh) (λR kk=>?_)
 walk_at "vc";have leaf:=Io (cl:=cl) (X:=λd=>sZ K GG QB H [.live (aK src)] Q d [.live (aK BB)]) (ec:=ec) (d:=deep) rK λe he=>q e BB he h2
 refine dO (λ_=>iJ leaf) λhd2=>dO (λ_=>leaf) λ_=>kk _ _ ?_
 clear kk R leaf;obtain⟨dp,rfl⟩:∃dp,deep=dp + 2:=⟨deep - 2,by omega⟩;refine aD (iQ (mv (hr.units) (ah 4) ar) (cY (ij nC (i:=6) bz.nd rfl (aar rfl) 1 ["_law_k","_law_source_here","_law_names","_law_world","_law_deep"] [0,1,2,3] ⟨rfl,rfl,rfl,rfl,rfl,rfl,rfl,rfl⟩ (nA (dF rfl dm (ae ar au))) (λ_ _ _ _=>(bf (i:=0) (show List.Nodup (["_law_k","_law_source_here","_law_names","_law_world","_law_deep"]:List Str)by decide +kernel) rfl (aar rfl))) (kY (i:=0)) (px (by decide)) (λ_ _ _ _=>⟨gp,(cB (js:=[true,false,false,false]) bA bP bO (hr.mono (by omega)) rfl (ae (ah 1) (ae (ah 2) (ae (ah 3) (ae (nk (ah 4) ar) au)))))⟩))
   (bU (cN (bc (ae aT (ae (bE (n:=0) (ah 2)) (ae (ah 6) au))))))) dh) (λR kk=>?_)
 walk_at "vc";refine dO (λ_=>⟨⟨by decide,by decide⟩,mL (dd:=dp + 1) (by omega) rK nO o1 o3 t3 (by omega) (by omega) rfl (by decide) h2 λes iD hl hw hs=>?_⟩) λ_=>kk _ _ ?_
 ·obtain⟨a,b,rfl⟩:=HV hl;have z:=q (.call a b) iD (by rw[Ex.wf];exact⟨_,rfl,hw a aae,hw b (aal _ aae)⟩) hs;rw[Ex.D]at z;exact z
 clear kk R;refine aD (iQ (Ba.dt (DG (mv (hr.units) (ah 4) ar) (zQ (Km (ah 3) ar)))) (cY (bD (i:=7) bz.nd rfl (aar rfl) (dN ar (bC (ah 5) ar)))
   (cY (bD (i:=8) bz.nd rfl (aar rfl) (ko (eB (ae ar (ae (bE (n:=1) (ah 2)) (ae (dN (bE (n:=1) (ah 2)) (bE (n:=2) (ah 2))) au)))) (dN ar (bC (cv (ah 5) ar) ar)) (λ_ _=>rfl)))
   (cY (ij nC (i:=6) bz.nd rfl (aar rfl) 1 ["_law_k","_law_source_here","_law_names","_law_world","_law_deep"] [0,1,2,3] ⟨rfl,rfl,rfl,rfl,rfl,rfl,rfl,rfl⟩ (nA (dF rfl dm (ae (ah 8) au))) (λ_ _ _ _=>(bf (i:=0) (show List.Nodup (["_law_k","_law_source_here","_law_names","_law_world","_law_deep"]:List Str)by decide +kernel) rfl (aar rfl))) (kY (i:=0)) (px (by decide)) (λ_ _ _ _=>⟨gp,(cB (js:=[true,false,false,false]) bA bP bO (hr.mono (by omega)) rfl (ae (ah 1) (ae (ah 2) (ae (ah 3) (ae (nk (ah 4) ar) au)))))⟩))
   (cY (iQ (Ba.dt (DG (mv (hr.units) (ah 7) ar) (zQ (mv (hr.units) (ah 8) (dN (bE (n:=1) (ah 2)) (bE (n:=2) (ah 2))))))) (bU (cN (bc (ae aT (ae ar (ae (bC (cv (ah 5) ar) (ah 8)) (ae (bc (ae aT (ae ar (ae (ah 6) au)))) au))))))) dh)
   (cY (iQ (mv (hr.units) (ah 8) (bE (n:=1) (ah 2))) (bU (cN (bc (ae aT (ae ar (ae (bC (cv (ah 5) ar) (ah 8)) (ae (bc (ae aT (ae ar (ae (ah 6) au)))) au))))))) dh)
   (bU (cN (bc (ae aT (ae ar (ae (bC (cv (ah 5) ar) (bE (n:=1) (ah 2))) (ae (bc (ae aT (ae ar (ae (ah 6) au)))) au)))))))))))) dh) (λR kk=>?_)
 walk_at "vc";refine Ip (λ_ ZF=>?_) (kk _ _ ?_)
 ·obtain⟨d3,rfl⟩:∃d3,dp=d3 + 1:=⟨dp - 1,by omega⟩
  have fin:∀(c c2 k:Nat) (es:List Ex) (iD:List Int),es.length<=6->(∀e∈es,e.wf ns (d3 + 1))->gK iD->k < es.length->sZ K GG QB H [.live (aK src)] Q (.tuple [.str "get",.int (c:Int),.int (k:Int),.tuple [.str "new",.int (c2:Int),.list (es.map (Ex.D ec))]]) [.live (aK iD)]:=λc c2 k es iD hl hw hs hk=>by
   have z:=q (.get c k c2 (br.of es)) iD (by rw[Ex.wf];exact⟨_,rfl,br.yE _ _ (yD es hw),by rw[qS];exact hk,by rw[qS];omega⟩) hs;rw[Ex.D,MC]at z;exact z
  obtain⟨b,eb,hb⟩:=nK (cl / 2) (m:=2) (n:=2) rfl (by decide);rw[eb];have hb':b=0∨b=1:=by omega
  rcases hb' with rfl | rfl
  ·refine⟨by decide,⟨by decide,by decide⟩,by decide,.int (one:Int),aN (j:=1) rfl,?_⟩;refine⟨⟨by omega,by omega⟩,mL (dd:=d3 + 1) (by omega) rK nO o1 o3 t3 (by omega) (by omega) rfl (by omega) h2 λes iD hl hw hs=>?_⟩;rw[Int.toNat_natCast]at hl;obtain⟨k,ek,hk⟩:=nK (cl / 8) (m:=(one:Int)) (n:=one) rfl (by omega);walk_at "vc";rw[ek];exact dO (λ_=>dO (λ_=>⟨⟨by decide,by decide⟩,by omega,fin 2 2 k es iD (by omega) hw hs (by omega)⟩) λ_=>dO (λ_=>⟨⟨by decide,by decide⟩,by omega,fin 1 1 k es iD (by omega) hw hs (by omega)⟩) λ_=>⟨⟨by decide,by decide⟩,by omega,fin 1 2 k es iD (by omega) hw hs (by omega)⟩) λ_=>cM (dO (λ_=>⟨⟨by decide,by decide⟩,by omega,fin 1 1 k es iD (by omega) hw hs (by omega)⟩) λ_=>⟨⟨by decide,by decide⟩,by omega,fin 1 2 k es iD (by omega) hw hs (by omega)⟩)
  ·refine⟨by decide,⟨by decide,by decide⟩,by decide,.int ((one:Int) + (two:Int)),aN (j:=2) rfl,?_⟩;refine⟨⟨by omega,by omega⟩,mL (dd:=d3 + 1) (by omega) rK nO o1 o3 t3 (by omega) (by omega) rfl (by omega) h2 λes iD hl hw hs=>?_⟩;rw[show((one:Int) + (two:Int)).toNat=one + two by omega]at hl;obtain⟨k,ek,hk⟩:=nK (cl / 8) (m:=(one:Int) + (two:Int)) (n:=one + two) (by omega) (by omega);obtain⟨k',ek',hk'⟩:=nK (cl / 8) (m:=(one:Int)) (n:=one) rfl (by omega);walk_at "vc";rw[ek,ek'];exact dO (λ_=>dO (λ_=>⟨⟨by decide,by decide⟩,by omega,fin 2 2 k es iD (by omega) hw hs (by omega)⟩) λ_=>dO (λ_=>⟨⟨by decide,by decide⟩,by omega,fin 1 1 k es iD (by omega) hw hs (by omega)⟩) λ_=>⟨⟨by decide,by decide⟩,by omega,fin 1 2 k' es iD (by omega) hw hs (by omega)⟩) λ_=>cM (dO (λ_=>⟨⟨by decide,by decide⟩,by omega,fin 1 1 k es iD (by omega) hw hs (by omega)⟩) λ_=>⟨⟨by decide,by decide⟩,by omega,fin 1 2 k' es iD (by omega) hw hs (by omega)⟩)
 clear kk R;refine aD (iQ (mv (hr.units) (ah 4) ar) (cY (ij nC (i:=6) bz.nd rfl (aar rfl) 1 ["_law_k","_law_source_here","_law_names","_law_world","_law_deep"] [0,1,2,3] ⟨rfl,rfl,rfl,rfl,rfl,rfl,rfl,rfl⟩ (nA (dF rfl dm (ae ar au))) (λ_ _ _ _=>(bf (i:=0) (show List.Nodup (["_law_k","_law_source_here","_law_names","_law_world","_law_deep"]:List Str)by decide +kernel) rfl (aar rfl))) (kY (i:=0)) (px (by decide)) (λ_ _ _ _=>⟨gp,(cB (js:=[true,false,false,false]) bA bP bO (hr.mono (by omega)) rfl (ae (ah 1) (ae (ah 2) (ae (ah 3) (ae (nk (ah 4) ar) au)))))⟩))
   (bU (cN (bc (ae aT (ae (bE (n:=0) (ah 6)) (ae (bE (n:=1) (ah 6)) (ae (bE (n:=2) (ah 6)) au)))))))) dh) (λR kk=>?_)
 walk_at "vc";refine dO (λ_=>⟨⟨by decide,by decide⟩,mL (dd:=dp + 1) (by omega) rK nO o1 o3 t3 (by omega) (by omega) rfl (by decide) h2 λes iD hl hw hs=>?_⟩) λ_=>kk _ _ ?_
 ·obtain⟨a,b,c,rfl⟩:=VT hl;have z:=q (.either a b c) iD (by rw[Ex.wf];exact⟨_,rfl,hw a aae,hw b (aal _ aae),hw c (aal _ (aal _ aae))⟩) hs;rw[Ex.D]at z;walk_at "vc";exact z
 clear kk R;refine aD (ij nC (i:=6) bz.nd rfl (aar rfl) 1 ["_law_k","_law_source_here","_law_names","_law_world","_law_deep"] [0,1,2,3] ⟨rfl,rfl,rfl,rfl,rfl,rfl,rfl,rfl⟩ (nA (dF rfl dm (ae ar au))) (λ_ _ _ _=>(bf (i:=0) (show List.Nodup (["_law_k","_law_source_here","_law_names","_law_world","_law_deep"]:List Str)by decide +kernel) rfl (aar rfl))) (kY (i:=0)) (px (by decide)) (λ_ _ _ _=>⟨gp,(cB (js:=[true,false,false,false]) bA bP bO (hr.mono (by omega)) rfl (ae (ah 1) (ae (ah 2) (ae (ah 3) (ae (nk (ah 4) ar) au)))))⟩)) (λR kk=>?_);walk_at "vc";refine⟨⟨by decide,by decide⟩,mL (dd:=dp + 1) (by omega) rK nO o1 o3 t3 (by omega) (by omega) rfl (by decide) h2 λes iD hl hw hs=>kk _ _ ?_⟩;clear kk R;obtain⟨a,b,rfl⟩:=HV hl;refine gW (cN (bc (ae (ko (eB (ae aT (ae aT (ae aT (ae aT (ae aT (ae aT (ae aT au)))))))) (bC (ah 5) ar) (λ_ _=>rfl)) (ae (bE (n:=0) (ah 6)) (ae (bE (n:=1) (ah 6)) au))))) ?_;walk_at "vc";obtain⟨d,hd,ed⟩:=uF (xs:=[PyData.str "add",PyData.str "sub",PyData.str "mul",PyData.str "div",PyData.str "rem",PyData.str "less",PyData.str "same"]) (n:=7) rfl (by decide) cl
 have hop:∃op,d=.str op/\wQ op:=by
  simp only[List.mem_cons,List.not_mem_nil,or_false]at hd;rcases hd with rfl | rfl | rfl | rfl | rfl | rfl | rfl
  ·exact⟨_,rfl,.inl rfl⟩
  ·exact⟨_,rfl,.inr (.inl rfl)⟩
  ·exact⟨_,rfl,.inr (.inr (.inl rfl))⟩
  ·exact⟨_,rfl,.inr (.inr (.inr (.inr (.inr (.inl rfl)))))⟩
  ·exact⟨_,rfl,.inr (.inr (.inr (.inr (.inr (.inr rfl)))))⟩
  ·exact⟨_,rfl,.inr (.inr (.inr (.inl rfl)))⟩
  ·exact⟨_,rfl,.inr (.inr (.inr (.inr (.inl rfl))))⟩
 obtain⟨op,rfl,ho⟩:=hop;have z:=q (.two op a b) iD (by rw[Ex.wf];exact⟨_,rfl,ho,hw a aae,hw b (aal _ aae)⟩) hs;rw[Ex.D]at z;refine⟨by decide,_,ed,?_⟩;exact z
theorem fh:aO ["_law_script","_law_start","_law_cell"] ["_law_script"] (dS jJ):=by walk_at "sc"
theorem rb{f:Addr}{fd:FuncData}(F:jj K "_law_source" "_law_source" jJ f fd)(gH:mg "list"=none){ai:Addr}(az:ak K ai){aj:Addr}(aG:ax K aj):bJ P w K mg base c6 1 f fd ["_law_script"] (fN K):=by
 refine F.ok fh (λvs H Q E h=>?_) (λcdv A outer s H vs Q E hr h=>?_)
 ·obtain⟨PP,ds,hP,hv,ns,rfl,RQ,q⟩:=h;exact hv.1
 obtain⟨PP,ds,hP,hv,ns,rfl,RQ,q⟩:=h;refine yq hP hv ?_;show sX _ _ _ _ [some _,none,none] [];clear hP hv;refine aD (bD (i:=1) fh.nd rfl (aar rfl) ar) (λR kk=>?_);walk_at "vc";refine kk _ _ ?_;clear kk R;refine aD (yg abr rfl (ny (ah 0)) (mx (i:=2) fh.nd rfl (aar rfl)) (bU (bD (i:=1) fh.nd rfl (aar rfl) (bC (dN (uj (ah 1) ar) (ah 2)) ar)))) (λR kk=>?_);walk_at "vc";refine uz (λi env st=>∃(k:Int) (o:Option DV),env=[some (.dat (.list (aK ns))),some (.dat (.int k)),o]/\st=[]) ⟨_,_,rfl,rfl⟩ (λ_ _ _ _=>trivial) ?_ ?_
 ·rintro i env st d hd ⟨k,o,rfl,rfl⟩;unfold aK at hd;rw[List.getElem?_map]at hd
  cases e:ns[i]? with
  | none=>rw[e]at hd;cases hd
  | some c =>
   rw[e]at hd;cases hd;walk_at "vc";exact⟨.inl (.inr ⟨by decide,by decide⟩),by decide,_,_,rfl,rfl⟩
 ·rintro env st ⟨k,o,rfl,rfl⟩;refine kk _ _ ?_;clear kk R;refine gW (cN (Hq (eB (ae (ah 1) au)) (zT rfl gH (ae (ah 0) au)))) ?_;walk_at "vc";exact⟨by rw[show(aK ns).length=ns.length from List.length_map _];omega,q (k::ns) ⟨by simp,by rw[List.length_cons];omega⟩⟩
theorem yQ:aO ["takes","gives"] ["takes","gives"] (dS nG):=by walk_at "sc"
theorem yR{f:Addr}{fd:FuncData}(F:jj K "is_door" "is_door" nG f fd)(xc:mg "all"=none){ai:Addr}(az:ak K ai){aj:Addr}(aG:ax K aj):bJ P w K mg base c6 1 f fd ["takes","gives"] (jO K):=by
 refine F.ok yQ (λvs H Q E h=>?_) (λcdv A outer s H vs Q E hr h=>?_)
 ·obtain⟨tl,g,ys,ks,gk,rfl,hS,hK,hg,iK,q⟩:=h;rfl
 obtain⟨tl,g,ys,ks,gk,rfl,hS,hK,hg,iK,q⟩:=h;refine⟨_,(qO (aL (p5 (C5 rfl) rfl xc Lp (pK (C4 1 ["kind"] [] ⟨rfl,rfl,rfl,rfl,rfl,rfl,rfl,rfl⟩ (me (cz ub (pv 0) (ip (pK (pv 1) pN)))) (λ_ _ _ _=>⟨(bf (i:=0) (show List.Nodup (["kind"]:List Str)by decide +kernel) rfl (aar rfl)),kU,(jE (r:=Lq K) (ua (hr.units)) (pv 0) (gf (pK aP pN)) (aF _))⟩)) pN)))),?_⟩;have ly:=hK.1;rw[aaf]at ly;refine⟨_,rfl,_,rfl,OL,λl1 h1=>?_⟩;have u1:=aC h1 (.lst [g]);refine⟨tl,l1,ys,_,rfl,rfl,u1.seq hS,bu.of uS,aa3 (sK (by show ys.length + 1<=1000;omega)),λl2 h2=>?_⟩;have u2:=aC h2 (.lst (ys++[g]));have U:=u1.trans u2;have g2:=uS (H:=upd H l1 (.lst [g])) (a:=l2) (o:=.lst (ys++[g]));generalize upd (upd H l1 (.lst [g])) l2 (.lst (ys++[g]))=H1 at U g2 ⊢;refine⟨l2,rfl,⟨_,bu.of g2⟩,λD hD=>?_⟩
 have hA:da K H (ys++[g]) (qM (ks++[gk])):=by
  unfold qM;rw[List.map_append];exact da.append hK (.cons hg .nil)
 refine mj (xs:=ys++[g]) (λi zs H2=>aS H1 H2/\H2 D=some (.lst zs)/\zs=(((ks++[gk]).take i).map i6).map V.bl) (aa3 (sK (by rw[aay];show ys.length + 1<=1000;omega))) ⟨aC hD _,uS,rfl⟩ ?_ ?_ ?_
 ·rintro i zs H2 hi ⟨s2,d2,rfl⟩;refine⟨d2,?_,s2.seq (bu.of g2)⟩;rw[aaf,aaf,aa5];omega
 ·rintro i x zs H2 hx ⟨s2,d2,rfl⟩
  have hi:i < (ks++[gk]).length:=by
   have:=(eA hx).1;rw[List.length_append]at this ⊢;simp only[List.length_singleton]at this ⊢;omega
  have hr':=hA.2 i x (.tuple (rH (ks++[gk])[i])) hx (by rw[aax,gP hi];rfl);refine⟨rfl,_,rfl,OL,λt ht=>?_⟩;have s3:=aC ht (.tup [.str "number"]);refine⟨_,_,aQ.same (U.trans (s2.trans s3)) hr',.CZ (bV.of uS) (.cons (.str _) .nil),Mv _,(by decide +kernel),s3 _ _ d2,wN (s2.trans s3) hD _,uS,?_⟩;rw[EC,List.take_succ_eq_append_getElem hi,aaU,aaU];rfl
 ·rintro zs H2 ⟨s2,d2,rfl⟩;have e:(ks++[gk]).take (ys++[g]).length=ks++[gk]:=List.take_of_length_le (by rw[List.length_append,List.length_append];simp only[List.length_singleton];omega);rw[e]at d2;refine⟨D,_,rfl,bu.of d2,?_⟩;have z:=q H2 (U.trans s2);rw[List.all_map];exact z
theorem lr:aO ["parts","part","inputs","takes"] ["parts","part","inputs"] (dS jK):=by walk_at "sc"
theorem rS{f:Addr}{fd:FuncData}(F:jj K "check_door" "check_door" jK f fd)(jr:mg "len"=none){bR:Addr}(jt:mg "NoDoor"=some (.ref bR))(ju:PySem.W.excIn K bR (rB true) (vS true)=true)(mM:PySem.W.ktsIn K bR "BaseException"=true){ai:Addr}(az:ak K ai){aj:Addr}(aG:ax K aj)(BC:ic P w K mg base c6 "is_door" 1 ["takes","gives"] (jO K)):bJ P w K mg base (eh P w) 2 f fd ["parts","part","inputs"] (i7 K bR):=by
 refine F.Di lr (λvs H Q E h=>?_) (λcdv A outer s H vs Q E hr h=>?_)
 ·obtain⟨PP,ds,hP,hv,hs,j,ws,rfl,iK,q,x⟩:=h;exact hv.1
 obtain⟨PP,ds,hP,hv,hs,j,ws,rfl,iK,q,x⟩:=h;refine Bo (Ex:=λC fs=>∀dd H',aS H H'->P8 K PP H' dd fs->E (.ref C) dd H') hP hv (λ_ _ z=>z) ?_;show sX _ _ _ _ [some _,some _,some _,none] [];clear hP hv;refine aD (iQ (qw (D1 JY zv (wb λ_ _ _=>.bl _) (wb λ_ _ _=>.bl _) ar (ah 1) (nq rfl jr (ae (ah 0) au)))) (bU (tp ug rfl jt ju rfl)) dh) (λR kk=>?_);walk_at "vc";have no:¬ xa hs j ws.length->∀(dd:Option Addr) (H':Hp),aS H H'->P8 K PP H' dd []->E (.ref bR) dd H':=x;refine dO (λh0=>?_) λh0=>iJ (no λ⟨h,z,_⟩=>h0 z)
 obtain⟨jn,rfl⟩:∃n:Nat,j=(n:Int):=⟨j.toNat,by omega⟩;rw[aaf];by_cases h1:jn < hs.length;rotate_left
 ·refine rA (by omega) (no λ⟨h,_,z,_⟩=>h1 ?_);rw[Int.toNat_natCast]at z;exact(eA z).1
 refine vM (by omega) (kk _ _ ?_);clear kk R;have hh:hs[jn]?=some hs[jn]:=gP h1;have MQ:=iK hs[jn] (aby h1);generalize hs[jn]=h at hh MQ
 have dj:∀n:Nat,xa hs (jn:Int) n↔(h.1++[h.2]).all i6=true/\n=h.1.length:=λn=>by
  unfold xa;rw[Int.toNat_natCast];exact⟨λ⟨p',_,z,a,b⟩=>by rw[hh]at z;cases z;exact⟨a,b⟩,λ⟨a,b⟩=>⟨h,by omega,hh,a,b⟩⟩
 refine aD (bD (i:=3) lr.nd rfl (aar rfl) (bE (n:=0) (ko (ah 0) (ah 1) (λ_ _=>rfl)))) (λR kk=>?_);walk_at "vc";refine⟨_,zZ hh,?_⟩;rw[show zy h=.tuple [.list (qM h.1),.tuple (rH h.2)]from rfl];walk_at "vc";refine kk _ _ ?_;clear kk R;refine gW (iQ (Ba.dt (zR (qw (ur (mw BC yK yJ (hr.mono (by decide)) rfl (ae (ah 3) (ae (bE (n:=1) (ko (ah 0) (ah 1) (λ_ _=>rfl))) au))))) (ye (Ko (hr.units) (nq rfl jr (ae (ah 2) au)) (nq rfl jr (ae (ah 3) au)))))) (bU (tp ug rfl jt ju rfl)) dh) ?_;walk_at "vc";refine⟨_,zZ hh,?_⟩;rw[show zy h=.tuple [.list (qM h.1),.tuple (rH h.2)]from rfl];walk_at "vc";refine⟨h.1,h.2,rfl,MQ,?_⟩
 cases hd:(h.1++[h.2]).all i6 with
 | false =>
  refine iJ (iJ (no λz=>?_));rw[((dj _).mp z).1]at hd;cases hd
 | true =>
  refine cM ?_;rw[aaf,show(qM h.1).length=h.1.length from aaf _];by_cases hl:ws.length=h.1.length
  ·exact vM (by omega) (q ((dj _).mpr ⟨hd,hl⟩))
  ·exact rA (by omega) (no λz=>hl ((dj _).mp z).2)
theorem rf:aO ["part"] ["part"] (dS i5):=by walk_at "sc"
theorem rg{f:Addr}{fd:FuncData}(F:jj K "kinds_taken" "kinds_taken" i5 f fd){ai:Addr}(az:ak K ai){aj:Addr}(aG:ax K aj):bJ P w K mg base c6 1 f fd ["part"] (ff K):=by
 refine F.ok rf (λvs H Q E h=>?_) (λcdv A outer s H vs Q E hr h=>?_)
 ·obtain⟨PP,ds,hP,hv,p,rfl,iK,q⟩:=h;exact hv.1
 obtain⟨PP,ds,hP,hv,p,rfl,iK,q⟩:=h;refine jm hP hv ?_;show sX _ _ _ _ [some _] [];clear hP hv;refine gW (cN (wy 1 ["take"] [] ⟨rfl,rfl,rfl,rfl,rfl,rfl,rfl,rfl⟩ (ny (bE (n:=0) (ah 0))) (λ_ _ _ _=>(bf (i:=0) (show List.Nodup (["take"]:List Str)by decide +kernel) rfl (aar rfl))) (kY (i:=0)) (px (by decide)) (λ_ _ _ _=>⟨gp,(bE (n:=1) (ah 0))⟩))) ?_;rw[show vB p=.tuple [.list (p.tk.map FU),.tuple (rH p.gv),.list p.bd,p.an]from rfl];walk_at "vc";refine tE p.tk FU (λt=>.tuple (rH t.2)) rfl (by omega) ?_ ?_
 ·intro i t ht W N hW;rw[show FU t=.tuple [.str t.1,.tuple (rH t.2)]from rfl];walk_at "vc";rw[aap rfl];exact⟨rfl,rfl,rfl,hW⟩
 walk_at "vc";rw[show qM (p.tk.map (·.2))=p.tk.map λt=>PyData.tuple (rH t.2)by unfold qM;rw[List.map_map];rfl]at q;exact q
theorem xf:aO ["program"] ["program"] (dS lK):=by walk_at "sc"
theorem xg{f:Addr}{fd:FuncData}(F:jj K "heads_of" "heads_of" lK f fd){ai:Addr}(az:ak K ai){aj:Addr}(aG:ax K aj)(rT:ic P w K mg base c6 "kinds_taken" 1 ["part"] (ff K)):bJ P w K mg base c6 2 f fd ["program"] (kF K):=by
 refine F.ok xf (λvs H Q E h=>?_) (λcdv A outer s H vs Q E hr h=>?_)
 ·obtain⟨PP,ds,hP,hv,ms,ps,rfl,h1,h2,q⟩:=h;exact hv.1
 obtain⟨PP,ds,hP,hv,ms,ps,rfl,h1,h2,q⟩:=h;refine jm hP hv ?_;show sX _ _ _ _ [some _] [];clear hP hv;refine gW (cN (wy 1 ["part"] [] ⟨rfl,rfl,rfl,rfl,rfl,rfl,rfl,rfl⟩ (ny (bE (n:=1) (ah 0))) (λ_ _ _ _=>(bf (i:=0) (show List.Nodup (["part"]:List Str)by decide +kernel) rfl (aar rfl))) (kY (i:=0)) (px (by decide)) (λ_ _ _ _=>⟨gp,(bc (ae (mw rT qV qU (hr.mono (by decide)) rfl (ae (ah 0) au)) (ae (bE (n:=1) (ah 0)) au)))⟩))) ?_;rw[show Kx ms ps=.tuple [ms,.list (ps.map vB)]from rfl];walk_at "vc";refine tE ps vB (λp=>zy (p.tk.map (·.2),p.gv)) rfl (by omega) ?_ ?_
 ·intro i p hp W N hW;walk_at "vc";rw[aap rfl];refine⟨rfl,rfl,p,rfl,h2 p (aaz hp),?_⟩;rw[show vB p=.tuple [.list (p.tk.map FU),.tuple (rH p.gv),.list p.bd,p.an]from rfl];walk_at "vc";exact⟨rfl,hW⟩
 walk_at "vc";rw[show(yB ps).map zy=ps.map λp=>zy (p.tk.map (·.2),p.gv)by unfold yB;rw[List.map_map];rfl]at q;exact q
theorem nV:aO ["self"] ["self"] (dS gr):=by walk_at "sc"
theorem nW{f:Addr}{fd:FuncData}(F:jj K "spend" "Reading.spend" gr f fd){bp:Addr}(et:mg "Weary"=some (.ref bp))(hV:PySem.W.excIn K bp (rB false) (vS false)=true)(hZ:PySem.W.ktsIn K bp "BaseException"=true){ai:Addr}(az:ak K ai){aj:Addr}(aG:ax K aj){C:Addr}{wt:Bool}(ac:aw K C):bJ P w K mg base (eh P w) 1 f fd ["self"] (qW K C mg):=by
 refine F.Di nV (λvs H Q E h=>?_) (λcdv A outer s H vs Q E hr h=>?_)
 ·obtain⟨R,said,left,rfl,I,hE,q⟩:=h;rfl
 obtain⟨R,said,left,rfl,I,hE,q⟩:=h;refine⟨_,(qK (bg (tR JY (gc (pv 0) rfl) pI (aF _)) (qO (ng ug rfl et hV rfl)) aM)
   (qO (ki (pv 0) (cz ik (gc (pv 0) rfl) pI) rfl))),?_⟩
 refine⟨_,rfl,R.x,C,R.dx,_,_,rfl,I.hx,ac.cl,ac.qJ,uT,_,_,rfl,rfl,_,rfl,?_⟩;by_cases z:left<=0
 ·exact fP z (hE z _ none et)
 ·refine bj z ?_;dsimp only[pX];refine⟨_,rfl,R.x,C,R.dx,_,_,rfl,I.hx,ac.cl,ac.qJ,uT,_,_,rfl,rfl,?_⟩;refine⟨_,rfl,R.x,C,R.dx,_,rfl,I.hx,ac.cl,ac.qJ,(by show 3 < 1000;decide),?_⟩;rw[Mz];exact q (by omega)
theorem kK:aO ["self","call","trees"] ["self","call","trees"] (dS dQ):=by walk_at "sc"
theorem kL{n:Nat}{f:Addr}{fd:FuncData}(F:jj K "values_of" "Reading.values_of" dQ f fd){ai:Addr}(az:ak K ai){aj:Addr}(aG:ax K aj){C:Addr}{wt:Bool}(ac:aw K C)(bt:fD P w K mg base (eh P w) C "value_of" (n + 3) ["self","call","tree"] (bY K n C aj ai mg)):bJ P w K mg base (eh P w) (n + 3 + 1) f fd ["self","call","trees"] (fg K (n + 1) C aj mg):=by
 refine F.Di kK (λvs H Q E h=>?_) (λcdv A outer s H vs Q E hr h=>?_)
 ·obtain⟨R,L,a,us,ts,s,s',r,rfl,I,J,hA,hU,iK,ev,q,qE⟩:=h;rfl
 obtain⟨R,L,a,us,ts,s,s',r,rfl,I,J,hA,hU,iK,ev,q,qE⟩:=h;refine⟨_,(qO (aL (LG 1 ["tree","call","self"] [1,0] ⟨rfl,rfl,rfl,rfl,rfl,rfl,rfl,rfl⟩ (zV (pv 2)) (λ_ _ _ _ _ hp=>⟨(bf (i:=0) (show List.Nodup (["tree","call","self"]:List Str)by decide +kernel) rfl (Or.inl rfl)),kU,(show PE _ _ (sr C _ _ [] _ _ _)from (fR (pv 2) bt hp (hr.mono (by omega)) (pK (pv 1) (pK (pv 0) pN))))⟩) km))),?_⟩;have lu:us.length=ts.length:=hU.1;unfold K5 Ol;refine HY (i:=2) (a:=a) (xs:=us) ?e hA I.s0.seq id ?_
 case e=>rfl
 intro Jt hJ D hD;have nDx:D≠R.x:=(nN I.hx hD).symm;have nDs:D≠R.sd:=(nN I.hs hD).symm;refine Qm (xs:=us) hJ (λi zs H2=>∃si ks r',VY K C R L n ts s s' r H D i zs H2 si ks r') (aa3 (sK (by omega))) ?_ ?_ ?_ ?_
 ·have s1:=aC hD (.lst []);refine⟨s,[],r,rfl,rfl,.of s1,uS,I.same s1,rfl,ev,?_⟩;rcases ev.XU with⟨ks,e⟩ | b
  ·exact .inl ⟨ks,e,e⟩
  ·exact .inr ⟨rfl,b⟩
 ·rintro i zs H2 hi ⟨si,ks,r',v⟩;refine⟨v.hD,?_,v.I.s0.seq,v.kp.tup I⟩;rw[v.ez,aaf,v.len];exact aai _
 ·rintro i x zs H2 hx ⟨si,ks,r',v⟩;have hi:i < ts.length:=by rw[← lu];exact(eA hx).1
  have hrx:=hU.2 i x _ hx (gP hi);have hev:=v.ev;rw[aa1 hi]at hev;have J2:jL aj R L H2 si.env:=by rw[v.env];exact J.keep I v.kp
  have n0:=I.h0 hD;refine⟨rfl,_,rfl,R.x,R.dx,_,rfl,v.I.hx,cE (by decide +kernel),_,rfl,_,rfl,?_⟩;have nxt:∀(k:Int) (s1:md) (r2:Res),Ev R.ps n L.dep L.nm (.E ts[i]) si (.val k) s1->Ev R.ps (n + 1) L.dep L.nm (.Es (ts.drop (i + 1))) s1 r2 s'->((∃ks',r2=.vals ks'/\r=.vals ((ks++[k])++ks'))∨(r2=r/\r.bad=true))->∀H',j5 R H2 H'->fZ K C R H' s1.said s1.left ->
    H' D=some (.lst zs)/\∃si ks r',VY K C R L n ts s s' r H D (i + 1) (zs++[.int k]) (upd H' D (.lst (zs++[.int k]))) si ks r':=λk s1 r2 h1 h2 h3 H' kp I' =>
   ⟨kp _ _ nDx nDs v.hD,s1,ks++[k],r2,by rw[v.ez,aaU];rfl,by rw[aay,v.len];rfl,(v.kp.trans kp).new hD _,uS,I'.other nDx nDs n0 _,by rw[h1.rJ rfl,v.env],h2,h3⟩
  cases hev with
  | cons h1 h2 =>
   refine⟨R,L,x,_,si,_,_,rfl,v.I,J2,hrx,h1,(λH' kp I'=>⟨nxt _ _ _ h1 h2 ?_ H' kp I',trivial⟩),λ_ _ _ _ _ _ e=>nomatch e⟩;rcases v.rr with⟨ks',e1,e2⟩ | ⟨e,b⟩
   ·cases e1;exact .inl ⟨_,rfl,by rw[e2,acd];rfl⟩
   ·rw[← e]at b;cases b
  | consB h1 hb =>
   refine⟨R,L,x,_,si,_,_,rfl,v.I,J2,hrx,h1,(λH' kp I'=>⟨uU.bad hb,?_⟩),λ_ _ _ _ _ _ e=>(Ia hb e).elim⟩;rcases v.rr with⟨ks',e1,e2⟩ | ⟨e,b⟩
   ·rw[e1]at hb;cases hb
   ·rw[e];exact qE H' (v.kp.trans kp) I'
  | consC h1 h2 hb =>
   refine⟨R,L,x,_,si,_,_,rfl,v.I,J2,hrx,h1,(λH' kp I'=>⟨nxt _ _ _ h1 h2 ?_ H' kp I',trivial⟩),λ_ _ _ _ _ _ e=>nomatch e⟩;rcases v.rr with⟨ks',e1,e2⟩ | h
   ·rw[e1]at hb;cases hb
   ·exact .inr h
 ·rintro zs H2 ⟨si,ks,r',v⟩;have hev:=v.ev;rw[lu,abz]at hev
  cases hev with
  | nil =>
   rcases v.rr with⟨ks',e1,e2⟩ | ⟨e,b⟩
   ·cases e1;rw[aaL]at e2;exact q H2 D ks e2 v.kp v.I hD (by rw[v.hD,v.ez])
   ·rw[← e]at b;cases b
theorem dY:aO ["self","call","tree","values"] ["self","call","tree"] (dS cD):=by walk_at "sc"
theorem i9{n:Nat}{f:Addr}{fd:FuncData}(F:jj K "value_of_call" "Reading.value_of_call" cD f fd){aB:Addr}(cU:mg "Fault"=some (.ref aB))(fi:PySem.W.ktsIn K aB "BaseException"=true){fO:Tok}(dZ:mg "MOST_FRAMES"=some (.int 12 fO))(rV:RelV (.int 12) (.int 12 fO)){jT:Tok}(iE:mg "TOO_DEEP"=some (.int 2 jT))(yS:RelV (.int 2) (.int 2 jT))(ve:AY P w K mg base aB ["number"]){ai:Addr}(az:ak K ai){aj:Addr}(aG:ax K aj){C:Addr}{wt:Bool}(ac:aw K C)(rh:fD P w K mg base (eh P w) C "given" (n + 3) ["self","part","values","depth"] (mH K n C mg))(ED:fD P w K mg base (eh P w) C "spend" 1 ["self"] (qW K C mg))(fj:fD P w K mg base (eh P w) C "values_of" (n + 3) ["self","call","trees"] (fg K n C aj mg)):bJ P w K mg base (eh P w) (n + 3 + 1) f fd ["self","call","tree"] (fG K (n + 1) C aj mg):=by
 refine F.Di dY (λvs H Q E h=>?_) (λcdv A outer s H vs Q E hr h=>?_)
 ·obtain⟨R,L,tv,p,ts,s,s',r,rfl,I,J,hT,iK,ev,q⟩:=h;rfl
 obtain⟨R,L,tv,p,ts,s,s',r,rfl,I,J,hT,iK,ev,q⟩:=h;refine⟨_,(qK (cy (i:=3) dY.nd rfl (aar rfl) (fR (pv 0) fj bX (hr.mono (by omega)) (pK (pv 1) (pK (aI aH (pv 2) pI (λ_ _=>rfl)) pN))))
   (qK (gQ (LK (pv 0) ED bX (hr.mono (by omega))))
   (qK (bg (tR O4 (gc (pv 1) rfl) (kT rfl dZ rV) (aF _)) (qO (A4 LC ve (hr.mono (by omega)) rfl cU rfl (pK (kT rfl iE yS) pN))) aM)
   (qO (aL (fR (pv 0) rh bX (hr.mono (by omega)) (pK (aI aH (pv 2) pI (λ_ _=>rfl)) (pK (pv 3) (pK (cz m9 (gc (pv 1) rfl) pI) pN))))))))),?_⟩
 obtain⟨t,x1,x2,rfl,hS,h1,h2⟩:=lp hT I.s0;have z1:=aQ.ba h1;subst z1;obtain⟨a,us,rfl,hL,hU⟩:=aQ.cn h2;refine⟨_,rfl,R.x,R.dx,_,rfl,I.hx,cE (by decide +kernel),_,rfl,_,rfl,t,_,_,_,rfl,rfl,hS,aN (j:=2) rfl,?_⟩;have sp:∀(H1:Hp),j5 R H H1->bV K H1 t [.str "call",.int (p:Int),.ref a]/\jL aj R L H1 s.env:=λH1 kp=>⟨kp.tup I hS,J.keep I kp⟩
 cases ev with
 | clB h hb=>exact⟨R,L,a,us,ts,s,_,_,rfl,I,J,.inl hL,hU,iK,h,λ_ _ ks e=>(by rw[e]at hb;cases hb),λH' kp I'=>(q H' kp I').2⟩
 | clW h hl =>
  refine⟨R,L,a,us,ts,s,_,_,rfl,I,J,.inl hL,hU,iK,h,λH1 l ks e kp I1 nl gl=>?_,λ_ _ _=>trivial⟩;exact⟨_,rfl,R.x,R.dx,_,rfl,I1.hx,cE (by decide +kernel),R,_,_,rfl,I1,λ_=>(q H1 kp I1).2,λz=>absurd z (by omega)⟩
 | @clD _ _ _ _ _ QA _ s1 h hl hd =>
  refine⟨R,L,a,us,ts,s,_,_,rfl,I,J,.inl hL,hU,iK,h,λH1 l ks e kp I1 nl gl=>?_,λ_ _ _=>trivial⟩;refine⟨_,rfl,R.x,R.dx,_,rfl,I1.hx,cE (by decide +kernel),R,_,_,rfl,I1,λz=>absurd z (by omega),λ_=>?_⟩;have tL:=kp.trans (j5.VZ (H:=H1) (o:=.ins C R.dx (ka R.b R.sd (s1.left - 1))));have I2:=I1.spent (Ah:=s1.left - 1);obtain⟨_,J2⟩:=sp _ tL;refine⟨_,rfl,L.c,aj,L.dc,_,_,rfl,J2.hc,aG.cl,aG.pQ,qQ,_,_,rfl,rfl,_,rfl,fP hd ?_⟩;exact⟨rfl,λdx H3 n3 s3 g3=>(q H3 (tL.trans (.of s3)) (I2.same s3)).2 aB (some dx) cU ⟨dx,rfl,g3⟩⟩
 | @clG _ _ _ _ _ QA _ _ s1 s2 h hl hd hg =>
  refine⟨R,L,a,us,ts,s,_,_,rfl,I,J,.inl hL,hU,iK,h,λH1 l ks e kp I1 nl gl=>?_,λ_ _ _=>trivial⟩;cases e;refine⟨_,rfl,R.x,R.dx,_,rfl,I1.hx,cE (by decide +kernel),R,_,_,rfl,I1,λz=>absurd z (by omega),λ_=>?_⟩;have tL:=kp.trans (j5.VZ (H:=H1) (o:=.ins C R.dx (ka R.b R.sd (s1.left - 1))));have I2:=I1.spent (Ah:=s1.left - 1);obtain⟨FW,J2⟩:=sp _ tL;refine⟨_,rfl,L.c,aj,L.dc,_,_,rfl,J2.hc,aG.cl,aG.pQ,qQ,_,_,rfl,rfl,_,rfl,bj (by omega) ?_⟩;dsimp only[pX];have QC:upd H1 R.x (.ins C R.dx (ka R.b R.sd (s1.left - 1))) l=some (.lst (QA.map V.int)):=(uN (aX gl I1.hx (by intro z;cases z))).trans gl;refine⟨_,rfl,R.x,R.dx,_,rfl,I2.hx,cE (by decide +kernel),_,rfl,t,_,_,_,rfl,rfl,FW,aN (j:=1) rfl,_,rfl,_,rfl,L.c,aj,L.dc,_,_,rfl,J2.hc,aG.cl,aG.pQ,qQ,_,_,rfl,rfl,R,l,p,L.dep + 1,QA,[],_,_,_,rfl,I2,bu.of QC,hg,λH' kp' I'=>q H' (tL.trans kp') I'⟩
theorem yT:aO ["number"] ["number"] (dS nI):=by walk_at "sc"
theorem yU{f:Addr}{fd:FuncData}(F:jj K "wrapped" "wrapped" nI f fd){vf:Tok}(nX:mg "HALF"=some (.int 2147483648 vf))(EE:RelV (.int 2147483648) (.int 2147483648 vf)){vg:Tok}(rj:mg "TURN"=some (.int 4294967296 vg))(MR:RelV (.int 4294967296) (.int 4294967296 vg)){ai:Addr}(az:ak K ai){aj:Addr}(aG:ax K aj):bJ P w K mg base c6 1 f fd ["number"] (jP K):=by
 refine F.ok yT (λvs H Q E h=>?_) (λcdv A outer s H vs Q E hr h=>?_)
 ·obtain⟨n,rfl,q⟩:=h;rfl
 obtain⟨n,rfl,q⟩:=h;refine⟨_,(qO (aL (cz ik (cz xB (cz m9 (pv 0) (kT rfl nX EE)) (kT rfl rj MR)) (kT rfl nX EE)))),?_⟩;exact⟨_,rfl,_,_,rfl,rfl,_,_,rfl,rfl,by decide,_,_,rfl,rfl,q⟩
theorem yV:aO ["sign","one","other"] ["sign","one","other"] (dS nJ):=by walk_at "sc"
theorem yW{f:Addr}{fd:FuncData}(F:jj K "divided" "divided" nJ f fd){bS:Addr}(fq:mg "Nought"=some (.ref bS))(iF:PySem.W.excIn K bS (rB true) (vS true)=true)(iG:PySem.W.ktsIn K bS "BaseException"=true){ai:Addr}(az:ak K ai){aj:Addr}(aG:ax K aj)(jv:ic P w K mg base c6 "wrapped" 1 ["number"] (jP K)):bJ P w K mg base (eh P w) 2 f fd ["sign","one","other"] (lP K mg):=by
 refine F.Di yV (λvs H Q E h=>?_) (λcdv A outer s H vs Q E hr h=>?_)
 ·obtain⟨sign,a,b,rfl,hp,ha,hb,hE,q⟩:=h;rfl
 obtain⟨sign,a,b,rfl,hp,ha,hb,hE,q⟩:=h;refine⟨_,(qK (bg (tR bo (pv 2) pI (aF _)) (qO (ng ug rfl fq iF rfl)) aM)
   (qK (bg (tR bo (pv 0) aP (aF _)) (qO (aL (cI jv (hr.mono (by decide)) rfl (pK (cz qi (pv 1) (pv 2)) pN)))) aM)
   (qO (aL (cz GD (pv 1) (pv 2)))))),?_⟩
 refine⟨_,rfl,rfl,_,rfl,?_⟩;by_cases z:b=0
 ·refine fP (by rw[z]) ?_;exact hE z _ fq
 ·refine bj (λy=>z (V.int.inj y)) ?_;have hb':sL a b:=⟨z,by unfold fY at hb;omega⟩;refine⟨_,rfl,rfl,_,rfl,?_⟩;rcases hp with rfl | rfl
  ·refine fP rfl ?_;have y:=q z;rw[yy]at y;exact⟨_,rfl,_,rfl,_,_,rfl,rfl,hb',_,rfl,y⟩
  ·refine bj (by decide +kernel) ?_;have y:=q z;rw[yz]at y;exact⟨_,rfl,_,rfl,_,_,rfl,rfl,z,y⟩
theorem xh:aO ["sign","one","other"] ["sign","one","other"] (dS lL):=by walk_at "sc"
theorem xi{f:Addr}{fd:FuncData}(F:jj K "reckoned" "reckoned" lL f fd){ai:Addr}(az:ak K ai){aj:Addr}(aG:ax K aj)(BD:ic P w K mg base (eh P w) "divided" 2 ["sign","one","other"] (lP K mg))(jv:ic P w K mg base c6 "wrapped" 1 ["number"] (jP K)):bJ P w K mg base (eh P w) 3 f fd ["sign","one","other"] (kG K mg):=by
 refine F.Di xh (λvs H Q E h=>?_) (λcdv A outer s H vs Q E hr h=>?_)
 ·obtain⟨sign,a,b,rfl,hp,ha,hb,hE,q⟩:=h;rfl
 obtain⟨sign,a,b,rfl,hp,ha,hb,hE,q⟩:=h;refine⟨_,(qK (bg (tR bo (pv 0) aP (aF _)) (qO (aL (cI jv (hr.mono (by decide)) rfl (pK (cz m9 (pv 1) (pv 2)) pN)))) aM)
   (qK (bg (tR bo (pv 0) aP (aF _)) (qO (aL (cI jv (hr.mono (by decide)) rfl (pK (cz ik (pv 1) (pv 2)) pN)))) aM)
   (qK (bg (tR bo (pv 0) aP (aF _)) (qO (aL (cI jv (hr.mono (by decide)) rfl (pK (cz xA (pv 1) (pv 2)) pN)))) aM)
   (qK (bg (tR bo (pv 0) aP (aF _)) (qO (aL (pW (tR zv (pv 1) (pv 2) (aF _)) pI pI))) aM)
   (qK (bg (tR bo (pv 0) aP (aF _)) (qO (aL (pW (tR bo (pv 1) (pv 2) (aF _)) pI pI))) aM)
   (qO (aL (Dj BD bX (hr.mono (by decide)) rfl (pK (pv 0) (pK (pv 1) (pK (pv 2) pN))))))))))),?_⟩
 have no:∀s1 s2:Str,s1≠s2->¬ (V.str s1=V.str s2):=λs1 s2 h z=>h (V.str.inj z)
 rcases hp with rfl | rfl | rfl | rfl | rfl | hp
 ·refine⟨_,rfl,rfl,_,rfl,fP rfl ?_⟩;have y:=q λz=>absurd z dv.1
  rw[yv]at y;exact⟨_,rfl,_,rfl,_,_,rfl,rfl,_,rfl,y⟩
 ·refine⟨_,rfl,rfl,_,rfl,bj (by decide +kernel) ?_⟩;refine⟨_,rfl,rfl,_,rfl,fP rfl ?_⟩;have y:=q λz=>absurd z dv.2.1
  rw[uP]at y;exact⟨_,rfl,_,rfl,_,_,rfl,rfl,_,rfl,y⟩
 ·refine⟨_,rfl,rfl,_,rfl,bj (by decide +kernel) ?_⟩;refine⟨_,rfl,rfl,_,rfl,bj (by decide +kernel) ?_⟩;refine⟨_,rfl,rfl,_,rfl,fP rfl ?_⟩;have hm:Cw a b:=.inl ⟨by unfold fY at ha;omega,by unfold fY at ha;omega⟩;have y:=q λz=>absurd z dv.2.2.1
  rw[yw]at y;exact⟨_,rfl,_,rfl,_,_,rfl,rfl,hm,_,rfl,y⟩
 ·refine⟨_,rfl,rfl,_,rfl,bj (by decide +kernel) ?_⟩;refine⟨_,rfl,rfl,_,rfl,bj (by decide +kernel) ?_⟩;refine⟨_,rfl,rfl,_,rfl,bj (by decide +kernel) ?_⟩;refine⟨_,rfl,rfl,_,rfl,fP rfl ?_⟩;refine⟨_,rfl,_,rfl,_,_,rfl,rfl,_,rfl,?_⟩;have z:=q λz=>absurd z dv.2.2.2.1
  have e:=uQ a b;rw[e]at z;by_cases y:a < b
  ·rw[aap y]at z;exact fP y z
  ·rw[aan y]at z;exact bj y z
 ·refine⟨_,rfl,rfl,_,rfl,bj (by decide +kernel) ?_⟩;refine⟨_,rfl,rfl,_,rfl,bj (by decide +kernel) ?_⟩;refine⟨_,rfl,rfl,_,rfl,bj (by decide +kernel) ?_⟩;refine⟨_,rfl,rfl,_,rfl,bj (by decide +kernel) ?_⟩;refine⟨_,rfl,rfl,_,rfl,fP rfl ?_⟩;refine⟨_,rfl,_,rfl,rfl,_,rfl,?_⟩;have z:=q λz=>absurd z dv.2.2.2.2
  have e:=uR a b;rw[e]at z;by_cases y:a=b
  ·rw[aap y]at z;exact fP (abb V.int y) z
  ·rw[aan y]at z;exact bj (λw=>y (V.int.inj w)) z
 ·have h1:sign≠"add"/\sign≠"sub"/\sign≠"mul"/\sign≠"less"/\sign≠"same":=by rcases hp with rfl | rfl<;>decide +kernel
  refine⟨_,rfl,rfl,_,rfl,bj (no _ _ h1.1) ?_⟩;refine⟨_,rfl,rfl,_,rfl,bj (no _ _ h1.2.1) ?_⟩;refine⟨_,rfl,rfl,_,rfl,bj (no _ _ h1.2.2.1) ?_⟩;refine⟨_,rfl,rfl,_,rfl,bj (no _ _ h1.2.2.2.1) ?_⟩;refine⟨_,rfl,rfl,_,rfl,bj (no _ _ h1.2.2.2.2) ?_⟩;exact⟨_,rfl,_,rfl,_,rfl,sign,a,b,rfl,hp,ha,hb,λz=>hE hp z,λz=>q λ_=>z⟩
theorem eN:aO ["self","call","tree","pair"] ["self","call","tree"] (dS cQ):=by walk_at "sc"
theorem jw{n:Nat}{f:Addr}{fd:FuncData}(F:jj K "value_of_two" "Reading.value_of_two" cQ f fd){iV:Tok}(fX:mg "BY_NOUGHT"=some (.int 1 iV))(xj:RelV (.int 1) (.int 1 iV)){aB:Addr}(cU:mg "Fault"=some (.ref aB))(fi:PySem.W.ktsIn K aB "BaseException"=true){bS:Addr}(fq:mg "Nought"=some (.ref bS))(iF:PySem.W.excIn K bS (rB true) (vS true)=true)(iG:PySem.W.ktsIn K bS "BaseException"=true)(ve:AY P w K mg base aB ["number"]){ai:Addr}(az:ak K ai){aj:Addr}(aG:ax K aj){C:Addr}{wt:Bool}(ac:aw K C)(yX:ic P w K mg base (eh P w) "reckoned" 3 ["sign","one","other"] (kG K mg))(fj:fD P w K mg base (eh P w) C "values_of" (n + 3) ["self","call","trees"] (fg K n C aj mg))(EF:PySem.W.mroIn K bS (.ref bS)=some true):bJ P w K mg base (eh P w) (n + 3 + 1) f fd ["self","call","tree"] (gA K (n + 1) C aj mg):=by
 refine F.Di eN (λvs H Q E h=>?_) (λcdv A outer s H vs Q E hr h=>?_)
 ·obtain⟨R,L,tv,op,a,b,s,s',r,rfl,I,J,hT,ho,ev,q⟩:=h;rfl
 obtain⟨R,L,tv,op,a,b,s,s',r,rfl,I,J,hT,ho,ev,q⟩:=h;refine⟨_,(qK (cy (i:=3) eN.nd rfl (aar rfl) (fR (pv 0) fj bX (hr.mono (by omega)) (pK (pv 1) (pK (p7 xO (pv 2) (tV pI) tU) pN))))
   (qO (uM (Aa (Ec yX (hr.mono (by omega)) rfl (λ_=>(pK (aI (r:=CN K) aH (pv 2) pI (λ_ _=>rfl)) (pK (aI (r:=GO K) bT (pv 3) pI (λ_ _=>rfl)) (pK (aI (r:=GO K) bT (pv 3) pI (λ_ _=>rfl)) pN)))))) (Ms rfl fq iG Mr ve (hr.mono (by omega)) rfl cU (λ_ _=>(pK (kT rfl fX xj) pN)) (Eb km))))),?_⟩
 obtain⟨t,x1,x2,rfl,hS,h1,h2⟩:=lp hT I.s0;refine⟨_,rfl,R.x,R.dx,_,rfl,I.hx,cE (by decide +kernel),_,rfl,_,rfl,_,rfl,t,_,rfl,hS,(by show ¬ (HT.dJ 3 0 (some 1)=0/\HT.dJ 3 3 none=3);decide),λu hu=>?_⟩;have s1:=aC hu (.tup [x1,x2]);have I1:=I.same s1;have J1:=J.same s1;have yP:=s1.tup hS
 cases ev with
 | twB h hb=>exact⟨R,L,u,[x1,x2],[a,b],s,_,_,rfl,I1,J1,.inr (bV.of uS),.cons h1 (.cons h2 .nil),(by show 2<=100;decide),h,λ_ _ ks e=>(by rw[e]at hb;cases hb),λH' kp I'=>(q H' ((j5.of s1).trans kp) I').2⟩
 | twG h hz hk hl =>
  refine⟨R,L,u,[x1,x2],[a,b],s,_,_,rfl,I1,J1,.inr (bV.of uS),.cons h1 (.cons h2 .nil),(by show 2<=100;decide),h,λH2 l ks e kp I2 nl gl=>?_,λ_ _ _=>trivial⟩;cases e;have FW:=kp.tup I1 yP;exact⟨_,rfl,t,_,_,_,rfl,rfl,FW,aN (j:=0) rfl,_,rfl,l,_,_,_,rfl,rfl,bu.of gl,aN (j:=0) rfl,_,rfl,l,_,_,_,rfl,rfl,bu.of gl,aN (j:=1) rfl,op,_,_,rfl,ho,hk,hl,λhp z=>absurd z (hz hp),λ_=>(q H2 ((j5.of s1).trans kp) I2).1⟩
 | @twF _ _ _ _ _ _ k _ _ h hp hk =>
  refine⟨R,L,u,[x1,x2],[a,b],s,_,_,rfl,I1,J1,.inr (bV.of uS),.cons h1 (.cons h2 .nil),(by show 2<=100;decide),h,λH2 l ks e kp I2 nl gl=>?_,λ_ _ _=>trivial⟩;cases e;have FW:=kp.tup I1 yP;refine⟨_,rfl,t,_,_,_,rfl,rfl,FW,aN (j:=0) rfl,_,rfl,l,_,_,_,rfl,rfl,bu.of gl,aN (j:=0) rfl,_,rfl,l,_,_,_,rfl,rfl,bu.of gl,aN (j:=1) rfl,op,_,_,rfl,ho,hk,(by unfold fY;omega),λ_ _ C' hC=>?_,λz=>absurd rfl (z hp)⟩;rw[fq]at hC;cases hC;refine⟨_,rfl,.inl ⟨EF,rfl,λc hc=>?_⟩⟩;have s3:=aC hc (.ext (Qj c));refine⟨uS,rfl,λdx H3 n3 s4 g3=>(q H3 ((j5.of s1).trans (kp.trans (.of (s3.trans s4)))) (I2.same (s3.trans s4))).2 aB (some dx) cU ⟨dx,rfl,g3⟩⟩
theorem lQ:aO ["self","make","fields"] ["self","make","fields"] (dS eZ):=by walk_at "sc"
theorem lR{f:Addr}{fd:FuncData}(F:jj K "__init__" "Record.__init__" eZ f fd){ai:Addr}(az:ak K ai){aj:Addr}(aG:ax K aj):bJ P w K mg base c6 1 f fd ["self","make","fields"] (iB K ai):=by
 refine F.ok lQ (λvs H Q E h=>?_) (λcdv A outer s H vs Q E hr h=>?_)
 ·obtain⟨x,dx,l,c,rfl,hx,q⟩:=h;rfl
 obtain⟨x,dx,l,c,rfl,hx,q⟩:=h;refine⟨_,(qK (ki (pv 0) (pv 1) rfl)
   (qO (ki (pv 0) (pv 2) rfl))),?_⟩
 refine⟨_,rfl,_,rfl,x,ai,dx,_,rfl,hx,az.cl,az.Mu,(by show 0 < 1000;decide),?_⟩;refine⟨_,rfl,_,rfl,x,ai,dx,_,rfl,uS,az.cl,az.qL,(by show(cV _ _ _).length < 1000;exact aaH (dw _ _ _) (by show 1 < 1000;decide)),?_⟩;refine q _ ?_ (λc o hc e=>?_)
 ·rw[uS,MA]
 ·rw[uN hc,uN hc];exact e
theorem dR:aO ["self","call","tree","word","chosen"] ["self","call","tree"] (dS eD):=by walk_at "sc"
theorem la{n:Nat}{f:Addr}{fd:FuncData}(F:jj K "value_of" "Reading.value_of" eD f fd){ai:Addr}(az:ak K ai){aj:Addr}(aG:ax K aj){C:Addr}{wt:Bool}(ac:aw K C)(bt:fD P w K mg base (eh P w) C "value_of" (n + 3) ["self","call","tree"] (bY K n C aj ai mg))(nY:fD P w K mg base (eh P w) C "value_of_call" (n + 3) ["self","call","tree"] (fG K n C aj mg))(pE:fD P w K mg base (eh P w) C "value_of_two" (n + 3) ["self","call","tree"] (gA K n C aj mg))(fj:fD P w K mg base (eh P w) C "values_of" (n + 3) ["self","call","trees"] (fg K n C aj mg))(BE:x9 P w K mg base c6 ai "Record" 1 ["self","make","fields"] (iB K ai)):bJ P w K mg base (eh P w) (n + 3 + 1) f fd ["self","call","tree"] (bY K (n + 1) C aj ai mg):=by
 refine F.Di dR (λvs H Q E h=>?_) (λcdv A outer s H vs Q E hr h=>?_)
 ·obtain⟨R,L,tv,tree,s,s',r,rfl,I,J,hT,ev,q,qr⟩:=h;rfl
 obtain⟨R,L,tv,tree,s,s',r,rfl,I,J,hT,ev,q,qr⟩:=h;refine⟨_,(qK (cy (i:=3) dR.nd rfl (aar rfl) (aI aH (pv 2) pI (λ_ _=>rfl)))
   (qK (bg (tR bo (pv 3) aP (aF _)) (qO (aL (aI aH (pv 2) pI (λ_ _=>rfl)))) aM)
   (qK (bg (tR bo (pv 3) aP (aF _)) (qO (aL (zJ (vL hr) (gc (pv 1) rfl) (aI aH (pv 2) pI (λ_ _=>rfl)) (λ_ _=>rfl)))) aM)
   (qK (bg (tR bo (pv 3) aP (aF _)) (qO (aL (Dw BE qb (hr.mono (by omega)) rfl (pK (aI aH (pv 2) pI (λ_ _=>rfl)) (pK (fR (pv 0) fj bX (hr.mono (by omega)) (pK (pv 1) (pK (aI aH (pv 2) pI (λ_ _=>rfl)) pN))) pN))))) aM)
   (qK (bg (tR bo (pv 3) aP (aF _)) (qO (aL (aI bT (gc (fR (pv 0) bt bX (hr.mono (by omega)) (pK (pv 1) (pK (aI aH (pv 2) pI (λ_ _=>rfl)) pN))) rfl) (aI aH (pv 2) pI (λ_ _=>rfl)) (λ_ _=>rfl)))) aM)
   (qK (bg (tR bo (pv 3) aP (aF _)) (qO (aL (fR (pv 0) nY bX (hr.mono (by omega)) (pK (pv 1) (pK (pv 2) pN))))) aM)
   (qK (bg (tR bo (pv 3) aP (aF _)) (qK (cy (i:=4) dR.nd rfl (aar rfl) (pW (tR zu (fR (pv 0) bt bX (hr.mono (by omega)) (pK (pv 1) (pK (aI aH (pv 2) pI (λ_ _=>rfl)) pN))) pI (aF _)) (aI aH (pv 2) pI (λ_ _=>rfl)) (aI aH (pv 2) pI (λ_ _=>rfl))))
   (qO (aL (fR (pv 0) bt bX (hr.mono (by omega)) (pK (pv 1) (pK (pv 4) pN)))))) aM)
   (qO (aL (fR (pv 0) pE bX (hr.mono (by omega)) (pK (pv 1) (pK (pv 2) pN)))))))))))),?_⟩
 cases ev with
 | num =>
  obtain⟨t,x1,rfl,hS,h1⟩:=oU hT I.s0;have z1:=aQ.ba h1;subst z1;refine⟨_,rfl,t,_,_,_,rfl,rfl,hS,aN (j:=0) rfl,?_⟩;refine⟨_,rfl,rfl,_,rfl,fP rfl ?_⟩;exact⟨_,rfl,t,_,_,_,rfl,rfl,hS,aN (j:=1) rfl,(q H .refl I).1⟩
 | @var _ _ _ x k _ he =>
  obtain⟨t,x1,rfl,hS,h1⟩:=oU hT I.s0;have z1:=aQ.cA h1;subst z1;refine⟨_,rfl,t,_,_,_,rfl,rfl,hS,aN (j:=0) rfl,?_⟩;refine⟨_,rfl,rfl,_,rfl,bj (by decide +kernel) ?_⟩;refine⟨_,rfl,rfl,_,rfl,fP rfl ?_⟩;obtain⟨kvs,hk,_,_,hv⟩:=J.hd;have dg:=xZ.k (k:=Sum.inr x) hk;rw[hv x,he]at dg;exact⟨_,rfl,L.c,aj,L.dc,_,_,rfl,J.hc,aG.cl,aG.uO,wO,_,rfl,t,_,_,_,rfl,rfl,hS,aN (j:=1) rfl,L.d,_,rfl,dg,(q H .refl I).1⟩
 | callE iK he =>
  obtain⟨t,x1,x2,rfl,hS,h1⟩:=lp hT I.s0;refine⟨_,rfl,t,_,_,_,rfl,rfl,hS,aN (j:=0) rfl,?_⟩;refine⟨_,rfl,rfl,_,rfl,bj (by decide +kernel) ?_⟩;refine⟨_,rfl,rfl,_,rfl,bj (by decide +kernel) ?_⟩;refine⟨_,rfl,rfl,_,rfl,bj (by decide +kernel) ?_⟩;refine⟨_,rfl,rfl,_,rfl,bj (by decide +kernel) ?_⟩;refine⟨_,rfl,rfl,_,rfl,fP rfl ?_⟩;refine⟨_,rfl,R.x,R.dx,_,rfl,I.hx,cE (by decide +kernel),_,rfl,_,rfl,R,L,.ref t,_,_,s,s',r,rfl,I,J,hT,iK,he,q⟩
 | two ho he =>
  obtain⟨t,x1,x2,rfl,hS,h1⟩:=lp hT I.s0;have nn:=Ai ho;refine⟨_,rfl,t,_,_,_,rfl,rfl,hS,aN (j:=0) rfl,?_⟩;refine⟨_,rfl,rfl,_,rfl,bj (λz=>nn.1 (V.str.inj z)) ?_⟩;refine⟨_,rfl,rfl,_,rfl,bj (λz=>nn.2.1 (V.str.inj z)) ?_⟩;refine⟨_,rfl,rfl,_,rfl,bj (λz=>nn.2.2.2.1 (V.str.inj z)) ?_⟩;refine⟨_,rfl,rfl,_,rfl,bj (λz=>nn.2.2.2.2.1 (V.str.inj z)) ?_⟩;refine⟨_,rfl,rfl,_,rfl,bj (λz=>nn.2.2.1 (V.str.inj z)) ?_⟩;refine⟨_,rfl,rfl,_,rfl,bj (λz=>nn.2.2.2.2.2 (V.str.inj z)) ?_⟩;refine⟨_,rfl,R.x,R.dx,_,rfl,I.hx,cE (by decide +kernel),_,rfl,_,rfl,R,L,.ref t,_,_,_,s,s',r,rfl,I,J,hT,ho,he,q⟩
 | @newG _ _ _ c ts ks _ _ iK he =>
  obtain⟨t,x1,x2,rfl,hS,h1,h2⟩:=lp hT I.s0;have z1:=aQ.ba h1;subst z1;obtain⟨al,us,rfl,hL,hU⟩:=aQ.cn h2;refine⟨_,rfl,t,_,_,_,rfl,rfl,hS,aN (j:=0) rfl,?_⟩;refine⟨_,rfl,rfl,_,rfl,bj (by decide +kernel) ?_⟩;refine⟨_,rfl,rfl,_,rfl,bj (by decide +kernel) ?_⟩;refine⟨_,rfl,rfl,_,rfl,fP rfl ?_⟩;refine⟨_,rfl,t,_,_,_,rfl,rfl,hS,aN (j:=1) rfl,_,rfl,R.x,R.dx,_,rfl,I.hx,cE (by decide +kernel),_,rfl,_,rfl,t,_,_,_,rfl,rfl,hS,aN (j:=2) rfl,R,L,al,us,ts,s,_,_,rfl,I,J,.inl hL,hU,iK,he,λH1 l TM e kp I1 nl gl=>?_,λ_ _ _=>trivial⟩;cases e;intro xx dxx nx ndx ne;refine⟨xx,dxx,l,c,rfl,uS,λH2 e2 k2=>⟨rfl,?_⟩⟩;have s2:aS H1 H2:=λc o e=>k2 c o (nN e nx) (by rw[uN (nN e nx),uN (nN e ndx)];exact e)
  exact qr H2 ks xx dxx l c rfl (kp.trans (.of s2)) (I1.same s2) nl e2 (s2 _ _ gl)
 | newB iK he hb =>
  obtain⟨t,x1,x2,rfl,hS,h1,h2⟩:=lp hT I.s0;obtain⟨al,us,rfl,hL,hU⟩:=aQ.cn h2;refine⟨_,rfl,t,_,_,_,rfl,rfl,hS,aN (j:=0) rfl,?_⟩;refine⟨_,rfl,rfl,_,rfl,bj (by decide +kernel) ?_⟩;refine⟨_,rfl,rfl,_,rfl,bj (by decide +kernel) ?_⟩;refine⟨_,rfl,rfl,_,rfl,fP rfl ?_⟩;exact⟨_,rfl,t,_,_,_,rfl,rfl,hS,aN (j:=1) rfl,_,rfl,R.x,R.dx,_,rfl,I.hx,cE (by decide +kernel),_,rfl,_,rfl,t,_,_,_,rfl,rfl,hS,aN (j:=2) rfl,R,L,al,us,_,s,_,_,rfl,I,J,.inl hL,hU,iK,he,λ_ _ _ e=>(Tq hb e).elim,λH' kp I'=>(q H' kp I').2⟩
 | @getG _ _ _ c tt k ks _ _ f he hk =>
  obtain⟨t,x1,x2,x3,rfl,hS,h1,h2,h3⟩:=oV hT I.s0;have z2:=aQ.ba h2;subst z2;refine⟨_,rfl,t,_,_,_,rfl,rfl,hS,aN (j:=0) rfl,?_⟩;refine⟨_,rfl,rfl,_,rfl,bj (by decide +kernel) ?_⟩;refine⟨_,rfl,rfl,_,rfl,bj (by decide +kernel) ?_⟩;refine⟨_,rfl,rfl,_,rfl,bj (by decide +kernel) ?_⟩;refine⟨_,rfl,rfl,_,rfl,fP rfl ?_⟩;refine⟨_,rfl,R.x,R.dx,_,rfl,I.hx,cE (by decide +kernel),_,rfl,_,rfl,t,_,_,_,rfl,rfl,hS,aN (j:=3) rfl,R,L,x3,_,s,_,_,rfl,I,J,h3,he,(λ_ _ _=>⟨trivial,trivial⟩),λH1 TM a dr l c1 e kp I1 nl ga gl=>?_⟩;cases e;exact⟨a,ai,dr,_,_,rfl,ga,az.cl,az.qL,tH,_,rfl,t,_,_,_,rfl,rfl,kp.tup I hS,aN (j:=2) rfl,l,_,_,_,rfl,rfl,bu.of gl,aN (by rw[aax,hk];rfl),(q H1 kp I1).1⟩
 | getB he hb =>
  obtain⟨t,x1,x2,x3,rfl,hS,h1,h2,h3⟩:=oV hT I.s0;refine⟨_,rfl,t,_,_,_,rfl,rfl,hS,aN (j:=0) rfl,?_⟩;refine⟨_,rfl,rfl,_,rfl,bj (by decide +kernel) ?_⟩;refine⟨_,rfl,rfl,_,rfl,bj (by decide +kernel) ?_⟩;refine⟨_,rfl,rfl,_,rfl,bj (by decide +kernel) ?_⟩;refine⟨_,rfl,rfl,_,rfl,fP rfl ?_⟩;exact⟨_,rfl,R.x,R.dx,_,rfl,I.hx,cE (by decide +kernel),_,rfl,_,rfl,t,_,_,_,rfl,rfl,hS,aN (j:=3) rfl,R,L,x3,_,s,_,_,rfl,I,J,h3,he,(λH' kp I'=>⟨uU.bad hb,(q H' kp I').2⟩),λ_ _ _ _ _ _ e=>(Ia hb e).elim⟩
 | @eiG _ _ _ c a b k _ _ s1 _ h1 h2 hR =>
  obtain⟨t,x1,x2,x3,rfl,hS,g1,g2,g3⟩:=oV hT I.s0;refine⟨_,rfl,t,_,_,_,rfl,rfl,hS,aN (j:=0) rfl,?_⟩;refine⟨_,rfl,rfl,_,rfl,bj (by decide +kernel) ?_⟩;refine⟨_,rfl,rfl,_,rfl,bj (by decide +kernel) ?_⟩;refine⟨_,rfl,rfl,_,rfl,bj (by decide +kernel) ?_⟩;refine⟨_,rfl,rfl,_,rfl,bj (by decide +kernel) ?_⟩;refine⟨_,rfl,rfl,_,rfl,bj (by decide +kernel) ?_⟩;refine⟨_,rfl,rfl,_,rfl,fP rfl ?_⟩;refine⟨_,rfl,R.x,R.dx,_,rfl,I.hx,cE (by decide +kernel),_,rfl,_,rfl,t,_,_,_,rfl,rfl,hS,aN (j:=1) rfl,R,L,x1,_,s,_,_,rfl,I,J,g1,h1,(λH1 kp I1=>⟨?_,trivial⟩),λ_ _ _ _ _ _ e=>nomatch e⟩;have yP:=kp.tup I hS;have J1:jL aj R L H1 s1.env:=by rw[h1.rJ rfl];exact J.keep I kp
  have go:∀(x:V) (e:PyData),aQ K R.H0 x e->Ev R.ps n L.dep L.nm (.E e) s1 r s'->bY K n C aj ai mg [.ref R.x,.ref L.c,x] H1 Q E:=λx e hx he=>⟨R,L,x,e,s1,s',r,rfl,I1,J1,hx,he,(λH2 tL I2=>q H2 (kp.trans tL) I2),λ_ _ _ _ _ _ e=>(HZ hR e).elim⟩
  refine⟨rfl,_,rfl,?_⟩;by_cases hk:k=0
  ·rw[aap hk]at h2;refine vM (by rw[hk]) ?_;exact⟨_,rfl,t,_,_,_,rfl,rfl,yP,aN (j:=3) rfl,_,rfl,R.x,R.dx,_,rfl,I1.hx,cE (by decide +kernel),_,rfl,_,rfl,go _ _ g3 h2⟩
  ·rw[aan hk]at h2;refine rA (λz=>hk (V.int.inj z)) ?_;exact⟨_,rfl,t,_,_,_,rfl,rfl,yP,aN (j:=2) rfl,_,rfl,R.x,R.dx,_,rfl,I1.hx,cE (by decide +kernel),_,rfl,_,rfl,go _ _ g2 h2⟩
 | eiB he hb =>
  obtain⟨t,x1,x2,x3,rfl,hS,g1,g2,g3⟩:=oV hT I.s0;refine⟨_,rfl,t,_,_,_,rfl,rfl,hS,aN (j:=0) rfl,?_⟩;refine⟨_,rfl,rfl,_,rfl,bj (by decide +kernel) ?_⟩;refine⟨_,rfl,rfl,_,rfl,bj (by decide +kernel) ?_⟩;refine⟨_,rfl,rfl,_,rfl,bj (by decide +kernel) ?_⟩;refine⟨_,rfl,rfl,_,rfl,bj (by decide +kernel) ?_⟩;refine⟨_,rfl,rfl,_,rfl,bj (by decide +kernel) ?_⟩;refine⟨_,rfl,rfl,_,rfl,fP rfl ?_⟩;exact⟨_,rfl,R.x,R.dx,_,rfl,I.hx,cE (by decide +kernel),_,rfl,_,rfl,t,_,_,_,rfl,rfl,hS,aN (j:=1) rfl,R,L,x1,_,s,_,_,rfl,I,J,g1,he,(λH' kp I'=>⟨uU.bad hb,(q H' kp I').2⟩),λ_ _ _ _ _ _ e=>(Ia hb e).elim⟩
theorem bG:aO ["self","call","tree","word","record","value"] ["self","call","tree"] (dS cR):=by walk_at "sc"
theorem jx{n:Nat}{f:Addr}{fd:FuncData}(F:jj K "do_statement" "Reading.do_statement" cR f fd){ai:Addr}(az:ak K ai){aj:Addr}(aG:ax K aj){C:Addr}{wt:Bool}(ac:aw K C)(bt:fD P w K mg base (eh P w) C "value_of" (n + 3) ["self","call","tree"] (bY K n C aj ai mg)):bJ P w K mg base (eh P w) (n + 3 + 1) f fd ["self","call","tree"] (gE K (n + 1) C aj mg):=by
 refine F.Di bG (λvs H Q E h=>?_) (λcdv A outer s H vs Q E hr h=>?_)
 ·obtain⟨R,L,tv,t,s,s',r,rfl,I,J,hT,ev,q⟩:=h;rfl
 obtain⟨R,L,tv,t,s,s',r,rfl,I,J,hT,ev,q⟩:=h;refine⟨_,(qK (cy (i:=3) bG.nd rfl (aar rfl) (aI aH (pv 2) pI (λ_ _=>rfl)))
   (qO (bg (tR bo (pv 3) aP (aF _)) (qO (ui (vL hr) (gc (pv 1) rfl) (aI aH (pv 2) pI (λ_ _=>rfl)) (fR (pv 0) bt bX (hr.mono (by omega)) (pK (pv 1) (pK (aI aH (pv 2) pI (λ_ _=>rfl)) pN))) rfl)) (qO (bg (tR bo (pv 3) aP (aF _)) (qO vF) (qO (bg (tR bo (pv 3) aP (aF _)) (qK (cy (i:=4) bG.nd rfl (aar rfl) (fR (pv 0) bt bX (hr.mono (by omega)) (pK (pv 1) (pK (aI aH (pv 2) pI (λ_ _=>rfl)) pN))))
   (qK (cy (i:=5) bG.nd rfl (aar rfl) (fR (pv 0) bt bX (hr.mono (by omega)) (pK (pv 1) (pK (aI aH (pv 2) pI (λ_ _=>rfl)) pN))))
   (qO (lB (pv 5) (m7 (gc (pv 4) rfl) (aI aH (pv 2) pI (λ_ _=>rfl)) set_list))))) (qO (bg (tR bo (pv 3) aP (aF _)) (qO (gQ (sC aaR abi abj ib (gc (pv 0) rfl) (pK (fR (pv 0) bt bX (hr.mono (by omega)) (pK (pv 1) (pK (aI aH (pv 2) pI (λ_ _=>rfl)) pN))) pN)))) (qO vF)))))))))),?_⟩
 have vE:∀(e:PyData) (x:V) (s1:md) (r1:Res) (Q1:VK),aQ K R.H0 x e->Ev R.ps n L.dep L.nm (.E e) s r1 s1->r1.HW=false->(∀H',j5 R H H'->fZ K C R H' s1.said s1.left->uU Q1 r1 H'/\qN mg E r1 H')->bY K n C aj ai mg [.ref R.x,.ref L.c,x] H Q1 E :=
  λe x s1 r1 Q1 hx h hn z=>⟨R,L,x,e,s,s1,r1,rfl,I,J,hx,h,z,λ_ _ _ _ _ _ e=>(HZ hn e).elim⟩
 rcases ev.B4 with⟨e,r1,s1,ha,h1,hr⟩ | ⟨hn,h1⟩ | ⟨c,f,t',e,rfl,hp⟩
 ·have j1:s.env=s1.env:=(h1.rJ rfl).symm
  have nr:r1.HW=false:=by
   rcases hr with⟨k,rfl,_⟩ | ⟨b,_⟩
   ·rfl
   ·cases r1<;>first | rfl | cases b
  cases ha with
  | let' =>
   obtain⟨t,_,x2,x3,rfl,hS,g1,g2,g3⟩:=oV hT I.s0;have z:=aQ.cA g1;subst z;refine⟨_,rfl,t,_,_,_,rfl,rfl,hS,aN (j:=0) rfl,?_⟩;refine⟨_,rfl,rfl,_,rfl,fP rfl ?_⟩;refine⟨_,rfl,R.x,R.dx,_,rfl,I.hx,cE (by decide +kernel),_,rfl,_,rfl,t,_,_,_,rfl,rfl,hS,aN (j:=3) rfl,vE _ _ _ _ _ g3 h1 nr λH' kp I'=>?_⟩;rcases hr with⟨k,rfl,act⟩ | ⟨b,e1,e2⟩
   ·refine⟨?_,trivial⟩
    cases act with
    | let' hx =>
     have J':jL aj R L H' s1.env:=j1 ▸ J.keep I kp;obtain⟨o,dp,J2⟩:=J'.put hx k;exact⟨_,rfl,L.c,aj,L.dc,_,_,rfl,J'.hc,aG.cl,aG.uO,wO,_,rfl,t,_,_,_,rfl,rfl,kp.tup I hS,aN (j:=1) rfl,L.d,_,rfl,dp,(q _ (kp.s.trans .XW) (I'.dict J' o) J2).1⟩
   ·subst e1 e2;exact⟨uU.bad b,(q H' kp.s I' (j1 ▸ J.keep I kp)).2⟩
  | say =>
   obtain⟨t,x1,rfl,hS,g1⟩:=oU hT I.s0;refine⟨_,rfl,t,_,_,_,rfl,rfl,hS,aN (j:=0) rfl,?_⟩;refine⟨_,rfl,rfl,_,rfl,bj (by decide +kernel) ?_⟩;refine⟨_,rfl,rfl,_,rfl,bj (by decide +kernel) ?_⟩;refine⟨_,rfl,rfl,_,rfl,bj (by decide +kernel) ?_⟩;refine⟨_,rfl,rfl,_,rfl,fP rfl ?_⟩;refine⟨_,rfl,R.x,C,R.dx,_,_,rfl,I.hx,ac.cl,ac.yt,Ag,.inl ⟨rfl,_,bu.of I.hs⟩,_,rfl,R.x,R.dx,_,rfl,I.hx,cE (by decide +kernel),_,rfl,_,rfl,t,_,_,_,rfl,rfl,hS,aN (j:=1) rfl,vE _ _ _ _ _ g1 h1 nr λH' kp I'=>?_⟩;rcases hr with⟨k,rfl,act⟩ | ⟨b,e1,e2⟩
   ·refine⟨?_,trivial⟩
    cases act with
    | say hl =>
     have J':jL aj R L H' s1.env:=j1 ▸ J.keep I kp;have J2:jL aj R L (upd H' R.sd (.lst (s1.said.map V.int++[.int k]))) s1.env:=⟨(uN (J'.cs I')).trans J'.hc,let ⟨kvs,h,a,b,c⟩:=J'.hd;⟨kvs,(uN (J'.ds I')).trans h,a,b,c⟩,J'.nd,J'.few⟩;exact⟨R.sd,_,_,rfl,rfl,I'.hs,(by rw[aaf];exact aah hl (by decide)),(q _ (kp.s.trans .XX) (I'.say k) J2).1⟩
   ·subst e1 e2;exact⟨uU.bad b,(q H' kp.s I' (j1 ▸ J.keep I kp)).2⟩
 ·exact nomatch h1
 ·obtain⟨t,ts,rfl,hS,hl,hR⟩:=qP hT I.s0;obtain⟨x0,x1,x2,x3,x4,rfl⟩:=VU hl;have z0:=aQ.cA (hR 0 x0 _ rfl rfl);subst z0;have g2:=hR 2 x2 _ rfl rfl;have g3:=hR 3 x3 _ rfl rfl;have g4:=hR 4 x4 _ rfl rfl;clear hR hl;refine⟨_,rfl,t,_,_,_,rfl,rfl,hS,aN (j:=0) rfl,?_⟩;refine⟨_,rfl,rfl,_,rfl,bj (by decide +kernel) ?_⟩;refine⟨_,rfl,rfl,_,rfl,bj (by decide +kernel) ?_⟩;refine⟨_,rfl,rfl,_,rfl,fP rfl ?_⟩;refine⟨_,rfl,R.x,R.dx,_,rfl,I.hx,cE (by decide +kernel),_,rfl,_,rfl,t,_,_,_,rfl,rfl,hS,aN (j:=3) rfl,?_⟩
  have sec:∀(s1:md) (r2:Res) (H1:Hp) (Q1:VK),s1.env=s.env->j5 R H H1->fZ K C R H1 s1.said s1.left->Ev R.ps n L.dep L.nm (.E e) s1 r2 s'->r2.HW=false->(∀H2,j5 R H1 H2->fZ K C R H2 s'.said s'.left->uU Q1 r2 H2/\qN mg E r2 H2)->bY K n C aj ai mg [.ref R.x,.ref L.c,x4] H1 Q1 E :=
   λs1 r2 H1 Q1 he kp I1 h hn z=>⟨R,L,x4,e,s1,s',r2,rfl,I1,(by rw[he];exact J.keep I kp),g4,h,z,λ_ _ _ _ _ _ e=>(HZ hn e).elim⟩
  rcases hp with⟨ks,k,s1,j,rfl,ha,hb,hj,rfl⟩ | ⟨ha,hb⟩ | ⟨ks,s1,ha,hb,hc⟩
  ·have z2:=aQ.ba g2;subst z2;refine⟨R,L,x3,_,s,s1,_,rfl,I,J,g3,ha,(λ_ _ _=>⟨trivial,trivial⟩),λH1 TM a dr l c1 e1 kp I1 nl ga gl=>?_⟩;cases e1;refine⟨_,rfl,R.x,R.dx,_,rfl,I1.hx,cE (by decide +kernel),_,rfl,_,rfl,t,_,_,_,rfl,rfl,kp.tup I hS,aN (j:=4) rfl,sec s1 _ H1 _ (ha.rJ rfl) kp I1 hb rfl λH2 tL I2=>⟨?_,trivial⟩⟩;have TN:=kp.trans tL;have nlx:l≠R.x:=(nN I.hx nl).symm;have nls:l≠R.sd:=(nN I.hs nl).symm;have nax:a≠R.x:=aX ga I1.hx (by intro z;injection z with _ _ h;have:=abb List.length h;cases this);have nas:a≠R.sd:=aX ga I1.hs (by intro z;cases z);have J2:jL aj R L H2 s'.env:=by rw[hb.rJ rfl,ha.rJ rfl];exact J.keep I TN
   have dL:L.d≠l:=let ⟨_,h,_⟩:=J.hd;nN h nl
   have J3:jL aj R L (upd H2 l (.lst ((ks.map V.int).set j (.int k)))) s'.env:=⟨(uN (nN J.hc nl)).trans J2.hc,let ⟨kvs,h,a,b,c⟩:=J2.hd;⟨kvs,(uN dL).trans h,a,b,c⟩,J2.nd,J2.few⟩;refine⟨_,rfl,_,rfl,a,ai,dr,_,_,rfl,tL _ _ nax nas ga,az.cl,az.qL,tH,_,rfl,t,_,_,_,rfl,rfl,TN.tup I hS,aN (j:=2) rfl,l,_,_,j,rfl,rfl,tL _ _ nlx nls gl,?_,?_⟩
   ·unfold xP;rw[List.length_map,if_pos (by omega),if_pos (by omega)];simp
   ·exact(q _ (TN.new nl _).s (I2.other nlx nls (I.h0 nl) _) J3).1
  ·exact⟨R,L,x3,_,s,_,_,rfl,I,J,g3,ha,(λH' kp I'=>⟨uU.bad hb,(q H' kp.s I' (by rw[ha.rJ rfl];exact J.keep I kp)).2⟩),λ_ _ _ _ _ _ e=>(Ia hb e).elim⟩
  ·refine⟨R,L,x3,_,s,s1,_,rfl,I,J,g3,ha,(λ_ _ _=>⟨trivial,trivial⟩),λH1 TM a dr l c1 e1 kp I1 nl ga gl=>?_⟩;refine⟨_,rfl,R.x,R.dx,_,rfl,I1.hx,cE (by decide +kernel),_,rfl,_,rfl,t,_,_,_,rfl,rfl,kp.tup I hS,aN (j:=4) rfl,sec s1 _ H1 _ (ha.rJ rfl) kp I1 hb (by cases r<;>first | rfl | cases hc) λH2 tL I2=>⟨uU.bad hc,(q H2 (kp.trans tL).s I2 (by rw[hb.rJ rfl,ha.rJ rfl];exact J.keep I (kp.trans tL))).2⟩⟩
theorem iW:aO ["self","call","trees","tree"] ["self","call","trees"] (dS fE):=by walk_at "sc"
theorem mO{n:Nat}{f:Addr}{fd:FuncData}(F:jj K "do_all" "Reading.do_all" fE f fd){ai:Addr}(az:ak K ai){aj:Addr}(aG:ax K aj){C:Addr}{wt:Bool}(ac:aw K C)(pF:fD P w K mg base (eh P w) C "do_statement" (n + 3) ["self","call","tree"] (gE K n C aj mg)):bJ P w K mg base (eh P w) (n + 3 + 1) f fd ["self","call","trees"] (nP K (n + 1) C aj mg):=by
 refine F.Di iW (λvs H Q E h=>?_) (λcdv A outer s H vs Q E hr h=>?_)
 ·obtain⟨R,L,tv,ts,s,s',r,rfl,I,J,hT,ev,q⟩:=h;rfl
 obtain⟨R,L,tv,ts,s,s',r,rfl,I,J,hT,ev,q⟩:=h;refine⟨_,(qO (pY PassesOwn.leaving rfl (me (pv 2)) (bf (i:=3) iW.nd rfl (aar rfl)) (qO (gQ (fR (pv 0) pF bX (hr.mono (by omega)) (pK (pv 1) (pK (pv 3) pN))))))),?_⟩;obtain⟨a,us,rfl,hL,hU⟩:=aQ.cn hT;have lu:us.length=ts.length:=hU.1;refine⟨_,rfl,a,rfl,⟨_,I.s0.seq hL⟩,?_⟩;refine pZ (xs:=us) (λi σ H2=>∃(u:Option V) (si:md),σ=[some (.ref R.x),some (.ref L.c),some (.ref a),u]/\wR R L H H2/\fZ K C R H2 si.said si.left/\jL aj R L H2 si.env/\Ev R.ps (n + 1) L.dep L.nm (.Ss (ts.drop i)) si r s') ⟨none,s,rfl,.refl,I,J,ev⟩ ?_ ?_ ?_
 ·rintro i σ H2 _ ⟨u,si,rfl,_,I2,_⟩;exact I2.s0.seq hL
 ·rintro i x σ H2 hx ⟨u,si,rfl,kp,I2,J2,e2⟩;have hi:i < ts.length:=by rw[← lu];exact(eA hx).1
  have hrx:=hU.2 i x _ hx (gP hi);rw[aa1 hi]at e2;refine⟨_,rfl,R.x,R.dx,_,rfl,I2.hx,cE (by decide +kernel),_,rfl,_,rfl,?_⟩
  cases e2 with
  | ssC h1 h2=>exact⟨R,L,x,_,si,_,_,rfl,I2,J2,hrx,h1,λH' kp' I' J'=>⟨⟨some x,_,rfl,kp.trans kp',I',J',h2⟩,trivial⟩⟩
  | ssB h1 hb=>exact⟨R,L,x,_,si,_,_,rfl,I2,J2,hrx,h1,λH' kp' I' J'=>⟨uU.bad hb,(q H' (kp.trans kp') I' J').2⟩⟩
 ·rintro σ H2 ⟨u,si,rfl,kp,I2,J2,e2⟩;rw[lu,abz]at e2
  cases e2 with
  | ssN=>exact(q H2 kp I2 J2).1
theorem nZ:aO ["self","depth","known"] ["self","depth","known"] (dS gx):=by walk_at "sc"
theorem n8{f:Addr}{fd:FuncData}(F:jj K "__init__" "Call.__init__" gx f fd){ai:Addr}(az:ak K ai){aj:Addr}(aG:ax K aj):bJ P w K mg base c6 1 f fd ["self","depth","known"] (jQ K aj):=by
 refine F.ok nZ (λvs H Q E h=>?_) (λcdv A outer s H vs Q E hr h=>?_)
 ·obtain⟨x,dx,d,p,rfl,hx,q⟩:=h;rfl
 obtain⟨x,dx,d,p,rfl,hx,q⟩:=h;refine⟨_,(qK (ki (pv 0) (pv 1) rfl)
   (qO (ki (pv 0) (pv 2) rfl))),?_⟩
 refine⟨_,rfl,_,rfl,x,aj,dx,_,rfl,hx,aG.cl,aG.pQ,(by show 0 < 1000;decide),?_⟩;refine⟨_,rfl,_,rfl,x,aj,dx,_,rfl,uS,aG.cl,aG.uO,(by show(cV _ _ _).length < 1000;exact aaH (dw _ _ _) (by show 1 < 1000;decide)),?_⟩;refine q _ ?_ (λc o hc e=>?_)
 ·rw[uS,Mx]
 ·rw[uN hc,uN hc];exact e
theorem cH:aO ["self","part","values","depth","told","names","call","gave"] ["self","part","values","depth"] (dS gy):=by walk_at "sc"
theorem n9{n:Nat}{f:Addr}{fd:FuncData}(F:jj K "given" "Reading.given" gy f fd){bp:Addr}(et:mg "Weary"=some (.ref bp))(hV:PySem.W.excIn K bp (rB false) (vS false)=true)(hZ:PySem.W.ktsIn K bp "BaseException"=true){aB:Addr}(cU:mg "Fault"=some (.ref aB))(fi:PySem.W.ktsIn K aB "BaseException"=true)(rl:mg "dict"=none)(ra:mg "zip"=none){bh:Addr}(oa:mg "Gave"=some (.ref bh))(rm:PySem.W.ktsIn K bh "BaseException"=true){ai:Addr}(az:ak K ai){aj:Addr}(aG:ax K aj){C:Addr}{wt:Bool}(ac:aw K C)(BG:fD P w K mg base (eh P w) C "do_all" (n + 3) ["self","call","trees"] (nP K n C aj mg))(bt:fD P w K mg base (eh P w) C "value_of" (n + 3) ["self","call","tree"] (bY K n C aj ai mg))(Iq:x9 P w K mg base c6 aj "Call" 1 ["self","depth","known"] (jQ K aj))(kM:PySem.W.findIn K (.ref bh) "__getattribute__"=some (some (.builtin "BaseException.__getattribute__")))(kN:PySem.W.findIn K (.ref bh) "__getattr__"=some none)(kO:PySem.W.findIn K (.ref bh) "__class__"=some (some (.builtin "object.__class__")))(kP:PySem.W.mroIn K bh (.type "BaseException")=some true)(kQ:PySem.W.mroIn K bh (.type "object")=some true)(kR:PySem.W.hasDictIn K bh=true)(EG:PySem.W.mroIn K bh (.ref bh)=some true)(EH:PySem.W.mroIn K aB (.ref bh)=some false)(EI:PySem.W.mroIn K bp (.ref bh)=some false)(EJ:PySem.W.findIn K (.ref bh) "value"=some none):bJ P w K mg base (eh P w) (n + 3 + 1) f fd ["self","part","values","depth"] (mH K (n + 1) C mg):=by
 refine F.Di cH (λvs H Q E h=>?_) (λcdv A outer s H vs Q E hr h=>?_)
 ·obtain⟨R,il,p,dep,ks,m,s,s',r,rfl,I,hS,ev,q⟩:=h;rfl
 obtain⟨R,il,p,dep,ks,m,s,s',r,rfl,I,hS,ev,q⟩:=h;refine⟨_,(qK (cy (i:=4) cH.nd rfl (aar rfl) (aI bT (aI aH (gc (pv 0) rfl) pI (λ_ _=>rfl)) (pv 1) (λ_ _=>rfl)))
   (qK (ml (i:=5) cH.nd rfl (aar rfl) 1 ["take"] [] ⟨rfl,rfl,rfl,rfl,rfl,rfl,rfl,rfl⟩ (me (aI aH (pv 4) pI (λ_ _=>rfl))) (λ_ _ _ _=>⟨(bf (i:=0) (show List.Nodup (["take"]:List Str)by decide +kernel) rfl (aar rfl)),kU,(aI (r:=CN K) aH (pv 0) pI (λ_ _=>rfl))⟩))
   (qK (cy (i:=6) cH.nd rfl (aar rfl) (Dw Iq qb (hr.mono (by omega)) rfl (pK (pv 3) (pK (D9 rfl rl rfl ra rfl (pK (pv 5) (pK (pv 2) pN))) pN))))
   (qK (uM (Ed (wI (λ_=>(pv 0)) BG (hr.mono (by omega)) (λ_=>(pK (pv 6) (pK (aI (r:=CN K) aH (pv 4) pI (λ_ _=>rfl)) pN)))) HS) (Kv (i:=7) rfl oa rm cH.nd rfl rfl (λ_ _=>(qO (aL (show PE _ _ (SE K _ _)from (Kg (pv 7) rfl))))) (Eb km)))
   (qO (aL (fR (pv 0) bt bX (hr.mono (by omega)) (pK (pv 6) (pK (aI aH (pv 4) pI (λ_ _=>rfl)) pN))))))))),?_⟩
 have kx:KX K bh:=⟨kM,kN,kO,kP,kQ⟩;obtain⟨pq,hp,hl⟩:∃pq,R.ps[p]?=some pq/\ks.length=pq.tk.length:=by cases ev<;>exact⟨_,by assumption,by assumption⟩
 obtain⟨b',bx,e,hT,hR⟩:=aQ.gn (show aQ K R.H0 (.ref R.b) (.tuple [R.ms,.list (R.ps.map vB)])from I.pr);cases e;obtain⟨m0,m1,rfl⟩:=HV hR.1;obtain⟨pl,xs,rfl,hL,hP⟩:=aQ.cn (hR.2 1 m1 _ rfl rfl);have lx:xs.length=R.ps.length:=by rw[hP.1,aaf]
 have hjl:=(eA hp).1;have hxj:xs[p]?=some (xs[p]'(by omega)):=gP (by omega);have V4:=hP.2 p _ (vB pq) hxj (by rw[aax,hp];rfl);generalize xs[p]'(by omega)=tv at hxj V4;obtain⟨t,ts,rfl,hTt,hRt⟩:=aQ.gn (show aQ K R.H0 tv (.tuple [.list (pq.tk.map FU),.tuple (rH pq.gv),.list pq.bd,pq.an])from V4);obtain⟨t0,t1,t2,t3,rfl⟩:=Ti hRt.1;obtain⟨nl,ns,rfl,hN,hNR⟩:=aQ.cn (hRt.2 0 t0 _ rfl rfl);have hBd:=hRt.2 2 t2 _ rfl rfl;have hAn:=hRt.2 3 t3 _ rfl rfl;have ln:ns.length=pq.tk.length:=by rw[hNR.1,aaf]
 have mem:=aaz hp;have MQ:=I.wf.tks pq mem;have s0:=I.s0;refine⟨_,rfl,R.x,C,R.dx,_,_,rfl,I.hx,ac.cl,ac.tD,yA,R.b,_,_,_,rfl,rfl,s0.tup hT,aN (j:=1) rfl,_,rfl,pl,_,_,_,rfl,rfl,s0.seq hL,aN hxj,?_⟩;refine⟨_,rfl,t,_,_,_,rfl,rfl,s0.tup hTt,aN (j:=0) rfl,nl,rfl,⟨_,s0.seq hN⟩,λD hD=>?_⟩;refine mj (xs:=ns) (λi zs H2=>aS H H2/\H2 D=some (.lst zs)/\zs=(pq.tk.take i).map λt=>V.str t.1) (aa3 (sK (by omega))) ⟨aC hD _,uS,rfl⟩ ?_ ?_ ?_
 ·rintro i zs H2 hi ⟨s2,d2,rfl⟩;refine⟨d2,?_,s2.seq (s0.seq hN)⟩;rw[aaf,aa5];omega
 ·rintro i v zs H2 hv ⟨s2,d2,rfl⟩;have hi:i < pq.tk.length:=by rw[← ln];exact(eA hv).1
  have ht:pq.tk[i]?=some pq.tk[i]:=gP hi;have hrv:=hNR.2 i v (FU pq.tk[i]) hv (by rw[aax,ht];rfl);obtain⟨tt,x1,rfl,hTT,_⟩:=oU (show aQ K R.H0 v (.tuple [.str pq.tk[i].1,.tuple (rH pq.tk[i].2)])from hrv) (s0.trans s2);refine⟨rfl,_,rfl,tt,_,_,_,rfl,rfl,hTT,aN (j:=0) rfl,d2,wN s2 hD _,uS,?_⟩;rw[acb,ht,aaU];rfl
 rintro zs H2 ⟨s2,d2,rfl⟩;rw[ln,acs]at d2;refine⟨_,rfl,_,rfl,_,rfl,D,il,pq.tk.map (·.1),ks.map V.int,rfl,?_,s2.seq hS,I.wf.nd pq mem,?_,?_,λd hd=>?_⟩
 ·rw[aa7];exact bu.of d2
 ·rw[aaf,aaf,hl]
 ·rw[aaf];omega
 intro xx dxx nx ndx ne;have s3:=s2.trans (aC hd (.dK (((pq.tk.map (·.1)).zip (ks.map V.int)).map λp=>(Sum.inr p.1,p.2))));have d3:=uS (H:=H2) (a:=d) (o:=.dK (((pq.tk.map (·.1)).zip (ks.map V.int)).map λp=>(Sum.inr p.1,p.2)))
 have DQ:H d=none:=by
  cases e:H d with
  | none=>rfl
  | some o=>rw[s2 _ _ e]at hd;cases hd
 generalize upd H2 d (.dK (((pq.tk.map (·.1)).zip (ks.map V.int)).map λp=>(Sum.inr p.1,p.2)))=H3 at s3 d3 nx ndx ⊢;refine⟨xx,dxx,d,dep,rfl,uS,λH4 e4 k4=>⟨rfl,?_⟩⟩;have V5:aS H3 H4:=λc o e=>k4 c o (nN e nx) (by rw[uN (nN e nx),uN (nN e ndx)];exact e)
 have s4:=s3.trans V5;have I4:=I.same s4;have V6:=(s0.trans s4).tup hTt
 have J4:jL aj R ⟨xx,dxx,d,dep,pq.nm⟩ H4 (envOf (pq.tk.map (·.1)) ks):=by
  refine⟨e4,⟨_,V5 _ _ d3,?_,?_,Aj _ _⟩,I.h0 DQ,I.wf.nms pq mem⟩
  ·rw[tG (by rw[aaf];exact hl)];exact List.pairwise_map.mpr ((I.wf.nd pq mem).imp λh z=>h (abI z))
  ·rw[tG (by rw[aaf];exact hl)];intro k hk;obtain⟨y,hy,e⟩:=acr.mp hk;exact⟨y,I.wf.sub pq mem y hy,e.symm⟩
 have back:∀{H':Hp},wR R ⟨xx,dxx,d,dep,pq.nm⟩ H4 H'->j5 R H H':=λk c o n1 n2 e=>k c o n1 n2 (nN e DQ) (s4 _ _ e)
 refine⟨_,rfl,R.x,R.dx,_,rfl,I4.hx,cE (by decide +kernel),_,rfl,_,rfl,t,_,_,_,rfl,rfl,V6,aN (j:=2) rfl,?_⟩
 have pass:∀(r1:Res) (H':Hp) (D:Ends) (σ:St) (tb:TS),(∀k,r1≠.gave k)->qN mg E r1 H'->qN mg (Qc K bh 7 tb (Ea E) D σ) r1 H':=λr1 H' D σ tb hn z=>by
  cases r1 with
  | gave k=>exact absurd rfl (hn k)
  | fault k =>
   intro C' dd hC hx;rw[cU]at hC;cases hC;exact⟨_,rfl,.inr ⟨EH,z _ dd cU hx⟩⟩
  | weary =>
   intro C' dd hC;rw[et]at hC;cases hC;exact⟨_,rfl,.inr ⟨EI,z _ dd et⟩⟩
  | _=>trivial
 have same:∀{q':kZ},R.ps[p]?=some q'->q'=pq:=λh=>by rw[hp]at h;exact(aaq h).symm
 cases ev with
 | gB hq _ h1 h2 hRr =>
  rw[same hq]at h1 h2;refine⟨R,⟨xx,dxx,d,dep,pq.nm⟩,t2,pq.bd,{s with env:=envOf (pq.tk.map (·.1)) ks},_,.ok,rfl,I4,J4,hBd,h1,λH' kp I' J'=>⟨?_,trivial⟩⟩;exact⟨_,rfl,R.x,R.dx,_,rfl,I'.hx,cE (by decide +kernel),_,rfl,_,rfl,t,_,_,_,rfl,rfl,kp.tup I4 J4 V6,aN (j:=3) rfl,R,⟨xx,dxx,d,dep,pq.nm⟩,t3,pq.an,_,_,_,rfl,I',J',hAn,h2,(λH'' k'' I''=>q H'' ((back kp).trans k'') I''),λ_ _ _ _ _ _ e=>(HZ hRr e).elim⟩
 | @gG _ _ _ _ _ k _ _ _ hq _ h1 =>
  rw[same hq]at h1;refine⟨R,⟨xx,dxx,d,dep,pq.nm⟩,t2,pq.bd,{s with env:=envOf (pq.tk.map (·.1)) ks},_,.gave k,rfl,I4,J4,hBd,h1,λH' kp I' J'=>⟨trivial,?_⟩⟩;rintro C' dd hC ⟨dx,rfl,hdx⟩;rw[oa]at hC;cases hC;refine⟨_,rfl,.inl ⟨EG,λe he=>?_⟩⟩;have s5:=aC he (.ext (Oo bh e (some dx)));exact⟨_,rfl,e,bh,dx,_,_,_,rfl,uS,Dl,s5 _ _ hdx,kx,kR,EJ,rfl,(q _ ((back kp).trans (.of s5)) (I'.same s5)).1⟩
 | gX hq _ h1 hb hn =>
  rw[same hq]at h1;exact⟨R,⟨xx,dxx,d,dep,pq.nm⟩,t2,pq.bd,{s with env:=envOf (pq.tk.map (·.1)) ks},s',r,rfl,I4,J4,hBd,h1,λH' kp I' J'=>⟨uU.bad hb,pass _ _ _ _ _ hn (q H' (back kp) I').2⟩⟩
theorem iX:aO ["self","part","inputs","fault"] ["self","part","inputs"] (dS fF):=by walk_at "sc"
theorem mP{f:Addr}{fd:FuncData}(F:jj K "end_at" "Reading.end_at" fF f fd){aB:Addr}(cU:mg "Fault"=some (.ref aB))(fi:PySem.W.ktsIn K aB "BaseException"=true){bp:Addr}(et:mg "Weary"=some (.ref bp))(hV:PySem.W.excIn K bp (rB false) (vS false)=true)(hZ:PySem.W.ktsIn K bp "BaseException"=true){ai:Addr}(az:ak K ai){aj:Addr}(aG:ax K aj){C:Addr}{wt:Bool}(ac:aw K C)(rh:fD P w K mg base (eh P w) C "given" 63 ["self","part","values","depth"] (mH K 60 C mg))(jy:PySem.W.findIn K (.ref aB) "__getattribute__"=some (some (.builtin "BaseException.__getattribute__")))(jz:PySem.W.findIn K (.ref aB) "__getattr__"=some none)(jA:PySem.W.findIn K (.ref aB) "__class__"=some (some (.builtin "object.__class__")))(jB:PySem.W.mroIn K aB (.type "BaseException")=some true)(jC:PySem.W.mroIn K aB (.type "object")=some true)(jD:PySem.W.hasDictIn K aB=true)(EK:PySem.W.mroIn K aB (.ref aB)=some true)(EL:PySem.W.mroIn K bp (.ref aB)=some false)(EM:PySem.W.mroIn K bp (.ref bp)=some true)(EN:PySem.W.findIn K (.ref aB) "number"=some none):bJ P w K mg base c6 64 f fd ["self","part","inputs"] (nQ K C mg):=by
 refine F.ok iX (λvs H Q E h=>?_) (λcdv A outer s H vs Q E hr h=>?_)
 ·obtain⟨R,il,p,ks,m,s,s',r,rfl,I,hS,ev,q⟩:=h;rfl
 obtain⟨R,il,p,ks,m,s,s',r,rfl,I,hS,ev,q⟩:=h;refine⟨_,(qO (uM (Aa (HR (wJ (Mp λ_=>aP) (wJ (wI (λ_=>(pv 0)) rh (hr.mono (by decide)) (λ_=>(pK (pv 1) (pK (pv 2) (pK pI pN))))) HQ)))) (Kv (i:=3) rfl cU fi iX.nd rfl rfl (λ_ _=>(qO (aL (gf (pK aP (pK (show PE _ _ (SE K _ _)from (Kg (pv 3) rfl)) pN)))))) (Qd rfl et hZ (λ_ _=>(qO (aL (gf (pK aP pN))))) HM)))),?_⟩;have kx:KX K aB:=⟨jy,jz,jA,jB,jC⟩;refine⟨_,rfl,R.x,R.dx,_,rfl,I.hx,cE (by decide +kernel),_,rfl,_,rfl,R,il,p,1,ks,m,s,s',r,rfl,I,hS,ev,λH' kp I'=>?_⟩;have Tp:=ev.Tp (.inr ⟨_,_,rfl⟩)
 cases r with
 | gave k=>exact absurd rfl (Tp k)
 | val k =>
  refine⟨⟨FL,λt ht=>?_⟩,trivial⟩;have s2:=aC ht (.tup [.str "gave",.int k]);exact q _ t _ (kp.trans (.of s2)) (I'.same s2) (bV.of uS) rfl
 | fault k =>
  refine⟨trivial,?_⟩;rintro C' dd hC ⟨dx,rfl,hdx⟩;rw[cU]at hC;cases hC;refine⟨_,rfl,.inl ⟨EK,λe he=>?_⟩⟩;have s5:=aC he (.ext (Oo aB e (some dx)));have g5:=uS (H:=H') (a:=e) (o:=.ext (Oo aB e (some dx)));generalize upd H' e _=H5 at s5 g5 ⊢;refine⟨_,rfl,e,aB,dx,_,_,_,rfl,g5,Dl,s5 _ _ hdx,kx,jD,EN,rfl,FL,λt ht=>?_⟩;have s6:=s5.trans (aC ht (.tup [.str "fault",.int k]));exact q _ t _ (kp.trans (.of s6)) (I'.same s6) (bV.of uS) rfl
 | weary =>
  refine⟨trivial,?_⟩;intro C' dd hC;rw[et]at hC;cases hC;refine⟨_,rfl,.inr ⟨EL,_,rfl,.inl ⟨EM,OL,λt ht=>?_⟩⟩⟩;have s2:=aC ht (.tup [.str "weary"]);exact q _ t _ (kp.trans (.of s2)) (I'.same s2) (bV.of uS) rfl
 | ok=>rcases ev.vR rfl with⟨_,z⟩ | z | z<;>cases z
 | vals _=>rcases ev.vR rfl with⟨_,z⟩ | z | z<;>cases z
 | rcd _=>exact nomatch ev.gR
theorem lg:aO ["self","program","budget"] ["self","program","budget"] (dS eE):=by walk_at "sc"
theorem lh{f:Addr}{fd:FuncData}(F:jj K "__init__" "Reading.__init__" eE f fd){ai:Addr}(az:ak K ai){aj:Addr}(aG:ax K aj){C:Addr}{wt:Bool}(ac:aw K C):bJ P w K mg base c6 1 f fd ["self","program","budget"] (gF K C):=by
 refine F.ok lg (λvs H Q E h=>?_) (λcdv A outer s H vs Q E hr h=>?_)
 ·obtain⟨x,dx,b,bud,rfl,hx,q⟩:=h;rfl
 obtain⟨x,dx,b,bud,rfl,hx,q⟩:=h;refine⟨_,(qK (ki (pv 0) (pv 1) rfl)
   (qK (ki (pv 0) (ip pN) rfl)
   (qO (ki (pv 0) (pv 2) rfl)))),?_⟩
 refine⟨_,rfl,_,rfl,x,C,dx,_,rfl,hx,ac.cl,ac.tD,(by show 0 < 1000;decide),?_⟩;refine⟨Vn,λsd hsd=>?_⟩;have ne:x≠sd:=λe=>by subst e;rw[uS]at hsd;cases hsd
 have RS:H sd=none:=by rw[uN ne.symm]at hsd;exact hsd
 refine⟨_,rfl,x,C,dx,_,rfl,(uN ne).trans uS,ac.cl,ac.yt,(by show(cV _ _ _).length < 1000;exact aaH (dw _ _ _) (by show 1 < 1000;decide)),?_⟩;refine⟨_,rfl,_,rfl,x,C,dx,_,rfl,uS,ac.cl,ac.qJ,(by show(cV _ _ _).length < 1000;exact aaH (dw _ _ _) (Nat.succ_lt_succ (aaH (dw _ _ _) (by show 1 < 999;decide)))),?_⟩;refine q sd _ RS ?_ ?_ (λc o hc e=>?_)
 ·rw[uS,My]
 ·rw[uN ne.symm,uN ne.symm];exact uS
 ·rw[uN hc,uN hc,uN (nN e RS),uN hc];exact e
theorem jU:aO ["program","part","inputs","budget","reading","end"] ["program","part","inputs","budget"] (dS kz):=by walk_at "sc"
theorem vh{f:Addr}{fd:FuncData}(F:jj K "plain_run" "plain_run" kz f fd){ai:Addr}(az:ak K ai){aj:Addr}(aG:ax K aj){aq:Addr}(jV:aw K aq)(vj:ic P w K mg base (eh P w) "check_door" 2 ["parts","part","inputs"] (i7 K bR))(yY:ic P w K mg base c6 "heads_of" 2 ["program"] (kF K))(mQ:fD P w K mg base c6 aq "end_at" 64 ["self","part","inputs"] (nQ K aq mg))(yZ:x9 P w K mg base c6 aq "Reading" 1 ["self","program","budget"] (gF K aq)):bJ P w K mg base c6 65 f fd ["program","part","inputs","budget"] (g7 K):=by
 refine F.ok jU (λvs H Q E h=>?_) (λcdv A outer s H vs Q E hr h=>?_)
 ·obtain⟨b,il,j,bud,ms,ps,p,ks,m,s',r,ts,rfl,hB,wf,hI,hp,ha,hl,ev,he,q⟩:=h;rfl
 obtain⟨b,il,j,bud,ms,ps,p,ks,m,s',r,ts,rfl,hB,wf,hI,hp,ha,hl,ev,he,q⟩:=h;refine⟨_,(qK (gQ (Dj vj LD (hr.mono (by decide)) rfl (pK (cI yY (hr.mono (by decide)) rfl (pK (pv 0) pN)) (pK (pv 1) (pK (pv 2) pN)))))
   (qK (cy (i:=4) jU.nd rfl (aar rfl) (Dw yZ qb (hr.mono (by decide)) rfl (pK (pv 0) (pK (pv 3) pN))))
   (qK (cy (i:=5) jU.nd rfl (aar rfl) (fR (pv 4) mQ qb (hr.mono (by decide)) (pK (pv 1) (pK (pv 2) pN))))
   (qO (aL (gf (pK (pv 5) (pK (gc (pv 4) rfl) (pK (gc (pv 4) rfl) pN))))))))),?_⟩
 have rdI:aR K (λ_=>False) H (.ref il) (.list (ks.map PyData.int)):=qy (.lst hI (by simp) λi x d hx hd=>(wB (K:=K) (P:=λ_=>False) (H:=H) (ns:=ks)).2 i x d hx hd |>.now)
 have ht:∀h∈yB ps,h.1.length<=100:=λh hh=>by
  obtain⟨p,hp,rfl⟩:=acr.mp hh;show(p.tk.map (·.2)).length<=100;rw[aaf];exact wf.tks p hp
 refine⟨_,rfl,λ_=>False,[Kx ms ps],(λ_ z=>z.elim),.cons (qy hB) .nil,ms,ps,rfl,wf.few,wf.tks,λv H1 s1 r1=>?_⟩;refine⟨_,rfl,_,rfl,λ_=>False,[.list ((yB ps).map zy),.int (j:Int),.list (ks.map PyData.int)],(λ_ z=>z.elim),.cons r1 (.cons (.int _) (.cons (rdI.same s1) .nil)),yB ps,j,ks,rfl,ht,λdr v2 H2 s2 r2=>?_,λnd dd H2 s2 x=>absurd ?_ nd⟩;rotate_left
 ·refine⟨(p.tk.map (·.2),p.gv),by omega,?_,ha,by rw[hl];exact(List.length_map _).symm⟩;rw[Int.toNat_natCast];unfold yB;rw[List.getElem?_map,hp];rfl
 have S2:=s1.trans s2;refine⟨_,rfl,_,rfl,λx dx nx ndx ne=>?_⟩
 have y:aS H2 (upd (upd H2 dx (.own x)) x (.ins aq dx [])):=λc o e=>by
  rw[uN (nN e nx),uN (nN e ndx)];exact e
 refine⟨x,dx,b,bud,rfl,uS,λsd H3 nsd e3 l3 k3=>⟨rfl,?_⟩⟩;have V7:aS H2 H3:=λc o e=>k3 c o (nN e nx) (y c o e)
 have S3:=S2.trans V7
 have MS:H2 sd=none:=by
  cases e:H2 sd with
  | none=>rfl
  | some o=>rw[y _ _ e]at nsd;cases nsd
 have hsd:H sd=none:=by
  cases e:H sd with
  | none=>rfl
  | some o=>rw[S2 _ _ e]at MS;cases MS
 have I:fZ K aq ⟨x,dx,b,sd,ms,ps,H2⟩ H3 [] bud:=⟨e3,l3,V7,aQ.same S2 hB,nx,MS,wf⟩;refine⟨_,rfl,x,dx,_,rfl,e3,cE (by decide +kernel),_,rfl,_,rfl,⟨x,dx,b,sd,ms,ps,H2⟩,il,j,ks,m,⟨[],bud,λ_=>none⟩,s',r,rfl,I,S3.seq hI,ev,λH4 u us kp I4 gu eu=>?_⟩;rw[he]at eu;cases eu;refine⟨_,rfl,_,rfl,x,aq,dx,_,_,rfl,I4.hx,jV.cl,jV.yt,Ag,_,rfl,x,aq,dx,_,_,rfl,I4.hx,jV.cl,jV.qJ,uT,OM,λt ht=>?_⟩;have s5:=aC ht (.tup [.ref u,.ref sd,.int s'.left]);exact q t u sd _ (S2.trans (I4.s0.trans s5)) hsd (bV.of uS) (s5.tup gu) (s5 _ _ I4.hs)
theorem bK:aO ["_law_script","_law_source_here","_law_cell","_law_echo","_law_one","_law_two","_law_number","_law_names","_law_takes","_law_world","_law_body","_law_k","_law_es","_law_door","_law_other","_law_says","_law_makes","_law_parts","_law_inputs","_law_budget","_law_due_here","_law_kept","_law_found"] ["_law_script"] (dS mC):=by walk_at "sc"
theorem EO{ec:Nat}{ns ns':List Str}{sts:List Sm}{an:Ex}:((cZ ec ns sts an ns').tk.map (·.2)++[(cZ ec ns sts an ns').gv]).all i6=true:=by
 unfold cZ;rw[List.map_map,List.all_append,List.all_map];have e:i6 Kd.num=true:=rfl;simp[e]
theorem ER{ns:List Str}{ec one two dd:Nat}{bd:List PyData}{env:bL}{m:Nat}{src:List Int}{Q:DC}(rK:ns≠[])(nO:ns.length<=10)(o1:1<=one)(o3:one<=3)(t3:two<=3)(d4:dd<=4)
  (ee:env=[none,some (.ref 0),some (.dat (.list (ns.map PyData.str))),some (.dat (.list [.int (ec:Int),.int (one:Int),.int (two:Int)]))]) (hm:m<=6) (hs:gK src)
  (hQ:∀(es:List Ex) (src':List Int),es.length=m->(∀e∈es,e.wf ns dd)->gK src'->Q (.dat (.list (es.map (Ex.D ec)))) [.live (aK src'),.live bd]) :
  RJ wF (gN 0) wu (zS (lH [true,false,false,false] (fV 5)) (j3 (pj 1) (j3 (pj 2) (j3 (pj 3) (j3 (eC (PyData.int (dd:Int))) Be))))) (List.map DV.dat (wm 0 m)) (λ_=>True) env [.live (aK src),.live bd] Q:=by
 subst ee;refine⟨by rw[aaf,iu];omega,Ih ec ns dd bd,⟨[],src,rfl,(λ_ h=>nomatch h),rfl,rfl,hs⟩,λ_ _ _ _=>trivial,?_,?_⟩
 ·rintro i ys st d ⟨es,src,h1,h2,rfl,rfl,hs⟩ hd;walk_at "vc";exact iJ ⟨by simp,by simp,rfl,src,ns,ec,one,two,dd,rfl,rfl,hs,rK,nO,o1,o3,t3,d4,by omega,λe src' he hs'=>⟨rfl,rfl,Ih.more h1 h2 he hs'⟩⟩
 ·rintro ys st ⟨es,src',h1,h2,rfl,rfl,hs⟩;rw[aaf,iu]at h1;exact⟨es.map (Ex.D ec),by rw[aa7];rfl,hQ es src' h1 h2 hs⟩
theorem MT{f:Addr}{fd:FuncData}(F:jj K "law" "law" mC f fd)(gH:mg "list"=none)(dm:mg "range"=none){ai:Addr}(az:ak K ai){aj:Addr}(aG:ax K aj)(mR:ic P w K mg base c6 "_law_alike" 2 ["_law_found","_law_due_here"] (gZ K))(y6:ic P w K mg base c6 "_law_due" 10 ["_law_part","_law_inputs","_law_budget"] (lN K))(bA:ic P w K mg base c6 "_law_grown" 6 ["_law_source_here","_law_names","_law_world","_law_deep"] (fe K 5))(fW:ic P w K mg base c6 "_law_next" 1 ["_law_source_here","_law_many"] (fT K))(rW:ic P w K mg base c6 "_law_source" 1 ["_law_script"] (fN K))(kJ:ic P w K mg base c6 "_law_word" 1 ["_law_cell"] (fU K))(oZ:ic P w K mg base c6 "plain_run" 65 ["program","part","inputs","budget"] (g7 K)):bJ P w K mg base c6 66 f fd ["_law_script"] (va K):=by
 refine F.ok bK (λvs H Q E h=>?_) (λcdv A outer s H vs Q E hr h=>?_)
 ·obtain⟨a,ns,rfl,hS,RQ,q⟩:=h;rfl
 obtain⟨a,ns,rfl,hS,RQ,q0⟩:=h;have hv:cj (aR K (λ_=>False) H) [.ref a] [.list (ns.map PyData.int)]:=.cons (qy (.lst hS (by simp) λi x d hx hd=>(wB (K:=K) (P:=λ_=>False) (H:=H) (ns:=ns)).2 i x d hx hd |>.now)) .nil;have q:∀v H',aS H H'->aR K (λ_=>False) H' v (.bool true)->Q v H':=λv H' _ r=>by rw[aR.qu r];exact q0 H'
 refine jm (P:=λ_=>False) (λ_ h=>h.elim) hv ?_;show sX _ _ _ _ [some _,none,none,none,none,none,none,none,none,none,none,none,none,none,none,none,none,none,none,none,none,none,none] [];clear hv q0 hS;refine aD (bD (i:=1) bK.nd rfl (Or.inr rfl) (Bu rW rM rL (hr.mono (by decide)) rfl (ae (ah 0) au))) (λR kk=>?_);walk_at "vc";refine⟨ns,rfl,RQ,λTQ RS=>kk _ _ ?_⟩;clear kk R;refine aD (bD (i:=2) bK.nd rfl (Or.inr rfl) (cB (js:=[true,false]) fW iU iT (hr.mono (by decide)) rfl (ae (ah 1) (ae (yb ar ar) au)))) (λR kk=>?_);walk_at "vc";refine⟨⟨by decide,by decide,by decide⟩,by simp,by simp,rfl,TQ,_,rfl,rfl,RS,by decide,λcl MP c0 c1 X8=>⟨rfl,rfl,kk _ _ ?_⟩⟩;clear kk R;refine aD (bD (i:=3) bK.nd rfl (Or.inl rfl) (bC (ah 2) ar)) (λR kk=>?_);walk_at "vc";obtain⟨ec,eec,hec⟩:=nK cl (m:=2) (n:=2) rfl (by decide);rw[eec];refine⟨by decide,kk _ _ ?_⟩;clear kk R;refine aD (bD (i:=4) bK.nd rfl (Or.inl rfl) (dN ar (bC (cv (ah 2) ar) ar))) (λR kk=>?_);walk_at "vc";obtain⟨on,eon,hon⟩:=nK (cl / 2) (m:=3) (n:=3) rfl (by decide);rw[eon,show(1 + (on:Int))=((on + 1:Nat):Int)by omega];obtain⟨one,eone⟩:∃one,one=on + 1:=⟨_,rfl⟩;rw[← eone];have QD:1<=one:=by omega
 have QE:one<=3:=by omega
 refine⟨⟨by decide,by decide⟩,by decide,kk _ _ ?_⟩;clear kk R;refine aD (bD (i:=5) bK.nd rfl (aar rfl) (bC (cv (ah 2) ar) ar)) (λR kk=>?_);walk_at "vc";obtain⟨tw,etw,htw⟩:=nK (cl / 6) (m:=4) (n:=4) rfl (by decide);rw[etw];refine⟨⟨by decide,by decide⟩,by decide,kk _ _ ?_⟩;clear kk R;refine aD (bD (i:=6) bK.nd rfl (abW rfl) (bc (ae aT au))) (λR kk=>?_);walk_at "vc";refine kk _ _ ?_;clear kk R;refine aD (bD (i:=7) bK.nd rfl (abW rfl) (wy 1 ["_law_k","_law_cell"] [2] ⟨rfl,rfl,rfl,rfl,rfl,rfl,rfl,rfl⟩ (dF rfl dm (ae (dN ar (bC (cv (ah 2) ar) ar)) au)) (λ_ _ _ _=>(bf (i:=0) (show List.Nodup (["_law_k","_law_cell"]:List Str)by decide +kernel) rfl (aar rfl))) (kY (i:=0)) (px (by decide)) (λ_ _ _ _=>⟨gp,(dN (dN (DE aT um (uo (bC (cv (ah 1) ar) ar))) (ko aT (ah 0) (λ_ _=>rfl))) (DE aT um (uo (bC (cv (ah 1) ar) ar))))⟩))) (λR kk=>?_);walk_at "vc";obtain⟨m0,X9,ZG⟩:=nK (cl / 480) (m:=3) (n:=3) rfl (by decide);rw[X9,show(1 + (m0:Int)).toNat=m0 + 1 by omega];obtain⟨na,ena,hna⟩:=nK (cl / 24) (m:=4) (n:=4) rfl (by decide);obtain⟨nb,enb,hnb⟩:=nK (cl / 96) (m:=5) (n:=5) rfl (by decide);refine⟨⟨by decide,by decide⟩,by decide,⟨by omega,by omega⟩,?_⟩;refine tE (env:=[none,some (.dat (.int cl))]) (List.range (m0 + 1)) (λk=>.int (0 + (k:Int))) (λk=>.str (B5 na nb k)) rfl (by rw[ace];omega) (λi k hk P N hP=>⟨rfl,rfl,iJ ?_⟩) ?_
 ·have hi:=(eA hk).1;rw[ace]at hi;rw[List.getElem?_range hi]at hk;cases hk;walk_at "vc";rw[ena,enb,show(0:Int) + (i:Int)=(i:Int)by omega];have l3:∀x:Nat,x < 4->(Txt.slice (Str.ofString "aaa") none (some (x:Int))).length<=3:=by decide +kernel
  have l4:∀x:Nat,x < 5->(Txt.slice (Str.ofString "zzzz") none (some (x:Int))).length<=4:=by decide +kernel
  have a3:=l3 na hna;have a4:=l4 nb hnb;have lm:∀x:Nat,x < 4->∀y:Nat,y < 3->(Txt.slice (Str.ofString "aaa") none (some (x:Int))++(⟨#[112 + y]⟩:Str)).length<=4:=by decide +kernel
  have a5:=lm na hna i (by omega);refine⟨⟨by decide,by decide⟩,by decide,by decide,by decide,_,MI i (by omega),?_,⟨by decide,by decide⟩,by decide,by decide,?_,rfl,hP⟩
  ·show _ + 1<=1000000;omega
  ·omega
 walk_at "vc";refine kk _ _ ?_;clear kk R;refine aD (Bm Ks (i:=8) bK.nd rfl (aar rfl) 1 ["_law_name","_law_number"] [6] ⟨rfl,rfl,rfl,rfl,rfl,rfl,rfl,rfl⟩ (ny (ah 7)) (λ_ _ _ _=>(bf (i:=0) (show List.Nodup (["_law_name","_law_number"]:List Str)by decide +kernel) rfl (aar rfl))) (kY (i:=0)) (px (by decide)) (λ_ _ _ _=>⟨gp,(bc (ae (ah 0) (ae (ah 1) au)))⟩)) (λR kk=>?_);walk_at "vc";refine tE (env:=[none,some (.dat (.tuple [.str "number"]))]) (List.range (m0 + 1)) (λk=>.str (B5 na nb k)) (λk=>.tuple [.str (B5 na nb k),.tuple [.str "number"]]) rfl (by rw[ace];omega) (λi k hk P N hP=>⟨rfl,rfl,iJ ?_⟩) ?_
 ·walk_at "vc";exact⟨rfl,hP⟩
 walk_at "vc";refine kk _ _ ?_;clear kk R;refine aD (bD (i:=9) bK.nd rfl (abW rfl) (eB (ae (ah 3) (ae (ah 4) (ae (ah 5) au))))) (λR kk=>?_);walk_at "vc";refine kk _ _ ?_;clear kk R;refine aD (bD (i:=10) bK.nd rfl (aar rfl) (Hn au)) (λR kk=>?_);walk_at "vc";refine kk _ _ ?_;clear kk R;refine aD (yg abr rfl (dF rfl dm (ae (dN ar (bC (cv (ah 2) ar) ar)) au)) (mx (i:=11) bK.nd rfl (aar rfl)) (cY (uA (nz (ah 10) (ae (bc (ae aT (ae (cB (js:=[true,false,false,false]) bA bP bO (hr.mono (by decide)) rfl (ae (ah 1) (ae (ah 7) (ae (ah 9) (ae ar au))))) au))) au)))
   (cY (uA (nz (ah 10) (ae (bc (ae aT (ae (dN aT (ko aT (ah 11) (λ_ _=>rfl))) (ae (ah 6) (ae (cB (js:=[true,false,false,false]) bA bP bO (hr.mono (by decide)) rfl (ae (ah 1) (ae (ah 7) (ae (ah 9) (ae ar au))))) au))))) au)))
   (cY (bD (i:=7) bK.nd rfl (abW rfl) (dN (ah 7) (eB (ae (bE (n:=1) (ko (ah 10) (yc ar) (λ_ _=>rfl))) au))))
   (cY (ij nC (i:=12) bK.nd rfl (aar rfl) 1 ["_law_f","_law_source_here","_law_names","_law_world"] [1,7,9] ⟨rfl,rfl,rfl,rfl,rfl,rfl,rfl,rfl⟩ (nA (dF rfl dm (ae (ah 4) au))) (λ_ _ _ _=>(bf (i:=0) (show List.Nodup (["_law_f","_law_source_here","_law_names","_law_world"]:List Str)by decide +kernel) rfl (aar rfl))) (kY (i:=0)) (px (by decide)) (λ_ _ _ _=>⟨gp,(cB (js:=[true,false,false,false]) bA bP bO (hr.mono (by decide)) rfl (ae (ah 1) (ae (ah 2) (ae (ah 3) (ae ar au)))))⟩))
   (bU (uA (nz (ah 10) (ae (bc (ae aT (ae ar (ae (bC (cv (ah 2) ar) (ah 4)) (ae (bc (ae aT (ae ar (ae (ah 12) au)))) (ae (cB (js:=[true,false,false,false]) bA bP bO (hr.mono (by decide)) rfl (ae (ah 1) (ae (ah 7) (ae (ah 9) (ae ar au))))) au)))))) au))))))))) (λR kk=>?_)
 walk_at "vc";obtain⟨mb,emb,hmb⟩:=nK (cl / 1440) (m:=3) (n:=3) rfl (by decide);rw[emb,show(1 + (mb:Int)).toNat=mb + 1 by omega];refine⟨⟨by decide,by decide⟩,by decide,⟨by omega,by omega⟩,?_⟩;refine uz (X2 ns cl ec one tw m0 na nb) ⟨[],iA na nb (m0 + 1),MP,_,_,by unfold iA;rw[List.map_map];rfl,rfl,.nil,rfl,by unfold iA;simp,by unfold iA;simp,X8,Er hna hnb (by omega)⟩ (λ_ _ _ _=>trivial) ?_ ?_
 ·rintro i env st d hd ⟨sts,nsi,src,w6,Qs,rfl,rfl,hW,hl,rK,hnl,hs,hly⟩;obtain⟨hi,rfl⟩:=zW hd;rw[show(0:Int) + (i:Int)=(i:Int)by omega];refine pO (λR1 k1=>?_);walk_at "vs";refine⟨rfl,by simp,by simp,rfl,src,nsi,ec,one,tw,4,rfl,rfl,hs,rK,by omega,QD,QE,by omega,by omega,by omega,λe1 BB Yb zx=>⟨rfl,rfl,by rw[List.length_map];omega,k1 _ _ ?_⟩⟩;clear k1 R1;refine pO (λR1 k1=>?_);walk_at "vs";refine⟨rfl,by decide,_,Ig i (by omega),by show 3 + 1<=_;decide,by simp,by simp,rfl,BB,nsi,ec,one,tw,3,rfl,rfl,zx,rK,by omega,QD,QE,by omega,by omega,by omega,λe2 iD Yc Yd=>⟨rfl,rfl,?_,k1 _ _ ?_⟩⟩
  ·rw[aay,aaf];show sts.length + 1 < _;omega
  clear k1 R1;refine pO (λR1 k1=>?_);walk_at "vs";refine⟨_,vJ _ _,by rw[List.length_map];omega,k1 _ _ ?_⟩;clear k1 R1;rw[show Str.ofString "let"++(⟨#[97 + i]⟩:Str)=w4 i from rfl,show nsi.map PyData.str++[PyData.str (w4 i)]=(nsi++[w4 i]).map PyData.str by rw[List.map_append];rfl];refine pO (λR1 k1=>?_);walk_at "vs";refine⟨⟨by omega,by omega⟩,ER (ns:=nsi++[w4 i]) (dd:=2) (by simp) (by rw[List.length_append,List.length_singleton];omega) QD QE (by omega) (by omega) rfl (by omega) Yd λes TR hle hwe Ye=>k1 _ _ ?_⟩;clear k1 R1;rw[Int.toNat_natCast]at hle;walk_at "vs";obtain⟨f,ef,hf⟩:=nK (cl / 1440) (m:=(one:Int)) (n:=one) rfl (by omega);rw[ef];refine⟨rfl,⟨by decide,by decide⟩,by omega,by simp,by simp,rfl,TR,nsi++[w4 i],ec,one,tw,2,rfl,rfl,Ye,by simp,by rw[List.length_append,List.length_singleton];omega,QD,QE,by omega,by omega,by omega,λe3 MU Yg TU=>⟨rfl,rfl,?_,sts++[.say e1,.lt (w4 i) e2,.put f (br.of es) e3],nsi++[w4 i],MU,_,_,rfl,?_,hW.app (.say (Ex.wX Yb (by omega)) (.lt (Ex.wX Yc (by omega)) (.put (yD es λx hx=>Ex.wX (hwe x hx) (by omega)) (by rw[qS];omega) (by rw[qS];omega) (Ex.wX Yg (by omega)) .nil))),?_,by simp,?_,TU,Ij hly (Ep i (by omega))⟩⟩
  ·simp only[List.length_append,List.length_map,List.length_cons,List.length_nil];omega
  ·rw[List.map_append,List.append_assoc,List.append_assoc];simp only[List.map_cons,List.map_nil,Sm.D,MC];rfl
  ·rw[aay];show sts.length + 3=_;omega
  ·rw[aay,acE];omega
 ·rintro env st ⟨sts,nsi,src,w6,Qs,rfl,rfl,hW,hl,rK,hnl,hs,hly⟩;refine kk _ _ ?_;clear kk R;refine aD (bD (i:=13) bK.nd rfl (Or.inl rfl) (bc (ae (ah 8) (ae (ah 6) (ae (ah 10) (ae (cB (js:=[true,false,false,false]) bA bP bO (hr.mono (by decide)) rfl (ae (ah 1) (ae (ah 7) (ae (ah 9) (ae ar au))))) au)))))) (λR kk=>?_);walk_at "vc";rw[iu]at hl hnl;refine⟨by simp,by simp,rfl,src,nsi,ec,one,tw,4,rfl,rfl,hs,rK,by omega,QD,QE,by omega,by omega,by omega,λan MU han TU=>⟨rfl,rfl,kk _ _ ?_⟩⟩;clear kk R;refine aD (bD (i:=14) bK.nd rfl (Or.inl rfl) (eB (ae (bc (ae aT (ae (ah 6) au))) (ae (bc (ae aT (ae (ah 6) au))) au)))) (λR kk=>?_);walk_at "vc";refine kk _ _ ?_;clear kk R;refine aD (bD (i:=15) bK.nd rfl (Or.inl rfl) (eB (ae (bc (ae aT (ae (bc (ae aT (ae aT au))) au))) (ae (bc (ae aT (ae (bc (ae aT (ae aT au))) au))) au)))) (λR kk=>?_);walk_at "vc";refine kk _ _ ?_;clear kk R;refine aD (bD (i:=14) bK.nd rfl (Or.inl rfl) (bc (ae (ah 14) (ae (ah 6) (ae (ah 15) (ae (bc (ae aT (ae (bc (ae aT (ae aT au))) (ae (bc (ae aT (ae aT au))) au)))) au)))))) (λR kk=>?_);walk_at "vc";refine kk _ _ ?_;clear kk R;refine aD (bD (i:=16) bK.nd rfl (Or.inl rfl) (eB (ae (bc (ae LN (ae (eB au) au))) (ae (bc (ae ar (ae (wy 1 ["_law_k","_law_number"] [6] ⟨rfl,rfl,rfl,rfl,rfl,rfl,rfl,rfl⟩ (dF rfl dm (ae (ah 4) au)) (λ_ _ _ _=>(bf (i:=0) (show List.Nodup (["_law_k","_law_number"]:List Str)by decide +kernel) rfl (Or.inl rfl))) (kY (i:=0)) (px (by decide)) (λ_ _ _ _=>⟨gp,(ah 1)⟩)) au))) (ae (bc (ae ar (ae (wy 1 ["_law_k","_law_number"] [6] ⟨rfl,rfl,rfl,rfl,rfl,rfl,rfl,rfl⟩ (dF rfl dm (ae (ah 5) au)) (λ_ _ _ _=>(bf (i:=0) (show List.Nodup (["_law_k","_law_number"]:List Str)by decide +kernel) rfl (Or.inl rfl))) (kY (i:=0)) (px (by decide)) (λ_ _ _ _=>⟨gp,(ah 1)⟩)) au))) au))))) (λR kk=>?_);walk_at "vc";refine⟨⟨by omega,by omega⟩,?_⟩;refine tE (env:=[none,some (.dat (.tuple [.str "number"]))]) (List.range one) (λk=>.int (0 + (k:Int))) (λ_=>.tuple [.str "number"]) rfl (by rw[List.length_range];omega) (λi k hk P N hP=>⟨rfl,rfl,iJ ⟨rfl,hP⟩⟩) ?_;walk_at "vc";refine⟨⟨by omega,by omega⟩,?_⟩;refine tE (env:=[none,some (.dat (.tuple [.str "number"]))]) (List.range tw) (λk=>.int (0 + (k:Int))) (λ_=>.tuple [.str "number"]) rfl (by rw[List.length_range];omega) (λi k hk P N hP=>⟨rfl,rfl,iJ ⟨rfl,hP⟩⟩) ?_;walk_at "vc";refine kk _ _ ?_;clear kk R;generalize PyData.list [.tuple [.none,.list []],.tuple [.int 0,.list ((List.range one).map λ_=>.tuple [.str "number"])],.tuple [.int 1,.list ((List.range tw).map λ_=>.tuple [.str "number"])]]=msD;refine aD (bD (i:=17) bK.nd rfl (Or.inl rfl) (ko (eB (ae (eB (ae (ah 14) (ae (ah 13) au))) (ae (eB (ae (ah 13) (ae (ah 14) au))) au))) (ah 3) (λ_ _=>rfl))) (λR kk=>?_);walk_at "vc";rw[Ii (nsi:=nsi)];refine⟨_,MK hec _,kk _ _ ?_⟩;clear kk R;generalize hDr:cZ ec (iA na nb (m0 + 1)) sts an nsi=Dr;refine aD (ij nC (i:=18) bK.nd rfl (Or.inl rfl) 1 ["_law_take","_law_source_here"] [1] ⟨rfl,rfl,rfl,rfl,rfl,rfl,rfl,rfl⟩ (nA (ny (ah 8))) (λ_ _ _ _=>(bf (i:=0) (show List.Nodup (["_law_take","_law_source_here"]:List Str)by decide +kernel) rfl (Or.inl rfl))) (kY (i:=0)) (px (by decide)) (λ_ _ _ _=>⟨gp,(mw kJ oY oX (hr.mono (by decide)) rfl (ae (cB (js:=[true,false]) fW iU iT (hr.mono (by decide)) rfl (ae (ah 1) (ae (yb ar ar) au))) au))⟩)) (λR kk=>?_);walk_at "vc";show RJ _ _ _ _ _ _ [none,some (.ref 0)] _ _;refine⟨by rw[List.length_map,List.length_map,List.length_range];omega,X3 (sts.map (Sm.D ec)),⟨[],MU,rfl,(λ_ h=>nomatch h),rfl,rfl,TU⟩,λ_ _ _ _=>trivial,?_,?_⟩
  ·rintro i ys st d ⟨ks,src,h1,h2,rfl,rfl,hs⟩ hd;walk_at "vc";refine iJ ⟨⟨by decide,by decide,by decide⟩,by simp,by simp,rfl,src,_,rfl,rfl,hs,by decide,λr0 BB a0 b0 zx=>⟨rfl,rfl,?_⟩⟩;walk_at "vc";refine⟨_,rfl,λk hk=>⟨ks++[k],BB,by rw[List.length_append,h1];rfl,λx hx=>?_,by rw[List.map_append];rfl,rfl,zx⟩⟩;rcases List.mem_append.mp hx with z | z
   ·exact h2 x z
   ·rw[pT z];exact hk
  ·rintro ys st ⟨ks,Yh,h1,h2,rfl,rfl,ZH⟩;refine⟨ks.map PyData.int,by rw[aa7];rfl,?_⟩;refine kk _ _ ?_;clear kk R;refine aD (bD (i:=19) bK.nd rfl (aar rfl) (ko (eB (ae (bC (cv (ah 2) ar) ar) (ae ar au))) (bC (cv (ah 2) ar) ar) (λ_ _=>rfl))) (λR kk=>?_);walk_at "vc";obtain⟨d,hd,ed⟩:=uF (xs:=[PyData.int (cl / 4320 % 13),PyData.int 10000]) (n:=2) rfl (by decide) (cl / 56160)
   obtain⟨bud,rfl,TV,TX⟩:∃bud:Int,d=.int bud/\0<=bud/\bud<=10000:=by
    simp only[List.mem_cons,List.not_mem_nil,or_false]at hd;rcases hd with rfl | rfl
    ·exact⟨_,rfl,by omega,by omega⟩
    ·exact⟨_,rfl,by decide,by decide⟩
   refine⟨⟨by decide,by decide⟩,by decide,⟨by decide,by decide⟩,by decide,_,ed,kk _ _ ?_⟩;clear kk R;have hkl:ks.length=(iA na nb (m0 + 1)).length:=by rw[h1];unfold iA;simp
   refine HU (qK (cy (i:=20) bK.nd rfl (aar rfl) (cI y6 (hr.mono (by decide)) rfl (pK (pv 13) (pK (pv 18) (pK (pv 19) pN)))))
   (qK (cy (i:=21) bK.nd rfl (aar rfl) (ip (pK (jh gU rfl gH mi (pK (pv 18) pN)) (pK (jh gU rfl gH mi (pK (pv 10) pN)) (pK (jh gU rfl gH mi (pK (pv 8) pN)) pN)))))
   (qK (cy (i:=22) bK.nd rfl (aar rfl) (cI oZ (hr.mono (by decide)) rfl (pK (gf (pK (pv 16) (pK (pv 17) pN))) (pK (cz ik pI (pv 3)) (pK (pv 18) (pK (pv 19) pN))))))
   (qK (bg (xu (xt (cI mR (hr.mono (by decide)) rfl (pK (pv 22) (pK (pv 20) pN))))) (qO (aL Cr)) aM)
   (qK (gQ (sC aaR abi abj ib (aI aH (pv 22) pI (λ_ _=>rfl)) (pK pI pN)))
   (qK (bg (xu (xt (cI mR (hr.mono (by decide)) rfl (pK (cI oZ (hr.mono (by decide)) rfl (pK (gf (pK (pv 16) (pK (pv 17) pN))) (pK (cz ik pI (pv 3)) (pK (pv 18) (pK (pv 19) pN))))) (pK (pv 20) pN))))) (qO (aL Cr)) aM)
   (qO (aL (jE (ua (hr.units)) (pv 21) (ip (pK (pv 18) (pK (pv 10) (pK (pv 8) pN)))) (aF _)))))))))) (λH0 A0 G al H1 σ D I En k=>?_)
   have len:=En.1;obtain⟨v3,g3,r3⟩:=En.2 3 _ rfl;obtain⟨v8,g8,r8⟩:=En.2 8 _ rfl;obtain⟨v10,V8,OC,Ru,hal,rfl⟩:=En.2 10 _ rfl;obtain⟨KC,V9,Wa⟩:=En.2 13 _ rfl;obtain⟨Ey,Wb,Wc⟩:=En.2 16 _ rfl;obtain⟨Ez,Wd,We⟩:=En.2 17 _ rfl;obtain⟨OA,Wg,Wh⟩:=En.2 18 _ rfl;obtain⟨Qt,Wi,Wj⟩:=En.2 19 _ rfl;have e3:=aR.ba r3;have Yi:=aR.ba Wj;subst e3 Yi;have Mb:aQ K H1 v8 (.list ((List.range (m0 + 1)).map λk=>.tuple [.str (B5 na nb k),.tuple [.str "number"]])):=aR.now r8;have TY:aQ K H1 KC (vB Dr):=aR.now Wa;have QF:aQ K H1 Ey msD:=aR.now Wc;have QG:aQ K H1 Ez (.list ((BA ec Dr).map vB)):=aR.now We;have QH:aQ K H1 OA (.list (aK ks)):=aR.now Wh;obtain⟨a10',TZ,QI⟩:=I.cel 1 _ _ hal rfl;cases TZ;have QJ:aQ K H1 (.ref OC) (.list (sts.map (Sm.D ec))):=aR.now QI;obtain⟨a10',QK,Yj,Ua,KG⟩:=aQ.cn QJ;cases Yj;obtain⟨KH,Yk,rfl,MV,Ub⟩:=aQ.cn QH;have ex:=Aq Ub;subst ex;obtain⟨a8,Wk,rfl,Yl,Wl⟩:=aQ.cn Mb;have sg:Sg σ (.int (ec:Int)) (.ref a8) (.ref OC) KC Ey Ez (.ref KH) (.int bud):=⟨len,g3,g8,V8,V9,Wb,Wd,Wg,Wi⟩;clear hal QI r3 r8 Wa Wc We Wh Wj len g3 g8 V8 V9 Wb Wd Wg Wi;have nd:=yG (m:=m0 + 1) hna hnb (by omega);have l5:(iA na nb (m0 + 1)).length<=5:=by unfold iA;simp;omega
   have MW:sts.length<=20:=by omega
   have l9:nsi.length<=900:=by omega
   have Uc:=Ex.wX han (show 4<=6 by decide);subst hDr;have hshb:=hW.sh (p:=ec) hly;have sd:=yI hW Uc hkl h2 TV TX MW;obtain⟨v',ev⟩:=Qr (yH hec _).1 (yH hec (cZ ec (iA na nb (m0 + 1)) sts an nsi)).2 hW Uc hkl h2 TV TX MW;have hwf:=MM (ec:=ec) (an:=an) hW nd l5 l9;have hdk:ks.length=(cZ ec (iA na nb (m0 + 1)) sts an nsi).tk.length:=by unfold cZ;rw[List.length_map];exact hkl
   refine⟨_,sg.V2,_,sg.Ao,_,sg.RP,KC,KH,bud,ec,iA na nb (m0 + 1),nsi,sts,an,ks,rfl,TY,MV,hkl,h2,nd,l5,MW,hW,Uc,TV,TX,λt u l H4 QL nl gt gu gl=>?_⟩;have hj:=(yH hec (cZ ec (iA na nb (m0 + 1)) sts an nsi)).2;have hnum:=EO (ec:=ec) (ns:=iA na nb (m0 + 1)) (ns':=nsi) (sts:=sts) (an:=an);generalize whole sts an (w0 (iA na nb (m0 + 1)) ks) ⟨[],bud⟩=R at sd ev gt gu gl;rw[An]at gu;have QM:=Ap gt gu gl;clear gt gu gl nl;generalize cZ ec (iA na nb (m0 + 1)) sts an nsi=Dr at *;have QN:=sg.set (j:=20) (by decide) (some (.ref t));have RT:(σ.set 20 (some (.ref t)))[20]?=some (some (.ref t)):=EA (by rw[sg.len];decide);refine⟨_,QN.Ao,KH,_,rfl,.inl (QL.seq MV),λk1 B6=>?_⟩;have OD:=aC B6 (.lst (ks.map V.int));have z1:=uS (H:=H4) (a:=k1) (o:=.lst (ks.map V.int));generalize upd H4 k1 _=H5 at OD z1 ⊢;refine⟨_,QN.Ly,OC,_,rfl,.inl ((QL.trans OD).seq Ua),λk2 MN=>?_⟩;have OE:=aC MN (.lst QK);have z2:=uS (H:=H5) (a:=k2) (o:=.lst QK);generalize upd H5 k2 _=H6 at OE z2 ⊢;refine⟨_,QN.s8,a8,_,rfl,.inl ((QL.trans (OD.trans OE)).seq Yl),λk3 Qz=>?_⟩;have OG:=aC Qz (.lst Wk);have z3:=uS (H:=H6) (a:=k3) (o:=.lst Wk);generalize upd H6 k3 _=H7 at OG z3 ⊢;refine⟨OM,λk4 MO=>?_⟩;have MX:=aC MO (.lst [.ref k1,.ref k2,.ref k3]);have z4:=uS (H:=H7) (a:=k4) (o:=.lst [.ref k1,.ref k2,.ref k3]);generalize upd H7 k4 _=H8 at MX z4 ⊢;have Ao:=QL.trans (OD.trans (OE.trans (OG.trans MX)));have QO:aQ K H8 (.ref k4) (.list [.list (aK ks),.list (sts.map (Sm.D ec)),.list ((List.range (m0 + 1)).map λk=>.tuple [.str (B5 na nb k),.tuple [.str "number"]])]):=aQ.AQ (bu.of z4) (.cons (aQ.AQ (bu.of ((OE.trans (OG.trans MX)) _ _ z1)) (qT ks)) (.cons (aQ.AQ (bu.of ((OG.trans MX) _ _ z2)) ⟨KG.1,λi x d hx hd=>aQ.same Ao (KG.2 i x d hx hd)⟩) (.cons (aQ.AQ (bu.of (MX _ _ z3)) ⟨Wl.1,λi x d hx hd=>aQ.same Ao (Wl.2 i x d hx hd)⟩) .nil)));have QP:=aQ.same (OD.trans (OE.trans (OG.trans MX))) QM;clear QM z1 z2 z3 z4 QL OD OE OG MX B6 MN Qz MO;have MY:=QN.set (j:=21) (by decide) (some (.ref k4));have RU:((σ.set 20 (some (.ref t))).set 21 (some (.ref k4)))[21]?=some (some (.ref k4)):=EA (by rw[QN.len];decide);have f20':((σ.set 20 (some (.ref t))).set 21 (some (.ref k4)))[20]?=some (some (.ref t)):=kD RT (by decide);have e1:(1:Int) - (ec:Int)=((1 - ec:Nat):Int):=by omega
   have pl:∀(Hx:Hp) (bx:Addr) (Qx:VK),aS H1 Hx->aQ K Hx (.ref bx) (Kx msD (BA ec Dr))->(∀(t u l:Addr) (H':Hp),aS Hx H'->Hx l=none->H' l=some (.lst (R.2.said.map V.int))->aQ K H' (.ref t) (.tuple [.tuple (.str (Et R.1)::aK (Eu R.1)),.list (aK R.2.said),.int R.2.left])->bV K H' t [.ref u,.ref l,.int R.2.left]->Qx (.ref t) H')->g7 K [.ref bx,.int ((1:Int) - (ec:Int)),.ref KH,.int bud] Hx Qx E0:=by
    intro Hx bx Qx sx rx qx;refine⟨bx,KH,1 - ec,bud,msD,BA ec Dr,Dr,ks,[],R.2.st v',R.1.res,Ek R.1,by rw[e1],rx,hwf,sx.seq MV,hj,hnum,hdk,ev,Ik _,λt u l H' s nl g1 g2 g3=>?_⟩;rw[An]at g2;exact qx t u l H' s nl g3 (Ap g1 g2 g3) g1
   have fk:=(Ew R.1).1;have fc:=(Ew R.1).2
   have alk:∀(Hx:Hp) (tx ux:V) (Qx:VK),aQ K Hx tx (.tuple [.tuple (.str (Et R.1)::aK (Eu R.1)),.list (aK R.2.said),.int R.2.left])->aQ K Hx ux (.tuple [.tuple (.str (Et R.1)::aK (Eu R.1)),.list (aK R.2.said),.int R.2.left])->(∀H',aS Hx H'->Qx (.bl true) H')->gZ K [tx,ux] Hx Qx E0:=λHx tx ux Qx r1 r2 qx =>
    ⟨λ_=>False,_,(λ_ z=>z.elim),.cons (qy r1) (.cons (qy r2) .nil),_,_,_,_,rfl,fk,sd,fc,λv H' s r=>by rw[aR.qu r];exact qx H' s⟩
   refine⟨_,MY.FV,_,MY.Tz,FL,λb hb=>?_⟩;have MZ:=aC hb (.tup [Ey,Ez]);have rp:aQ K _ (.ref b) (Kx msD (BA ec Dr)):=aQ.CZ (bV.of (uS (H:=H8) (a:=b) (o:=.tup [Ey,Ez]))) (.cons (aQ.same (Ao.trans MZ) QF) (.cons (aQ.same (Ao.trans MZ) QG) .nil));generalize upd H8 b _=H9 at MZ rp ⊢;refine⟨_,MY.s3,_,_,rfl,rfl,_,MY.Ao,_,MY.RP,?_⟩;dsimp only[mf,List.cons_append,List.nil_append];refine pl _ _ _ (Ao.trans MZ) rp λt2 u2 l2 Rt M0 Wm QC rt Wn=>?_
   have KI:=MY.set (j:=22) (by decide) (some (.ref t2));have QQ:(((σ.set 20 (some (.ref t))).set 21 (some (.ref k4))).set 22 (some (.ref t2)))[22]?=some (some (.ref t2)):=EA (by rw[MY.len];decide);have f21':(((σ.set 20 (some (.ref t))).set 21 (some (.ref k4))).set 22 (some (.ref t2)))[21]?=some (some (.ref k4)):=kD RU (by decide);have f20'':(((σ.set 20 (some (.ref t))).set 21 (some (.ref k4))).set 22 (some (.ref t2)))[20]?=some (some (.ref t)):=kD f20' (by decide);refine⟨_,QQ,_,f20'',?_⟩;dsimp only[mf,List.cons_append,List.nil_append];refine alk _ _ _ _ rt (aQ.same (MZ.trans M0) QP) λRv xk=>⟨_,rfl,cM ?_⟩
   dsimp only[pX];refine⟨_,QQ,t2,_,_,_,rfl,rfl,xk.tup Wn,aN (j:=1) rfl,.inl ⟨rfl,_,bu.of (xk _ _ QC)⟩,l2,_,_,rfl,rfl,xk _ _ QC,(by rw[List.length_map];exact Nat.lt_of_le_of_lt sd (by decide)),?_⟩;have QR:aS H9 (upd Rv l2 (.lst (R.2.said.map V.int++[.int 7]))):=λc o e=>(uN (nN e Wm)).trans (xk _ _ (M0 _ _ e))
   have M1:=MZ.trans QR;generalize upd Rv l2 _=Wo at M1 ⊢;have Ud:=Ao.trans M1;clear QR xk Wn rt QC Wm M0 rp MZ hb;refine⟨_,KI.FV,_,KI.Tz,FL,λb hb=>?_⟩;have xl:=aC hb (.tup [Ey,Ez]);have rp:aQ K _ (.ref b) (Kx msD (BA ec Dr)):=aQ.CZ (bV.of (uS (H:=Wo) (a:=b) (o:=.tup [Ey,Ez]))) (.cons (aQ.same (Ud.trans xl) QF) (.cons (aQ.same (Ud.trans xl) QG) .nil));generalize upd Wo b _=ZI at xl rp ⊢;refine⟨_,KI.s3,_,_,rfl,rfl,_,KI.Ao,_,KI.RP,?_⟩;dsimp only[mf,List.cons_append,List.nil_append];refine pl _ _ _ (Ud.trans xl) rp λt3 u3 l3 ZJ QS ZK ZL Ym ZM=>?_
   refine⟨_,f20'',?_⟩;dsimp only[mf,List.cons_append,List.nil_append];have QT:=M1.trans (xl.trans QS);refine alk _ _ _ _ Ym (aQ.same QT QP) λZN QU=>⟨_,rfl,cM ?_⟩
   dsimp only[pX];have QV:=QT.trans QU;have QW:=Ao.trans QV;refine⟨_,f21',_,KI.Ao,_,KI.Ly,_,KI.s8,OM,λn1 J8=>?_⟩;have FV:=aC J8 (.lst [.ref KH,.ref OC,.ref a8]);have sh:Sh 24 (.list [.list (aK ks),.list (sts.map (Sm.D ec)),.list ((List.range (m0 + 1)).map λk=>.tuple [.str (B5 na nb k),.tuple [.str "number"]])]):=iR (aA ((iR (n:=0) (uG λ_ _=>gq)).up (show 1<=23 by decide)) (aA (iR (n:=22) hshb) (aA ((iR (n:=2) (uG λi hi=>dP (aA (dE (Am na hna nb hnb i (by have:=List.mem_range.mp hi;omega))) (aA (dP (n:=0) (aA (dE (by decide +kernel)) cO)) cO)))).up (show 3<=23 by decide)) cO)));refine⟨_,_,aQ.same (QV.trans FV) QO,aQ.AQ (bu.of uS) (.cons (aQ.same (QW.trans FV) QH) (.cons (aQ.same (QW.trans FV) QJ) (.cons (aQ.same (QW.trans FV) Mb) .nil))),sh.ok,sh.ok,?_⟩;rw[sh.self];exact k.rt (.dat (.bool true)) _ _ (.bl true) _ (.same (QW.trans FV)) (I.same (QW.trans FV)) (.d (.bl true)) q
end
def kb(K:aJ)(n:Str)(s:Stmt):Prop:=∃f fd,PySem.W.nsIn K mainGlobals n=some (some (.ref f))/\jj K n n s f fd
def pG(K:aJ)(f:Addr)(n q:Str)(s:Stmt):Prop:=(∃fd,jj K n q s f fd)/\PySem.W.isFn K (.ref f)=true
theorem all_mk{l:PySem.W.OpenLaw}{w:World}{K:aJ}{h:Heap}{mg:Str->Option Value}{fa Wq Wr Ws RT RU QQ Wt Wu Wv Ww Wx Wy Ue:Addr}(X:K.In h)(G:h.Ns mainGlobals mg)(hfa:mg "law"=some (.ref fa))
  {Ug QX:Option Addr} {Uh:Array (Option Value)} {Ui QY QZ Q0 M3 Q2:Value}
  {aB bh bR bS bp:Addr}
  {iV vf fO jT vg:Tok}
  {ai:Addr} (oh:PySem.W.nsIn K mainGlobals "Record"=some (some (.ref ai)))
  (oi:PySem.W.plainGet K ai Str.empty=true)
  (oj:PySem.W.hasDictIn K ai=true)
  (om:PySem.W.plainOver K ai=true)
  (oo:PySem.W.findIn K (.ref ai) "__setattr__"=some (some (.builtin "object.__setattr__")))
  (oq:PySem.W.makesIn K ai=true)
  (ou:PySem.W.keepIn K (.ref ai)=true)
  (iH:PySem.W.findIn K (.ref ai) "make"=some none)
  (fH:PySem.W.findIn K (.ref ai) "fields"=some none)
  (eG:PySem.W.findIn K (.ref ai) "__init__"=some (some (.ref RU)))
  {aj:Addr} (vk:PySem.W.nsIn K mainGlobals "Call"=some (some (.ref aj)))
  (vm:PySem.W.plainGet K aj Str.empty=true)
  (vn:PySem.W.hasDictIn K aj=true)
  (vp:PySem.W.plainOver K aj=true)
  (vq:PySem.W.findIn K (.ref aj) "__setattr__"=some (some (.builtin "object.__setattr__")))
  (vt:PySem.W.makesIn K aj=true)
  (vv:PySem.W.keepIn K (.ref aj)=true)
  (ja:PySem.W.findIn K (.ref aj) "depth"=some none)
  (jb:PySem.W.findIn K (.ref aj) "known"=some none)
  (fJ:PySem.W.findIn K (.ref aj) "__init__"=some (some (.ref Wv)))
  {aq:Addr} (lS:PySem.W.nsIn K mainGlobals "Reading"=some (some (.ref aq)))
  (lT:PySem.W.plainGet K aq Str.empty=true)
  (lU:PySem.W.hasDictIn K aq=true)
  (lV:PySem.W.plainOver K aq=true)
  (lW:PySem.W.findIn K (.ref aq) "__setattr__"=some (some (.builtin "object.__setattr__")))
  (lX:PySem.W.makesIn K aq=true)
  (lZ:PySem.W.keepIn K (.ref aq)=true)
  (eI:PySem.W.findIn K (.ref aq) "program"=some none)
  (gI:PySem.W.findIn K (.ref aq) "said"=some none)
  (gJ:PySem.W.findIn K (.ref aq) "left"=some none)
  (fK:PySem.W.findIn K (.ref aq) "spend"=some (some (.ref Wq)))
  (cb:PySem.W.findIn K (.ref aq) "values_of"=some (some (.ref Wr)))
  (bB:PySem.W.findIn K (.ref aq) "value_of_call"=some (some (.ref Ws)))
  (bH:PySem.W.findIn K (.ref aq) "value_of_two"=some (some (.ref RT)))
  (cw:PySem.W.findIn K (.ref aq) "value_of"=some (some (.ref QQ)))
  (bI:PySem.W.findIn K (.ref aq) "do_statement"=some (some (.ref Wt)))
  (dq:PySem.W.findIn K (.ref aq) "do_all"=some (some (.ref Wu)))
  (dH:PySem.W.findIn K (.ref aq) "given"=some (some (.ref Ww)))
  (ft:PySem.W.findIn K (.ref aq) "end_at"=some (some (.ref Wx)))
  (dU:PySem.W.findIn K (.ref aq) "__init__"=some (some (.ref Wy)))
  (d0:kb K "_law_whole" kq)
  (d1:kb K "_law_alike" kr)
  (d2:kb K "_law_wrapped" i4)
  (d3:kb K "_law_reckoned" iy)
  (d4:kb K "_law_value" ku)
  (d5:kb K "_law_due" nF)
  (d6:kb K "_law_next" lI)
  (d7:kb K "_law_word" lJ)
  (d8:kb K "_law_grown" ky)
  (d9:kb K "_law_source" jJ)
  (Uj:kb K "is_door" nG)
  (Uk:kb K "check_door" jK)
  (Ul:kb K "kinds_taken" i5)
  (Um:kb K "heads_of" lK)
  (Uo:pG K Wq "spend" "Reading.spend" gr)
  (Up:pG K Wr "values_of" "Reading.values_of" dQ)
  (Uq:pG K Ws "value_of_call" "Reading.value_of_call" cD)
  (Ur:kb K "wrapped" nI)
  (Us:kb K "divided" nJ)
  (Ut:kb K "reckoned" lL)
  (MW:pG K RT "value_of_two" "Reading.value_of_two" cQ)
  (Uu:pG K RU "__init__" "Record.__init__" eZ)
  (Uv:pG K QQ "value_of" "Reading.value_of" eD)
  (Uw:pG K Wt "do_statement" "Reading.do_statement" cR)
  (Ux:pG K Wu "do_all" "Reading.do_all" fE)
  (Uy:pG K Wv "__init__" "Call.__init__" gx)
  (Uz:pG K Ww "given" "Reading.given" gy)
  (UA:pG K Wx "end_at" "Reading.end_at" fF)
  (UB:pG K Wy "__init__" "Reading.__init__" eE)
  (UC:kb K "plain_run" kz)
  (UD:PySem.W.nsIn K mainGlobals "law"=some (some (.ref Ue))) (UE:K.lookup Ue=some ⟨Ui,Ug,.func (PySem.W.fnOf "law" "law" (dA mC) (dB mC) (dS mC) .none QY QZ Q0 QX M3 Q2),Uh⟩) (UG:PySem.W.codeIn K M3 "law"=true) (UH:PySem.W.keepIn K (.ref Ue)=true)
  (fX:PySem.W.nsIn K mainGlobals "BY_NOUGHT"=some (some (.int 1 iV)))
  (nX:PySem.W.nsIn K mainGlobals "HALF"=some (some (.int 2147483648 vf)))
  (dZ:PySem.W.nsIn K mainGlobals "MOST_FRAMES"=some (some (.int 12 fO)))
  (iE:PySem.W.nsIn K mainGlobals "TOO_DEEP"=some (some (.int 2 jT)))
  (rj:PySem.W.nsIn K mainGlobals "TURN"=some (some (.int 4294967296 vg)))
  (cU:PySem.W.nsIn K mainGlobals "Fault"=some (some (.ref aB)))
  (fi:PySem.W.ktsIn K aB "BaseException"=true)
  (oa:PySem.W.nsIn K mainGlobals "Gave"=some (some (.ref bh)))
  (rm:PySem.W.ktsIn K bh "BaseException"=true)
  (jt:PySem.W.nsIn K mainGlobals "NoDoor"=some (some (.ref bR)))
  (ju:PySem.W.excIn K bR (rB true) (vS true)=true)
  (mM:PySem.W.ktsIn K bR "BaseException"=true)
  (fq:PySem.W.nsIn K mainGlobals "Nought"=some (some (.ref bS)))
  (iF:PySem.W.excIn K bS (rB true) (vS true)=true)
  (iG:PySem.W.ktsIn K bS "BaseException"=true)
  (et:PySem.W.nsIn K mainGlobals "Weary"=some (some (.ref bp)))
  (hV:PySem.W.excIn K bp (rB false) (vS false)=true)
  (hZ:PySem.W.ktsIn K bp "BaseException"=true)
  {mS:Addr} {BH BI:Option Addr} {BJ:Array (Option Value)} {BK BL BM BN tM BO:Value}
  (ow:PySem.W.findIn K (.ref aB) "__init__"=some (some (.ref mS)))
  (oy:K.lookup mS=some ⟨BK,BH,.func (PySem.W.fnOf "__init__" "Fault.__init__" (dA kX) (dB kX) (dS kX) .none BL BM BN BI tM BO),BJ⟩)
  (oz:PySem.W.codeIn K tM "Fault.__init__"=true)
  (oA:PySem.W.keepIn K (.ref mS)=true)
  (oB:PySem.W.isFn K (.ref mS)=true)
  (oE:PySem.W.keepIn K (.ref aB)=true)
  (oF:PySem.W.findIn K (.ref aB) "__setattr__"=some (some (.builtin "object.__setattr__")))
  (oG:PySem.W.mroIn K aB (.type "object")=some true)
  (mT:qj K aB (rB false) (vS false)=true)
  (oH:PySem.W.findIn K (.ref aB) "number"=some none)
  (mI:IsT K "bool" (oS "bool"))
  (qZ:IsT K "int" HE)
  (mK:IsT K "list" (oS "list"))
  (kH:IsT K "tuple" (oS "tuple"))
  (EF:PySem.W.mroIn K bS (.ref bS)=some true)
  (kM:PySem.W.findIn K (.ref bh) "__getattribute__"=some (some (.builtin "BaseException.__getattribute__")))
  (kN:PySem.W.findIn K (.ref bh) "__getattr__"=some none)
  (kO:PySem.W.findIn K (.ref bh) "__class__"=some (some (.builtin "object.__class__")))
  (kP:PySem.W.mroIn K bh (.type "BaseException")=some true)
  (kQ:PySem.W.mroIn K bh (.type "object")=some true)
  (kR:PySem.W.hasDictIn K bh=true)
  (EG:PySem.W.mroIn K bh (.ref bh)=some true)
  (EH:PySem.W.mroIn K aB (.ref bh)=some false)
  (EI:PySem.W.mroIn K bp (.ref bh)=some false)
  (EJ:PySem.W.findIn K (.ref bh) "value"=some none)
  (jy:PySem.W.findIn K (.ref aB) "__getattribute__"=some (some (.builtin "BaseException.__getattribute__")))
  (jz:PySem.W.findIn K (.ref aB) "__getattr__"=some none)
  (jA:PySem.W.findIn K (.ref aB) "__class__"=some (some (.builtin "object.__class__")))
  (jB:PySem.W.mroIn K aB (.type "BaseException")=some true)
  (jC:PySem.W.mroIn K aB (.type "object")=some true)
  (jD:PySem.W.hasDictIn K aB=true)
  (EK:PySem.W.mroIn K aB (.ref aB)=some true)
  (EL:PySem.W.mroIn K bp (.ref aB)=some false)
  (EM:PySem.W.mroIn K bp (.ref bp)=some true)
  (EN:PySem.W.findIn K (.ref aB) "number"=some none)
  (xc:PySem.W.nsIn K mainGlobals "all"=some none)
  (qX:PySem.W.nsIn K mainGlobals "bool"=some none)
  (rl:PySem.W.nsIn K mainGlobals "dict"=some none)
  (kI:PySem.W.nsIn K mainGlobals "divmod"=some none)
  (qY:PySem.W.nsIn K mainGlobals "int"=some none)
  (bQ:PySem.W.nsIn K mainGlobals "isinstance"=some none)
  (jr:PySem.W.nsIn K mainGlobals "len"=some none)
  (gH:PySem.W.nsIn K mainGlobals "list"=some none)
  (dm:PySem.W.nsIn K mainGlobals "range"=some none)
  (mJ:PySem.W.nsIn K mainGlobals "tuple"=some none)
  (ra:PySem.W.nsIn K mainGlobals "zip"=some none)
  : ∃fd:FuncData,(∀(s:Shared) (v:Value),BindsTo s fd ⟨[v],[]⟩ [("_law_script",v)])/\∀base:Heap,K.In base->base.Ns mainGlobals mg->bJ l.prog w K mg base c6 66 fa fd ["_law_script"] (va K):=by
 have e:=hfa.symm.trans (aam X G UD);cases e;obtain⟨f0,ZO,a0,F0⟩:=d0;have k0:=F0.kp;have b0:=F0.binds (ps:=["_law_found"]) λ_ _ _ _ _ _=>FR (λ_=>by rfl)
 obtain⟨f1,ZP,a1,F1⟩:=d1;have k1:=F1.kp;have b1:=F1.binds (ps:=["_law_found","_law_due_here"]) λ_ _ _ _ _ _=>ln2 (λ_ _=>by rfl)
 obtain⟨f2,ZQ,a2,F2⟩:=d2;have k2:=F2.kp;have b2:=F2.binds (ps:=["_law_number"]) λ_ _ _ _ _ _=>FR (λ_=>by rfl)
 obtain⟨f3,ZR,a3,F3⟩:=d3;have k3:=F3.kp;have b3:=F3.binds (ps:=["_law_sign","_law_one","_law_two","_law_state"]) λ_ _ _ _ _ _=>Ox (λ_ _ _ _=>by rfl)
 obtain⟨f4,ZS,a4,F4⟩:=d4;have k4:=F4.kp;have b4:=F4.binds (ps:=["_law_e","_law_names","_law_state"]) λ_ _ _ _ _ _=>wL (λ_ _ _=>by rfl)
 obtain⟨f5,ZT,a5,F5⟩:=d5;have k5:=F5.kp;have b5:=F5.binds (ps:=["_law_part","_law_inputs","_law_budget"]) λ_ _ _ _ _ _=>wL (λ_ _ _=>by rfl)
 obtain⟨f6,ZU,a6,F6⟩:=d6;have k6:=F6.kp;have b6:=F6.binds (ps:=["_law_source_here","_law_many"]) λ_ _ _ _ _ _=>ln2 (λ_ _=>by rfl)
 obtain⟨f7,ZV,a7,F7⟩:=d7;have k7:=F7.kp;have b7:=F7.binds (ps:=["_law_cell"]) λ_ _ _ _ _ _=>FR (λ_=>by rfl)
 obtain⟨f8,ZW,a8,F8⟩:=d8;have k8:=F8.kp;have b8:=F8.binds (ps:=["_law_source_here","_law_names","_law_world","_law_deep"]) λ_ _ _ _ _ _=>Ox (λ_ _ _ _=>by rfl)
 obtain⟨f9,ZX,a9,F9⟩:=d9;have k9:=F9.kp;have b9:=F9.binds (ps:=["_law_script"]) λ_ _ _ _ _ _=>FR (λ_=>by rfl)
 obtain⟨ZY,Yn,OC,UI⟩:=Uj;have Yo:=UI.kp;have Yp:=UI.binds (ps:=["takes","gives"]) λ_ _ _ _ _ _=>ln2 (λ_ _=>by rfl)
 obtain⟨ZZ,Yq,Yr,UJ⟩:=Uk;have Ys:=UJ.kp;have Yt:=UJ.binds (ps:=["parts","part","inputs"]) λ_ _ _ _ _ _=>wL (λ_ _ _=>by rfl)
 obtain⟨Z0,Yu,Yv,UK⟩:=Ul;have Yw:=UK.kp;have Yx:=UK.binds (ps:=["part"]) λ_ _ _ _ _ _=>FR (λ_=>by rfl)
 obtain⟨Z1,Yy,Yz,UL⟩:=Um;have YA:=UL.kp;have YB:=UL.binds (ps:=["program"]) λ_ _ _ _ _ _=>FR (λ_=>by rfl)
 obtain⟨⟨YC,UM⟩,YD⟩:=Uo;have YE:=UM.kp;have YF:=UM.binds (ps:=["self"]) λ_ _ _ _ _ _=>FR (λ_=>by rfl)
 obtain⟨⟨YG,UN⟩,Wz⟩:=Up;have WA:=UN.kp;have WB:=UN.binds (ps:=["self","call","trees"]) λ_ _ _ _ _ _=>wL (λ_ _ _=>by rfl)
 obtain⟨⟨YH,UO⟩,WC⟩:=Uq;have WD:=UO.kp;have WE:=UO.binds (ps:=["self","call","tree"]) λ_ _ _ _ _ _=>wL (λ_ _ _=>by rfl)
 obtain⟨Z2,YI,YJ,UP⟩:=Ur;have YL:=UP.kp;have YM:=UP.binds (ps:=["number"]) λ_ _ _ _ _ _=>FR (λ_=>by rfl)
 obtain⟨Z3,YN,KH,UQ⟩:=Us;have YO:=UQ.kp;have YQ:=UQ.binds (ps:=["sign","one","other"]) λ_ _ _ _ _ _=>wL (λ_ _ _=>by rfl)
 obtain⟨Z4,YR,YS,UR⟩:=Ut;have YT:=UR.kp;have YU:=UR.binds (ps:=["sign","one","other"]) λ_ _ _ _ _ _=>wL (λ_ _ _=>by rfl)
 obtain⟨⟨YV,US⟩,WG⟩:=MW;have WH:=US.kp;have WI:=US.binds (ps:=["self","call","tree"]) λ_ _ _ _ _ _=>wL (λ_ _ _=>by rfl)
 obtain⟨⟨YW,UT⟩,YX⟩:=Uu;have Z5:=UT.kp;have YY:=UT.binds (ps:=["self","make","fields"]) λ_ _ _ _ _ _=>wL (λ_ _ _=>by rfl)
 obtain⟨⟨YZ,UU⟩,WJ⟩:=Uv;have WK:=UU.kp;have WL:=UU.binds (ps:=["self","call","tree"]) λ_ _ _ _ _ _=>wL (λ_ _ _=>by rfl)
 obtain⟨⟨Y0,UW⟩,WM⟩:=Uw;have WN:=UW.kp;have WO:=UW.binds (ps:=["self","call","tree"]) λ_ _ _ _ _ _=>wL (λ_ _ _=>by rfl)
 obtain⟨⟨Y1,UX⟩,WQ⟩:=Ux;have WR:=UX.kp;have WS:=UX.binds (ps:=["self","call","trees"]) λ_ _ _ _ _ _=>wL (λ_ _ _=>by rfl)
 obtain⟨⟨Y2,UY⟩,Y3⟩:=Uy;have Z6:=UY.kp;have Y4:=UY.binds (ps:=["self","depth","known"]) λ_ _ _ _ _ _=>wL (λ_ _ _=>by rfl)
 obtain⟨⟨Y5,UZ⟩,WT⟩:=Uz;have WU:=UZ.kp;have WV:=UZ.binds (ps:=["self","part","values","depth"]) λ_ _ _ _ _ _=>Ox (λ_ _ _ _=>by rfl)
 obtain⟨⟨Y6,U0⟩,Y7⟩:=UA;have Y8:=U0.kp;have Y9:=U0.binds (ps:=["self","part","inputs"]) λ_ _ _ _ _ _=>wL (λ_ _ _=>by rfl)
 obtain⟨⟨Za,U1⟩,Zb⟩:=UB;have Z7:=U1.kp;have Zc:=U1.binds (ps:=["self","program","budget"]) λ_ _ _ _ _ _=>wL (λ_ _ _=>by rfl)
 obtain⟨Z8,Zd,Ze,U2⟩:=UC;have Zf:=U2.kp;have Zg:=U2.binds (ps:=["program","part","inputs","budget"]) λ_ _ _ _ _ _=>Ox (λ_ _ _ _=>by rfl)
 have Zh:=t9 (st:=mC) UE UG UH;have Q3:=aaI X G xc;have y_bool:=aaI X G qX;have M4:=aaI X G rl;have ES:=aaI X G kI;have KJ:=aaI X G qY;have mU:=aaI X G bQ;have Ar:=aaI X G jr;have y8:=aaI X G gH;have As:=aaI X G dm;have Ir:=aaI X G mJ;have KL:=aaI X G ra;have xm:=aam X G fX;have M5:=aam X G nX;have rX:=aam X G dZ;have y9:=aam X G iE;have M6:=aam X G rj;have pS:=aam X G cU;have M7:=aam X G oa;have ET:=aam X G jt;have xn:=aam X G fq;have vw:=aam X G et;have EU:=aam X G oh;have ak:Mine.ak K ai:=⟨⟨oi,oj,om,oo⟩,iH,fH⟩;have M8:=aam X G vk;have ax:Mine.ax K aj:=⟨⟨vm,vn,vp,vq⟩,ja,jb⟩;have BP:=aam X G lS;have aw:Mine.aw K aq:=⟨⟨lT,lU,lV,lW⟩,eI,gI,gJ⟩;refine⟨PySem.W.fnOf "law" "law" (dA mC) (dB mC) (dS mC) .none QY QZ Q0 QX M3 Q2,λs v=>.of_eq rfl,λbase _ _=>?_⟩;have xo:=t9 (st:=kX) oy oz oA;have EV:=xo.binds (ps:=["self","number"]) λ_ _ _ _ _ _=>ln2 (λ_ _=>by rfl)
 have Au:AY l.prog w K mg base aB ["number"]:=⟨⟨oF,⟨_,mT⟩,oG⟩,List.forall_mem_cons.mpr ⟨oH,List.forall_mem_nil _⟩,by decide,⟨_,_,⟨⟨_,mT⟩,ow,oB,oE⟩,yN xo,EV⟩⟩;have vx:ic l.prog w K mg base c6 "_law_whole" 1 ["_law_found"] (gY K):=⟨_,_,rO F0 y_bool KJ mU ak ax mI qZ,b0,k0,aam X G a0⟩;have vy:ic l.prog w K mg base c6 "_law_alike" 2 ["_law_found","_law_due_here"] (gZ K):=⟨_,_,rP F1 mU Ar y8 Ir ak ax vx mK kH,b1,k1,aam X G a1⟩;have kS:ic l.prog w K mg base c6 "_law_wrapped" 1 ["_law_number"] (e9 K):=⟨_,_,pC F2 ak ax,b2,k2,aam X G a2⟩;have pH:ic l.prog w K mg base c6 "_law_reckoned" 2 ["_law_sign","_law_one","_law_two","_law_state"] (gz K):=⟨_,_,nU F3 KJ ak ax kS,b3,k3,aam X G a3⟩
 have Zi:∀n:Nat,ic l.prog w K mg base c6 "_law_value" (n + 2) ["_law_e","_law_names","_law_state"] (cT K n):=by
  intro n
  induction n with
  | zero=>exact⟨_,_,mz (λvs H Q E h=>by obtain⟨H0,a,l,dn,fv,tv,e,p,j,ns,w,s,hn,rfl,hT,I,hpre,q0,q⟩:=h;exact nomatch hn),b4,k4,aam X G a4⟩
  | succ n ih =>
   have jW:=ih;exact⟨_,_,rQ (n:=n) F4 ak ax pH jW kS,b4,k4,aam X G a4⟩
 have jW:=λn=>(Zi n)
 have za:ic l.prog w K mg base c6 "_law_due" 10 ["_law_part","_law_inputs","_law_budget"] (lN K):=⟨_,_,xb F5 KL ak ax ((jW 7)),b5,k5,aam X G a5⟩;have pd:ic l.prog w K mg base c6 "_law_next" 1 ["_law_source_here","_law_many"] (fT K):=⟨_,_,vc F6 Ar ak ax,b6,k6,aam X G a6⟩;have pf:ic l.prog w K mg base c6 "_law_word" 1 ["_law_cell"] (fU K):=⟨_,_,vd F7 ES ak ax,b7,k7,aam X G a7⟩
 have Zj:∀n:Nat,ic l.prog w K mg base c6 "_law_grown" (n + 1) ["_law_source_here","_law_names","_law_world","_law_deep"] (fe K n):=by
  intro n
  induction n with
  | zero=>exact⟨_,_,mz (λvs H Q E h=>by obtain⟨_,_,_,_,_,_,src,ns,ec,one,two,deep,e1,e2,h0,rK,nO,o1,o3,t3,d4,hdn,q⟩:=h;exact absurd hdn (Nat.not_lt_zero _)),b8,k8,aam X G a8⟩
  | succ n ih =>
   have jX:=ih;exact⟨_,_,rR (n:=n) F8 Ar As ak ax jX pd pf,b8,k8,aam X G a8⟩
 have jX:=λn=>(Zj n)
 have rY:ic l.prog w K mg base c6 "_law_source" 1 ["_law_script"] (fN K):=⟨_,_,rb F9 y8 ak ax,b9,k9,aam X G a9⟩;have BQ:ic l.prog w K mg base c6 "is_door" 1 ["takes","gives"] (jO K):=⟨_,_,yR UI Q3 ak ax,Yp,Yo,aam X G OC⟩;have vz:ic l.prog w K mg base (eh l.prog w) "check_door" 2 ["parts","part","inputs"] (i7 K bR):=⟨_,_,rS UJ Ar ET ju mM ak ax BQ,Yt,Ys,aam X G Yr⟩;have rZ:ic l.prog w K mg base c6 "kinds_taken" 1 ["part"] (ff K):=⟨_,_,rg UK ak ax,Yx,Yw,aam X G Yv⟩;have zb:ic l.prog w K mg base c6 "heads_of" 2 ["program"] (kF K):=⟨_,_,xg UL ak ax rZ,YB,YA,aam X G Yz⟩;have oJ:fD l.prog w K mg base (eh l.prog w) aq "spend" 1 ["self"] (qW K aq mg):=⟨⟨_,_,nW UM (C:=aq) (wt:=false) vw hV hZ ak ax aw,YF,⟨fK,YD,YE⟩⟩,aw.cl⟩;have tN:ic l.prog w K mg base c6 "wrapped" 1 ["number"] (jP K):=⟨_,_,yU UP M5 ⟨_,rfl⟩ M6 ⟨_,rfl⟩ ak ax,YM,YL,aam X G YJ⟩;have BR:ic l.prog w K mg base (eh l.prog w) "divided" 2 ["sign","one","other"] (lP K mg):=⟨_,_,yW UQ xn iF iG ak ax tN,YQ,YO,aam X G KH⟩;have zc:ic l.prog w K mg base (eh l.prog w) "reckoned" 3 ["sign","one","other"] (kG K mg):=⟨_,_,xi UR ak ax BR tN,YU,YT,aam X G YS⟩;have BS:x9 l.prog w K mg base c6 ai "Record" 1 ["self","make","fields"] (iB K ai):=⟨⟨_,_,lR UT ak ax,YY,⟨oq,eG,YX,ou⟩,EU⟩⟩;have Iu:x9 l.prog w K mg base c6 aj "Call" 1 ["self","depth","known"] (jQ K aj):=⟨⟨_,_,n8 UY ak ax,Y4,⟨vt,fJ,Y3,vv⟩,M8⟩⟩
 have zd:∀n:Nat,fD l.prog w K mg base (eh l.prog w) aq "values_of" (n + 3) ["self","call","trees"] (fg K n aq aj mg)/\fD l.prog w K mg base (eh l.prog w) aq "value_of_call" (n + 3) ["self","call","tree"] (fG K n aq aj mg)/\fD l.prog w K mg base (eh l.prog w) aq "value_of_two" (n + 3) ["self","call","tree"] (gA K n aq aj mg)/\fD l.prog w K mg base (eh l.prog w) aq "value_of" (n + 3) ["self","call","tree"] (bY K n aq aj ai mg)/\fD l.prog w K mg base (eh l.prog w) aq "do_statement" (n + 3) ["self","call","tree"] (gE K n aq aj mg)/\fD l.prog w K mg base (eh l.prog w) aq "do_all" (n + 3) ["self","call","trees"] (nP K n aq aj mg)/\fD l.prog w K mg base (eh l.prog w) aq "given" (n + 3) ["self","part","values","depth"] (mH K n aq mg):=by
  intro n
  induction n with
  | zero=>exact⟨⟨⟨_,_,mz (λvs H Q E h=>by obtain⟨R,L,a,us,ts,s,s',r,rfl,I,J,hA,hU,iK,ev,q,qE⟩:=h;exact nomatch ev),WB,⟨cb,Wz,WA⟩⟩,aw.cl⟩,⟨⟨_,_,mz (λvs H Q E h=>by obtain⟨R,L,tv,p,ts,s,s',r,rfl,I,J,hT,iK,ev,q⟩:=h;exact nomatch ev),WE,⟨bB,WC,WD⟩⟩,aw.cl⟩,⟨⟨_,_,mz (λvs H Q E h=>by obtain⟨R,L,tv,op,a,b,s,s',r,rfl,I,J,hT,ho,ev,q⟩:=h;exact nomatch ev),WI,⟨bH,WG,WH⟩⟩,aw.cl⟩,⟨⟨_,_,mz (λvs H Q E h=>by obtain⟨R,L,tv,tree,s,s',r,rfl,I,J,hT,ev,q,qr⟩:=h;exact nomatch ev),WL,⟨cw,WJ,WK⟩⟩,aw.cl⟩,⟨⟨_,_,mz (λvs H Q E h=>by obtain⟨R,L,tv,t,s,s',r,rfl,I,J,hT,ev,q⟩:=h;exact nomatch ev),WO,⟨bI,WM,WN⟩⟩,aw.cl⟩,⟨⟨_,_,mz (λvs H Q E h=>by obtain⟨R,L,tv,ts,s,s',r,rfl,I,J,hT,ev,q⟩:=h;exact nomatch ev),WS,⟨dq,WQ,WR⟩⟩,aw.cl⟩,⟨⟨_,_,mz (λvs H Q E h=>by obtain⟨R,il,p,dep,ks,m,s,s',r,rfl,I,hS,ev,q⟩:=h;exact nomatch ev),WV,⟨dH,WT,WU⟩⟩,aw.cl⟩⟩
  | succ n ih =>
   obtain⟨cc,eg,eO,bM,eP,iY,fL⟩:=ih;exact⟨⟨⟨_,_,kL (n:=n) UN (C:=aq) (wt:=false) ak ax aw bM,WB,⟨cb,Wz,WA⟩⟩,aw.cl⟩,⟨⟨_,_,i9 (n:=n) UO (C:=aq) (wt:=false) pS fi rX ⟨_,rfl⟩ y9 ⟨_,rfl⟩ Au ak ax aw fL oJ cc,WE,⟨bB,WC,WD⟩⟩,aw.cl⟩,⟨⟨_,_,jw (n:=n) US (C:=aq) (wt:=false) xm ⟨_,rfl⟩ pS fi xn iF iG Au ak ax aw zc cc EF,WI,⟨bH,WG,WH⟩⟩,aw.cl⟩,⟨⟨_,_,la (n:=n) UU (C:=aq) (wt:=false) ak ax aw bM eg eO cc BS,WL,⟨cw,WJ,WK⟩⟩,aw.cl⟩,⟨⟨_,_,jx (n:=n) UW (C:=aq) (wt:=false) ak ax aw bM,WO,⟨bI,WM,WN⟩⟩,aw.cl⟩,⟨⟨_,_,mO (n:=n) UX (C:=aq) (wt:=false) ak ax aw eP,WS,⟨dq,WQ,WR⟩⟩,aw.cl⟩,⟨⟨_,_,n9 (n:=n) UZ (C:=aq) (wt:=false) vw hV hZ pS fi M4 KL M7 rm ak ax aw iY bM Iu kM kN kO kP kQ kR EG EH EI EJ,WV,⟨dH,WT,WU⟩⟩,aw.cl⟩⟩
 have cc:=λn=>(zd n).1
 have eg:=λn=>(zd n).2.1
 have eO:=λn=>(zd n).2.2.1
 have bM:=λn=>(zd n).2.2.2.1
 have eP:=λn=>(zd n).2.2.2.2.1
 have iY:=λn=>(zd n).2.2.2.2.2.1
 have fL:=λn=>(zd n).2.2.2.2.2.2
 have mV:fD l.prog w K mg base c6 aq "end_at" 64 ["self","part","inputs"] (nQ K aq mg):=⟨⟨_,_,mP U0 (C:=aq) (wt:=false) pS fi vw hV hZ ak ax aw ((fL 60)) jy jz jA jB jC jD EK EL EM EN,Y9,⟨ft,Y7,Y8⟩⟩,aw.cl⟩;have ze:x9 l.prog w K mg base c6 aq "Reading" 1 ["self","program","budget"] (gF K aq):=⟨⟨_,_,lh U1 (C:=aq) (wt:=false) ak ax aw,Zc,⟨lX,dU,Zb,lZ⟩,BP⟩⟩;have xp:ic l.prog w K mg base c6 "plain_run" 65 ["program","part","inputs","budget"] (g7 K):=⟨_,_,vh U2 ak ax aw vz zb mV ze,Zg,Zf,aam X G Ze⟩;exact MT (P:=l.prog) (w:=w) (base:=base) Zh y8 As ak ax vy za ((jX 5)) pd rY pf xp
theorem walk{l:PySem.W.OpenLaw}{q:Program}{loose:List Str}{XP:(Str->Option Value)->Heap->Prop}{YP:World->Heap->Prop}{d:DefRec}{K:Params->aJ}(hn:l.most=some 63)(hdf:d.params.defaults=[])
  (hY:∀(w:World) (h:Heap),YP w h->(K w.params).In h)
  (F:∀(w:World) (mg:Str->Option Value) (fa:Addr) (h:Heap),(K w.params).In h->h.Ns mainGlobals mg->mg d.name=some (.ref fa) ->
   ∃fd:FuncData,(∀(s:Shared) (u:Value),BindsTo s fd ⟨[u],[]⟩ [("_law_script",u)])/\∀base:Heap,(K w.params).In base->base.Ns mainGlobals mg->bJ l.prog w (K w.params) mg base c6 66 fa fd ["_law_script"] (va (K w.params))) :
  PySem.W.WalkO q loose XP YP l.row.toRowW d [] (λf vs=>PySem.call f vs) :=
 L2.GW (n:=63) (k:=66) (x:="_law_script") (CX:=λ_=>c6) (sp:=λw=>va (K w.params)) hn (by decide) hdf ⟨λ_=>rfl,by decide,by decide,rfl⟩ hY F (λ_ _ a ns hl _ hS=>⟨a,ns,rfl,hS,hl,λ_=>rfl⟩) λ_ _ _ _ _ z=>z
end Mine
noncomputable section
namespace MH
open PySem PySem.W L2 Mine
abbrev OF:=Program->Params->Obj
abbrev TF:=Program->Params->BT
abbrev r(a:Nat):Value:=.ref a
abbrev s(x:Str)(t:Tok):Value:=.str x t
abbrev i(n:Int):Value:=.int n 0
abbrev cF:Str:="/claim/cut.py"
def de(P:Params)(x:Str)(t:Tok)(v:Value):DictEntry:=⟨PyData.keyHash P x,.str x t,v⟩
abbrev fn(a b:Str)(e:Stmt)(dV kV doc pm:Value)(an:Option Addr)(cd ct:Value):FuncData:=PySem.W.fnOf a b (dA e) (dB e) (dS e) dV kV doc pm an cd ct
abbrev fx(g u:Nat)(a b:Str)(e:Stmt)(dV kV doc pm:Value)(an:Option Addr)(cd ct:Value):FuncData:=⟨a,b,dA e,.stmts (dB e),dS e,g,[],dV,kV,doc,pm,an,cd,ct,u⟩
abbrev tu(l:List Value):Obj:=⟨.type "tuple",none,.seq l.toArray 0,#[]⟩
abbrev nf(l:List Value):Obj:=⟨.none,none,.fields l.toArray,#[]⟩
abbrev co(l:List Value):Obj:=⟨.type "code",none,.fields l.toArray,#[]⟩
abbrev fm(l:List (Option Value)):Obj:=⟨.type "frame",none,.plain,l.toArray⟩
abbrev di(l:List DictEntry)(n:Nat):Obj:=⟨.type "dict",none,.dict l.toArray n,#[]⟩
abbrev fo(f:FuncData):Obj:=⟨.type "function",none,.func f,#[]⟩
abbrev no(f:FuncData):Obj:=⟨.none,none,.func f,#[]⟩
abbrev bn(o:Obj)(l r:BT):BT:=.node o l r
abbrev bl(o:Obj):BT:=.node o .nil .nil
abbrev aa(o:OF)(l r:TF):TF:=λp P=>.node (o p P) (l p P) (r p P)
abbrev af(o:OF):TF:=λp P=>.node (o p P) .nil .nil
abbrev av:TF:=λ_ _=>.nil
abbrev Z9(a b:Str)(e:Stmt):FuncData:=fn a b e .none .none .none .none none .none .none
abbrev j6(g u:Nat)(a b:Str)(e:Stmt):FuncData:=fx g u a b e .none .none .none .none none .none .none
abbrev B8:OF:=λ_ P=>boot_o_0 P
abbrev B9:OF:=λ_ P=>boot_o_1 P
abbrev pJ:OF:=λ_ P=>boot_o_10 P
abbrev Q4:OF:=λ_ P=>boot_o_2 P
abbrev Zk:OF:=λ_ P=>boot_o_3 P
abbrev Ca:OF:=λ_ P=>boot_o_4 P
abbrev Cb:OF:=λ_ P=>boot_o_5 P
abbrev Cd:OF:=λ_ P=>boot_o_6 P
abbrev Cf:OF:=λ_ P=>boot_o_7 P
abbrev Cg:OF:=λ_ P=>boot_o_8 P
abbrev Ci:OF:=λ_ P=>boot_o_9 P
abbrev pw:Program:=PySem.Challenge.pw_stackwarden_k65_expressions_reckoned
def mW(p:Program):Env:={scope:=p.main.scope,locals:=mainNs,globals:=mainNs,cells:=[],code:=(.ref 13),frame:=some 14}
def cu(p:Program):Code:=.body (behindTheImports p) (mW p)
abbrev BF:List Frame:=[topFrame ⟨0,0,0,0⟩]
def dW(p:Program)(i n:Nat):List Stmt:=((behindTheImports p).drop i).take n
def cf(p:Program):Program:={p with main:={p.main with body:=[tf p 1,tf p 2,tf p 3,tf p 5,tf p 6,tf p 8,tf p 9,tf p 10,tf p 12,tf p 13,tf p 14,tf p 15,tf p 16,tf p 17,tf p 18,tf p 20,tf p 21,tf p 23,tf p 24,tf p 25,tf p 26,tf p 27,tf p 28,tf p 29,tf p 31,tf p 32,tf p 33,tf p 34,tf p 35,tf p 36,tf p 37,tf p 38,tf p 39,tf p 40,tf p 41]}}
abbrev ST(t:BT)(n k:Nat)(os:OsState):SharedT:=⟨t,n,{},Array.mk [],{},k,os⟩
abbrev SH(h:Heap)(k:Nat)(os:OsState):Shared:=⟨h,Array.mk [],{},k,os⟩
local macro_rules | `(tactic| walk_at "qk")=>`(tactic| ((try rewrite [Fast.te14364793385576792824]); (try rewrite [Fast.te10110043849684766642]); (try rewrite [Fast.te14374325043358763698]); (try rewrite [Fast.te15667345088766844465]); (try rewrite [Fast.te14082659384304107361]); (try rewrite [Fast.te11892475500146522536]); (try rewrite [Fast.te5160383126252970620]); (try rewrite [Fast.te3399658132070893891]); (try rewrite [Fast.te5991557255702980513]); (try rewrite [Fast.te10880121769531294198]); (try rewrite [Fast.te821141287760084731]); (try rewrite [Fast.te7409074990110511671]); (try rewrite [Fast.te13664370479719496447]); (try rewrite [Fast.te5923862056798008813]); (try rewrite [Fast.te14722251495701143533]); (try rewrite [Fast.te10994771534591457954]); (try rewrite [Fast.te479339242167458305]); (try rewrite [Fast.te16090120013241838585]); (try rewrite [Fast.te3247288618530077131]); (try rewrite [Fast.te2386780881361962483]); (try rewrite [Fast.te11698064438423848299]); (try rewrite [Fast.te7317090234206586261]); (try rewrite [Fast.te7369524293546568484]); (try rewrite [Fast.te8920871248978507458]); (try rewrite [PySem.W.R.mapR_eq]); kernel_rfl))
def o0:OF:=λp P=>tu []
def o1:OF:=λp P=>nf []
noncomputable def o2:OF:=λp P=>co [(s "<module>" 182),(s "<module>" 183),(s cF 184),(i 1),(i 0),(i 0),(i 0),(i 0),(r 11),(.bool false),(i 181),(r 12),.none,.none,.none,.none,(i 185),(i 1),(s cF 186)]
def o3:OF:=λp P=>fm [(some (r 13)),(some (r 3)),(some (r 3)),none,(some (s "__main__" 164)),none,(some (r 0))]
def H0(p:Program)(P:Params):Heap:=⟨Array.mk [boot_o_0 P,boot_o_1 P,boot_o_2 P,boot_o_3 P,boot_o_4 P,boot_o_5 P,boot_o_6 P,boot_o_7 P,boot_o_8 P,boot_o_9 P,boot_o_10 P,o0 p P,o1 p P,o2 p P,o3 p P],{}⟩
def dq0_(P:Params):List DictEntry:=[de P "__doc__" 166 .none,de P "__package__" 167 .none,de P "__loader__" 168 (.builtin "__main__.__loader__#opaque"),de P "__spec__" 169 .none,de P "__annotations__" 170 (r 6),de P "__builtins__" 171 (r 4),de P "__file__" 173 (s cF 172),de P "__cached__" 174 .none,de P "WardenError" 206 (r 24)]
def dq1_(P:Params):List DictEntry:=dq0_ P++[de P "Nought" 222 (r 37)]
def dq2_(P:Params):List DictEntry:=dq1_ P++[de P "NoDoor" 238 (r 49),de P "is_door" 246 (r 56),de P "check_door" 256 (r 63),de P "elders_of" 267 (r 70),de P "is_under" 276 (r 77),de P "MOST_FRAMES" 278 (.int 12 277),de P "HALF" 282 (.int 2147483648 281),de P "TURN" 284 (.int 4294967296 283)]
def dq3_(P:Params):List DictEntry:=dq2_ P++[de P "wrapped" 291 (r 84),de P "reckoned" 300 (r 91),de P "divided" 309 (r 98),de P "BY_NOUGHT" 311 (.int 1 310),de P "TOO_DEEP" 313 (.int 2 312),de P "kinds_taken" 321 (r 103),de P "heads_of" 327 (r 108)]
def dq4_(P:Params):List DictEntry:=dq3_ P++[de P "Fault" 358 (r 125)]
def dq5_(P:Params):List DictEntry:=dq4_ P++[de P "Gave" 387 (r 145)]
def dq6_(P:Params):List DictEntry:=dq5_ P++[de P "Weary" 407 (r 158)]
def dq7_(P:Params):List DictEntry:=dq6_ P++[de P "Record" 438 (r 178)]
def dq8_(P:Params):List DictEntry:=dq7_ P++[de P "Call" 469 (r 199)]
def dq9_(P:Params):List DictEntry:=dq8_ P++[de P "Reading" 613 (r 300)]
def dq10_(P:Params):List DictEntry:=dq9_ P++[de P "plain_run" 625 (r 311),de P "_law_next" 636 (r 318),de P "_law_source" 645 (r 325),de P "_law_word" 653 (r 332),de P "_law_whole" 660 (r 339),de P "_law_grown" 666 (r 344),de P "_law_wrapped" 673 (r 351),de P "_law_reckoned" 683 (r 358),de P "_law_value" 689 (r 363),de P "_law_due" 704 (r 370),de P "_law_alike" 713 (r 377),de P "law" 719 (r 382)]
def o4:OF:=λp P=>di (de P "__name__" 165 (s "stackwarden.errors" 187)::dq0_ P) 10
def o5:OF:=λp P=>nf [(i 2),(i 0),(r 20)]
def o6:OF:=λp P=>tu [(.type "ValueError")]
def o7:OF:=λp P=>⟨(.type "builtin_function_or_method"),none,(.fields #[(.builtin "type.__prepare__"),(.type "type")]),#[]⟩
noncomputable def o8:OF:=λp P=>di [de P "__module__" 196 (s "stackwarden.errors" 187),de P "__qualname__" 198 (s "WardenError" 197),de P "__firstlineno__" 200 (.int 2 199),de P "__static_attributes__" 201 (r 22)] 4
noncomputable def o9:OF:=λp P=>co [(s "WardenError" 191),(s "WardenError" 192),(s cF 193),(i 2),(i 0),(i 0),(i 0),(i 0),(r 18),(.bool false),(i 181),(r 19),.none,.none,.none,.none,(i 194),(i 2),(s cF 195)]
def Cj:OF:=λp P=>fm [(some (r 20)),(some (r 3)),(some (r 17)),none,(some (s "stackwarden.errors" 187)),none,(some (r 0))]
noncomputable def w6:OF:=λp P=>di [de P "__module__" 196 (s "stackwarden.errors" 187),de P "__firstlineno__" 200 (.int 2 199),de P "__static_attributes__" 201 (r 22),de P "__weakref__" 203 (r 25),de P "__doc__" 204 .none] 3
noncomputable def Qs:OF:=λp P=>⟨(.type "type"),none,(.cls {name:="WardenError",bases:=[(.type "ValueError")],mro:=[(r 24),(.type "ValueError"),(.type "Exception"),(.type "BaseException"),(.type "object")],ns:=23,qualname:="WardenError"}),#[(some (r 15)),none,(some (s "WardenError" 189)),(some (s "WardenError" 197)),(some (.builtin "ValueError.__new__")),(some (.bool true))]⟩
def BU:OF:=λp P=>⟨(.type "getset_descriptor"),none,(.fields #[(s "__weakref__" 202),(r 24),(.builtin "ExceptionGroup.__weakref__"),.none]),#[]⟩
def Ck:OF:=λp P=>⟨(.type "super"),none,(.fields #[(r 24),(r 24),(r 24)]),#[]⟩
def Cm:OF:=λp P=>⟨(.type "builtin_function_or_method"),none,(.fields #[(.builtin "object.__init_subclass__"),(r 24)]),#[]⟩
def Zl:OF:=λp P=>di (de P "__name__" 165 (s "stackwarden.errors" 187)::dq1_ P) 11
def Zm:OF:=λp P=>nf [(i 2),(i 0),(r 20),(i 4),(i 0),(r 33)]
noncomputable def Zn:OF:=λp P=>⟨(.type "type"),none,(.cls {name:="WardenError",bases:=[(.type "ValueError")],mro:=[(r 24),(.type "ValueError"),(.type "Exception"),(.type "BaseException"),(.type "object")],ns:=23,qualname:="WardenError",subclasses:=[(r 37)]}),#[(some (r 15)),none,(some (s "WardenError" 189)),(some (s "WardenError" 197)),(some (.builtin "ValueError.__new__")),(some (.bool true))]⟩
def rn:OF:=λp P=>tu [(r 24)]
noncomputable def EW:OF:=λp P=>di [de P "__module__" 214 (s "stackwarden.errors" 187),de P "__qualname__" 216 (s "Nought" 215),de P "__firstlineno__" 218 (.int 4 217),de P "__static_attributes__" 219 (r 35)] 4
noncomputable def FX:OF:=λp P=>co [(s "Nought" 209),(s "Nought" 210),(s cF 211),(i 4),(i 0),(i 0),(i 0),(i 0),(r 31),(.bool false),(i 181),(r 32),.none,.none,.none,.none,(i 212),(i 4),(s cF 213)]
def FY:OF:=λp P=>fm [(some (r 33)),(some (r 3)),(some (r 30)),none,(some (s "stackwarden.errors" 187)),none,(some (r 0))]
noncomputable def EX:OF:=λp P=>di [de P "__module__" 214 (s "stackwarden.errors" 187),de P "__firstlineno__" 218 (.int 4 217),de P "__static_attributes__" 219 (r 35),de P "__doc__" 220 .none] 2
noncomputable def Co:OF:=λp P=>⟨(.type "type"),none,(.cls {name:="Nought",bases:=[(r 24)],mro:=[(r 37),(r 24),(.type "ValueError"),(.type "Exception"),(.type "BaseException"),(.type "object")],ns:=36,qualname:="Nought"}),#[(some (r 28)),none,(some (s "Nought" 207)),(some (s "Nought" 215)),(some (.builtin "ValueError.__new__")),(some (.bool true))]⟩
def EY:OF:=λp P=>⟨(.type "super"),none,(.fields #[(r 37),(r 37),(r 37)]),#[]⟩
def EZ:OF:=λp P=>⟨(.type "builtin_function_or_method"),none,(.fields #[(.builtin "object.__init_subclass__"),(r 37)]),#[]⟩
def Zo:OF:=λp P=>di (de P "__name__" 165 (s "stackwarden.words" 279)::dq2_ P) 19
noncomputable def Zp:OF:=λp P=>nf [(i 2),(i 0),(r 20),(i 4),(i 0),(r 33),(i 6),(i 0),(r 45),(i 9),(i 0),(r 55),(i 11),(i 0),(r 62),(i 18),(i 0),(r 69),(i 24),(i 0),(r 76)]
noncomputable def E8:OF:=λp P=>⟨(.type "type"),none,(.cls {name:="WardenError",bases:=[(.type "ValueError")],mro:=[(r 24),(.type "ValueError"),(.type "Exception"),(.type "BaseException"),(.type "object")],ns:=23,qualname:="WardenError",subclasses:=[(r 37),(r 49)]}),#[(some (r 15)),none,(some (s "WardenError" 189)),(some (s "WardenError" 197)),(some (.builtin "ValueError.__new__")),(some (.bool true))]⟩
noncomputable def FZ:OF:=λp P=>di [de P "__module__" 230 (s "stackwarden.errors" 187),de P "__qualname__" 232 (s "NoDoor" 231),de P "__firstlineno__" 234 (.int 6 233),de P "__static_attributes__" 235 (r 47)] 4
noncomputable def Iw:OF:=λp P=>co [(s "NoDoor" 225),(s "NoDoor" 226),(s cF 227),(i 6),(i 0),(i 0),(i 0),(i 0),(r 43),(.bool false),(i 181),(r 44),.none,.none,.none,.none,(i 228),(i 6),(s cF 229)]
def Iy:OF:=λp P=>fm [(some (r 45)),(some (r 3)),(some (r 42)),none,(some (s "stackwarden.errors" 187)),none,(some (r 0))]
noncomputable def Ga:OF:=λp P=>di [de P "__module__" 230 (s "stackwarden.errors" 187),de P "__firstlineno__" 234 (.int 6 233),de P "__static_attributes__" 235 (r 47),de P "__doc__" 236 .none] 2
noncomputable def Gb:OF:=λp P=>⟨(.type "type"),none,(.cls {name:="NoDoor",bases:=[(r 24)],mro:=[(r 49),(r 24),(.type "ValueError"),(.type "Exception"),(.type "BaseException"),(.type "object")],ns:=48,qualname:="NoDoor"}),#[(some (r 40)),none,(some (s "NoDoor" 223)),(some (s "NoDoor" 231)),(some (.builtin "ValueError.__new__")),(some (.bool true))]⟩
def KN:OF:=λp P=>⟨(.type "super"),none,(.fields #[(r 49),(r 49),(r 49)]),#[]⟩
def KO:OF:=λp P=>⟨(.type "builtin_function_or_method"),none,(.fields #[(.builtin "object.__init_subclass__"),(r 49)]),#[]⟩
def Iz:OF:=λp P=>no (j6 0 0 "is_door" "is_door" (tf p 5))
noncomputable def E9:OF:=λp P=>co [(s "is_door" 241),(s "is_door" 242),(s cF 243),(i 9),(i 2),(i 0),(i 0),(i 3),(r 52),(.bool true),(i 181),(r 53),.none,.none,.none,(r 54),(i 244),(i 9),(s cF 245)]
def Fc:OF:=λp P=>fo (fn "is_door" "is_door" (tf p 5) .none .none .none (s "stackwarden.doors" 239) none (r 55) .none)
def Fd:OF:=λp P=>tu [(s "parts" 250),(s "part" 251),(s "inputs" 252),(s "takes" 253)]
def Gd:OF:=λp P=>no (j6 0 0 "check_door" "check_door" (tf p 6))
noncomputable def Fe:OF:=λp P=>co [(s "check_door" 247),(s "check_door" 248),(s cF 249),(i 11),(i 3),(i 0),(i 0),(i 3),(r 57),(.bool true),(i 181),(r 58),.none,(r 59),(r 60),(r 61),(i 254),(i 11),(s cF 255)]
def Ge:OF:=λp P=>fo (fn "check_door" "check_door" (tf p 6) .none .none .none (s "stackwarden.doors" 239) none (r 62) .none)
def Gf:OF:=λp P=>tu [(s "makes" 262),(s "c" 263),(s "elders" 264)]
def IC:OF:=λp P=>no (j6 0 0 "elders_of" "elders_of" (tf p 8))
noncomputable def Ff:OF:=λp P=>co [(s "elders_of" 259),(s "elders_of" 260),(s cF 261),(i 18),(i 2),(i 0),(i 0),(i 3),(r 64),(.bool true),(i 181),(r 65),.none,(r 66),(r 67),(r 68),(i 265),(i 18),(s cF 266)]
def Fg:OF:=λp P=>fo (fn "elders_of" "elders_of" (tf p 8) .none .none .none (s "stackwarden.kinds" 257) none (r 69) .none)
def Fh:OF:=λp P=>tu [(s "makes" 271),(s "c" 272),(s "other" 273)]
def Gg:OF:=λp P=>no (j6 0 0 "is_under" "is_under" (tf p 9))
noncomputable def Gh:OF:=λp P=>co [(s "is_under" 268),(s "is_under" 269),(s cF 270),(i 24),(i 3),(i 0),(i 0),(i 3),(r 71),(.bool true),(i 181),(r 72),.none,(r 73),(r 74),(r 75),(i 274),(i 24),(s cF 275)]
def Gi:OF:=λp P=>fo (fn "is_under" "is_under" (tf p 9) .none .none .none (s "stackwarden.kinds" 257) none (r 76) .none)
def Zq:OF:=λp P=>di (de P "__name__" 165 (s "stackwarden.reading" 328)::dq3_ P) 26
noncomputable def Zr:OF:=λp P=>nf [(i 2),(i 0),(r 20),(i 4),(i 0),(r 33),(i 6),(i 0),(r 45),(i 9),(i 0),(r 55),(i 11),(i 0),(r 62),(i 18),(i 0),(r 69),(i 24),(i 0),(r 76),(i 30),(i 0),(r 83),(i 32),(i 0),(r 90),(i 44),(i 0),(r 97),(i 53),(i 0),(r 102),(i 55),(i 0),(r 107)]
def ID:OF:=λp P=>tu [(s "number" 288)]
def M9:OF:=λp P=>no (j6 0 0 "wrapped" "wrapped" (tf p 14))
noncomputable def KP:OF:=λp P=>co [(s "wrapped" 285),(s "wrapped" 286),(s cF 287),(i 30),(i 1),(i 0),(i 0),(i 3),(r 78),(.bool true),(i 181),(r 79),.none,(r 80),(r 81),(r 82),(i 289),(i 30),(s cF 290)]
def KQ:OF:=λp P=>fo (fn "wrapped" "wrapped" (tf p 14) .none .none .none (s "stackwarden.words" 279) none (r 83) .none)
def Gj:OF:=λp P=>tu [(s "sign" 295),(s "one" 296),(s "other" 297)]
def IE:OF:=λp P=>no (j6 0 0 "reckoned" "reckoned" (tf p 15))
noncomputable def Gk:OF:=λp P=>co [(s "reckoned" 292),(s "reckoned" 293),(s cF 294),(i 32),(i 3),(i 0),(i 0),(i 3),(r 85),(.bool true),(i 181),(r 86),.none,(r 87),(r 88),(r 89),(i 298),(i 32),(s cF 299)]
def Gm:OF:=λp P=>fo (fn "reckoned" "reckoned" (tf p 15) .none .none .none (s "stackwarden.words" 279) none (r 90) .none)
def Gn:OF:=λp P=>tu [(s "sign" 304),(s "one" 305),(s "other" 306)]
def KR:OF:=λp P=>no (j6 0 0 "divided" "divided" (tf p 16))
noncomputable def IF:OF:=λp P=>co [(s "divided" 301),(s "divided" 302),(s cF 303),(i 44),(i 3),(i 0),(i 0),(i 3),(r 92),(.bool true),(i 181),(r 93),.none,(r 94),(r 95),(r 96),(i 307),(i 44),(s cF 308)]
def IG:OF:=λp P=>fo (fn "divided" "divided" (tf p 16) .none .none .none (s "stackwarden.words" 279) none (r 97) .none)
def IH:OF:=λp P=>no (j6 0 0 "kinds_taken" "kinds_taken" (tf p 20))
noncomputable def Gp:OF:=λp P=>co [(s "kinds_taken" 316),(s "kinds_taken" 317),(s cF 318),(i 53),(i 1),(i 0),(i 0),(i 3),(r 99),(.bool true),(i 181),(r 100),.none,.none,.none,(r 101),(i 319),(i 53),(s cF 320)]
def Gq:OF:=λp P=>fo (fn "kinds_taken" "kinds_taken" (tf p 20) .none .none .none (s "stackwarden.trees" 314) none (r 102) .none)
def II:OF:=λp P=>no (j6 0 0 "heads_of" "heads_of" (tf p 21))
noncomputable def Gr:OF:=λp P=>co [(s "heads_of" 322),(s "heads_of" 323),(s cF 324),(i 55),(i 1),(i 0),(i 0),(i 3),(r 104),(.bool true),(i 181),(r 105),.none,.none,.none,(r 106),(i 325),(i 55),(s cF 326)]
def IJ:OF:=λp P=>fo (fn "heads_of" "heads_of" (tf p 21) .none .none .none (s "stackwarden.trees" 314) none (r 107) .none)
def Zs:OF:=λp P=>⟨.none,none,(.dict #[de P "type.__subclasses__.Exception.0" 355 (i 125),de P "type.__subclasses__.Exception.n" 356 (i 1)] 2),#[]⟩
def Zt:OF:=λp P=>di (de P "__name__" 165 (s "stackwarden.reading" 328)::dq4_ P) 27
noncomputable def Zu:OF:=λp P=>nf [(i 2),(i 0),(r 20),(i 4),(i 0),(r 33),(i 6),(i 0),(r 45),(i 9),(i 0),(r 55),(i 11),(i 0),(r 62),(i 18),(i 0),(r 69),(i 24),(i 0),(r 76),(i 30),(i 0),(r 83),(i 32),(i 0),(r 90),(i 44),(i 0),(r 97),(i 53),(i 0),(r 102),(i 55),(i 0),(r 107),(i 58),(i 0),(r 114)]
def r6:OF:=λp P=>tu [(.type "Exception")]
noncomputable def Na:OF:=λp P=>di [de P "__module__" 337 (s "stackwarden.reading" 328),de P "__qualname__" 339 (s "Fault" 338),de P "__firstlineno__" 341 (.int 58 340),de P "__init__" 349 (r 122),de P "__static_attributes__" 351 (r 123)] 5
def Nb:OF:=λp P=>nf [(i 60),(i 4),(r 121)]
noncomputable def OH:OF:=λp P=>co [(s "Fault" 332),(s "Fault" 333),(s cF 334),(i 58),(i 0),(i 0),(i 0),(i 0),(r 112),(.bool false),(i 181),(r 113),.none,.none,.none,.none,(i 335),(i 58),(s cF 336)]
def OI:OF:=λp P=>fm [(some (r 114)),(some (r 3)),(some (r 111)),none,(some (s "stackwarden.reading" 328)),none,(some (r 0))]
def KS:OF:=λp P=>tu [(s "self" 345),(s "number" 346)]
def KU:OF:=λp P=>no (j6 0 0 "__init__" "Fault.__init__" (inner (tf p 23)))
noncomputable def IK:OF:=λp P=>co [(s "__init__" 342),(s "Fault.__init__" 343),(s cF 344),(i 60),(i 2),(i 0),(i 0),(i 3),(r 116),(.bool true),(i 181),(r 117),.none,(r 118),(r 119),(r 120),(i 347),(i 60),(s cF 348)]
def IL:OF:=λp P=>fo (fn "__init__" "Fault.__init__" (inner (tf p 23)) .none .none .none (s "stackwarden.reading" 328) none (r 121) .none)
def IM:OF:=λp P=>tu [(s "number" 350)]
noncomputable def IP:OF:=λp P=>di [de P "__module__" 337 (s "stackwarden.reading" 328),de P "__firstlineno__" 341 (.int 58 340),de P "__init__" 349 (r 122),de P "__static_attributes__" 351 (r 123),de P "__weakref__" 353 (r 126),de P "__doc__" 354 .none] 3
noncomputable def IQ:OF:=λp P=>⟨(.type "type"),none,(.cls {name:="Fault",bases:=[(.type "Exception")],mro:=[(r 125),(.type "Exception"),(.type "BaseException"),(.type "object")],ns:=124,qualname:="Fault"}),#[(some (r 109)),none,(some (s "Fault" 330)),(some (s "Fault" 338)),(some (.builtin "Exception.__new__")),(some (.bool true))]⟩
def IS:OF:=λp P=>⟨(.type "getset_descriptor"),none,(.fields #[(s "__weakref__" 352),(r 125),(.builtin "ExceptionGroup.__weakref__"),.none]),#[]⟩
def Nd:OF:=λp P=>⟨(.type "super"),none,(.fields #[(r 125),(r 125),(r 125)]),#[]⟩
def Nf:OF:=λp P=>⟨(.type "builtin_function_or_method"),none,(.fields #[(.builtin "object.__init_subclass__"),(r 125)]),#[]⟩
noncomputable def Zv:OF:=λp P=>⟨.none,none,(.dict #[de P "type.__subclasses__.Exception.0" 355 (i 125),de P "type.__subclasses__.Exception.n" 356 (i 2),de P "type.__subclasses__.Exception.1" 384 (i 145)] 3),#[]⟩
def Zw:OF:=λp P=>di (de P "__name__" 165 (s "stackwarden.reading" 328)::dq5_ P) 28
noncomputable def Zx:OF:=λp P=>nf [(i 2),(i 0),(r 20),(i 4),(i 0),(r 33),(i 6),(i 0),(r 45),(i 9),(i 0),(r 55),(i 11),(i 0),(r 62),(i 18),(i 0),(r 69),(i 24),(i 0),(r 76),(i 30),(i 0),(r 83),(i 32),(i 0),(r 90),(i 44),(i 0),(r 97),(i 53),(i 0),(r 102),(i 55),(i 0),(r 107),(i 58),(i 0),(r 114),(i 62),(i 0),(r 134)]
noncomputable def OJ:OF:=λp P=>di [de P "__module__" 366 (s "stackwarden.reading" 328),de P "__qualname__" 368 (s "Gave" 367),de P "__firstlineno__" 370 (.int 62 369),de P "__init__" 378 (r 142),de P "__static_attributes__" 380 (r 143)] 5
def Ng:OF:=λp P=>nf [(i 64),(i 4),(r 141)]
noncomputable def Nh:OF:=λp P=>co [(s "Gave" 361),(s "Gave" 362),(s cF 363),(i 62),(i 0),(i 0),(i 0),(i 0),(r 132),(.bool false),(i 181),(r 133),.none,.none,.none,.none,(i 364),(i 62),(s cF 365)]
def Ni:OF:=λp P=>fm [(some (r 134)),(some (r 3)),(some (r 131)),none,(some (s "stackwarden.reading" 328)),none,(some (r 0))]
def KW:OF:=λp P=>tu [(s "self" 374),(s "value" 375)]
def OK:OF:=λp P=>no (j6 0 0 "__init__" "Gave.__init__" (inner (tf p 24)))
noncomputable def Nj:OF:=λp P=>co [(s "__init__" 371),(s "Gave.__init__" 372),(s cF 373),(i 64),(i 2),(i 0),(i 0),(i 3),(r 136),(.bool true),(i 181),(r 137),.none,(r 138),(r 139),(r 140),(i 376),(i 64),(s cF 377)]
def zf:OF:=λp P=>fo (fn "__init__" "Gave.__init__" (inner (tf p 24)) .none .none .none (s "stackwarden.reading" 328) none (r 141) .none)
def zg:OF:=λp P=>tu [(s "value" 379)]
noncomputable def zh:OF:=λp P=>di [de P "__module__" 366 (s "stackwarden.reading" 328),de P "__firstlineno__" 370 (.int 62 369),de P "__init__" 378 (r 142),de P "__static_attributes__" 380 (r 143),de P "__weakref__" 382 (r 146),de P "__doc__" 383 .none] 3
noncomputable def zi:OF:=λp P=>⟨(.type "type"),none,(.cls {name:="Gave",bases:=[(.type "Exception")],mro:=[(r 145),(.type "Exception"),(.type "BaseException"),(.type "object")],ns:=144,qualname:="Gave"}),#[(some (r 129)),none,(some (s "Gave" 359)),(some (s "Gave" 367)),(some (.builtin "Exception.__new__")),(some (.bool true))]⟩
def BV:OF:=λp P=>⟨(.type "getset_descriptor"),none,(.fields #[(s "__weakref__" 381),(r 145),(.builtin "ExceptionGroup.__weakref__"),.none]),#[]⟩
def Fj:OF:=λp P=>⟨(.type "super"),none,(.fields #[(r 145),(r 145),(r 145)]),#[]⟩
def Fl:OF:=λp P=>⟨(.type "builtin_function_or_method"),none,(.fields #[(.builtin "object.__init_subclass__"),(r 145)]),#[]⟩
noncomputable def zj:OF:=λp P=>⟨.none,none,(.dict #[de P "type.__subclasses__.Exception.0" 355 (i 125),de P "type.__subclasses__.Exception.n" 356 (i 3),de P "type.__subclasses__.Exception.1" 384 (i 145),de P "type.__subclasses__.Exception.2" 404 (i 158)] 4),#[]⟩
def U3:OF:=λp P=>di (de P "__name__" 165 (s "stackwarden.reading" 328)::dq6_ P) 29
noncomputable def U4:OF:=λp P=>nf [(i 2),(i 0),(r 20),(i 4),(i 0),(r 33),(i 6),(i 0),(r 45),(i 9),(i 0),(r 55),(i 11),(i 0),(r 62),(i 18),(i 0),(r 69),(i 24),(i 0),(r 76),(i 30),(i 0),(r 83),(i 32),(i 0),(r 90),(i 44),(i 0),(r 97),(i 53),(i 0),(r 102),(i 55),(i 0),(r 107),(i 58),(i 0),(r 114),(i 62),(i 0),(r 134),(i 66),(i 0),(r 154)]
noncomputable def BW:OF:=λp P=>di [de P "__module__" 395 (s "stackwarden.reading" 328),de P "__qualname__" 397 (s "Weary" 396),de P "__firstlineno__" 399 (.int 66 398),de P "__static_attributes__" 400 (r 156)] 4
noncomputable def BX:OF:=λp P=>co [(s "Weary" 390),(s "Weary" 391),(s cF 392),(i 66),(i 0),(i 0),(i 0),(i 0),(r 152),(.bool false),(i 181),(r 153),.none,.none,.none,.none,(i 393),(i 66),(s cF 394)]
def BY:OF:=λp P=>fm [(some (r 154)),(some (r 3)),(some (r 151)),none,(some (s "stackwarden.reading" 328)),none,(some (r 0))]
noncomputable def zk:OF:=λp P=>di [de P "__module__" 395 (s "stackwarden.reading" 328),de P "__firstlineno__" 399 (.int 66 398),de P "__static_attributes__" 400 (r 156),de P "__weakref__" 402 (r 159),de P "__doc__" 403 .none] 3
noncomputable def zm:OF:=λp P=>⟨(.type "type"),none,(.cls {name:="Weary",bases:=[(.type "Exception")],mro:=[(r 158),(.type "Exception"),(.type "BaseException"),(.type "object")],ns:=157,qualname:="Weary"}),#[(some (r 149)),none,(some (s "Weary" 388)),(some (s "Weary" 396)),(some (.builtin "Exception.__new__")),(some (.bool true))]⟩
def BZ:OF:=λp P=>⟨(.type "getset_descriptor"),none,(.fields #[(s "__weakref__" 401),(r 158),(.builtin "ExceptionGroup.__weakref__"),.none]),#[]⟩
def Fm:OF:=λp P=>⟨(.type "super"),none,(.fields #[(r 158),(r 158),(r 158)]),#[]⟩
def Fo:OF:=λp P=>⟨(.type "builtin_function_or_method"),none,(.fields #[(.builtin "object.__init_subclass__"),(r 158)]),#[]⟩
def U5:OF:=λp P=>di (de P "__name__" 165 (s "stackwarden.reading" 328)::dq7_ P) 30
noncomputable def U6:OF:=λp P=>nf [(i 2),(i 0),(r 20),(i 4),(i 0),(r 33),(i 6),(i 0),(r 45),(i 9),(i 0),(r 55),(i 11),(i 0),(r 62),(i 18),(i 0),(r 69),(i 24),(i 0),(r 76),(i 30),(i 0),(r 83),(i 32),(i 0),(r 90),(i 44),(i 0),(r 97),(i 53),(i 0),(r 102),(i 55),(i 0),(r 107),(i 58),(i 0),(r 114),(i 62),(i 0),(r 134),(i 66),(i 0),(r 154),(i 68),(i 0),(r 167)]
noncomputable def Fp:OF:=λp P=>di [de P "__module__" 415 (s "stackwarden.reading" 328),de P "__qualname__" 417 (s "Record" 416),de P "__firstlineno__" 419 (.int 68 418),de P "__init__" 428 (r 175),de P "__static_attributes__" 431 (r 176)] 5
def Fq:OF:=λp P=>nf [(i 70),(i 4),(r 174)]
noncomputable def Fs:OF:=λp P=>co [(s "Record" 410),(s "Record" 411),(s cF 412),(i 68),(i 0),(i 0),(i 0),(i 0),(r 165),(.bool false),(i 181),(r 166),.none,.none,.none,.none,(i 413),(i 68),(s cF 414)]
def Ft:OF:=λp P=>fm [(some (r 167)),(some (r 3)),(some (r 164)),none,(some (s "stackwarden.reading" 328)),none,(some (r 0))]
def B0:OF:=λp P=>tu [(s "self" 423),(s "make" 424),(s "fields" 425)]
def IT:OF:=λp P=>no (j6 0 0 "__init__" "Record.__init__" (iC (tf p 26) 0))
noncomputable def Fu:OF:=λp P=>co [(s "__init__" 420),(s "Record.__init__" 421),(s cF 422),(i 70),(i 3),(i 0),(i 0),(i 3),(r 169),(.bool true),(i 181),(r 170),.none,(r 171),(r 172),(r 173),(i 426),(i 70),(s cF 427)]
def Fv:OF:=λp P=>fo (fn "__init__" "Record.__init__" (iC (tf p 26) 0) .none .none .none (s "stackwarden.reading" 328) none (r 174) .none)
def Fw:OF:=λp P=>tu [(s "fields" 429),(s "make" 430)]
noncomputable def Fx:OF:=λp P=>di [de P "__module__" 415 (s "stackwarden.reading" 328),de P "__firstlineno__" 419 (.int 68 418),de P "__init__" 428 (r 175),de P "__static_attributes__" 431 (r 176),de P "__dict__" 433 (r 179),de P "__weakref__" 435 (r 180),de P "__doc__" 436 .none] 4
noncomputable def Fy:OF:=λp P=>⟨(.type "type"),none,(.cls {name:="Record",bases:=[(.type "object")],mro:=[(r 178),(.type "object")],ns:=177,qualname:="Record"}),#[none,none,(some (s "Record" 408)),(some (s "Record" 416)),(some (.builtin "object.__new__")),(some (.bool true))]⟩
noncomputable def Fz:OF:=λp P=>⟨(.type "getset_descriptor"),none,(.fields #[(s "__dict__" 432),(r 178),(.builtin "function.__dict__"),(.builtin "function.__dict__#set")]),#[]⟩
def FA:OF:=λp P=>⟨(.type "getset_descriptor"),none,(.fields #[(s "__weakref__" 434),(r 178),(.builtin "ExceptionGroup.__weakref__"),.none]),#[]⟩
def IU:OF:=λp P=>⟨(.type "super"),none,(.fields #[(r 178),(r 178),(r 178)]),#[]⟩
def IV:OF:=λp P=>⟨(.type "builtin_function_or_method"),none,(.fields #[(.builtin "object.__init_subclass__"),(r 178)]),#[]⟩
def U7:OF:=λp P=>di (de P "__name__" 165 (s "stackwarden.reading" 328)::dq8_ P) 31
noncomputable def U8:OF:=λp P=>nf [(i 2),(i 0),(r 20),(i 4),(i 0),(r 33),(i 6),(i 0),(r 45),(i 9),(i 0),(r 55),(i 11),(i 0),(r 62),(i 18),(i 0),(r 69),(i 24),(i 0),(r 76),(i 30),(i 0),(r 83),(i 32),(i 0),(r 90),(i 44),(i 0),(r 97),(i 53),(i 0),(r 102),(i 55),(i 0),(r 107),(i 58),(i 0),(r 114),(i 62),(i 0),(r 134),(i 66),(i 0),(r 154),(i 68),(i 0),(r 167),(i 73),(i 0),(r 188)]
noncomputable def IW:OF:=λp P=>di [de P "__module__" 446 (s "stackwarden.reading" 328),de P "__qualname__" 448 (s "Call" 447),de P "__firstlineno__" 450 (.int 73 449),de P "__init__" 459 (r 196),de P "__static_attributes__" 462 (r 197)] 5
def IX:OF:=λp P=>nf [(i 75),(i 4),(r 195)]
noncomputable def IY:OF:=λp P=>co [(s "Call" 441),(s "Call" 442),(s cF 443),(i 73),(i 0),(i 0),(i 0),(i 0),(r 186),(.bool false),(i 181),(r 187),.none,.none,.none,.none,(i 444),(i 73),(s cF 445)]
def IZ:OF:=λp P=>fm [(some (r 188)),(some (r 3)),(some (r 185)),none,(some (s "stackwarden.reading" 328)),none,(some (r 0))]
def FC:OF:=λp P=>tu [(s "self" 454),(s "depth" 455),(s "known" 456)]
def Ja:OF:=λp P=>no (j6 0 0 "__init__" "Call.__init__" (iC (tf p 27) 0))
noncomputable def FE:OF:=λp P=>co [(s "__init__" 451),(s "Call.__init__" 452),(s cF 453),(i 75),(i 3),(i 0),(i 0),(i 3),(r 190),(.bool true),(i 181),(r 191),.none,(r 192),(r 193),(r 194),(i 457),(i 75),(s cF 458)]
def FF:OF:=λp P=>fo (fn "__init__" "Call.__init__" (iC (tf p 27) 0) .none .none .none (s "stackwarden.reading" 328) none (r 195) .none)
def FG:OF:=λp P=>tu [(s "depth" 460),(s "known" 461)]
noncomputable def FH:OF:=λp P=>di [de P "__module__" 446 (s "stackwarden.reading" 328),de P "__firstlineno__" 450 (.int 73 449),de P "__init__" 459 (r 196),de P "__static_attributes__" 462 (r 197),de P "__dict__" 464 (r 200),de P "__weakref__" 466 (r 201),de P "__doc__" 467 .none] 4
noncomputable def FI:OF:=λp P=>⟨(.type "type"),none,(.cls {name:="Call",bases:=[(.type "object")],mro:=[(r 199),(.type "object")],ns:=198,qualname:="Call"}),#[none,none,(some (s "Call" 439)),(some (s "Call" 447)),(some (.builtin "object.__new__")),(some (.bool true))]⟩
noncomputable def FJ:OF:=λp P=>⟨(.type "getset_descriptor"),none,(.fields #[(s "__dict__" 463),(r 199),(.builtin "function.__dict__"),(.builtin "function.__dict__#set")]),#[]⟩
def FK:OF:=λp P=>⟨(.type "getset_descriptor"),none,(.fields #[(s "__weakref__" 465),(r 199),(.builtin "ExceptionGroup.__weakref__"),.none]),#[]⟩
def Jb:OF:=λp P=>⟨(.type "super"),none,(.fields #[(r 199),(r 199),(r 199)]),#[]⟩
def Jc:OF:=λp P=>⟨(.type "builtin_function_or_method"),none,(.fields #[(.builtin "object.__init_subclass__"),(r 199)]),#[]⟩
def U9:OF:=λp P=>di (de P "__name__" 165 (s "stackwarden.reading" 328)::dq9_ P) 32
noncomputable def Va:OF:=λp P=>nf [(i 2),(i 0),(r 20),(i 4),(i 0),(r 33),(i 6),(i 0),(r 45),(i 9),(i 0),(r 55),(i 11),(i 0),(r 62),(i 18),(i 0),(r 69),(i 24),(i 0),(r 76),(i 30),(i 0),(r 83),(i 32),(i 0),(r 90),(i 44),(i 0),(r 97),(i 53),(i 0),(r 102),(i 55),(i 0),(r 107),(i 58),(i 0),(r 114),(i 62),(i 0),(r 134),(i 66),(i 0),(r 154),(i 68),(i 0),(r 167),(i 73),(i 0),(r 188),(i 78),(i 0),(r 209)]
noncomputable def Nk:OF:=λp P=>di [de P "__module__" 477 (s "stackwarden.reading" 328),de P "__qualname__" 479 (s "Reading" 478),de P "__firstlineno__" 481 (.int 78 480),de P "__init__" 490 (r 217),de P "end_at" 500 (r 224),de P "given" 506 (r 229),de P "spend" 513 (r 236),de P "value_of" 524 (r 243),de P "values_of" 530 (r 248),de P "value_of_call" 540 (r 255),de P "value_of_two" 550 (r 262),de P "do_all" 560 (r 269),de P "do_statement" 572 (r 276),de P "do_nesting" 582 (r 283),de P "do_kin" 592 (r 290),de P "do_try" 602 (r 297),de P "__static_attributes__" 606 (r 298)] 17
noncomputable def Nl:OF:=λp P=>nf [(i 80),(i 4),(r 216),(i 85),(i 4),(r 223),(i 93),(i 4),(r 228),(i 103),(i 4),(r 235),(i 108),(i 4),(r 242),(i 125),(i 4),(r 247),(i 128),(i 4),(r 254),(i 135),(i 4),(r 261),(i 142),(i 4),(r 268),(i 146),(i 4),(r 275),(i 167),(i 4),(r 282),(i 180),(i 4),(r 289),(i 188),(i 4),(r 296)]
noncomputable def Nm:OF:=λp P=>co [(s "Reading" 472),(s "Reading" 473),(s cF 474),(i 78),(i 0),(i 0),(i 0),(i 0),(r 207),(.bool false),(i 181),(r 208),.none,.none,.none,.none,(i 475),(i 78),(s cF 476)]
def Nn:OF:=λp P=>fm [(some (r 209)),(some (r 3)),(some (r 206)),none,(some (s "stackwarden.reading" 328)),none,(some (r 0))]
def Jd:OF:=λp P=>tu [(s "self" 485),(s "program" 486),(s "budget" 487)]
def Np:OF:=λp P=>no (j6 0 0 "__init__" "Reading.__init__" (iC (tf p 28) 0))
noncomputable def Je:OF:=λp P=>co [(s "__init__" 482),(s "Reading.__init__" 483),(s cF 484),(i 80),(i 3),(i 0),(i 0),(i 3),(r 211),(.bool true),(i 181),(r 212),.none,(r 213),(r 214),(r 215),(i 488),(i 80),(s cF 489)]
def Jf:OF:=λp P=>fo (fn "__init__" "Reading.__init__" (iC (tf p 28) 0) .none .none .none (s "stackwarden.reading" 328) none (r 216) .none)
def Jg:OF:=λp P=>tu [(s "self" 494),(s "part" 495),(s "inputs" 496),(s "fault" 497)]
def Nq:OF:=λp P=>no (j6 0 0 "end_at" "Reading.end_at" (iC (tf p 28) 1))
noncomputable def Jh:OF:=λp P=>co [(s "end_at" 491),(s "Reading.end_at" 492),(s cF 493),(i 85),(i 3),(i 0),(i 0),(i 3),(r 218),(.bool true),(i 181),(r 219),.none,(r 220),(r 221),(r 222),(i 498),(i 85),(s cF 499)]
def Ji:OF:=λp P=>fo (fn "end_at" "Reading.end_at" (iC (tf p 28) 1) .none .none .none (s "stackwarden.reading" 328) none (r 223) .none)
def Nr:OF:=λp P=>no (j6 0 0 "given" "Reading.given" (iC (tf p 28) 2))
noncomputable def Jk:OF:=λp P=>co [(s "given" 501),(s "Reading.given" 502),(s cF 503),(i 93),(i 4),(i 0),(i 0),(i 3),(r 225),(.bool true),(i 181),(r 226),.none,.none,.none,(r 227),(i 504),(i 93),(s cF 505)]
def Jl:OF:=λp P=>fo (fn "given" "Reading.given" (iC (tf p 28) 2) .none .none .none (s "stackwarden.reading" 328) none (r 228) .none)
def Jm:OF:=λp P=>tu [(s "self" 510)]
def Nt:OF:=λp P=>no (j6 0 0 "spend" "Reading.spend" (iC (tf p 28) 3))
noncomputable def Jn:OF:=λp P=>co [(s "spend" 507),(s "Reading.spend" 508),(s cF 509),(i 103),(i 1),(i 0),(i 0),(i 3),(r 230),(.bool true),(i 181),(r 231),.none,(r 232),(r 233),(r 234),(i 511),(i 103),(s cF 512)]
def Jo:OF:=λp P=>fo (fn "spend" "Reading.spend" (iC (tf p 28) 3) .none .none .none (s "stackwarden.reading" 328) none (r 235) .none)
def Jp:OF:=λp P=>tu [(s "self" 517),(s "call" 518),(s "tree" 519),(s "word" 520),(s "chosen" 521)]
def Nu:OF:=λp P=>no (j6 0 0 "value_of" "Reading.value_of" (iC (tf p 28) 4))
noncomputable def Jq:OF:=λp P=>co [(s "value_of" 514),(s "Reading.value_of" 515),(s cF 516),(i 108),(i 3),(i 0),(i 0),(i 3),(r 237),(.bool true),(i 181),(r 238),.none,(r 239),(r 240),(r 241),(i 522),(i 108),(s cF 523)]
def Jr:OF:=λp P=>fo (fn "value_of" "Reading.value_of" (iC (tf p 28) 4) .none .none .none (s "stackwarden.reading" 328) none (r 242) .none)
def Nv:OF:=λp P=>no (j6 0 0 "values_of" "Reading.values_of" (iC (tf p 28) 5))
noncomputable def Js:OF:=λp P=>co [(s "values_of" 525),(s "Reading.values_of" 526),(s cF 527),(i 125),(i 3),(i 0),(i 0),(i 3),(r 244),(.bool true),(i 181),(r 245),.none,.none,.none,(r 246),(i 528),(i 125),(s cF 529)]
def Ju:OF:=λp P=>fo (fn "values_of" "Reading.values_of" (iC (tf p 28) 5) .none .none .none (s "stackwarden.reading" 328) none (r 247) .none)
def Jv:OF:=λp P=>tu [(s "self" 534),(s "call" 535),(s "tree" 536),(s "values" 537)]
def Nw:OF:=λp P=>no (j6 0 0 "value_of_call" "Reading.value_of_call" (iC (tf p 28) 6))
noncomputable def Jw:OF:=λp P=>co [(s "value_of_call" 531),(s "Reading.value_of_call" 532),(s cF 533),(i 128),(i 3),(i 0),(i 0),(i 3),(r 249),(.bool true),(i 181),(r 250),.none,(r 251),(r 252),(r 253),(i 538),(i 128),(s cF 539)]
noncomputable def Jx:OF:=λp P=>fo (fn "value_of_call" "Reading.value_of_call" (iC (tf p 28) 6) .none .none .none (s "stackwarden.reading" 328) none (r 254) .none)
def Jy:OF:=λp P=>tu [(s "self" 544),(s "call" 545),(s "tree" 546),(s "pair" 547)]
def Ny:OF:=λp P=>no (j6 0 0 "value_of_two" "Reading.value_of_two" (iC (tf p 28) 7))
noncomputable def Jz:OF:=λp P=>co [(s "value_of_two" 541),(s "Reading.value_of_two" 542),(s cF 543),(i 135),(i 3),(i 0),(i 0),(i 3),(r 256),(.bool true),(i 181),(r 257),.none,(r 258),(r 259),(r 260),(i 548),(i 135),(s cF 549)]
def JA:OF:=λp P=>fo (fn "value_of_two" "Reading.value_of_two" (iC (tf p 28) 7) .none .none .none (s "stackwarden.reading" 328) none (r 261) .none)
def JB:OF:=λp P=>tu [(s "self" 554),(s "call" 555),(s "trees" 556),(s "tree" 557)]
def Nz:OF:=λp P=>no (j6 0 0 "do_all" "Reading.do_all" (iC (tf p 28) 8))
noncomputable def JC:OF:=λp P=>co [(s "do_all" 551),(s "Reading.do_all" 552),(s cF 553),(i 142),(i 3),(i 0),(i 0),(i 3),(r 263),(.bool true),(i 181),(r 264),.none,(r 265),(r 266),(r 267),(i 558),(i 142),(s cF 559)]
def JD:OF:=λp P=>fo (fn "do_all" "Reading.do_all" (iC (tf p 28) 8) .none .none .none (s "stackwarden.reading" 328) none (r 268) .none)
def JE:OF:=λp P=>tu [(s "self" 564),(s "call" 565),(s "tree" 566),(s "word" 567),(s "record" 568),(s "value" 569)]
def NA:OF:=λp P=>no (j6 0 0 "do_statement" "Reading.do_statement" (iC (tf p 28) 9))
noncomputable def JF:OF:=λp P=>co [(s "do_statement" 561),(s "Reading.do_statement" 562),(s cF 563),(i 146),(i 3),(i 0),(i 0),(i 3),(r 270),(.bool true),(i 181),(r 271),.none,(r 272),(r 273),(r 274),(i 570),(i 146),(s cF 571)]
def JG:OF:=λp P=>fo (fn "do_statement" "Reading.do_statement" (iC (tf p 28) 9) .none .none .none (s "stackwarden.reading" 328) none (r 275) .none)
def JH:OF:=λp P=>tu [(s "self" 576),(s "call" 577),(s "tree" 578),(s "word" 579)]
def NB:OF:=λp P=>no (j6 0 0 "do_nesting" "Reading.do_nesting" (iC (tf p 28) 10))
noncomputable def JI:OF:=λp P=>co [(s "do_nesting" 573),(s "Reading.do_nesting" 574),(s cF 575),(i 167),(i 3),(i 0),(i 0),(i 3),(r 277),(.bool true),(i 181),(r 278),.none,(r 279),(r 280),(r 281),(i 580),(i 167),(s cF 581)]
def JJ:OF:=λp P=>fo (fn "do_nesting" "Reading.do_nesting" (iC (tf p 28) 10) .none .none .none (s "stackwarden.reading" 328) none (r 282) .none)
def JK:OF:=λp P=>tu [(s "self" 586),(s "call" 587),(s "tree" 588),(s "record" 589)]
def NC:OF:=λp P=>no (j6 0 0 "do_kin" "Reading.do_kin" (iC (tf p 28) 11))
noncomputable def JL:OF:=λp P=>co [(s "do_kin" 583),(s "Reading.do_kin" 584),(s cF 585),(i 180),(i 3),(i 0),(i 0),(i 3),(r 284),(.bool true),(i 181),(r 285),.none,(r 286),(r 287),(r 288),(i 590),(i 180),(s cF 591)]
def JM:OF:=λp P=>fo (fn "do_kin" "Reading.do_kin" (iC (tf p 28) 11) .none .none .none (s "stackwarden.reading" 328) none (r 289) .none)
def JN:OF:=λp P=>tu [(s "self" 596),(s "call" 597),(s "tree" 598),(s "fault" 599)]
def ND:OF:=λp P=>no (j6 0 0 "do_try" "Reading.do_try" (iC (tf p 28) 12))
noncomputable def JO:OF:=λp P=>co [(s "do_try" 593),(s "Reading.do_try" 594),(s cF 595),(i 188),(i 3),(i 0),(i 0),(i 3),(r 291),(.bool true),(i 181),(r 292),.none,(r 293),(r 294),(r 295),(i 600),(i 188),(s cF 601)]
def JP:OF:=λp P=>fo (fn "do_try" "Reading.do_try" (iC (tf p 28) 12) .none .none .none (s "stackwarden.reading" 328) none (r 296) .none)
def JQ:OF:=λp P=>tu [(s "left" 603),(s "program" 604),(s "said" 605)]
noncomputable def JR:OF:=λp P=>di [de P "__module__" 477 (s "stackwarden.reading" 328),de P "__firstlineno__" 481 (.int 78 480),de P "__init__" 490 (r 217),de P "end_at" 500 (r 224),de P "given" 506 (r 229),de P "spend" 513 (r 236),de P "value_of" 524 (r 243),de P "values_of" 530 (r 248),de P "value_of_call" 540 (r 255),de P "value_of_two" 550 (r 262),de P "do_all" 560 (r 269),de P "do_statement" 572 (r 276),de P "do_nesting" 582 (r 283),de P "do_kin" 592 (r 290),de P "do_try" 602 (r 297),de P "__static_attributes__" 606 (r 298),de P "__dict__" 608 (r 301),de P "__weakref__" 610 (r 302),de P "__doc__" 611 .none] 4
noncomputable def JS:OF:=λp P=>⟨(.type "type"),none,(.cls {name:="Reading",bases:=[(.type "object")],mro:=[(r 300),(.type "object")],ns:=299,qualname:="Reading"}),#[none,none,(some (s "Reading" 470)),(some (s "Reading" 478)),(some (.builtin "object.__new__")),(some (.bool true))]⟩
noncomputable def JT:OF:=λp P=>⟨(.type "getset_descriptor"),none,(.fields #[(s "__dict__" 607),(r 300),(.builtin "function.__dict__"),(.builtin "function.__dict__#set")]),#[]⟩
def JU:OF:=λp P=>⟨(.type "getset_descriptor"),none,(.fields #[(s "__weakref__" 609),(r 300),(.builtin "ExceptionGroup.__weakref__"),.none]),#[]⟩
def NF:OF:=λp P=>⟨(.type "super"),none,(.fields #[(r 300),(r 300),(r 300)]),#[]⟩
def NG:OF:=λp P=>⟨(.type "builtin_function_or_method"),none,(.fields #[(.builtin "object.__init_subclass__"),(r 300)]),#[]⟩
def NH:OF:=λp P=>di (de P "__name__" 165 (s "law_stackwarden_k65_expressions_reckoned" 626)::dq10_ P) 44
noncomputable def Q5:OF:=λp P=>nf [(i 2),(i 0),(r 20),(i 4),(i 0),(r 33),(i 6),(i 0),(r 45),(i 9),(i 0),(r 55),(i 11),(i 0),(r 62),(i 18),(i 0),(r 69),(i 24),(i 0),(r 76),(i 30),(i 0),(r 83),(i 32),(i 0),(r 90),(i 44),(i 0),(r 97),(i 53),(i 0),(r 102),(i 55),(i 0),(r 107),(i 58),(i 0),(r 114),(i 62),(i 0),(r 134),(i 66),(i 0),(r 154),(i 68),(i 0),(r 167),(i 73),(i 0),(r 188),(i 78),(i 0),(r 209),(i 195),(i 0),(r 310),(i 201),(i 0),(r 317),(i 207),(i 0),(r 324),(i 212),(i 0),(r 331),(i 219),(i 0),(r 338),(i 221),(i 0),(r 343),(i 245),(i 0),(r 350),(i 247),(i 0),(r 357),(i 262),(i 0),(r 362),(i 290),(i 0),(r 369),(i 307),(i 0),(r 376),(i 314),(i 0),(r 381)]
def NI:OF:=λp P=>tu [(s "program" 617),(s "part" 618),(s "inputs" 619),(s "budget" 620),(s "reading" 621),(s "end" 622)]
def Q6:OF:=λp P=>no (j6 0 0 "plain_run" "plain_run" (tf p 29))
noncomputable def NJ:OF:=λp P=>co [(s "plain_run" 614),(s "plain_run" 615),(s cF 616),(i 195),(i 4),(i 0),(i 0),(i 3),(r 305),(.bool true),(i 181),(r 306),.none,(r 307),(r 308),(r 309),(i 623),(i 195),(s cF 624)]
def NK:OF:=λp P=>fo (fn "plain_run" "plain_run" (tf p 29) .none .none .none (s "stackwarden.reading" 328) none (r 310) .none)
def NL:OF:=λp P=>tu [(s "_law_source_here" 631),(s "_law_many" 632),(s "_law_cell" 633)]
def Q7:OF:=λp P=>no (j6 0 0 "_law_next" "_law_next" (tf p 31))
noncomputable def NM:OF:=λp P=>co [(s "_law_next" 628),(s "_law_next" 629),(s cF 630),(i 201),(i 2),(i 0),(i 0),(i 3),(r 312),(.bool true),(i 181),(r 313),.none,(r 314),(r 315),(r 316),(i 634),(i 201),(s cF 635)]
def NN:OF:=λp P=>fo (fn "_law_next" "_law_next" (tf p 31) .none .none .none (s "law_stackwarden_k65_expressions_reckoned" 626) none (r 317) .none)
def NO:OF:=λp P=>tu [(s "_law_script" 640),(s "_law_start" 641),(s "_law_cell" 642)]
def Q8:OF:=λp P=>no (j6 0 0 "_law_source" "_law_source" (tf p 32))
noncomputable def NP:OF:=λp P=>co [(s "_law_source" 637),(s "_law_source" 638),(s cF 639),(i 207),(i 1),(i 0),(i 0),(i 3),(r 319),(.bool true),(i 181),(r 320),.none,(r 321),(r 322),(r 323),(i 643),(i 207),(s cF 644)]
noncomputable def NQ:OF:=λp P=>fo (fn "_law_source" "_law_source" (tf p 32) .none .none .none (s "law_stackwarden_k65_expressions_reckoned" 626) none (r 324) .none)
def NR:OF:=λp P=>tu [(s "_law_cell" 649),(s "_law_way" 650)]
def Q9:OF:=λp P=>no (j6 0 0 "_law_word" "_law_word" (tf p 33))
noncomputable def NS:OF:=λp P=>co [(s "_law_word" 646),(s "_law_word" 647),(s cF 648),(i 212),(i 1),(i 0),(i 0),(i 3),(r 326),(.bool true),(i 181),(r 327),.none,(r 328),(r 329),(r 330),(i 651),(i 212),(s cF 652)]
def NT:OF:=λp P=>fo (fn "_law_word" "_law_word" (tf p 33) .none .none .none (s "law_stackwarden_k65_expressions_reckoned" 626) none (r 331) .none)
def NU:OF:=λp P=>tu [(s "_law_found" 657)]
def Ra:OF:=λp P=>no (j6 0 0 "_law_whole" "_law_whole" (tf p 34))
noncomputable def NV:OF:=λp P=>co [(s "_law_whole" 654),(s "_law_whole" 655),(s cF 656),(i 219),(i 1),(i 0),(i 0),(i 3),(r 333),(.bool true),(i 181),(r 334),.none,(r 335),(r 336),(r 337),(i 658),(i 219),(s cF 659)]
noncomputable def NW:OF:=λp P=>fo (fn "_law_whole" "_law_whole" (tf p 34) .none .none .none (s "law_stackwarden_k65_expressions_reckoned" 626) none (r 338) .none)
def Rb:OF:=λp P=>no (j6 0 0 "_law_grown" "_law_grown" (tf p 35))
noncomputable def NX:OF:=λp P=>co [(s "_law_grown" 661),(s "_law_grown" 662),(s cF 663),(i 221),(i 4),(i 0),(i 0),(i 3),(r 340),(.bool true),(i 181),(r 341),.none,.none,.none,(r 342),(i 664),(i 221),(s cF 665)]
noncomputable def NY:OF:=λp P=>fo (fn "_law_grown" "_law_grown" (tf p 35) .none .none .none (s "law_stackwarden_k65_expressions_reckoned" 626) none (r 343) .none)
def NZ:OF:=λp P=>tu [(s "_law_number" 670)]
def Rc:OF:=λp P=>no (j6 0 0 "_law_wrapped" "_law_wrapped" (tf p 36))
noncomputable def N0:OF:=λp P=>co [(s "_law_wrapped" 667),(s "_law_wrapped" 668),(s cF 669),(i 245),(i 1),(i 0),(i 0),(i 3),(r 345),(.bool true),(i 181),(r 346),.none,(r 347),(r 348),(r 349),(i 671),(i 245),(s cF 672)]
noncomputable def N1:OF:=λp P=>fo (fn "_law_wrapped" "_law_wrapped" (tf p 36) .none .none .none (s "law_stackwarden_k65_expressions_reckoned" 626) none (r 350) .none)
def N2:OF:=λp P=>tu [(s "_law_sign" 677),(s "_law_one" 678),(s "_law_two" 679),(s "_law_state" 680)]
def Rf:OF:=λp P=>no (j6 0 0 "_law_reckoned" "_law_reckoned" (tf p 37))
noncomputable def N3:OF:=λp P=>co [(s "_law_reckoned" 674),(s "_law_reckoned" 675),(s cF 676),(i 247),(i 4),(i 0),(i 0),(i 3),(r 352),(.bool true),(i 181),(r 353),.none,(r 354),(r 355),(r 356),(i 681),(i 247),(s cF 682)]
noncomputable def N4:OF:=λp P=>fo (fn "_law_reckoned" "_law_reckoned" (tf p 37) .none .none .none (s "law_stackwarden_k65_expressions_reckoned" 626) none (r 357) .none)
def Rg:OF:=λp P=>no (j6 0 0 "_law_value" "_law_value" (tf p 38))
noncomputable def N5:OF:=λp P=>co [(s "_law_value" 684),(s "_law_value" 685),(s cF 686),(i 262),(i 3),(i 0),(i 0),(i 3),(r 359),(.bool true),(i 181),(r 360),.none,.none,.none,(r 361),(i 687),(i 262),(s cF 688)]
noncomputable def N6:OF:=λp P=>fo (fn "_law_value" "_law_value" (tf p 38) .none .none .none (s "law_stackwarden_k65_expressions_reckoned" 626) none (r 362) .none)
noncomputable def N7:OF:=λp P=>tu [(s "_law_part" 693),(s "_law_inputs" 694),(s "_law_budget" 695),(s "_law_names" 696),(s "_law_take" 697),(s "_law_word_here" 698),(s "_law_state" 699),(s "_law_s" 700),(s "_law_e" 701)]
def Rh:OF:=λp P=>no (j6 0 0 "_law_due" "_law_due" (tf p 39))
noncomputable def N8:OF:=λp P=>co [(s "_law_due" 690),(s "_law_due" 691),(s cF 692),(i 290),(i 3),(i 0),(i 0),(i 3),(r 364),(.bool true),(i 181),(r 365),.none,(r 366),(r 367),(r 368),(i 702),(i 290),(s cF 703)]
def N9:OF:=λp P=>fo (fn "_law_due" "_law_due" (tf p 39) .none .none .none (s "law_stackwarden_k65_expressions_reckoned" 626) none (r 369) .none)
def Oa:OF:=λp P=>tu [(s "_law_found" 708),(s "_law_due_here" 709),(s "_law_word_here" 710)]
def Ri:OF:=λp P=>no (j6 0 0 "_law_alike" "_law_alike" (tf p 40))
noncomputable def Oc:OF:=λp P=>co [(s "_law_alike" 705),(s "_law_alike" 706),(s cF 707),(i 307),(i 2),(i 0),(i 0),(i 3),(r 371),(.bool true),(i 181),(r 372),.none,(r 373),(r 374),(r 375),(i 711),(i 307),(s cF 712)]
def Od:OF:=λp P=>fo (fn "_law_alike" "_law_alike" (tf p 40) .none .none .none (s "law_stackwarden_k65_expressions_reckoned" 626) none (r 376) .none)
def Rj:OF:=λp P=>no (j6 0 0 "law" "law" (tf p 41))
noncomputable def Oe:OF:=λp P=>co [(s "law" 714),(s "law" 715),(s cF 716),(i 314),(i 1),(i 0),(i 0),(i 3),(r 378),(.bool true),(i 181),(r 379),.none,.none,.none,(r 380),(i 717),(i 314),(s cF 718)]
def Of:OF:=λp P=>fo (fn "law" "law" (tf p 41) .none .none .none (s "law_stackwarden_k65_expressions_reckoned" 626) none (r 381) .none)
noncomputable def T0:TF:=(aa B8 (aa B9 (aa Zk (af Cf) (af o0)) (aa Cb (af Ci) (af o2))) (aa Q4 (aa Ca (af Cg) (af o1)) (aa Cd (af pJ) (af o3))))
noncomputable def T1:TF:=(aa B8 (aa B9 (aa o4 (aa Cf (af o6) (af w6)) (aa o0 (af o1) (af Cm))) (aa Cb (aa Ci (af o8) (af BU)) (aa o2 (af Cj) av))) (aa Q4 (aa Ca (aa Cg (af o7) (af Qs)) (aa o5 (af o9) av)) (aa Cd (aa pJ (af o0) (af Ck)) (aa o3 (af o0) av))))
noncomputable def T2:TF:=(aa B8 (aa B9 (aa Zl (aa Cf (aa o6 (af o0) av) (aa w6 (af EZ) av)) (aa o0 (aa o1 (af o0) av) (af Cm))) (aa Cb (aa Ci (aa o8 (af FX) av) (af BU)) (aa o2 (aa Cj (af Co) av) (af o7)))) (aa Q4 (aa Ca (aa Cg (aa o7 (af o1) av) (af Zn)) (aa Zm (aa o9 (af EX) av) (af rn))) (aa Cd (aa pJ (aa o0 (af FY) av) (af Ck)) (aa o3 (aa o0 (af EY) av) (af EW)))))
noncomputable def T3:TF:=(aa B8 (aa B9 (aa Zo (aa Cf (aa o6 (aa o0 (af Ge) av) (af o0)) (aa w6 (aa EZ (af o0) av) (af E9))) (aa o0 (aa o1 (aa o0 (af o0) av) (af KO)) (aa Cm (aa o0 (af Gg) av) (af Fd)))) (aa Cb (aa Ci (aa o8 (aa FX (af o1) av) (af Gb)) (aa BU (aa o7 (af Fh) av) (af o0))) (aa o2 (aa Cj (aa Co (af Ff) av) (af o1)) (aa o7 (aa Iw (af Gi) av) (af Gd))))) (aa Q4 (aa Ca (aa Cg (aa o7 (aa o1 (af o0) av) (af Ga)) (aa E8 (aa rn (af o1) av) (af Fc))) (aa Zp (aa o9 (aa EX (af IC) av) (af o0)) (aa rn (aa o1 (af Gh) av) (af o0)))) (aa Cd (aa pJ (aa o0 (aa FY (af Gf) av) (af KN)) (aa Ck (aa FZ (af o0) av) (af o1))) (aa o3 (aa o0 (aa EY (af Fg) av) (af Iz)) (aa EW (af Iy) (af Fe))))))
noncomputable def T4:TF:=(aa B8 (aa B9 (aa Zq (aa Cf (aa o6 (aa o0 (af Ge) (af o0)) (aa o0 (af o1) av)) (aa w6 (aa EZ (af o0) (af Gq)) (aa E9 (af Gj) av))) (aa o0 (aa o1 (aa o0 (af o0) (af o0)) (aa KO (af KP) av)) (aa Cm (aa o0 (af Gg) (af Gr)) (aa Fd (af Gm) av)))) (aa Cb (aa Ci (aa o8 (aa FX (af o1) (af IF)) (aa Gb (af o0) av)) (aa BU (aa o7 (af Fh) (af o1)) (aa o0 (af IE) av))) (aa o2 (aa Cj (aa Co (af Ff) (af IH)) (aa o1 (af o0) av)) (aa o7 (aa Iw (af Gi) av) (aa Gd (af o1) av))))) (aa Q4 (aa Ca (aa Cg (aa o7 (aa o1 (af o0) (af KR)) (aa Ga (af ID) av)) (aa E8 (aa rn (af o1) (af o0)) (aa Fc (af o0) av))) (aa Zr (aa o9 (aa EX (af IC) (af o1)) (aa o0 (af KQ) av)) (aa rn (aa o1 (af Gh) (af IJ)) (aa o0 (af o0) av)))) (aa Cd (aa pJ (aa o0 (aa FY (af Gf) (af IG)) (aa KN (af M9) av)) (aa Ck (aa FZ (af o0) (af II)) (aa o1 (af Gk) av))) (aa o3 (aa o0 (aa EY (af Fg) (af Gp)) (aa Iz (af o1) av)) (aa EW (aa Iy (af o0) av) (aa Fe (af Gn) av))))))
noncomputable def T5:TF:=(aa B8 (aa B9 (aa Zt (aa Cf (aa o6 (aa o0 (aa Ge (af Nd) av) (af o0)) (aa o0 (af o1) (af Na))) (aa w6 (aa EZ (af o0) (af Gq)) (aa E9 (af Gj) (af o0)))) (aa o0 (aa o1 (aa o0 (af o0) (af o0)) (aa KO (af KP) (af OI))) (aa Cm (aa o0 (af Gg) (af Gr)) (aa Fd (af Gm) (af IM))))) (aa Cb (aa Ci (aa o8 (aa FX (af o1) (af IF)) (aa Gb (af o0) (af Nb))) (aa BU (aa o7 (af Fh) (af o1)) (aa o0 (af IE) (af IK)))) (aa o2 (aa Cj (aa Co (af Ff) (af IH)) (aa o1 (af o0) (af o1))) (aa o7 (aa Iw (af Gi) (af r6)) (aa Gd (af o1) (af IQ)))))) (aa Zs (aa Ca (aa Cg (aa o7 (aa o1 (aa o0 (af Nf) av) (af KR)) (aa Ga (af ID) (af o0))) (aa E8 (aa rn (af o1) (af o0)) (aa Fc (af o0) (af KU)))) (aa Zu (aa o9 (aa EX (af IC) (af o1)) (aa o0 (af KQ) (af o0))) (aa rn (aa o1 (af Gh) (af IJ)) (aa o0 (af o0) (af IP))))) (aa Cd (aa pJ (aa o0 (aa FY (af Gf) (af IG)) (aa KN (af M9) (af OH))) (aa Ck (aa FZ (af o0) (af II)) (aa o1 (af Gk) (af IL)))) (aa o3 (aa o0 (aa EY (af Fg) (af Gp)) (aa Iz (af o1) (af KS))) (aa EW (aa Iy (af o0) (af o7)) (aa Fe (af Gn) (af IS)))))))
noncomputable def u0:TF:=(aa o1 (aa o0 (aa o0 (af OJ) av) (af o0)) (aa KO (aa KP (af Fj) av) (af OI)))
noncomputable def u1:TF:=(aa o9 (aa EX (aa IC (af o0) av) (af o1)) (aa o0 (aa KQ (af Fl) av) (af o0)))
noncomputable def u2:TF:=(aa o0 (aa FY (aa Gf (af o7) av) (af IG)) (aa KN (aa M9 (af BV) av) (af OH)))
noncomputable def T6:TF:=(aa B8 (aa B9 (aa Zw (aa Cf (aa o6 (aa o0 (aa Ge (af Nd) av) (af o0)) (aa o0 (aa o1 (af zg) av) (af Na))) (aa w6 (aa EZ (aa o0 (af Ni) av) (af Gq)) (aa E9 (af Gj) (af o0)))) (aa o0 u0 (aa Cm (aa o0 (aa Gg (af o0) av) (af Gr)) (aa Fd (af Gm) (af IM))))) (aa Cb (aa Ci (aa o8 (aa FX (aa o1 (af r6) av) (af IF)) (aa Gb (aa o0 (af zi) av) (af Nb))) (aa BU (aa o7 (aa Fh (af o1) av) (af o1)) (aa o0 (af IE) (af IK)))) (aa o2 (aa Cj (aa Co (aa Ff (af Ng) av) (af IH)) (aa o1 (af o0) (af o1))) (aa o7 (aa Iw (aa Gi (af Nj) av) (af r6)) (aa Gd (af o1) (af IQ)))))) (aa Zv (aa Ca (aa Cg (aa o7 (aa o1 (aa o0 (af Nf) av) (af KR)) (aa Ga (aa ID (af zh) av) (af o0))) (aa E8 (aa rn (aa o1 (af o0) av) (af o0)) (aa Fc (af o0) (af KU)))) (aa Zx u1 (aa rn (aa o1 (aa Gh (af OK) av) (af IJ)) (aa o0 (af o0) (af IP))))) (aa Cd (aa pJ u2 (aa Ck (aa FZ (aa o0 (af KW) av) (af II)) (aa o1 (af Gk) (af IL)))) (aa o3 (aa o0 (aa EY (aa Fg (af Nh) av) (af Gp)) (aa Iz (af o1) (af KS))) (aa EW (aa Iy (aa o0 (af zf) av) (af o7)) (aa Fe (af Gn) (af IS)))))))
noncomputable def u3:TF:=(aa o0 (aa Ge (af Nd) av) (aa o0 (af BZ) av))
noncomputable def u4:TF:=(aa FX (aa o1 (af r6) av) (aa IF (af Fo) av))
noncomputable def u5:TF:=(aa o1 (aa o0 (af Nf) av) (aa KR (af Fm) av))
noncomputable def T7:TF:=(aa B8 (aa B9 (aa U3 (aa Cf (aa o6 u3 (aa o0 (aa o1 (af zg) av) (af Na))) (aa w6 (aa EZ (aa o0 (af Ni) av) (af Gq)) (aa E9 (aa Gj (af BW) av) (af o0)))) (aa o0 u0 (aa Cm (aa o0 (aa Gg (af o0) av) (af Gr)) (aa Fd (aa Gm (af BY) av) (af IM))))) (aa Cb (aa Ci (aa o8 u4 (aa Gb (aa o0 (af zi) av) (af Nb))) (aa BU (aa o7 (aa Fh (af o1) av) (af o1)) (aa o0 (aa IE (af o1) av) (af IK)))) (aa o2 (aa Cj (aa Co (aa Ff (af Ng) av) (af IH)) (aa o1 (aa o0 (af r6) av) (af o1))) (aa o7 (aa Iw (aa Gi (af Nj) av) (af r6)) (aa Gd (aa o1 (af zk) av) (af IQ)))))) (aa zj (aa Ca (aa Cg (aa o7 u5 (aa Ga (aa ID (af zh) av) (af o0))) (aa E8 (aa rn (aa o1 (af o0) av) (af o0)) (aa Fc (aa o0 (af o0) av) (af KU)))) (aa U4 u1 (aa rn (aa o1 (aa Gh (af OK) av) (af IJ)) (aa o0 (aa o0 (af o0) av) (af IP))))) (aa Cd (aa pJ u2 (aa Ck (aa FZ (aa o0 (af KW) av) (af II)) (aa o1 (aa Gk (af BX) av) (af IL)))) (aa o3 (aa o0 (aa EY (aa Fg (af Nh) av) (af Gp)) (aa Iz (aa o1 (af o7) av) (af KS))) (aa EW (aa Iy (aa o0 (af zf) av) (af o7)) (aa Fe (aa Gn (af zm) av) (af IS)))))))
noncomputable def u6:TF:=(aa o0 (aa o1 (af zg) av) (aa Na (af Fv) av))
noncomputable def u7:TF:=(aa KO (aa KP (af Fj) av) (aa OI (af Fz) av))
noncomputable def u8:TF:=(aa Gb (aa o0 (af zi) av) (aa Nb (af Fx) av))
noncomputable def u9:TF:=(aa o1 (aa o0 (af r6) av) (aa o1 (af IU) av))
noncomputable def WW:TF:=(aa Iw (aa Gi (af Nj) av) (aa r6 (af IT) av))
noncomputable def WX:TF:=(aa Ga (aa ID (af zh) av) (aa o0 (af Fw) av))
noncomputable def WY:TF:=(aa o0 (aa KQ (af Fl) av) (aa o0 (af FA) av))
noncomputable def WZ:TF:=(aa o1 (aa Gh (af OK) av) (aa IJ (af o0) av))
noncomputable def W0:TF:=(aa KN (aa M9 (af BV) av) (aa OH (af Fy) av))
noncomputable def W2:TF:=(aa Iz (aa o1 (af o7) av) (aa KS (af IV) av))
noncomputable def W3:TF:=(aa Iy (aa o0 (af zf) av) (aa o7 (af Fu) av))
noncomputable def T8:TF:=(aa B8 (aa B9 (aa U5 (aa Cf (aa o6 u3 u6) (aa w6 (aa EZ (aa o0 (af Ni) av) (aa Gq (af Fs) av)) (aa E9 (aa Gj (af BW) av) (af o0)))) (aa o0 (aa o1 (aa o0 (aa o0 (af OJ) av) (aa o0 (af o7) av)) u7) (aa Cm (aa o0 (aa Gg (af o0) av) (aa Gr (af B0) av)) (aa Fd (aa Gm (af BY) av) (af IM))))) (aa Cb (aa Ci (aa o8 u4 u8) (aa BU (aa o7 (aa Fh (af o1) av) (aa o1 (af o0) av)) (aa o0 (aa IE (af o1) av) (af IK)))) (aa o2 (aa Cj (aa Co (aa Ff (af Ng) av) (aa IH (af o0) av)) u9) (aa o7 WW (aa Gd (aa o1 (af zk) av) (af IQ)))))) (aa zj (aa Ca (aa Cg (aa o7 u5 WX) (aa E8 (aa rn (aa o1 (af o0) av) (aa o0 (af Ft) av)) (aa Fc (aa o0 (af o0) av) (af KU)))) (aa U6 (aa o9 (aa EX (aa IC (af o0) av) (aa o1 (af Fp) av)) WY) (aa rn WZ (aa o0 (aa o0 (af o0) av) (af IP))))) (aa Cd (aa pJ (aa o0 (aa FY (aa Gf (af o7) av) (aa IG (af o0) av)) W0) (aa Ck (aa FZ (aa o0 (af KW) av) (aa II (af o1) av)) (aa o1 (aa Gk (af BX) av) (af IL)))) (aa o3 (aa o0 (aa EY (aa Fg (af Nh) av) (aa Gp (af Fq) av)) W2) (aa EW W3 (aa Fe (aa Gn (af zm) av) (af IS)))))))
noncomputable def T9:TF:=(aa B8 (aa B9 (aa U7 (aa Cf (aa o6 (aa o0 (aa Ge (af Nd) (af o1)) (aa o0 (af BZ) av)) u6) (aa w6 (aa EZ (aa o0 (af Ni) (af FI)) (aa Gq (af Fs) av)) (aa E9 (aa Gj (af BW) av) (aa o0 (af o0) av)))) (aa o0 (aa o1 (aa o0 (aa o0 (af OJ) (af FE)) (aa o0 (af o7) av)) u7) (aa Cm (aa o0 (aa Gg (af o0) (af Jc)) (aa Gr (af B0) av)) (aa Fd (aa Gm (af BY) av) (aa IM (af IX) av))))) (aa Cb (aa Ci (aa o8 (aa FX (aa o1 (af r6) (af o0)) (aa IF (af Fo) av)) u8) (aa BU (aa o7 (aa Fh (af o1) (af FK)) (aa o1 (af o0) av)) (aa o0 (aa IE (af o1) av) (aa IK (af IW) av)))) (aa o2 (aa Cj (aa Co (aa Ff (af Ng) (af FG)) (aa IH (af o0) av)) u9) (aa o7 WW (aa Gd (aa o1 (af zk) av) (aa IQ (af IZ) av)))))) (aa zj (aa Ca (aa Cg (aa o7 (aa o1 (aa o0 (af Nf) (af FC)) (aa KR (af Fm) av)) WX) (aa E8 (aa rn (aa o1 (af o0) (af FJ)) (aa o0 (af Ft) av)) (aa Fc (aa o0 (af o0) av) (aa KU (af o7) av)))) (aa U8 (aa o9 (aa EX (aa IC (af o0) (af FF)) (aa o1 (af Fp) av)) WY) (aa rn WZ (aa o0 (aa o0 (af o0) av) (aa IP (af IY) av))))) (aa Cd (aa pJ (aa o0 (aa FY (aa Gf (af o7) (af Ja)) (aa IG (af o0) av)) W0) (aa Ck (aa FZ (aa o0 (af KW) (af Jb)) (aa II (af o1) av)) (aa o1 (aa Gk (af BX) av) (aa IL (af o0) av)))) (aa o3 (aa o0 (aa EY (aa Fg (af Nh) (af FH)) (aa Gp (af Fq) av)) W2) (aa EW W3 (aa Fe (aa Gn (af zm) av) (aa IS (af o0) av)))))))
noncomputable def W4:TF:=(aa B8 (aa B9 (aa U9 (aa Cf (aa o6 (aa o0 (aa Ge (aa Nd (af Jx) av) (af o1)) (aa o0 (aa BZ (af o0) av) (af Jh))) (aa o0 (aa o1 (aa zg (af o1) av) (af o0)) (aa Na (aa Fv (af NF) av) (af Jp)))) (aa w6 (aa EZ (aa o0 (aa Ni (af o0) av) (af FI)) (aa Gq (aa Fs (af ND) av) (af o1))) (aa E9 (aa Gj (aa BW (af JH) av) (af Np)) (aa o0 (af o0) (af Js))))) (aa o0 (aa o1 (aa o0 (aa o0 (aa OJ (af o0) av) (af FE)) (aa o0 (aa o7 (af o0) av) (af Nr))) (aa KO (aa KP (aa Fj (af JF) av) (af o0)) (aa OI (af Fz) (af Jr)))) (aa Cm (aa o0 (aa Gg (aa o0 (af Nz) av) (af Jc)) (aa Gr (aa B0 (af JR) av) (af Jn))) (aa Fd (aa Gm (aa BY (af JJ) av) (af o1)) (aa IM (af IX) (af Jv)))))) (aa Cb (aa Ci (aa o8 (aa FX (aa o1 (aa r6 (af o1) av) (af o0)) (aa IF (aa Fo (af JL) av) (af o0))) (aa Gb (aa o0 (aa zi (af o0) av) (af Nm)) (aa Nb (af Fx) (af Nu)))) (aa BU (aa o7 (aa Fh (aa o1 (af JB) av) (af FK)) (aa o1 (aa o0 (af JP) av) (af o0))) (aa o0 (aa IE (aa o1 (af NB) av) (af Jf)) (aa IK (af IW) (af o0))))) (aa o2 (aa Cj (aa Co (aa Ff (aa Ng (af Jz) av) (af FG)) (aa IH (aa o0 (af JN) av) (af Jl))) (aa o1 (aa o0 (aa r6 (af o0) av) (af Jd)) (aa o1 (af IU) (af o1)))) (aa o7 (aa Iw (aa Gi (aa Nj (af JD) av) (af o7)) (aa r6 (aa IT (af JT) av) (af o0))) (aa Gd (aa o1 (aa zk (af o1) av) (af o0)) (aa IQ (af IZ) (af Nw))))))) (aa zj (aa Ca (aa Cg (aa o7 (aa o1 (aa o0 (aa Nf (af o0) av) (af FC)) (aa KR (aa Fm (af NC) av) (af Ji))) (aa Ga (aa ID (aa zh (af JE) av) (af Nl)) (aa o0 (aa Fw (af NG) av) (af o0)))) (aa E8 (aa rn (aa o1 (aa o0 (af o1) av) (af FJ)) (aa o0 (aa Ft (af JO) av) (af Jm))) (aa Fc (aa o0 (aa o0 (af o0) av) (af Je)) (aa KU (af o7) (af Ju))))) (aa Va (aa o9 (aa EX (aa IC (aa o0 (af Ny) av) (af FF)) (aa o1 (aa Fp (af o1) av) (af Jk))) (aa o0 (aa KQ (aa Fl (af JG) av) (af o1)) (aa o0 (af FA) (af o0)))) (aa rn (aa o1 (aa Gh (aa OK (af JC) av) (af o0)) (aa IJ (aa o0 (af JS) av) (af Jo))) (aa o0 (aa o0 (aa o0 (af o0) av) (af Jg)) (aa IP (af IY) (af o0)))))) (aa Cd (aa pJ (aa o0 (aa FY (aa Gf (aa o7 (af Jy) av) (af Ja)) (aa IG (aa o0 (af JM) av) (af o1))) (aa KN (aa M9 (aa BV (af NA) av) (af Nn)) (aa OH (af Fy) (af Jq)))) (aa Ck (aa FZ (aa o0 (aa KW (af o0) av) (af Jb)) (aa II (aa o1 (af JQ) av) (af Nt))) (aa o1 (aa Gk (aa BX (af JI) av) (af o0)) (aa IL (af o0) (af o1))))) (aa o3 (aa o0 (aa EY (aa Fg (aa Nh (af JA) av) (af FH)) (aa Gp (aa Fq (af o0) av) (af o0))) (aa Iz (aa o1 (aa o7 (af o1) av) (af o0)) (aa KS (af IV) (af Nv)))) (aa EW (aa Iy (aa o0 (aa zf (af o0) av) (af Nk)) (aa o7 (aa Fu (af JU) av) (af o1))) (aa Fe (aa Gn (aa zm (af JK) av) (af Nq)) (aa IS (af o0) (af Jw))))))))
noncomputable def W5:TF:=(aa B8 (aa B9 (aa NH (aa Cf (aa o6 (aa o0 (aa Ge (aa Nd (af Jx) av) (aa o1 (af o0) av)) (aa o0 (aa BZ (af o0) av) (aa Jh (af N1) av))) (aa o0 (aa o1 (aa zg (af o1) av) (aa o0 (af NU) av)) (aa Na (aa Fv (af NF) av) (aa Jp (af o0) av)))) (aa w6 (aa EZ (aa o0 (aa Ni (af o0) av) (aa FI (af o1) av)) (aa Gq (aa Fs (af ND) av) (aa o1 (af o0) av))) (aa E9 (aa Gj (aa BW (af JH) av) (aa Np (af NX) av)) (aa o0 (aa o0 (af NK) av) (aa Js (af Ri) av))))) (aa o0 (aa o1 (aa o0 (aa o0 (aa OJ (af o0) av) (aa FE (af Q8) av)) (aa o0 (aa o7 (af o0) av) (aa Nr (af o0) av))) (aa KO (aa KP (aa Fj (af JF) av) (aa o0 (af NW) av)) (aa OI (aa Fz (af NI) av) (aa Jr (af o0) av)))) (aa Cm (aa o0 (aa Gg (aa o0 (af Nz) av) (aa Jc (af NS) av)) (aa Gr (aa B0 (af JR) av) (aa Jn (af N6) av))) (aa Fd (aa Gm (aa BY (af JJ) av) (aa o1 (af NZ) av)) (aa IM (aa IX (af o0) av) (aa Jv (af o1) av)))))) (aa Cb (aa Ci (aa o8 (aa FX (aa o1 (aa r6 (af o1) av) (aa o0 (af NO) av)) (aa IF (aa Fo (af JL) av) (aa o0 (af o1) av))) (aa Gb (aa o0 (aa zi (af o0) av) (aa Nm (af Ra) av)) (aa Nb (aa Fx (af o0) av) (aa Nu (af N8) av)))) (aa BU (aa o7 (aa Fh (aa o1 (af JB) av) (aa FK (af o0) av)) (aa o1 (aa o0 (af JP) av) (aa o0 (af Rg) av))) (aa o0 (aa IE (aa o1 (af NB) av) (aa Jf (af o0) av)) (aa IK (aa IW (af o1) av) (aa o0 (af Od) av))))) (aa o2 (aa Cj (aa Co (aa Ff (aa Ng (af Jz) av) (aa FG (af NQ) av)) (aa IH (aa o0 (af JN) av) (aa Jl (af N3) av))) (aa o1 (aa o0 (aa r6 (af o0) av) (aa Jd (af o1) av)) (aa o1 (aa IU (af Q6) av) (aa o1 (af Oa) av)))) (aa o7 (aa Iw (aa Gi (aa Nj (af JD) av) (aa o7 (af o0) av)) (aa r6 (aa IT (af JT) av) (aa o0 (af o1) av))) (aa Gd (aa o1 (aa zk (af o1) av) (aa o0 (af Rc) av)) (aa IQ (aa IZ (af NM) av) (aa Nw (af Oe) av))))))) (aa zj (aa Ca (aa Cg (aa o7 (aa o1 (aa o0 (aa Nf (af o0) av) (aa FC (af o1) av)) (aa KR (aa Fm (af NC) av) (aa Ji (af o0) av))) (aa Ga (aa ID (aa zh (af JE) av) (aa Nl (af o0) av)) (aa o0 (aa Fw (af NG) av) (aa o0 (af Rh) av)))) (aa E8 (aa rn (aa o1 (aa o0 (af o1) av) (aa FJ (af NR) av)) (aa o0 (aa Ft (af JO) av) (aa Jm (af o1) av))) (aa Fc (aa o0 (aa o0 (af o0) av) (aa Je (af NY) av)) (aa KU (aa o7 (af o0) av) (aa Ju (af Oc) av))))) (aa Q5 (aa o9 (aa EX (aa IC (aa o0 (af Ny) av) (aa FF (af NP) av)) (aa o1 (aa Fp (af o1) av) (aa Jk (af Rf) av))) (aa o0 (aa KQ (aa Fl (af JG) av) (aa o1 (af o0) av)) (aa o0 (aa FA (af o0) av) (aa o0 (af o1) av)))) (aa rn (aa o1 (aa Gh (aa OK (af JC) av) (aa o0 (af NT) av)) (aa IJ (aa o0 (af JS) av) (aa Jo (af o0) av))) (aa o0 (aa o0 (aa o0 (af o0) av) (aa Jg (af o0) av)) (aa IP (aa IY (af Q7) av) (aa o0 (af Rj) av)))))) (aa Cd (aa pJ (aa o0 (aa FY (aa Gf (aa o7 (af Jy) av) (aa Ja (af o0) av)) (aa IG (aa o0 (af JM) av) (aa o1 (af N2) av))) (aa KN (aa M9 (aa BV (af NA) av) (aa Nn (af NV) av)) (aa OH (aa Fy (af o1) av) (aa Jq (af N9) av)))) (aa Ck (aa FZ (aa o0 (aa KW (af o0) av) (aa Jb (af Q9) av)) (aa II (aa o1 (af JQ) av) (aa Nt (af N5) av))) (aa o1 (aa Gk (aa BX (af JI) av) (aa o0 (af o1) av)) (aa IL (aa o0 (af NL) av) (aa o1 (af o0) av))))) (aa o3 (aa o0 (aa EY (aa Fg (aa Nh (af JA) av) (aa FH (af o0) av)) (aa Gp (aa Fq (af o0) av) (aa o0 (af N4) av))) (aa Iz (aa o1 (aa o7 (af o1) av) (aa o0 (af Rb) av)) (aa KS (aa IV (af NJ) av) (aa Nv (af o0) av)))) (aa EW (aa Iy (aa o0 (aa zf (af o0) av) (aa Nk (af o1) av)) (aa o7 (aa Fu (af JU) av) (aa o1 (af N7) av))) (aa Fe (aa Gn (aa zm (af JK) av) (aa Nq (af N0) av)) (aa IS (aa o0 (af NN) av) (aa Jw (af Of) av))))))))
noncomputable def HF(p:Program)(P:Params):Heap:=⟨Array.mk [boot_o_0 P,boot_o_1 P,zj p P,NH p P,boot_o_4 P,boot_o_5 P,boot_o_6 P,boot_o_7 P,boot_o_8 P,boot_o_9 P,boot_o_10 P,o0 p P,Q5 p P,o2 p P,o3 p P,o6 p P,o7 p P,o8 p P,o0 p P,o1 p P,o9 p P,Cj p P,o0 p P,w6 p P,E8 p P,BU p P,Ck p P,Cm p P,rn p P,o7 p P,EW p P,o0 p P,o1 p P,FX p P,FY p P,o0 p P,EX p P,Co p P,EY p P,EZ p P,rn p P,o7 p P,FZ p P,o0 p P,o1 p P,Iw p P,Iy p P,o0 p P,Ga p P,Gb p P,KN p P,KO p P,o0 p P,o1 p P,Iz p P,E9 p P,Fc p P,o0 p P,o1 p P,Fd p P,o0 p P,Gd p P,Fe p P,Ge p P,o0 p P,o1 p P,Gf p P,o0 p P,IC p P,Ff p P,Fg p P,o0 p P,o1 p P,Fh p P,o0 p P,Gg p P,Gh p P,Gi p P,o0 p P,o1 p P,ID p P,o0 p P,M9 p P,KP p P,KQ p P,o0 p P,o1 p P,Gj p P,o0 p P,IE p P,Gk p P,Gm p P,o0 p P,o1 p P,Gn p P,o0 p P,KR p P,IF p P,IG p P,o0 p P,o1 p P,IH p P,Gp p P,Gq p P,o0 p P,o1 p P,II p P,Gr p P,IJ p P,r6 p P,o7 p P,Na p P,o0 p P,Nb p P,OH p P,OI p P,o0 p P,o1 p P,KS p P,o0 p P,KU p P,IK p P,IL p P,IM p P,IP p P,IQ p P,IS p P,Nd p P,Nf p P,r6 p P,o7 p P,OJ p P,o0 p P,Ng p P,Nh p P,Ni p P,o0 p P,o1 p P,KW p P,o0 p P,OK p P,Nj p P,zf p P,zg p P,zh p P,zi p P,BV p P,Fj p P,Fl p P,r6 p P,o7 p P,BW p P,o0 p P,o1 p P,BX p P,BY p P,o0 p P,zk p P,zm p P,BZ p P,Fm p P,Fo p P,o0 p P,o7 p P,Fp p P,o0 p P,Fq p P,Fs p P,Ft p P,o0 p P,o1 p P,B0 p P,o0 p P,IT p P,Fu p P,Fv p P,Fw p P,Fx p P,Fy p P,Fz p P,FA p P,IU p P,IV p P,o0 p P,o7 p P,IW p P,o0 p P,IX p P,IY p P,IZ p P,o0 p P,o1 p P,FC p P,o0 p P,Ja p P,FE p P,FF p P,FG p P,FH p P,FI p P,FJ p P,FK p P,Jb p P,Jc p P,o0 p P,o7 p P,Nk p P,o0 p P,Nl p P,Nm p P,Nn p P,o0 p P,o1 p P,Jd p P,o0 p P,Np p P,Je p P,Jf p P,o0 p P,o1 p P,Jg p P,o0 p P,Nq p P,Jh p P,Ji p P,o0 p P,o1 p P,Nr p P,Jk p P,Jl p P,o0 p P,o1 p P,Jm p P,o0 p P,Nt p P,Jn p P,Jo p P,o0 p P,o1 p P,Jp p P,o0 p P,Nu p P,Jq p P,Jr p P,o0 p P,o1 p P,Nv p P,Js p P,Ju p P,o0 p P,o1 p P,Jv p P,o0 p P,Nw p P,Jw p P,Jx p P,o0 p P,o1 p P,Jy p P,o0 p P,Ny p P,Jz p P,JA p P,o0 p P,o1 p P,JB p P,o0 p P,Nz p P,JC p P,JD p P,o0 p P,o1 p P,JE p P,o0 p P,NA p P,JF p P,JG p P,o0 p P,o1 p P,JH p P,o0 p P,NB p P,JI p P,JJ p P,o0 p P,o1 p P,JK p P,o0 p P,NC p P,JL p P,JM p P,o0 p P,o1 p P,JN p P,o0 p P,ND p P,JO p P,JP p P,JQ p P,JR p P,JS p P,JT p P,JU p P,NF p P,NG p P,o0 p P,o1 p P,NI p P,o0 p P,Q6 p P,NJ p P,NK p P,o0 p P,o1 p P,NL p P,o0 p P,Q7 p P,NM p P,NN p P,o0 p P,o1 p P,NO p P,o0 p P,Q8 p P,NP p P,NQ p P,o0 p P,o1 p P,NR p P,o0 p P,Q9 p P,NS p P,NT p P,o0 p P,o1 p P,NU p P,o0 p P,Ra p P,NV p P,NW p P,o0 p P,o1 p P,Rb p P,NX p P,NY p P,o0 p P,o1 p P,NZ p P,o0 p P,Rc p P,N0 p P,N1 p P,o0 p P,o1 p P,N2 p P,o0 p P,Rf p P,N3 p P,N4 p P,o0 p P,o1 p P,Rg p P,N5 p P,N6 p P,o0 p P,o1 p P,N7 p P,o0 p P,Rh p P,N8 p P,N9 p P,o0 p P,o1 p P,Oa p P,o0 p P,Ri p P,Oc p P,Od p P,o0 p P,o1 p P,Rj p P,Oe p P,Of p P],{}⟩
noncomputable def K(P:Params):PySem.W.Frag:=(nat_lit 2,zj pw P)::(nat_lit 3,NH pw P)::(nat_lit 15,o6 pw P)::(nat_lit 22,o0 pw P)::(nat_lit 23,w6 pw P)::(nat_lit 24,E8 pw P)::(nat_lit 25,BU pw P)::(nat_lit 28,rn pw P)::(nat_lit 35,o0 pw P)::(nat_lit 36,EX pw P)::(nat_lit 37,Co pw P)::(nat_lit 40,rn pw P)::(nat_lit 47,o0 pw P)::(nat_lit 48,Ga pw P)::(nat_lit 49,Gb pw P)::(nat_lit 52,o0 pw P)::(nat_lit 55,E9 pw P)::(nat_lit 56,Fc pw P)::(nat_lit 57,o0 pw P)::(nat_lit 59,Fd pw P)::(nat_lit 60,o0 pw P)::(nat_lit 62,Fe pw P)::(nat_lit 63,Ge pw P)::(nat_lit 64,o0 pw P)::(nat_lit 66,Gf pw P)::(nat_lit 67,o0 pw P)::(nat_lit 69,Ff pw P)::(nat_lit 70,Fg pw P)::(nat_lit 71,o0 pw P)::(nat_lit 73,Fh pw P)::(nat_lit 74,o0 pw P)::(nat_lit 76,Gh pw P)::(nat_lit 77,Gi pw P)::(nat_lit 78,o0 pw P)::(nat_lit 80,ID pw P)::(nat_lit 81,o0 pw P)::(nat_lit 83,KP pw P)::(nat_lit 84,KQ pw P)::(nat_lit 85,o0 pw P)::(nat_lit 87,Gj pw P)::(nat_lit 88,o0 pw P)::(nat_lit 90,Gk pw P)::(nat_lit 91,Gm pw P)::(nat_lit 92,o0 pw P)::(nat_lit 94,Gn pw P)::(nat_lit 95,o0 pw P)::(nat_lit 97,IF pw P)::(nat_lit 98,IG pw P)::(nat_lit 99,o0 pw P)::(nat_lit 102,Gp pw P)::(nat_lit 103,Gq pw P)::(nat_lit 104,o0 pw P)::(nat_lit 107,Gr pw P)::(nat_lit 108,IJ pw P)::(nat_lit 109,r6 pw P)::(nat_lit 116,o0 pw P)::(nat_lit 118,KS pw P)::(nat_lit 119,o0 pw P)::(nat_lit 121,IK pw P)::(nat_lit 122,IL pw P)::(nat_lit 123,IM pw P)::(nat_lit 124,IP pw P)::(nat_lit 125,IQ pw P)::(nat_lit 126,IS pw P)::(nat_lit 129,r6 pw P)::(nat_lit 136,o0 pw P)::(nat_lit 138,KW pw P)::(nat_lit 139,o0 pw P)::(nat_lit 141,Nj pw P)::(nat_lit 142,zf pw P)::(nat_lit 143,zg pw P)::(nat_lit 144,zh pw P)::(nat_lit 145,zi pw P)::(nat_lit 146,BV pw P)::(nat_lit 149,r6 pw P)::(nat_lit 156,o0 pw P)::(nat_lit 157,zk pw P)::(nat_lit 158,zm pw P)::(nat_lit 159,BZ pw P)::(nat_lit 169,o0 pw P)::(nat_lit 171,B0 pw P)::(nat_lit 172,o0 pw P)::(nat_lit 174,Fu pw P)::(nat_lit 175,Fv pw P)::(nat_lit 176,Fw pw P)::(nat_lit 177,Fx pw P)::(nat_lit 178,Fy pw P)::(nat_lit 179,Fz pw P)::(nat_lit 180,FA pw P)::(nat_lit 190,o0 pw P)::(nat_lit 192,FC pw P)::(nat_lit 193,o0 pw P)::(nat_lit 195,FE pw P)::(nat_lit 196,FF pw P)::(nat_lit 197,FG pw P)::(nat_lit 198,FH pw P)::(nat_lit 199,FI pw P)::(nat_lit 200,FJ pw P)::(nat_lit 201,FK pw P)::(nat_lit 211,o0 pw P)::(nat_lit 213,Jd pw P)::(nat_lit 214,o0 pw P)::(nat_lit 216,Je pw P)::(nat_lit 217,Jf pw P)::(nat_lit 218,o0 pw P)::(nat_lit 220,Jg pw P)::(nat_lit 221,o0 pw P)::(nat_lit 223,Jh pw P)::(nat_lit 224,Ji pw P)::(nat_lit 225,o0 pw P)::(nat_lit 228,Jk pw P)::(nat_lit 229,Jl pw P)::(nat_lit 230,o0 pw P)::(nat_lit 232,Jm pw P)::(nat_lit 233,o0 pw P)::(nat_lit 235,Jn pw P)::(nat_lit 236,Jo pw P)::(nat_lit 237,o0 pw P)::(nat_lit 239,Jp pw P)::(nat_lit 240,o0 pw P)::(nat_lit 242,Jq pw P)::(nat_lit 243,Jr pw P)::(nat_lit 244,o0 pw P)::(nat_lit 247,Js pw P)::(nat_lit 248,Ju pw P)::(nat_lit 249,o0 pw P)::(nat_lit 251,Jv pw P)::(nat_lit 252,o0 pw P)::(nat_lit 254,Jw pw P)::(nat_lit 255,Jx pw P)::(nat_lit 256,o0 pw P)::(nat_lit 258,Jy pw P)::(nat_lit 259,o0 pw P)::(nat_lit 261,Jz pw P)::(nat_lit 262,JA pw P)::(nat_lit 263,o0 pw P)::(nat_lit 265,JB pw P)::(nat_lit 266,o0 pw P)::(nat_lit 268,JC pw P)::(nat_lit 269,JD pw P)::(nat_lit 270,o0 pw P)::(nat_lit 272,JE pw P)::(nat_lit 273,o0 pw P)::(nat_lit 275,JF pw P)::(nat_lit 276,JG pw P)::(nat_lit 277,o0 pw P)::(nat_lit 279,JH pw P)::(nat_lit 280,o0 pw P)::(nat_lit 282,JI pw P)::(nat_lit 283,JJ pw P)::(nat_lit 284,o0 pw P)::(nat_lit 286,JK pw P)::(nat_lit 287,o0 pw P)::(nat_lit 289,JL pw P)::(nat_lit 290,JM pw P)::(nat_lit 291,o0 pw P)::(nat_lit 293,JN pw P)::(nat_lit 294,o0 pw P)::(nat_lit 296,JO pw P)::(nat_lit 297,JP pw P)::(nat_lit 298,JQ pw P)::(nat_lit 299,JR pw P)::(nat_lit 300,JS pw P)::(nat_lit 301,JT pw P)::(nat_lit 302,JU pw P)::(nat_lit 305,o0 pw P)::(nat_lit 307,NI pw P)::(nat_lit 308,o0 pw P)::(nat_lit 310,NJ pw P)::(nat_lit 311,NK pw P)::(nat_lit 312,o0 pw P)::(nat_lit 314,NL pw P)::(nat_lit 315,o0 pw P)::(nat_lit 317,NM pw P)::(nat_lit 318,NN pw P)::(nat_lit 319,o0 pw P)::(nat_lit 321,NO pw P)::(nat_lit 322,o0 pw P)::(nat_lit 324,NP pw P)::(nat_lit 325,NQ pw P)::(nat_lit 326,o0 pw P)::(nat_lit 328,NR pw P)::(nat_lit 329,o0 pw P)::(nat_lit 331,NS pw P)::(nat_lit 332,NT pw P)::(nat_lit 333,o0 pw P)::(nat_lit 335,NU pw P)::(nat_lit 336,o0 pw P)::(nat_lit 338,NV pw P)::(nat_lit 339,NW pw P)::(nat_lit 340,o0 pw P)::(nat_lit 343,NX pw P)::(nat_lit 344,NY pw P)::(nat_lit 345,o0 pw P)::(nat_lit 347,NZ pw P)::(nat_lit 348,o0 pw P)::(nat_lit 350,N0 pw P)::(nat_lit 351,N1 pw P)::(nat_lit 352,o0 pw P)::(nat_lit 354,N2 pw P)::(nat_lit 355,o0 pw P)::(nat_lit 357,N3 pw P)::(nat_lit 358,N4 pw P)::(nat_lit 359,o0 pw P)::(nat_lit 362,N5 pw P)::(nat_lit 363,N6 pw P)::(nat_lit 364,o0 pw P)::(nat_lit 366,N7 pw P)::(nat_lit 367,o0 pw P)::(nat_lit 369,N8 pw P)::(nat_lit 370,N9 pw P)::(nat_lit 371,o0 pw P)::(nat_lit 373,Oa pw P)::(nat_lit 374,o0 pw P)::(nat_lit 376,Oc pw P)::(nat_lit 377,Od pw P)::(nat_lit 378,o0 pw P)::(nat_lit 381,Oe pw P)::(nat_lit 382,Of pw P)::[]
abbrev KY:List Addr:=[2,3,15,22,23,24,25,28,35,36,37,40,47,48,49,52,55,56,57,59,60,62,63,64,66,67,69,70,71,73,74,76,77,78,80,81,83,84,85,87,88,90,91,92,94,95,97,98,99,102,103,104,107,108,109,116,118,119,121,122,123,124,125,126,129,136,138,139,141,142,143,144,145,146,149,156,157,158,159,169,171,172,174,175,176,177,178,179,180,190,192,193,195,196,197,198,199,200,201,211,213,214,216,217,218,220,221,223,224,225,228,229,230,232,233,235,236,237,239,240,242,243,244,247,248,249,251,252,254,255,256,258,259,261,262,263,265,266,268,269,270,272,273,275,276,277,279,280,282,283,284,286,287,289,290,291,293,294,296,297,298,299,300,301,302,305,307,308,310,311,312,314,315,317,318,319,321,322,324,325,326,328,329,331,332,333,335,336,338,339,340,343,344,345,347,348,350,351,352,354,355,357,358,359,362,363,364,366,367,369,370,371,373,374,376,377,378,381,382]
theorem oK:∀P,KY=(K P).map (·.1):=λ_=>by kernel_rfl
abbrev hK:Hook:=kHook K KY oK
theorem Vb(w:World):(λos=>topGo treeTable pw w 11 (some (.ref 6)) 12 ⟨boot_heap w.params,Array.mk [],boot_drawn,boot_toks,os⟩ (topStub pw))=λos=>some (SH (H0 pw w.params) 187 os,(⟨denote treeTable (cu pw),cu pw,⟨0,0,0,0⟩,BF⟩:Thread)):=by
 walk_at "qk"
theorem Og(w:World):(λos=>segRun treeTable pw w 11 (some (.ref 6)) 1 1 (SH (H0 pw w.params) 187 os) (blockOf (behindTheImports pw) (mW pw) (cu pw) ⟨0,0,0,0⟩ BF))=λos=>some (.next,(ST (T0 pw w.params) 15 187 os).abs,cu pw,⟨0,0,0,0⟩):=by
 walk_at "qk"
theorem Vc(w:World):(λos=>segRunT treeTable pw w 11 (some (.ref 6)) 1 196 (ST (T0 pw w.params) 15 187 os) (piecesOf (dW pw 0 2) (mW pw) (cu pw) ⟨0,0,0,0⟩ BF))=λos=>some (.next,ST (T1 pw w.params) 28 207 os,cu pw,⟨2,0,3,8⟩):=by
 walk_at "qk"
theorem Vd(w:World):(λos=>segRunT treeTable pw w 11 (some (.ref 6)) 1 214 (ST (T1 pw w.params) 28 207 os) (piecesOf (dW pw 2 1) (mW pw) (cu pw) ⟨2,0,3,8⟩ BF))=λos=>some (.next,ST (T2 pw w.params) 40 223 os,cu pw,⟨4,0,5,8⟩):=by
 walk_at "qk"
theorem Ve(w:World):(λos=>segRunT treeTable pw w 11 (some (.ref 6)) 1 388 (ST (T2 pw w.params) 40 223 os) (piecesOf (dW pw 3 11) (mW pw) (cu pw) ⟨4,0,5,8⟩ BF))=λos=>some (.next,ST (T3 pw w.params) 78 285 os,cu pw,⟨29,0,29,4⟩):=by
 walk_at "qk"
theorem Vf(w:World):(λos=>segRunT treeTable pw w 11 (some (.ref 6)) 1 180 (ST (T3 pw w.params) 78 285 os) (piecesOf (dW pw 14 9) (mW pw) (cu pw) ⟨29,0,29,4⟩ BF))=λos=>some (.next,ST (T4 pw w.params) 109 330 os,cu pw,⟨57,0,57,8⟩):=by
 walk_at "qk"
theorem Vg(w:World):(λos=>segRunT treeTable pw w 11 (some (.ref 6)) 1 229 (ST (T4 pw w.params) 109 330 os) (piecesOf (dW pw 23 1) (mW pw) (cu pw) ⟨57,0,57,8⟩ BF))=λos=>some (.next,ST (T5 pw w.params) 129 359 os,cu pw,⟨58,0,61,28⟩):=by
 walk_at "qk"
theorem Vh(w:World):(λos=>segRunT treeTable pw w 11 (some (.ref 6)) 1 229 (ST (T5 pw w.params) 129 359 os) (piecesOf (dW pw 24 1) (mW pw) (cu pw) ⟨58,0,61,28⟩ BF))=λos=>some (.next,ST (T6 pw w.params) 149 388 os,cu pw,⟨62,0,65,26⟩):=by
 walk_at "qk"
theorem Vi(w:World):(λos=>segRunT treeTable pw w 11 (some (.ref 6)) 1 197 (ST (T6 pw w.params) 149 388 os) (piecesOf (dW pw 25 1) (mW pw) (cu pw) ⟨62,0,65,26⟩ BF))=λos=>some (.next,ST (T7 pw w.params) 162 408 os,cu pw,⟨66,0,67,8⟩):=by
 walk_at "qk"
theorem Vj(w:World):(λos=>segRunT treeTable pw w 11 (some (.ref 6)) 1 225 (ST (T7 pw w.params) 162 408 os) (piecesOf (dW pw 26 1) (mW pw) (cu pw) ⟨66,0,67,8⟩ BF))=λos=>some (.next,ST (T8 pw w.params) 183 439 os,cu pw,⟨68,0,72,28⟩):=by
 walk_at "qk"
theorem Vk(w:World):(λos=>segRunT treeTable pw w 11 (some (.ref 6)) 1 225 (ST (T8 pw w.params) 183 439 os) (piecesOf (dW pw 27 1) (mW pw) (cu pw) ⟨68,0,72,28⟩ BF))=λos=>some (.next,ST (T9 pw w.params) 204 470 os,cu pw,⟨73,0,77,26⟩):=by
 walk_at "qk"
theorem Rk(w:World):(λos=>segRunT treeTable pw w 11 (some (.ref 6)) 1 622 (ST (T9 pw w.params) 204 470 os) (piecesOf (dW pw 28 1) (mW pw) (cu pw) ⟨73,0,77,26⟩ BF))=λos=>some (.next,ST (W4 pw w.params) 305 614 os,cu pw,⟨78,0,194,34⟩):=by
 walk_at "qk"
theorem Rl(w:World):(λos=>segRunT treeTable pw w 11 (some (.ref 6)) 1 372 (ST (W4 pw w.params) 305 614 os) (piecesOf (dW pw 29 13) (mW pw) (cu pw) ⟨78,0,194,34⟩ BF))=λos=>some (.next,ST (W5 pw w.params) 383 720 os,cu pw,⟨314,0,347,60⟩):=by
 walk_at "qk"
theorem Vl(w:World):(λos=>topRun treeTable pw w 11 (some (.ref 6)) 2 (ST (W5 pw w.params) 383 720 os).abs ⟨doneF .next,cu pw,⟨314,0,347,60⟩,BF⟩)=λos=>some (SH (HF pw w.params) 720 os):=by
 walk_at "qk"
theorem Rm:behindTheImports pw=dW pw 0 2++(dW pw 2 1++(dW pw 3 11++(dW pw 14 9++(dW pw 23 1++(dW pw 24 1++(dW pw 25 1++(dW pw 26 1++(dW pw 27 1++(dW pw 28 1++(dW pw 29 13++([]))))))))))):=by
 kernel_rfl
theorem Vm(w:World)(os:OsState):topRun treeTable pw w 11 (some (.ref 6)) (12 + (1 + (196 + (214 + (388 + (180 + (229 + (229 + (197 + (225 + (225 + (622 + (372 + 2))))))))))))) ⟨boot_heap w.params,Array.mk [],boot_drawn,boot_toks,os⟩ (topStub pw)=some (SH (HF pw w.params) 720 os):=by
 have k:topRun treeTable pw w 11 (some (.ref 6)) (196 + (214 + (388 + (180 + (229 + (229 + (197 + (225 + (225 + (622 + (372 + 2))))))))))) (ST (T0 pw w.params) 15 187 os).abs (restOf (dW pw 0 2++(dW pw 2 1++(dW pw 3 11++(dW pw 14 9++(dW pw 23 1++(dW pw 24 1++(dW pw 25 1++(dW pw 26 1++(dW pw 27 1++(dW pw 28 1++(dW pw 29 13++([])))))))))))) (mW pw) (cu pw) ⟨0,0,0,0⟩ BF)=some (SH (HF pw w.params) 720 os):=piece_app (segRun_of (congrFun (Vc w) os)) (piece_app (segRun_of (congrFun (Vd w) os)) (piece_app (segRun_of (congrFun (Ve w) os)) (piece_app (segRun_of (congrFun (Vf w) os)) (piece_app (segRun_of (congrFun (Vg w) os)) (piece_app (segRun_of (congrFun (Vh w) os)) (piece_app (segRun_of (congrFun (Vi w) os)) (piece_app (segRun_of (congrFun (Vj w) os)) (piece_app (segRun_of (congrFun (Vk w) os)) (piece_app (segRun_of (congrFun (Rk w) os)) (piece_app (segRun_of (congrFun (Rl w) os)) (congrFun (Vl w) os)))))))))))
 rw[← Rm]at k
 exact go_top (congrFun (Vb w) os) (piece_block (congrFun (Og w) os) k)
theorem l0(w:World):(λos=>staticsOk (importedModules pw.main.body) (boot_heap w.params) (HF pw w.params)&&namesBound pw (HF pw w.params)&&gensDone (SH (HF pw w.params) 720 os)&&laidKept (boot_heap w.params) (HF pw w.params))=λ_=>true:=by
 walk_at "qk"
theorem l1(w:World):(λos=>PyProof.Rows.seen ((PyProof.Rows.recsOf (cf pw)).map (·.name)) (PyProof.Rows.ownsOf (cf pw)) [] {(SH (HF pw w.params) 720 os)with gens:=#[]})=λ_=>PyProof.Rows.expectedOf (cf pw):=by
 walk_at "qk"
theorem l2(w:World):(λos=>(SH (HF pw w.params) 720 os).heap.bltView)=λ_=>bltViewBooted:=by
 walk_at "qk"
theorem l3(w:World):(λos=>(SH (HF pw w.params) 720 os).heap.keysOk (looseW (cf pw) []) ((PyProof.Rows.recsOf (cf pw)).map (·.name)) ((PyProof.Rows.litsOf (cf pw)).map (·.1)) ((PyProof.Rows.clssOf (cf pw) (looseW (cf pw) [])).map (·.name))&&(SH (HF pw w.params) 720 os).heap.accountedOkI (importedModules pw.main.body)&&(SH (HF pw w.params) 720 os).heap.isNs mainGlobals&&(SH (HF pw w.params) 720 os).heap.isNs builtinsNs&&PyProof.Rows.tablesOk (cf pw) (SH (HF pw w.params) 720 os).heap&&(λs=>xlAt (cf pw) [] s&&recOk (RowW.records (OpenRow.toRowW PySem.Challenge.rw_stackwarden_k65_expressions_reckoned.row)) s) (SH (HF pw w.params) 720 os)&&(if true then(SH (HF pw w.params) 720 os).gens.size == 0 else !leftWithCleanup (SH (HF pw w.params) 720 os).gens))=λ_=>true:=by
 walk_at "qk"
theorem l4(w:World):(λos=>PyProof.Rows.tabsOk (cf pw) (SH (HF pw w.params) 720 os))=λ_=>true:=by
 walk_at "qk"
theorem l5(w:World):(λos=>pinSeenD (cf pw) (PyProof.Rows.drecsOf (cf pw)) (SH (HF pw w.params) 720 os))=λ_=>pinGoodD (PyProof.Rows.drecsOf (cf pw)):=by
 walk_at "qk"
theorem l6(w:World):(λos=>PyProof.Rows.plainSeenE (cf pw) (looseW (cf pw) []) (SH (HF pw w.params) 720 os))=λ_=>PyProof.Rows.plainGoodE (cf pw) (looseW (cf pw) []):=by
 walk_at "qk"
theorem l7(w:World):(λos=>PyProof.Rows.plainSeenD (cf pw) [] (SH (HF pw w.params) 720 os))=λ_=>PyProof.Rows.plainGoodD (cf pw) []:=by
 walk_at "qk"
theorem l8(w:World):(λos=>wideSeen (cf pw) (SH (HF pw w.params) 720 os))=λ_=>wideGood (cf pw):=by
 walk_at "qk"
theorem l9(w:World):(λos=>clsSeenW (cf pw) [] (SH (HF pw w.params) 720 os))=λ_=>clsGoodW (cf pw) []:=by
 walk_at "qk"
theorem lY(w:World):(λos=>hK.obs (SH (HF pw w.params) 720 os))=λ_=>hK.val w:=by
 show(λos=>KY.map (SH (HF pw w.params) 720 os).heap.get?)=λ_=>(K w.params).map λp=>some p.2
 unfold K
 walk_at "qk"
theorem hl:LeftO pw (cf pw) [] (λs=>xlAt (cf pw) [] s&&recOk (RowW.records (OpenRow.toRowW PySem.Challenge.rw_stackwarden_k65_expressions_reckoned.row)) s) hK.obs hK.val 6258:=by
 refine LeftO.of_pieces (m₀:=11) (ann:=(some (.ref 6))) (M:=(12 + (1 + (196 + (214 + (388 + (180 + (229 + (229 + (197 + (225 + (225 + (622 + (372 + 2)))))))))))))) (boot_open (by kernel_rfl) (by decide) (λs=>by kernel_rfl)) (λw=>?_) Vm (by decide) (λw=>?_)
 ·walk_at "qk"
 ·funext os
  exact looks_pair (congrFun (l0 w) os) (looks_pair (looks_pair (congrFun (l1 w) os) (looks_pair (congrFun (l2 w) os) (looks_pair (congrFun (l3 w) os) (looks_pair (congrFun (l4 w) os) (looks_pair (congrFun (l5 w) os) (looks_pair (congrFun (l6 w) os) (looks_pair (congrFun (l7 w) os) (looks_pair (congrFun (l8 w) os) (congrFun (l9 w) os))))))))) (congrFun (lY w) os))
end MH
end
open PySem PySem.W PyProof.Rows
local macro_rules | `(tactic| walk_at "dk") => `(tactic| (refine' ⟨_, _, ?w, L2.t9 ?x ?y ?z⟩; (case w => k_is); (case x => k_is); (case y => k_is); (case z => k_is)))
local macro_rules | `(tactic| walk_at "mk") => `(tactic| (refine' ⟨⟨_, L2.t9 ?x ?y ?z⟩, ?w⟩; (case x => k_is); (case y => k_is); (case z => k_is); (case w => k_is)))
set_option maxRecDepth 100000 in
set_option maxHeartbeats 0 in
theorem PySem.Challenge.cw_stackwarden_k65_expressions_reckoned_holds : PySem.Challenge.rw_stackwarden_k65_expressions_reckoned.Holds := by
  w_on; refine PySem.W.holds_law (by kernel_rfl) fun said => ?_
  refine PySem.W.holds_open (q := (MH.cf PySem.Challenge.pw_stackwarden_k65_expressions_reckoned)) (loose := []) (Xt := (fun s => xlAt (MH.cf PySem.Challenge.pw_stackwarden_k65_expressions_reckoned) [] s && recOk (RowW.records (OpenRow.toRowW PySem.Challenge.rw_stackwarden_k65_expressions_reckoned.row)) s)) (XP := XL (MH.cf PySem.Challenge.pw_stackwarden_k65_expressions_reckoned) []) (Yf := Hook.obs (kHook MH.K MH.KY MH.oK)) (Ya := Hook.val (kHook MH.K MH.KY MH.oK)) (YP := Hook.says (kHook MH.K MH.KY MH.oK)) (N := 6258) MH.hl (Hook.of (kHook MH.K MH.KY MH.oK)) (Hook.keeps (kHook MH.K MH.KY MH.oK)) (fun s e => xl_of s (Bool.and_eq_true_iff.mp e).1) XL.keeps (by rfl) (by rfl) (by rfl) (fun s e => recFacts_of (Bool.and_eq_true_iff.mp e).2) (by rfl) (by first | assumption | decide +kernel) (by decide +kernel) ⟨rfl, rfl, rfl, rfl, rfl, by decide +kernel⟩ ?hw ?hc
  case hw => w_witness2
  k_fill
  refine Mine.walk (l := PySem.Challenge.rw_stackwarden_k65_expressions_reckoned) rfl rfl (fun w h Y => PySem.W.kIn_of Y) ?F
  case F =>
    intro w mg fa h KX G hmg
    refine' Mine.all_mk KX G hmg ?oh ?oi ?oj ?om ?oo ?oq ?ou ?iH ?fH ?eG ?vk ?vm ?vn ?vp ?vq ?vt ?vv ?ja ?jb ?fJ ?lS ?lT ?lU ?lV ?lW ?lX ?lZ ?eI ?gI ?gJ ?fK ?cb ?bB ?bH ?cw ?bI ?dq ?dH ?ft ?dU ?d0 ?d1 ?d2 ?d3 ?d4 ?d5 ?d6 ?d7 ?d8 ?d9 ?Uj ?Uk ?Ul ?Um ?Uo ?Up ?Uq ?Ur ?Us ?Ut ?MW ?Uu ?Uv ?Uw ?Ux ?Uy ?Uz ?UA ?UB ?UC ?UD ?UE ?UG ?UH ?fX ?nX ?dZ ?iE ?rj ?cU ?fi ?oa ?rm ?jt ?ju ?mM ?fq ?iF ?iG ?et ?hV ?hZ ?ow ?oy ?oz ?oA ?oB ?oE ?oF ?oG ?mT ?oH ?mI ?qZ ?mK ?kH ?EF ?kM ?kN ?kO ?kP ?kQ ?kR ?EG ?EH ?EI ?EJ ?jy ?jz ?jA ?jB ?jC ?jD ?EK ?EL ?EM ?EN ?xc ?qX ?rl ?kI ?qY ?bQ ?jr ?gH ?dm ?mJ ?ra
    (case oh => k_is)
    (case oi => k_is)
    (case oj => k_is)
    (case om => k_is)
    (case oo => k_is)
    (case oq => k_is)
    (case ou => k_is)
    (case iH => k_is)
    (case fH => k_is)
    (case eG => k_is)
    (case vk => k_is)
    (case vm => k_is)
    (case vn => k_is)
    (case vp => k_is)
    (case vq => k_is)
    (case vt => k_is)
    (case vv => k_is)
    (case ja => k_is)
    (case jb => k_is)
    (case fJ => k_is)
    (case lS => k_is)
    (case lT => k_is)
    (case lU => k_is)
    (case lV => k_is)
    (case lW => k_is)
    (case lX => k_is)
    (case lZ => k_is)
    (case eI => k_is)
    (case gI => k_is)
    (case gJ => k_is)
    (case fK => k_is)
    (case cb => k_is)
    (case bB => k_is)
    (case bH => k_is)
    (case cw => k_is)
    (case bI => k_is)
    (case dq => k_is)
    (case dH => k_is)
    (case ft => k_is)
    (case dU => k_is)
    (case d0 => walk_at "dk")
    (case d1 => walk_at "dk")
    (case d2 => walk_at "dk")
    (case d3 => walk_at "dk")
    (case d4 => walk_at "dk")
    (case d5 => walk_at "dk")
    (case d6 => walk_at "dk")
    (case d7 => walk_at "dk")
    (case d8 => walk_at "dk")
    (case d9 => walk_at "dk")
    (case Uj => walk_at "dk")
    (case Uk => walk_at "dk")
    (case Ul => walk_at "dk")
    (case Um => walk_at "dk")
    (case Uo => walk_at "mk")
    (case Up => walk_at "mk")
    (case Uq => walk_at "mk")
    (case Ur => walk_at "dk")
    (case Us => walk_at "dk")
    (case Ut => walk_at "dk")
    (case MW => walk_at "mk")
    (case Uu => walk_at "mk")
    (case Uv => walk_at "mk")
    (case Uw => walk_at "mk")
    (case Ux => walk_at "mk")
    (case Uy => walk_at "mk")
    (case Uz => walk_at "mk")
    (case UA => walk_at "mk")
    (case UB => walk_at "mk")
    (case UC => walk_at "dk")
    (case UD => k_is)
    (case UE => k_is)
    (case UG => k_is)
    (case UH => k_is)
    (case fX => k_is)
    (case nX => k_is)
    (case dZ => k_is)
    (case iE => k_is)
    (case rj => k_is)
    (case cU => k_is)
    (case fi => kts_isx)
    (case oa => k_is)
    (case rm => kts_isx)
    (case jt => k_is)
    (case ju => k_exc)
    (case mM => kts_isx)
    (case fq => k_is)
    (case iF => k_exc)
    (case iG => kts_isx)
    (case et => k_is)
    (case hV => k_exc)
    (case hZ => kts_isx)
    (case ow => k_is)
    (case oy => k_is)
    (case oz => k_is)
    (case oA => k_is)
    (case oB => k_is)
    (case oE => k_is)
    (case oF => k_is)
    (case oG => k_is)
    (case mT => kernel_rfl!)
    (case oH => k_is)
    (case mI => refine L2.uD ?_ ?_ ?_ ?_ ?_ ?_ <;> first | (show _ = some true; kit_is) | (show _ = some false; kit_is))
    (case qZ => refine L2.uD ?_ ?_ ?_ ?_ ?_ ?_ <;> first | (show _ = some true; kit_is) | (show _ = some false; kit_is))
    (case mK => refine L2.uD ?_ ?_ ?_ ?_ ?_ ?_ <;> first | (show _ = some true; kit_is) | (show _ = some false; kit_is))
    (case kH => refine L2.uD ?_ ?_ ?_ ?_ ?_ ?_ <;> first | (show _ = some true; kit_is) | (show _ = some false; kit_is))
    (case EF => k_is)
    (case kM => k_is)
    (case kN => k_is)
    (case kO => k_is)
    (case kP => k_is)
    (case kQ => k_is)
    (case kR => k_is)
    (case EG => k_is)
    (case EH => k_is)
    (case EI => k_is)
    (case EJ => k_is)
    (case jy => k_is)
    (case jz => k_is)
    (case jA => k_is)
    (case jB => k_is)
    (case jC => k_is)
    (case jD => k_is)
    (case EK => k_is)
    (case EL => k_is)
    (case EM => k_is)
    (case EN => k_is)
    (case xc => k_is)
    (case qX => k_is)
    (case rl => k_is)
    (case kI => k_is)
    (case qY => k_is)
    (case bQ => k_is)
    (case jr => k_is)
    (case gH => k_is)
    (case dm => k_is)
    (case mJ => k_is)
    (case ra => k_is)
#print axioms PySem.Challenge.cw_stackwarden_k65_expressions_reckoned_holds
