import PyProof.Rows.All
import Wide.All
import OpenK.AllK
import Wide.FinOn
import Lean
import PyProof.EqAt
import PyProof.EqKinds
import PyProof.TupleCall
import PyProof.ZipIter
import KE.KTryDeep
import KE.KIsAll
import KE.KIntText
import PyProof.ExcArgsOwn
import PySem.Challenge.RW_stackwarden_k68_tries_and_depth
def aaa:=@PySem.wpAny_bind
def aab:=@PySem.Heap.lt_size
def aac:=@Or.inl
def aad:=@PySem.W.mg_of
def aae:=@Nat.lt_of_lt_of_le
def aaf:=@PySem.Heap.get?_push_of_some
def aag:=@PySem.wpAny_pure
def aah:=@List.length_map
def aai:=@Nat.le_refl
def aaj:=@Bool.false_ne_true
def aak:=@Option.some.inj
def aal:=@List.getElem?_set_self
def aam:=@PySem.wpAny_mono
def aar:=@Nat.ne_of_lt
def aas:=@if_neg
def aat:=@List.mem_cons_self
def aav:=@List.getElem?_set_ne
def aaw:=@if_pos
def aax:=@List.getElem?_append_left
def aaA:=@List.mem_append_right
def aaB:=@List.mem_cons_of_mem
def aaC:=@PySem.Heap.get?_push_size
def aaE:=@List.mem_cons
def aaF:=@Nat.le_trans
def aaG:=@List.mem_of_getElem?
def aaI:=@List.getElem?_append_right
def aaJ:=@List.length_cons
def aaK:=@PySem.wpAny_loadPart_at
def aaM:=@PySem.W.mg_none_of
def aaN:=@Nat.lt_irrefl
def aaO:=@List.getElem?_map
def aaR:=@Nat.lt_of_le_of_lt
def aaS:=@List.size_toArray
def aaT:=@List.append_nil
def aaX:=@List.length_set
def aaY:=@List.mem_singleton
def aaZ:=@List.length_append
def aa1:=@PySem.F.plainAttrs_list
def aa2:=@List.getElem?_of_mem
def aa3:=@PySem.wpAny_holding
def aa5:=@Nat.ne_of_gt
def aa6:=@PySem.F.slot_list_append
def aa7:=@PySem.F.type_list_append
def aba:=@PySem.W.hideAll_get
def abb:=@PySem.wpAny_Call_Name_kw
def abh:=@PySem.W.callWith_K
def abi:=@PySem.Heap.get?_update_self
def abl:=@Nat.zero_le
def abm:=@decide_eq_false
def abn:=@True.intro
def abp:=@PySem.PassesOwn.never
def abq:=@List.length_take
def abt:=@Int.le_refl
def abu:=@PyProof.Rows.callWith_type1
def abv:=@List.mem_filterMap
def abw:=@PySem.wpAny_execs_nil
def abx:=@PySem.wpAny_passesOwn
def aby:=@PySem.W.kia_one
def abz:=@List.take_append_drop
def abA:=@PySem.wpAny_standAt
def abB:=@congrArg
def abC:=@List.map_cons
def abD:=@PySem.wpAny_newObj_type
def abE:=@List.drop_eq_getElem_cons
def abF:=@List.mem_flatten
def abG:=@Nat.le_add_right
def abH:=@Nat.succ_ne_zero
def abI:=@PySem.mem_of_lookup
def abJ:=@PyProof.Rows.slot_tuple_getitem
def abK:=@List.getElem?_cons_zero
def abL:=@List.getElem?_drop
def abM:=@List.map_append
def abN:=@Nat.le_succ
def abO:=@PySem.Heap.get?_update_other
def abP:=@PySem.wpAny_truthy_bool
def abQ:=@Nat.le_of_lt
def abR:=@PySem.Heap.size_push
def abS:=@PySem.codeAny_mono
def abT:=@decide_eq_true
def abU:=@List.pairwise_flatten
def abV:=@List.map_map
def abW:=@PySem.wpAny_execs_cons
def abX:=@Ne.symm
def abY:=@List.mem_append
def abZ:=@PySem.Obj.data_mapFields
def ab0:=@Nat.succ.inj
def ab1:=@Int.le_trans
def ab2:=@List.getElem?_cons_succ
def ab3:=@List.any_cons
def ab4:=@Bool.and_eq_true
def ab5:=@Bool.not_eq_true
def ab6:=@List.all_eq_true
def ab7:=@List.getElem_mem
def ab8:=@List.drop_length
def ab9:=@PySem.W.methodCall_KW
def aca:=@PySem.Obj.isFreed_of_fields
def acb:=@PySem.codeAny_handlers_test
def acd:=@PySem.plainObj_wpAny_Assign_Attribute
def ace:=@List.eraseIdx_eq_take_drop_succ
def acf:=@PySem.wpAny_call
def acg:=@Option.map_some
def ach:=@Nat.sub_self
def aci:=@PySem.W.plainGet_of
def acj:=@PySem.wpAny_isSubtype_exc
def ack:=@PySem.wpAny_handleBy_cons
def acm:=@PySem.W.funFrames_hide
def acn:=@PySem.sizeLine_eq
def aco:=@PySem.Calls.spliced_cons
def acp:=@PySem.Heap.get?_some_iff
def acq:=@List.contains_cons
def acr:=@PySem.Calls.Name_function_global
def acs:=@Int.fdiv_eq_ediv_of_nonneg
def acu:=@PySem.Calls.spliced_nil
def acv:=@List.mem_or_eq_of_mem_set
def acw:=@Option.isSome_iff_exists
def acx:=@List.getElem?_take_of_lt
def acy:=@PySem.F.args_tuple_add_2
def acz:=@List.length_drop
def acA:=@PySem.wpAny_call_entry
def acB:=@Nat.succ_le_succ
def acC:=@List.lookup_cons
def acD:=@PySem.wpAny_comprehension_free
def acE:=@PySem.W.looks_findIn
def acF:=@PySem.W.hideAll_none
def acG:=@List.mem_map
def acH:=@PySem.F.entry_tuple_add
def acI:=@PyProof.Rows.intBits_le
def acJ:=@Nat.lt_add_of_pos_right
def acK:=@List.nodup_cons
def acL:=@Sum.inr.inj
def acM:=@PySem.W.cellsFrom_some
def acN:=@PySem.F.slot_tuple_add
def acQ:=@List.flatten_singleton
def acZ:=@Or.inr
def ac0:=@Nat.le_of_eq
def ac1:=@Bool.or_true
abbrev aV:=PySem.W.Frag
theorem S5:0<=PySem.sizeLine:=by decide
theorem MM:1<=PySem.sizeLine:=by decide
theorem zd:2<=PySem.sizeLine:=by decide
theorem S6:3<=PySem.sizeLine:=by decide
theorem xq{α:Type}{a b:α}(h:a∈[b]):a=b:=aaY.mp h
theorem ft{α:Type}{l:List α}{i:Nat}{a:α}(h:l[i]?=some a):∃h:i < l.length,l[i]=a:=List.getElem?_eq_some_iff.mp h
theorem jG{α:Type}{l:List α}{i:Nat}(h:i < l.length):l[i]?=some l[i]:=List.getElem?_eq_getElem h
set_option Elab.async false
set_option compiler.extract_closed false
set_option linter.all false
set_option maxRecDepth 100000
namespace L2
open PySem PySem.Spec PyProof.Rows
abbrev Key:=Sum Int Str
def uo:Key->Value->Bool
 | .inl k,v=>Value.isInt k v
 | .inr x,v=>Value.isStrOf x v
def TQ(w:World):Key->Int
 | .inl k=>hashInt k
 | .inr x=>hashStr w x
theorem cq:∀{k:Key} {v:Value},uo k v=true->(∃i t,k=Sum.inl i/\v=Value.int i t)∨(∃x t,k=Sum.inr x/\v=Value.str x t)
 | .inl i,v,h=>by
  obtain⟨t,e⟩:=Value.isInt_shape (k:=i) (v:=v) h;exact .inl ⟨i,t,rfl,e⟩
 | .inr x,v,h=>by
  obtain⟨t,e⟩:=Value.isStrOf_shape (x:=x) (v:=v) h;exact .inr ⟨x,t,rfl,e⟩
theorem Cb(i:Int)(t:Tok):uo (.inl i) (.int i t)=true:=by simp[uo,Value.isInt]
theorem Cd(x:Str)(t:Tok):uo (.inr x) (.str x t)=true:=by simp[uo,Value.isStrOf]
theorem MN(a b:Int):decide ((Sum.inl a:Key)=Sum.inl b)=(a == b):=by
 by_cases e:a=b
 ·subst e;simp
 ·have h:¬ (Sum.inl a:Key)=Sum.inl b:=λq=>e (Sum.inl.inj q)
  rw[abm h];exact(beq_eq_false_iff_ne.mpr e).symm
theorem MO(a b:Str):decide ((Sum.inr a:Key)=Sum.inr b)=decide (a=b):=by
 by_cases e:a=b
 ·subst e;simp
 ·have h:¬ (Sum.inr a:Key)=Sum.inr b:=λq=>e (acL q)
  rw[abm h,abm e]
theorem MP(a:Int)(b:Str):decide ((Sum.inl a:Key)=Sum.inr b)=false:=abm (λq=>nomatch q)
theorem MQ(a:Str)(b:Int):decide ((Sum.inr a:Key)=Sum.inl b)=false:=abm (λq=>nomatch q)
def cZ(prog:Program)(w:World):PySem.KeyKind prog w Key where
 is:=uo
 hash:=TQ w
 inj:=λv a b ha hb=>by
  rcases cq ha with⟨i,t,rfl,rfl⟩ | ⟨x,t,rfl,rfl⟩
  ·rcases cq hb with⟨j,u,rfl,e⟩ | ⟨y,u,rfl,e⟩
   ·injection e with e1 _;rw[e1]
   ·exact nomatch e
  ·rcases cq hb with⟨j,u,rfl,e⟩ | ⟨y,u,rfl,e⟩
   ·exact nomatch e
   ·injection e with e1 _;rw[e1]
 byValue:=λk v h=>by
  rcases cq h with⟨i,t,rfl,rfl⟩ | ⟨x,t,rfl,rfl⟩<;>rfl
 pyHash:=λhv h=>by
  rcases cq hv with⟨i,t,rfl,rfl⟩ | ⟨x,t,rfl,rfl⟩
  ·exact wpAny_pyHash_int h
  ·exact wpAny_pyHash_str h
 eqBool:=λhu hv h=>by
  rcases cq hu with⟨i,t,rfl,rfl⟩ | ⟨x,t,rfl,rfl⟩
  ·rcases cq hv with⟨j,u,rfl,rfl⟩ | ⟨y,u,rfl,rfl⟩
   ·rw[MN]at h;exact wpAny_eqBool_int h
   ·rw[MP]at h;exact SeqAt.EqAt.int_str i t y u _ _ _ _ h
  ·rcases cq hv with⟨j,u,rfl,rfl⟩ | ⟨y,u,rfl,rfl⟩
   ·rw[MQ]at h;exact SeqAt.EqAt.str_int x t j u _ _ _ _ h
   ·rw[MO]at h;exact wpAny_eqBool_str h
 «strs»:=λk x t v h=>by
  rcases cq h with⟨i,u,rfl,e⟩ | ⟨y,u,rfl,e⟩
  ·exact nomatch e
  ·injection e with e1 _
   subst e1;cases v<;>rfl
theorem xr(prog:Program)(w:World)(i:Int)(t:Tok):(cZ prog w).is (.inl i) (.int i t)=true:=Cb i t
theorem p5(prog:Program)(w:World)(x:Str)(t:Tok):(cZ prog w).is (.inr x) (.str x t)=true:=Cd x t
inductive V where
 | non | bl (b:Bool) | int (i:Int) | str (x:Str) | byt (b:Array UInt8) | flt (b:UInt64) | ref (a:Addr) | ty (n:String)
 deriving DecidableEq
def RelV:V->Value->Prop
 | .non,u=>u=Value.none
 | .bl b,u=>u=Value.bool b
 | .int i,u=>∃t,u=Value.int i t
 | .str x,u=>∃t,u=Value.str x t
 | .byt b,u=>∃t,u=Value.bytes b t
 | .flt b,u=>∃t,u=Value.float b t
 | .ref a,u=>u=Value.ref a
 | .ty n,u=>u=Value.type n
abbrev Vals:List V->List Value->Prop:=Paired RelV
theorem Vals.length{xs:List V}{us:List Value}(r:Vals xs us):xs.length=us.length:=Paired.length r
theorem Vals.get:∀{xs:List V} {us:List Value} {i:Nat} {x:V},Vals xs us->xs[i]?=some x->∃u,us[i]?=some u/\RelV x u
 | _,_,_,_,.nil,e=>by simp at e
 | _,_,0,_,.cons r _,e=>by simp at e;subst e;exact⟨_,rfl,r⟩
 | _,_,i + 1,x,.cons _ t,e=>by
  obtain⟨u,h1,h2⟩:=Vals.get (i:=i) (x:=x) t (by simpa using e);exact⟨u,by simpa using h1,h2⟩
theorem Vals.set{x:V}{u:Value}(r:RelV x u):∀{xs:List V} {us:List Value} (i:Nat),Vals xs us->Vals (xs.set i x) (us.set i u)
 | _,_,_,.nil=>.nil
 | _,_,0,.cons _ t=>.cons r t
 | _,_,i + 1,.cons q t=>.cons q (Vals.set r i t)
theorem Vals.append:∀{xs ys:List V} {us ws:List Value},Vals xs us->Vals ys ws->Vals (xs++ys) (us++ws)
 | _,_,_,_,.nil,s=>s
 | _,_,_,_,.cons r t,s=>.cons r (Vals.append t s)
theorem Vals.take:∀{xs:List V} {us:List Value} (n:Nat),Vals xs us->Vals (xs.take n) (us.take n)
 | _,_,0,_=>.nil
 | _,_,_ + 1,.nil=>.nil
 | _,_,n + 1,.cons r t=>.cons r (Vals.take n t)
theorem Vals.drop:∀{xs:List V} {us:List Value} (n:Nat),Vals xs us->Vals (xs.drop n) (us.drop n)
 | _,_,0,r=>r
 | _,_,_ + 1,.nil=>.nil
 | _,_,n + 1,.cons _ t=>Vals.drop n t
def jI:Option V->Option Value->Prop
 | some v,some u=>RelV v u
 | none,none=>True
 | _,_=>False
def KV{κ:Type}:List (κ×V)->List (κ×Value)->Prop:=Paired λ(p:κ×V) (q:κ×Value)=>p.1=q.1/\RelV p.2 q.2
def kV:Key->V
 | .inl i=>.int i
 | .inr x=>.str x
inductive HO where
 | lst (xs:List V)
 | tup (xs:List V)
 | dK (kvs:List (Key×V)) | dT (kvs:List (List Key×V))
 | set (S:Int->Bool) (n:Nat)
 | ins (C dx:Addr) (fs:List (Str×V))
 | own (x:Addr)
 | xd (fs:List (Str×V))
 | met (f x:Addr)
 | rng (lo hi:Int)
 | mq (o:Obj) (u:HO)
 | tbl (ps:Array Value)
 | ext (φ:Heap->Prop)
abbrev Hp:=Addr->Option HO
def upd(H:Hp)(a:Addr)(o:HO):Hp:=λb=>if b=a then some o else H b
theorem uS{H:Hp}{a:Addr}{o:HO}:upd H a o a=some o:=by unfold upd;rw[if_pos rfl]
theorem uN{H:Hp}{a b:Addr}{o:HO}(h:b≠a):upd H a o b=H b:=by unfold upd;rw[if_neg h]
theorem cv{H:Hp}{a b:Addr}{o u:HO}(h:H a=some o)(h':H b=some u)(d:o≠u):a≠b:=by
 intro e;subst e;rw[h]at h';exact d (aak h')
theorem nN{H:Hp}{a b:Addr}{o:HO}(h:H a=some o)(h':H b=none):a≠b:=by
 intro e;subst e;rw[h]at h';cases h'
section
variable (P:Program) (w:World)
def ej(H:Hp)(h:Heap)(a:Addr):HO->Prop
 | .lst xs=>xs.length<=sizeLine/\∃(its:List Value) (n:Nat),Vals xs its/\h.get? a=some {cls:=.type "list",data:=.seq its.toArray n}
 | .tup xs=>xs.length<=sizeLine/\∃its:List Value,Vals xs its/\IsTup h a its.toArray
 | .dK kvs=>kvs.length<=sizeLine/\(a == sysModules)=false/\∃vs,KV kvs vs/\h.DictOf (cZ P w) a vs
 | .dT kvs=>kvs.length<=sizeLine/\(a == sysModules)=false/\∃xs:List (List Key×Addr×Value),
   Paired (λ(p:List Key×V) (q:List Key×Addr×Value)=>p.1=q.1/\H q.2.1=some (.tup (p.1.map kV))/\RelV p.2 q.2.2) kvs xs /\
   ∃o es ep,h.get? a=some o/\o.ExactDict/\o.data=.dict es ep/\es.toList=xs.map (entryOfKey (tupleKind (cZ P w)))/\(xs.map (·.1)).Nodup
 | .set S n=>h.SetOf (intKind P w) a S n
 | .ins C dx fs=>H dx=some (.own a)/\fs.length<=1000/\dx≠a/\h.get? a=some (PySem.W.instObj C dx) /\
   ∃mA,h.Ns1 dx mA/\(∀f,jI (fs.lookup f) (mA f))/\PySem.Within mA (fs.map (·.1))
 | .own _=>∃o,h.get? a=some o
 | .xd fs=>∃mA,h.Ns1 a mA/\∀f,jI (fs.lookup f) (mA f)
 | .rng lo hi=>∃t u v,h.get? a=some {cls:=.type "range",data:=.fields #[.int lo t,.int hi u,.int 1 v]}
 | .mq o u=>h.get? a=some o/\ej H h a u
 | .tbl ps=>h.get? a=some {cls:=.none,data:=.fields ps}
 | .met f x=>h.get? a=some (PySem.W.methodObj (.ref f) (.ref x))
 | .ext φ=>φ h/\(∃o,h.get? a=some o)/\∀h1 h2:Heap,φ h1->(∀o,h1.get? a=some o->h2.get? a=some o)->φ h2
def kO(H:Hp)(h:Heap):Prop:=∀a o,H a=some o->ej P w H h a o
end
section
variable {P:Program} {w:World} {H H':Hp} {h h':Heap} {a:Addr} {o:HO}
theorem ej.lt(x:ej P w H h a o):a < h.objs.size:=by
 cases o with
 | lst xs=>obtain⟨_,_,_,_,e⟩:=x;exact aab e
 | tup xs=>obtain⟨_,_,_,p⟩:=x;exact p.lt
 | dK kvs=>obtain⟨_,_,_,_,o,_,_,e,_⟩:=x;exact aab e
 | dT kvs=>obtain⟨_,_,_,_,o,_,_,e,_⟩:=x;exact aab e
 | set S n=>obtain⟨o,_,_,_,e,_⟩:=x;exact aab e
 | ins C dx fs=>obtain⟨_,_,_,e,_⟩:=x;exact aab e
 | own y=>obtain⟨_,e⟩:=x;exact aab e
 | xd fs=>obtain⟨_,⟨_,_,_,e,_⟩,_⟩:=x;exact aab e
 | rng lo hi=>obtain⟨_,_,_,e⟩:=x;exact aab e
 | mq ob u=>obtain⟨e,_⟩:=x;exact aab e
 | tbl ps=>exact aab (show h.get? a=some _ from x)
 | met f y=>exact aab (show h.get? a=some _ from x)
 | ext φ=>obtain⟨_,⟨_,e⟩,_⟩:=x;exact aab e
theorem Paired.MR{α β:Type}{F G:α->β->Prop}:∀{l₁:List α} {l₂:List β},Paired F l₁ l₂->(∀a b,F a b->G a b)->Paired G l₁ l₂
 | _,_,.nil,_=>.nil
 | _,_,.cons r t,f=>.cons (f _ _ r) (Paired.MR t f)
theorem ej.qT(x:ej P w H h a o)(k:∀b u,(b=a∨H b=some (.own a))->h.get? b=some u->h'.get? b=some u)
  (ho:∀b,H b=some (.own a)->H' b=some (.own a)) (ht:∀b xs,H b=some (.tup xs)->H' b=some (.tup xs)):ej P w H' h' a o:=by
 induction o with
 | lst xs=>obtain⟨z,its,n,r,e⟩:=x;exact⟨z,its,n,r,k _ _ (.inl rfl) e⟩
 | tup xs=>obtain⟨z,its,r,ob,e,c⟩:=x;exact⟨z,its,r,ob,k _ _ (.inl rfl) e,c⟩
 | dK kvs=>obtain⟨z,y,vs,r,ob,es,ep,e,c⟩:=x;exact⟨z,y,vs,r,ob,es,ep,k _ _ (.inl rfl) e,c⟩
 | dT kvs =>
  obtain⟨z,y,xs,r,ob,es,ep,e,c⟩:=x;exact⟨z,y,xs,Paired.MR r λp q z=>⟨z.1,ht _ _ z.2.1,z.2.2⟩,ob,es,ep,k _ _ (.inl rfl) e,c⟩
 | set S n=>obtain⟨ob,es,ep,t,e,c⟩:=x;exact⟨ob,es,ep,t,k _ _ (.inl rfl) e,c⟩
 | ins C dx fs =>
  obtain⟨d,z,ne,e,mA,⟨od,es,ep,e2,c⟩,r⟩:=x;exact⟨ho _ d,z,ne,k _ _ (.inl rfl) e,mA,⟨od,es,ep,k _ _ (.inr d) e2,c⟩,r⟩
 | own y=>obtain⟨ob,e⟩:=x;exact⟨ob,k _ _ (.inl rfl) e⟩
 | xd fs=>obtain⟨mA,⟨od,es,ep,e,c⟩,r⟩:=x;exact⟨mA,⟨od,es,ep,k _ _ (.inl rfl) e,c⟩,r⟩
 | rng lo hi=>obtain⟨t,u,v,e⟩:=x;exact⟨t,u,v,k _ _ (.inl rfl) e⟩
 | mq ob u ih=>obtain⟨e,q⟩:=x;exact⟨k _ _ (.inl rfl) e,ih q⟩
 | tbl ps =>
  have e:h.get? a=some {cls:=.none,data:=.fields ps}:=x;show h'.get? a=some {cls:=.none,data:=.fields ps};exact k a _ (.inl rfl) e
 | met f y =>
  have e:h.get? a=some (PySem.W.methodObj (.ref f) (.ref y)):=x;show h'.get? a=some (PySem.W.methodObj (.ref f) (.ref y));exact k a _ (.inl rfl) e
 | ext φ=>obtain⟨p,⟨o,e⟩,st⟩:=x;exact⟨st _ _ p λo q=>k _ _ (.inl rfl) q,⟨o,k _ _ (.inl rfl) e⟩,st⟩
theorem kO.lt(x:kO P w H h)(e:H a=some o):a < h.objs.size:=(x a o e).lt
theorem kO.fresh(x:kO P w H h)(e:h.objs.size<=a):H a=none:=by
 cases q:H a with
 | none=>rfl
 | some u=>exact absurd (aae (x.lt q) e) (aaN _)
theorem kO.kept(x:kO P w H h)(k:∀b u,h.get? b=some u->h'.get? b=some u):kO P w H h':=λa o e =>
 (x a o e).qT (λb u _ q=>k b u q) (λ_ q=>q) λ_ _ q=>q
theorem kO.laid(x:kO P w H h)(k:∀b u,h.get? b=some u->h'.get? b=some u)(hp:h.objs.size<=a)(new:ej P w (upd H a o) h' a o):kO P w (upd H a o) h':=λb u e=>by
 have hn:=x.fresh hp;by_cases hb:b=a
 ·subst hb;rw[uS]at e;cases e;exact new
 ·rw[uN hb]at e;exact(x b u e).qT (λc v _ q=>k c v q) (λc q=>by rw[uN (nN q hn)];exact q) λc xs q=>by rw[uN (nN q hn)];exact q
end
def Rd(H:Hp)(a:Addr)(u:HO):Prop:=H a=some u∨∃o,H a=some (.mq o u)
theorem Rd.ok{P:Program}{w:World}{H:Hp}{h:Heap}{a:Addr}{u:HO}(r:Rd H a u)(x:kO P w H h):ej P w H h a u:=by
 rcases r with r | ⟨o,r⟩
 ·exact x a u r
 ·obtain⟨_,q⟩:=x a _ r;exact q
def QG:Option HO->Prop
 | some (.lst _)=>True
 | some (.dK _)=>True
 | some (.dT _)=>True
 | some (.set _ _)=>True
 | some (.ins _ _ _)=>True
 | some (.ext _)=>True
 | _=>False
section
variable {P:Program} {w:World} {H:Hp} {h h':Heap} {x e:Addr} {o':HO}
theorem kO.write(ok:kO P w H h)(mu:QG (H x))(he:e=x∨H e=some (.own x))(k:∀b u,b≠e->h.get? b=some u->h'.get? b=some u)(heo:∃u,h'.get? e=some u)
  (new:ej P w (upd H x o') h' x o'):kO P w (upd H x o') h':=λb u q=>by
 have nown:∀c y,H c=some (.own y)->c≠x:=λc y r z=>by subst z;rw[r]at mu;exact mu
 have ntup:∀c xs,H c=some (.tup xs)->c≠x:=λc xs r z=>by subst z;rw[r]at mu;exact mu
 by_cases hb:b=x
 ·subst hb;rw[uS]at q;cases q;exact new
 ·rw[uN hb]at q;by_cases hbe:b=e
  ·have q':H b=some (.own x):=by
    rcases he with z | z
    ·exact absurd (hbe.trans z) hb
    ·rw[hbe];exact z
   rw[q]at q';cases q';obtain⟨v,hv⟩:=heo;exact⟨v,by rw[hbe];exact hv⟩
  ·refine(ok b u q).qT (λc v hc r=>k c v ?_ r) (λc r=>by rw[uN (nown c b r)];exact r) λc xs r=>by rw[uN (ntup c xs r)];exact r
   rcases hc with rfl | hc
   ·exact hbe
   ·rintro rfl;rcases he with z | z
    ·exact nown c b hc z
    ·rw[hc]at z;cases z;exact hb rfl
end
structure Un(fs ex:List Addr)(H H':Hp)(h h':Heap):Prop where
 keep:∀b o,h.get? b=some o->H b=none->b∉fs->b∉ex->h'.get? b=some o
 slot:∀b o,h.get? b=some o->H b=none->b∈fs->b∉ex->∃sl,h'.get? b=some {o with slots:=sl}
 free:∀b o,h.get? b=some o->H b=none->b∉ex->H' b=none
 there:∀b o,h.get? b=some o->b∉ex->∃o',h'.get? b=some o'
 tups:∀b xs,H b=some (.tup xs)->H' b=some (.tup xs)
 fu:∀b o u,H b=some (.mq o u)->H' b=some (.mq o u)
 tbls:∀b ps,H b=some (.tbl ps)->∃more,H' b=some (.tbl (ps++more))
section
variable {fs fs' ex ex':List Addr} {H H1 H2:Hp} {h h1 h2 h':Heap} {a x e:Addr} {o:HO}
theorem Un.any(u:Un fs ex H H1 h h1){b:Addr}{ob:Obj}(q:h.get? b=some ob)(n:H b=none)(hx:b∉ex):∃sl,h1.get? b=some {ob with slots:=sl}:=by
 by_cases hb:b∈fs
 ·exact u.slot b ob q n hb hx
 ·exact⟨ob.slots,u.keep b ob q n hb hx⟩
theorem Un.kept(k:∀b u,h.get? b=some u->h'.get? b=some u):Un fs ex H H h h' :=
 ⟨λb ob q _ _ _=>k b ob q,λb ob q _ _ _=>⟨ob.slots,k b ob q⟩,λ_ _ _ n _=>n,λb ob q _=>⟨ob,k b ob q⟩,λ_ _ q=>q,λ_ _ _ q=>q,λ_ ps q=>⟨#[],by rw[q];simp⟩⟩
theorem Un.refl:Un fs ex H H h h:=Un.kept λ_ _ q=>q
theorem Un.laid(k:∀b u,h.get? b=some u->h'.get? b=some u)(hp:h.objs.size<=a)(hn:H a=none):Un fs ex H (upd H a o) h h' where
 keep:=λb u q _ _ _=>k b u q
 slot:=λb u q _ _ _=>⟨u.slots,k b u q⟩
 free:=λb u q n _=>by rw[uN (aar (aae (aab q) hp))];exact n
 there:=λb u q _=>⟨u,k b u q⟩
 tups:=λb xs q=>by rw[uN (nN q hn)];exact q
 fu:=λb u xs q=>by rw[uN (nN q hn)];exact q
 tbls:=λb ps q=>⟨#[],by rw[uN (nN q hn),q];simp⟩
theorem Un.write(mu:QG (H x))(he:e=x∨H e=some (.own x))(k:∀b u,b≠e->h.get? b=some u->h'.get? b=some u)(heo:∃u,h'.get? e=some u):Un fs ex H (upd H x o) h h':=by
 have hx:∀b,H b=none->b≠x:=λb n z=>by subst z;rw[n]at mu;exact mu
 have hb:∀b,H b=none->b≠e:=λb n z=>by
  subst z;rcases he with r | r
  ·exact hx b n r
  ·rw[n]at r;cases r
 have hm:∀b u,H b=some u->¬ QG (some u)->b≠x:=λb u q nm z=>by subst z;rw[q]at mu;exact nm mu
 refine⟨λb u q n _ _=>k b u (hb b n) q,λb u q n _ _=>⟨u.slots,k b u (hb b n) q⟩,λb u q n _=>by rw[uN (hx b n)];exact n,λb u q _=>?_,
  λb xs q=>by rw[uN (hm b _ q λz=>z)];exact q,λb u xs q=>by rw[uN (hm b _ q λz=>z)];exact q,λb ps q=>⟨#[],by rw[uN (hm b _ q λz=>z),q];simp⟩⟩
 by_cases hbe:b=e
 ·subst hbe;exact heo
 ·exact⟨u,k b u hbe q⟩
end
def S7(h:Heap)(H:Hp):List Addr:=(List.range h.objs.size).filter λa=>(H a).isSome
def vm(h:Heap)(H:Hp):Heap:=PySem.W.hideAll h (S7 h H)
theorem Cf(h:Heap)(H:Hp):(vm h H).objs.size=h.objs.size:=PySem.W.hideAll_size _ _
theorem Em{h:Heap}{H:Hp}{b:Addr}{o:Obj}(e:h.get? b=some o)(n:H b=none):(vm h H).get? b=some o :=
 PySem.W.hideAll_get _ e λhm=>by
  have q:(H b).isSome=true:=(List.mem_filter.mp hm).2;rw[n]at q;simp at q
theorem IU{h:Heap}{H:Hp}{b:Addr}{o:Obj}(e:(vm h H).get? b=some o):h.get? b=some o/\H b=none:=by
 have e':h.get? b=some o:=PySem.W.of_hideAll (S7 h H) e;refine⟨e',?_⟩
 cases q:H b with
 | none=>rfl
 | some x =>
  have hm:b∈S7 h H:=List.mem_filter.mpr ⟨List.mem_range.mpr (Heap.lt_size e'),by simp[q]⟩;have z:(vm h H).get? b=none:=PySem.W.hideAll_none (S7 h H) hm;rw[z]at e;cases e
def IV(g h:Heap)(L:Addr):List (Addr×Obj):=(List.range h.objs.size).filterMap λa=>if a=L∨(g.get? a).isSome=true then none else(h.get? a).map λo=>(a,o)
def rest(g h:Heap)(L d:Addr):List (Addr×Obj):=(IV g h L).filter λp=>decide (p.1≠d)
structure Mod(K:aV)(mg:Str->Option Value)(base:Heap):Prop where
 kin:K.In base
 glob:base.Ns mainGlobals mg
 blt:∃mb,base.Ns builtinsNs mb/\∀x:Str,x≠"__name__"->mb x=bootBuiltins x
 nolimit:base.NoLimit
structure Cx where
 prog:Program
 w:World
 K:aV
 mg:Str->Option Value
 base:Heap
 A:Around
 N:List Str
 s₀:Shared
 H₀:Hp
 env:Env
 outer:List Env
 stack:List Env
 ex:List Addr
 fn:Str->Bool
 calm:Bool
 pn:List (Addr×Obj)
 xe:Value->Shared->Prop
def iK(l:List Env):List Addr:=l.filterMap (·.frame)
abbrev Cx.fs(X:Cx):List Addr:=iK X.outer
def S8(sc:Scope)(x:Str):Prop:=sc.names.lookup x=some .local∨sc.names.lookup x=some .cell∨sc.names.lookup x=some .free
def Loc(sc:Scope)(x:Str):Prop:=sc.names.lookup x=some .local∨sc.names.lookup x=some .cell
def Look(env:Env)(h:Heap)(m:Str->Option Value)(x:Str)(u:Value):Prop :=
 (env.kindOf x=some .local/\m x=some u)∨((env.kindOf x=some .cell∨env.kindOf x=some .free)/\∃c,env.cells.lookup x=some c/\h.IsCell c (some u))
structure Cx.Ok(X:Cx):Prop where
 mod:Mod X.K X.mg X.base
 kind:X.env.scope.kind=.function
 glob:X.env.globals=mainGlobals
 blt:X.env.builtins=builtinsNs
 above:X.s₀.heap.objs.size<=X.env.locals
 inj:∀x y c,X.env.cells.lookup x=some c->X.env.cells.lookup y=some c->x=y
 has:∀x,(X.env.kindOf x=some .cell∨X.env.kindOf x=some .free)->∃c,X.env.cells.lookup x=some c
 cab:∀x c,X.fn x=true->X.env.cells.lookup x=some c->X.s₀.heap.objs.size<=c
 hd:X.calm=true->X.A.handled=none
 frames:X.A.frames=some X.stack
 stk:X.stack=X.outer∨(X.stack=X.env::X.outer/\X.env.frame=some X.env.locals)
 exf:∀b∈X.ex,b≠X.env.locals/\∀x c,X.env.cells.lookup x=some c->c≠b
 bs:∀b o,X.base.get? b=some o->X.s₀.heap.get? b=some o/\X.H₀ b=none
 bsz:X.base.objs.size<=X.s₀.heap.objs.size
 noex:∀b o,X.base.get? b=some o->b∉X.ex
 exfs:∀b∈X.ex,b∉X.fs
 ou:X.s₀.heap.FunFrames X.base X.outer
 frf:∀b∈X.fs,X.H₀ b=none
structure Inv(X:Cx)(pins:List (Addr×Obj))(σ:List (Option V))(H:Hp)(s:Shared):Prop where
 ok:X.Ok
 os:s.os=X.s₀.os
 bare:AllBare s.gens
 base:Un X.fs X.ex X.H₀ H X.s₀.heap s.heap
 loc:∃m,s.heap.Ns X.env.locals m/\∀(i:Nat) (x:Str) (v:V),X.N[i]?=some x->σ[i]?=some (some v)->S8 X.env.scope x->∃u,RelV v u/\Look X.env s.heap m x u
 cell:∀x c,X.env.cells.lookup x=some c->∃v,s.heap.IsCell c v
 free:H X.env.locals=none
 freeC:∀x c,X.env.cells.lookup x=some c->H c=none
 pin:∀p∈X.pn++pins,s.heap.get? p.1=some p.2/\H p.1=none/\p.1≠X.env.locals/\p.1∉X.fs/\∀v,p.2.data≠.cell v
 hok:kO X.prog X.w H s.heap
 len:σ.length=X.N.length
section
variable {X:Cx} {pins:List (Addr×Obj)} {σ:List (Option V)} {H H':Hp} {s:Shared} {h':Heap}
theorem Cx.Ok.TR(ok:X.Ok){b:Addr}{o:Obj}(e:X.base.get? b=some o):b∉X.fs:=λhb=>by
 have:=(ok.ou.mem hb).1;rw[e]at this;cases this
theorem Inv.bs(I:Inv X pins σ H s):∀b o,X.base.get? b=some o->s.heap.get? b=some o/\H b=none:=λb o e =>
 ⟨I.base.keep b o (I.ok.bs b o e).1 (I.ok.bs b o e).2 (I.ok.TR e) (I.ok.noex b o e),I.base.free b o (I.ok.bs b o e).1 (I.ok.bs b o e).2 (I.ok.noex b o e)⟩
theorem Inv.bk(I:Inv X pins σ H s):∀b o,X.base.get? b=some o->s.heap.get? b=some o:=λb o e=>(I.bs b o e).1
theorem Inv.mod(I:Inv X pins σ H s):Mod X.K X.mg X.base:=I.ok.mod
theorem Inv.jb(I:Inv X pins σ H s):X.K.In s.heap:=I.ok.mod.kin.keeps I.bk
theorem Inv.lt(I:Inv X pins σ H s):X.env.locals < s.heap.objs.size:=let ⟨_,hn,_⟩:=I.loc;hn.lt
theorem Inv.sz(I:Inv X pins σ H s):X.s₀.heap.objs.size<=s.heap.objs.size:=aaF I.ok.above (abQ I.lt)
theorem Inv.TU(I:Inv X pins σ H s){a:Addr}(h:s.heap.objs.size<=a):a∉X.fs:=λhb=>by
 obtain⟨_,o,ho,_⟩:=I.ok.ou.mem hb;exact absurd (aae (aab ho) (aaF I.sz h)) (aaN _)
theorem Inv.IW(I:Inv X pins σ H s):∀x c,X.env.cells.lookup x=some c->c≠X.env.locals:=λx c e z=>by
 obtain⟨v,o,ho,hd⟩:=I.cell x c e;obtain⟨m,⟨o',es,ep,ho',hd',_⟩,_⟩:=I.loc;rw[z,ho']at ho;cases ho;rw[hd']at hd;cases hd
theorem Inv.ou(I:Inv X pins σ H s):s.heap.FunFrames X.base X.outer:=by
 have all:∀(l:List Env),(∀b∈iK l,b∈X.fs)->X.s₀.heap.FunFrames X.base l->s.heap.FunFrames X.base l:=by
  intro l
  induction l with
  | nil=>intro _ _;trivial
  | cons env r ih =>
   intro hs hl;obtain⟨hk,⟨L,o,hf,hn,ho,hd⟩,hr⟩:=hl;have hL:L∈X.fs:=hs L (by unfold iK;rw[List.filterMap_cons,hf];exact List.mem_cons_self);obtain⟨sl,e⟩:=I.base.slot L o ho (I.ok.frf L hL) hL λz=>I.ok.exfs L z hL
   exact⟨hk,⟨L,_,hf,hn,e,hd⟩,ih (λb hb=>hs b (by unfold iK;rw[List.filterMap_cons,hf];exact List.mem_cons_of_mem _ hb)) hr⟩
 exact all X.outer (λ_ hb=>hb) I.ok.ou
theorem Inv.stack(I:Inv X pins σ H s):s.heap.FunFrames X.base X.stack:=by
 rcases I.ok.stk with e | ⟨e,hf⟩
 ·rw[e];exact I.ou
 ·rw[e];obtain⟨m,hn,_⟩:=I.loc;refine .cons (by rw[I.ok.kind];decide) hf hn ?_ I.ou;exact Heap.get?_none_of_le (aaF I.ok.bsz I.ok.above)
theorem Inv.ze(I:Inv X pins σ H s):∀b∈iK X.stack,b∈X.env.locals::X.fs:=λb hb=>by
 rcases I.ok.stk with e | ⟨e,hf⟩
 ·rw[e]at hb;exact aaB _ hb
 ·rw[e]at hb;unfold iK at hb;rw[List.filterMap_cons,hf]at hb;exact hb
theorem Inv.jc(I:Inv X pins σ H s):∀b∈iK X.stack,H b=none:=λb hb=>by
 rcases aaE.mp (I.ze b hb)with e | hb
 ·rw[e];exact I.free
 ·obtain⟨_,o,ho,_⟩:=I.ok.ou.mem hb;exact I.base.free b o ho (I.ok.frf b hb) λz=>I.ok.exfs b z hb
theorem Inv.step{g':Array GenState}{t':Nat}{d':Drawn}{ch:List Addr}(I:Inv X pins σ H s)
  (hch:∀b∈ch,(b∈X.ex∨X.s₀.heap.objs.size<=b)/\b≠X.env.locals/\(∀x c,X.env.cells.lookup x=some c->c≠b)/\∀p∈X.pn++pins,p.1≠b)
  (keep:∀b o,b≠X.env.locals->b∉X.fs->b∉ch->s.heap.get? b=some o->H b=none->h'.get? b=some o)
  (slot:∀b o,b≠X.env.locals->b∈X.fs->b∉ch->s.heap.get? b=some o->H b=none->∃sl,h'.get? b=some {o with slots:=sl}) (free:∀b o,b∉ch->s.heap.get? b=some o->H b=none->H' b=none)
  (there:∀b o,b∉ch->s.heap.get? b=some o->∃o',h'.get? b=some o')
  (tups:∀b xs,H b=some (.tup xs)->H' b=some (.tup xs)) (fu:∀b o u,H b=some (.mq o u)->H' b=some (.mq o u)) (tbls:∀b ps,H b=some (.tbl ps)->∃more,H' b=some (.tbl (ps++more)))
  (ns:∀m,s.heap.Ns X.env.locals m->h'.Ns X.env.locals m) (hok:kO X.prog X.w H' h') (hg:AllBare g') :
  Inv X pins σ H' {s with heap:=h',gens:=g',drawn:=d',toks:=t'}:=by
 have neL:∀b o,X.s₀.heap.get? b=some o->b≠X.env.locals:=λb o e=>aar (aae (aab e) I.ok.above)
 have neC:∀b o,X.s₀.heap.get? b=some o->b∉X.ex->b∉ch:=λb o e hx hb=>by
  rcases (hch b hb).1 with z | z
  ·exact hx z
  ·exact absurd (aae (aab e) z) (aaN _)
 have cellK:∀x c,X.env.cells.lookup x=some c->∀v,s.heap.IsCell c v->h'.IsCell c v:=λx c e v ⟨o,ho,hd⟩=>by
  have nch:c∉ch:=λz=>(hch c z).2.2.1 x c e rfl
  by_cases hc:c∈X.fs
  ·obtain⟨sl,q⟩:=slot c o (I.IW x c e) hc nch ho (I.freeC x c e);exact⟨_,q,hd⟩
  ·exact⟨o,keep c o (I.IW x c e) hc nch ho (I.freeC x c e),hd⟩
 refine⟨I.ok,I.os,hg,⟨λb o e n hb hx=>?_,λb o e n hb hx=>?_,λb o e n hx=>?_,λb o e hx=>?_,λb xs e=>tups b xs (I.base.tups b xs e),λb o xs e=>fu b o xs (I.base.fu b o xs e),λb ps e=>?_⟩,?_,λx c e=>?_,?_,λx c e=>?_,λp hp=>?_,hok,I.len⟩
 ·exact keep b o (neL b o e) hb (neC b o e hx) (I.base.keep b o e n hb hx) (I.base.free b o e n hx)
 ·obtain⟨sl,e1⟩:=I.base.slot b o e n hb hx;obtain⟨sl',e2⟩:=slot b _ (neL b o e) hb (neC b o e hx) e1 (I.base.free b o e n hx);exact⟨sl',e2⟩
 ·obtain⟨o',e1⟩:=I.base.there b o e hx;exact free b o' (neC b o e hx) e1 (I.base.free b o e n hx)
 ·obtain⟨o',e1⟩:=I.base.there b o e hx;exact there b o' (neC b o e hx) e1
 ·obtain⟨m1,e1⟩:=I.base.tbls b ps e;obtain⟨m2,e2⟩:=tbls b _ e1;exact⟨m1++m2,by rw[e2,Array.append_assoc]⟩
 ·obtain⟨m,hn,hl⟩:=I.loc;refine⟨m,ns m hn,λi x v e1 e2 e3=>?_⟩;obtain⟨u,r,l⟩:=hl i x v e1 e2 e3;refine⟨u,r,?_⟩;rcases l with l | ⟨k,c,e,z⟩
  ·exact .inl l
  ·exact .inr ⟨k,c,e,cellK x c e _ z⟩
 ·obtain⟨v,z⟩:=I.cell x c e;exact⟨v,cellK x c e v z⟩
 ·obtain⟨m,⟨o,_,_,ho,_⟩,_⟩:=I.loc;exact free _ o (λz=>(hch _ z).2.1 rfl) ho I.free
 ·obtain⟨v,o,ho,hd⟩:=I.cell x c e;exact free c o (λz=>(hch c z).2.2.1 x c e rfl) ho (I.freeC x c e)
 ·obtain⟨e,n,ne,nf,d⟩:=I.pin p hp;have nch:p.1∉ch:=λz=>(hch p.1 z).2.2.2 p hp rfl
  exact⟨keep p.1 p.2 ne nf nch e n,free p.1 p.2 nch e n,ne,nf,d⟩
theorem Inv.un{t':Nat}(I:Inv X pins σ H s)(u:Un X.fs [] H H' s.heap h')(hok:kO X.prog X.w H' h'):Inv X pins σ H' {s with heap:=h',toks:=t'}:=by
 obtain⟨m,⟨o,es,ep,ho,r⟩,_⟩:=id I.loc;obtain⟨sl,hL⟩:=u.any ho I.free (by simp)
 exact I.step (g':=s.gens) (d':=s.drawn) (ch:=[]) (λ_ z=>nomatch z) (λb o _ hb _ e n=>u.keep b o e n hb (by simp)) (λb o _ hb _ e n=>u.slot b o e n hb (by simp)) (λb o _ e n=>u.free b o e n (by simp)) (λb o _ e=>u.there b o e (by simp)) u.tups u.fu u.tbls (λm' hm=>by
  obtain⟨o',es',ep',ho',r'⟩:=hm;rw[ho]at ho';cases ho';exact⟨_,es',ep',hL,r'⟩) hok I.bare
theorem Inv.call{g':Array GenState}{t':Nat}{d':Drawn}{ch:List Addr}(I:Inv X pins σ H s)(u:Un (iK X.stack) ch H H' s.heap h')(hok:kO X.prog X.w H' h')(hg:AllBare g')
  (hch:∀b∈ch,(b∈X.ex∨X.s₀.heap.objs.size<=b)/\b≠X.env.locals/\(∀x c,X.env.cells.lookup x=some c->c≠b)/\∀p∈X.pn++pins,p.1≠b) :
  Inv X pins σ H' {s with heap:=h',gens:=g',drawn:=d',toks:=t'}:=by
 obtain⟨m,⟨o,es,ep,ho,r⟩,_⟩:=id I.loc;obtain⟨sl,hL⟩:=u.any ho I.free λz=>(hch _ z).2.1 rfl
 exact I.step (ch:=ch) hch (λb o hL hb hc e n=>u.keep b o e n (λz=>(aaE.mp (I.ze b z)).elim hL hb) hc) (λb o _ _ hc e n=>u.any e n hc) (λb o hc e n=>u.free b o e n hc) (λb o hc e=>u.there b o e hc) u.tups u.fu u.tbls (λm' hm=>by
  obtain⟨o',es',ep',ho',r'⟩:=hm;rw[ho]at ho';cases ho';exact⟨_,es',ep',hL,r'⟩) hok hg
theorem Inv.turned{t':Nat}{it:Addr}(I:Inv X pins σ H s)(k:∀b o,b≠it->s.heap.get? b=some o->h'.get? b=some o)(hn:H it=none)(hL:it≠X.env.locals)
  (h1:it∈X.ex∨X.s₀.heap.objs.size<=it) (h2:∀x c,X.env.cells.lookup x=some c->c≠it) (h3:∀p∈X.pn++pins,p.1≠it):Inv X pins σ H {s with heap:=h',toks:=t'}:=by
 have nit:∀b u,H b=some u->b≠it:=λb u e z=>by rw[z,hn]at e;cases e
 refine I.step (g':=s.gens) (d':=s.drawn) (ch:=[it]) (λb hb=>?_) (λb o _ _ hc e _=>k b o (λz=>hc (by simp[z])) e) (λb o _ _ hc e _=>⟨o.slots,k b o (λz=>hc (by simp[z])) e⟩) (λ_ _ _ _ n=>n)
  (λb o hc e=>⟨o,k b o (λz=>hc (by simp[z])) e⟩) (λ_ _ e=>e) (λ_ _ _ e=>e) (λb ps e=>⟨#[],by rw[e];simp⟩) (λm hm=>?_) (λb u e=>?_) I.bare
 ·have e:b=it:=by simpa using hb
  subst e;exact⟨h1,hL,h2,h3⟩
 ·obtain⟨o,es,ep,ho,r⟩:=hm;exact⟨o,es,ep,k _ o (abX hL) ho,r⟩
 ·refine(I.hok b u e).qT (λc v hc q=>k c v ?_ q) (λ_ q=>q) λ_ _ q=>q
  rcases hc with z | z
  ·rw[z];exact nit b u e
  ·exact nit c _ z
theorem Inv.tok(I:Inv X pins σ H s)(t:Nat):Inv X pins σ H {s with toks:=t}:=I.un (h':=s.heap) (t':=t) Un.refl I.hok
theorem Inv.kept{t':Nat}(I:Inv X pins σ H s)(k:∀b u,s.heap.get? b=some u->h'.get? b=some u):Inv X pins σ H {s with heap:=h',toks:=t'}:=I.un (Un.kept k) (I.hok.kept k)
theorem Inv.laid{a:Addr}{o:HO}{t':Nat}(I:Inv X pins σ H s)(k:∀b u,s.heap.get? b=some u->h'.get? b=some u)(hp:s.heap.objs.size<=a)(new:ej X.prog X.w (upd H a o) h' a o):
  Inv X pins σ (upd H a o) {s with heap:=h',toks:=t'}:=I.un (Un.laid k hp (I.hok.fresh hp)) (I.hok.laid k hp new)
theorem Inv.write{x e:Addr}{o:HO}{t':Nat}(I:Inv X pins σ H s)(mu:QG (H x))(he:e=x∨H e=some (.own x))(k:∀b u,b≠e->s.heap.get? b=some u->h'.get? b=some u)(heo:∃u,h'.get? e=some u)
  (new:ej X.prog X.w (upd H x o) h' x o):Inv X pins σ (upd H x o) {s with heap:=h',toks:=t'}:=I.un (Un.write mu he k heo) (I.hok.write mu he k heo new)
theorem Inv.weak{σ':List (Option V)}(I:Inv X pins σ H s)(hl:σ'.length=σ.length)(w:∀(i:Nat) v,σ'[i]?=some (some v)->σ[i]?=some (some v)):Inv X pins σ' H s :=
 ⟨I.ok,I.os,I.bare,I.base,let ⟨m,hn,hl'⟩:=I.loc;⟨m,hn,λi x v e1 e2 e3=>hl' i x v e1 (w i v e2) e3⟩,I.cell,I.free,I.freeC,I.pin,I.hok,hl.trans I.len⟩
theorem Inv.A1{pins':List (Addr×Obj)}(I:Inv X pins σ H s)(h:∀p∈pins',s.heap.get? p.1=some p.2/\H p.1=none/\p.1≠X.env.locals/\p.1∉X.fs/\∀v,p.2.data≠.cell v):Inv X pins' σ H s :=
 ⟨I.ok,I.os,I.bare,I.base,I.loc,I.cell,I.free,I.freeC,λp hp=>(abY.mp hp).elim (λz=>I.pin p (List.mem_append_left _ z)) (h p),I.hok,I.len⟩
theorem qU{N:List Str}(hN:N.Nodup){i j:Nat}{x:Str}(a:N[i]?=some x)(b:N[j]?=some x):i=j:=by
 obtain⟨h1,e1⟩:=ft a;obtain⟨h2,e2⟩:=ft b;exact(List.getElem_inj hN).mp (e1.trans e2.symm)
theorem ow{M:Model}{A:Around}{E:Value->Shared->Prop}{i:Nat}{x:Str}{v:V}{u:Value}{Q:Unit->Shared->Prop}(I:Inv X pins σ H s)(hN:X.N.Nodup)(hi:X.N[i]?=some x)(hx:Loc X.env.scope x)(r:RelV v u)
  (h:∀s',Inv X pins (σ.set i (some v)) H s'->(∃a,Heap.SameBut a s.heap s'.heap/\(a=X.env.locals∨X.env.cells.lookup x=some a))->Q () s') (hf:X.fn x=true∨X.env.scope.names.lookup x=some .local:=by first | exact .inl rfl | exact .inr rfl | assumption):wpAny M A (storeName X.env x u) Q E s:=by
 obtain⟨m,hn,hl⟩:=id I.loc;have hcls:(X.env.scope.kind == .class||(X.env.scope.kind == .module&&X.env.locals != X.env.globals))=false:=by rw[I.ok.kind];rfl
 have hiσ:i < σ.length:=by rw[I.len];exact(ft hi).1
 have IW:=I.IW
 have tracked:∀{a:Addr} {h':Heap},(∃o,s.heap.get? a=some o/\H a=none)->Heap.SameBut a s.heap h'->kO X.prog X.w H h':=λ{a h'} ha hs b ob e=>by
  obtain⟨_,_,hfree⟩:=ha;refine(I.hok b ob e).qT (λc w' hc q=>(hs.2 c ?_).trans q) (λ_ q=>q) λ_ _ q=>q
  rintro rfl;rcases hc with rfl | hc
  ·rw[hfree]at e;cases e
  ·rw[hfree]at hc;cases hc
 rcases hx with hk | hk
 ·refine wpAny_storeName_local hk hn (λh' hn' hs=>?_) hcls;obtain⟨oL,_,_,hoL,_⟩:=id hn;refine h _ ⟨I.ok,I.os,I.bare,⟨λb o e n hb hx=>?_,λb o e n hb hx=>?_,I.base.free,λb o e hx=>?_,I.base.tups,I.base.fu,I.base.tbls⟩,⟨_,hn',λj y v' e1 e2 e3=>?_⟩,λy c e=>?_,I.free,I.freeC,λp hp=>?_,tracked ⟨oL,hoL,I.free⟩ hs,by simpa using I.len⟩ ⟨_,hs,.inl rfl⟩
  ·exact(hs.2 b (aar (aae (aab e) I.ok.above))).trans (I.base.keep b o e n hb hx)
  ·obtain⟨sl,e1⟩:=I.base.slot b o e n hb hx;exact⟨sl,(hs.2 b (aar (aae (aab e) I.ok.above))).trans e1⟩
  ·obtain⟨o',e1⟩:=I.base.there b o e hx;exact⟨o',(hs.2 b (aar (aae (aab e) I.ok.above))).trans e1⟩
  ·by_cases hj:j=i
   ·subst hj;rw[hi]at e1;cases e1;rw[List.getElem?_set_self hiσ]at e2;cases e2;exact⟨u,r,.inl ⟨hk,by simp⟩⟩
   ·rw[aav (abX hj)]at e2;obtain⟨u',r',q⟩:=hl j y v' e1 e2 e3;refine⟨u',r',?_⟩;rcases q with⟨k,e⟩ | ⟨k,c,e,z⟩
    ·refine .inl ⟨k,?_⟩;have:y≠x:=λe=>hj (qU hN e1 (e ▸ hi))
     simp[this,e]
    ·exact .inr ⟨k,c,e,z.sameBut hs (IW y c e)⟩
  ·obtain⟨w',z⟩:=I.cell y c e;exact⟨w',z.sameBut hs (IW y c e)⟩
  ·obtain⟨e,n,ne,nf,d⟩:=I.pin p hp;exact⟨(hs.2 p.1 ne).trans e,n,ne,nf,d⟩
 ·have hfn:X.fn x=true:=by
   rcases hf with z | z
   ·exact z
   ·rw[z]at hk;cases hk
  obtain⟨c,hc⟩:=I.ok.has x (.inl hk);obtain⟨w',z⟩:=I.cell x c hc;refine wpAny_storeName_cell I.ok.kind hk hc z (λh' hc' hs=>?_);obtain⟨oc,hoc,hocd⟩:=id z;refine h {s with heap:=h'} ⟨I.ok,I.os,I.bare,⟨λb o e n hb hx=>?_,λb o e n hb hx=>?_,I.base.free,λb o e hx=>?_,I.base.tups,I.base.fu,I.base.tbls⟩,⟨m,hn.sameBut hs (Ne.symm (IW x c hc)),λj y v' e1 e2 e3=>?_⟩,λy c' e=>?_,I.free,I.freeC,λp hp=>?_,tracked ⟨oc,hoc,I.freeC x c hc⟩ hs,by simpa using I.len⟩ ⟨c,hs,.inr hc⟩
  ·exact(hs.2 b (aar (aae (aab e) (I.ok.cab x c hfn hc)))).trans (I.base.keep b o e n hb hx)
  ·obtain⟨sl,e1⟩:=I.base.slot b o e n hb hx;exact⟨sl,(hs.2 b (aar (aae (aab e) (I.ok.cab x c hfn hc)))).trans e1⟩
  ·obtain⟨o',e1⟩:=I.base.there b o e hx;exact⟨o',(hs.2 b (aar (aae (aab e) (I.ok.cab x c hfn hc)))).trans e1⟩
  ·by_cases hj:j=i
   ·subst hj;rw[hi]at e1;cases e1;rw[aal hiσ]at e2;cases e2;exact⟨u,r,.inr ⟨.inl hk,c,hc,hc'⟩⟩
   ·rw[aav (abX hj)]at e2;obtain⟨u',r',q⟩:=hl j y v' e1 e2 e3;refine⟨u',r',?_⟩;rcases q with q | ⟨k,c',e,z'⟩
    ·exact .inl q
    ·refine .inr ⟨k,c',e,z'.sameBut hs ?_⟩;rintro rfl;exact hj (qU hN e1 (I.ok.inj _ _ _ e hc ▸ hi))
  ·by_cases hcc:c'=c
   ·subst hcc;exact⟨_,hc'⟩
   ·obtain⟨w2,z2⟩:=I.cell y c' e;exact⟨w2,z2.sameBut hs hcc⟩
  ·obtain⟨e,n,ne,nf,d⟩:=I.pin p hp;refine⟨(hs.2 p.1 ?_).trans e,n,ne,nf,d⟩;intro q;rw[q,hoc]at e;have q':oc=p.2:=aak e;exact d w' (by rw[← q'];exact hocd)
theorem xt{M:Model}{A:Around}{E:Value->Shared->Prop}{i:Nat}{x:Str}{v:V}{u:Value}{Q:Unit->Shared->Prop}(I:Inv X pins σ H s)(hN:X.N.Nodup)(hi:X.N[i]?=some x)(hx:Loc X.env.scope x)(r:RelV v u)
  (h:∀s',Inv X pins (σ.set i (some v)) H s'->Q () s') (hf:X.fn x=true∨X.env.scope.names.lookup x=some .local:=by first | exact .inl rfl | exact .inr rfl | assumption):wpAny M A (storeName X.env x u) Q E s :=
 ow I hN hi hx r (λs' I' _=>h s' I') hf
theorem Inv.A2{s':Shared}{ch:List Addr}(I:Inv X pins σ H s)(ho:s'.os=s.os)(u:Un (iK X.stack) ch H H' s.heap s'.heap)(hok:kO X.prog X.w H' s'.heap)(hg:AllBare s'.gens)
  (hch:∀b∈ch,(b∈X.ex∨X.s₀.heap.objs.size<=b)/\b≠X.env.locals/\(∀x c,X.env.cells.lookup x=some c->c≠b)/\∀p∈X.pn++pins,p.1≠b):Inv X pins σ H' s':=by
 obtain⟨h',g',d',t',o'⟩:=s';have e:o'=s.os:=ho;subst e;exact I.call (g':=g') (t':=t') (d':=d') u hok hg hch
end
abbrev XK:=Value->Option Addr->Hp->Prop
abbrev St:=List (Option V)
abbrev VK:=V->Hp->Prop
abbrev TE:=St->Hp->VK->Prop
abbrev TT:=St->Hp->(Bool->Hp->Prop)->Prop
abbrev TA:=St->Hp->(List V->Hp->Prop)->Prop
structure Ends where
 nx:St->Hp->Prop
 rt:VK
 bk:St->Hp->Prop:=λ_ _=>False
 ct:St->Hp->Prop:=λ_ _=>False
abbrev TS:=Ends->St->Hp->Prop
def EP(X:Cx)(pins:List (Addr×Obj))(σ:St)(Q:VK)(u:Value)(s':Shared):Prop:=∃v H',Inv X pins σ H' s'/\RelV v u/\Q v H'
def TP(X:Cx)(pins:List (Addr×Obj))(σ:St)(Q:Bool->Hp->Prop)(b:Bool)(s':Shared):Prop:=∃H',Inv X pins σ H' s'/\Q b H'
def AP(X:Cx)(pins:List (Addr×Obj))(σ:St)(Q:List V->Hp->Prop)(us:List Value)(s':Shared):Prop:=∃vs H',Inv X pins σ H' s'/\Vals vs us/\Q vs H'
def SP(X:Cx)(pins:List (Addr×Obj))(D:Ends)(f:Flow)(s':Shared):Prop :=
 match f with
 | .next=>∃σ' H',Inv X pins σ' H' s'/\D.nx σ' H'
 | .brk=>∃σ' H',Inv X pins σ' H' s'/\D.bk σ' H'
 | .cont=>∃σ' H',Inv X pins σ' H' s'/\D.ct σ' H'
 | .ret u=>∃v σ' H',Inv X pins σ' H' s'/\RelV v u/\D.rt v H'
def PE(X:Cx)(e:Expr)(t:TE):Prop :=
 ∀(pins:List (Addr×Obj)) (s:Shared) (σ:St) (H:Hp) (Q:VK),Inv X pins σ H s->t σ H Q->wpAny (model X.prog X.w) X.A (eval e X.env) (EP X pins σ Q) X.xe s
def PT(X:Cx)(e:Expr)(t:TT):Prop :=
 ∀(pins:List (Addr×Obj)) (s:Shared) (σ:St) (H:Hp) (Q:Bool->Hp->Prop),Inv X pins σ H s->t σ H Q->wpAny (model X.prog X.w) X.A (isTrue e X.env (eval e X.env)) (TP X pins σ Q) X.xe s
def PW(X:Cx)(e:Expr)(t:TT):Prop :=
 ∀(whole:Sem Value) (pins:List (Addr×Obj)) (s:Shared) (σ:St) (H:Hp) (Q:Bool->Hp->Prop),Inv X pins σ H s->t σ H Q->wpAny (model X.prog X.w) X.A (isTrue e X.env whole) (TP X pins σ Q) X.xe s
theorem PW.pt{X:Cx}{e:Expr}{t:TT}(h:PW X e t):PT X e t:=h _
def PA(X:Cx)(es:List Expr)(t:TA):Prop :=
 ∀(pos:Pos) (pins:List (Addr×Obj)) (s:Shared) (σ:St) (H:Hp) (Q:List V->Hp->Prop),Inv X pins σ H s->t σ H Q->wpAny (model X.prog X.w) X.A (spliced (backTo pos (starEach es X.env))) (AP X pins σ Q) X.xe s
def PS(X:Cx)(st:Stmt)(t:TS):Prop :=
 ∀(pins:List (Addr×Obj)) (s:Shared) (σ:St) (H:Hp) (D:Ends),Inv X pins σ H s->t D σ H->wpAny (model X.prog X.w) X.A (exec st X.env) (SP X pins D) X.xe s
def oo(X:Cx)(st:List Stmt)(t:TS):Prop :=
 ∀(pins:List (Addr×Obj)) (s:Shared) (σ:St) (H:Hp) (D:Ends),Inv X pins σ H s->t D σ H->wpAny (model X.prog X.w) X.A (execs st X.env) (SP X pins D) X.xe s
theorem bU{α:Type}{t:Sem α}{Q Q':α->Shared->Prop}{M:Model}{A:Around}{E:Value->Shared->Prop}{s:Shared}(h:wpAny M A t Q E s)(hQ:∀a s,Q a s->Q' a s):wpAny M A t Q' E s:=aam h hQ λ_ _ x=>x
section
variable {X:Cx}
inductive QH(i:Nat)(σ:St)(H:Hp)(Q:VK):Prop where
 | mk (v:V) (h:σ[i]?=some (some v)) (q:Q v H):QH i σ H Q
def Eo(i:Nat):TE:=λσ H Q=>QH i σ H Q
def tC(v:V):TE:=λ_ H Q=>Q v H
theorem Ep{i:Nat}{x:Str}{pos:Pos}(hN:X.N[i]?=some x)(hv:S8 X.env.scope x)(hd:(x == ("__debug__" : Str))=false:=by decide)(hcd:(x == ("__classdict__" : Str))=false:=by decide):PE X (.Name x pos) (Eo i):=by
 intro pins s σ H Q I h;obtain⟨v,e,h⟩:=h;obtain⟨m,hn,hl⟩:=I.loc;obtain⟨u,r,l⟩:=hl i x v hN e hv;have fin:EP X pins σ Q u s:=⟨v,H,I,r,h⟩;rcases l with⟨hk,hm⟩ | ⟨hk,c,hc,hcell⟩
 ·exact wpAny_Name (wpAny_loadName_local I.ok.kind hk hn hm fin) hd
 ·rcases hk with hk | hk
  ·exact wpAny_Name (wpAny_loadName_cell I.ok.kind hk hc hcell fin) hd
  ·exact wpAny_Name (wpAny_loadName_free I.ok.kind hk hc hcell fin hcd) hd
theorem pI{i j pos}:PE X (.Constant (.int i) j pos) (tC (.int i)):=λ_ _ _ H _ I h=>wpAny_Constant_int ⟨.int i,H,I.tok _,⟨_,rfl⟩,h⟩
theorem A4{b j pos}:PE X (.Constant (.bool b) j pos) (tC (.bl b)):=λ_ _ _ H _ I h=>Constant_bool ⟨.bl b,H,I,rfl,h⟩
theorem eJ{j pos}:PE X (.Constant .none j pos) (tC .non):=λ_ _ _ H _ I h=>Constant_none ⟨.non,H,I,rfl,h⟩
theorem aY{x j pos}:PE X (.Constant (.str x) j pos) (tC (.str x)):=λ_ _ _ H _ I h=>Calls.Constant_str ⟨.str x,H,I.tok _,⟨_,rfl⟩,h⟩
def Gl(X:Cx)(x:Str):Prop:=X.env.kindOf x=some .globalImplicit
theorem gF{E:Value->Shared->Prop}{pins:List (Addr×Obj)}{s:Shared}{σ:St}{H:Hp}{x:Str}{u:Value}{pos:Pos}{Q:Value->Shared->Prop}(I:Inv X pins σ H s)(hg:Gl X x)(hm:X.mg x=some u)(h:Q u s)
  (hd:(x == ("__debug__" : Str))=false:=by decide):wpAny (model X.prog X.w) X.A (eval (.Name x pos) X.env) Q E s :=
 acr I.ok.kind hg (Calls.loadGlobal_global (by rw[I.ok.glob];exact I.mod.glob.keeps I.bk) hm h) hd
theorem oy{E:Value->Shared->Prop}{pins:List (Addr×Obj)}{s:Shared}{σ:St}{H:Hp}{x:Str}{u:Value}{pos:Pos}{Q:Value->Shared->Prop}(I:Inv X pins σ H s)(hg:Gl X x)(hm:X.mg x=none)(hv:bootBuiltins x=some u)(h:Q u s)
  (hn:x≠"__name__":=by decide) (hd:(x == ("__debug__" : Str))=false:=by decide):wpAny (model X.prog X.w) X.A (eval (.Name x pos) X.env) Q E s:=by
 obtain⟨mb,h1,h2⟩:=I.mod.blt;exact acr I.ok.kind hg (Calls.loadGlobal_builtin (by rw[I.ok.glob];exact I.mod.glob.keeps I.bk) hm (by rw[I.ok.blt];exact h1.keeps I.bk) ((h2 x hn).trans hv) h) hd
theorem lV{x:Str}{v:V}{u:Value}{pos:Pos}(hg:Gl X x)(hm:X.mg x=some u)(r:RelV v u)(hd:(x == ("__debug__" : Str))=false:=by decide):PE X (.Name x pos) (tC v) :=
 λ_ _ _ H _ I h=>gF I hg hm ⟨v,H,I,r,h⟩ hd
theorem IX{x:Str}{v:V}{u:Value}{pos:Pos}(hg:Gl X x)(hm:X.mg x=none)(hv:bootBuiltins x=some u)(r:RelV v u)(hn:x≠"__name__":=by decide)(hd:(x == ("__debug__" : Str))=false:=by decide):PE X (.Name x pos) (tC v) :=
 λ_ _ _ H _ I h=>oy I hg hm hv ⟨v,H,I,r,h⟩ hn hd
variable {a b:Expr} {ta tb:TE} {pos:Pos}
inductive TV(x:V)(H:Hp)(Q:Bool->Hp->Prop):Prop where
 | mk (c:Bool) (e:x=.bl c) (q:Q c H):TV x H Q
def tB(t:TE):TT:=λσ H Q=>t σ H λx H1=>TV x H1 Q
theorem zf{e:Expr}{t:TE}(h:PE X e t)(he:∀whole,isTrue e X.env whole=(do let v ← whole;standAt e.pos;holding [v] (truthy v)):=by intro _;rfl):PT X e (tB t):=by
 intro pins s σ H Q I hw;refine isTrue_plain (bU (h pins s σ H _ I hw) λv s1 ⟨x,H1,I1,r1,q1⟩=>?_) (he _);obtain⟨d,rfl,q⟩:=q1;cases r1;exact abP ⟨H1,I1,q⟩
variable {tA tB':TT} {rest:List Expr}
def QI(t u:TT):TT:=λσ H Q=>t σ H λc H1=>if c=true then u σ H1 Q else Q false H1
def W7(t u:TT):TT:=λσ H Q=>t σ H λc H1=>if c=true then Q true H1 else u σ H1 Q
def TX(t:TT):TT:=λσ H Q=>t σ H λc H1=>Q (!c) H1
theorem pw_and1(ha:PT X a tA):PW X (.BoolOp .And [a] pos) tA:=by
 intro wh pins s σ H Q I h;refine isTrue_and (bU (ha pins s σ H Q I h) λc s1 e=>?_)
 cases c with
 | true=>exact isTrue_and_nil e
 | false=>exact e
theorem pw_or1(ha:PT X a tA):PW X (.BoolOp .Or [a] pos) tA:=by
 intro wh pins s σ H Q I h;refine isTrue_or (bU (ha pins s σ H Q I h) λc s1 e=>?_)
 cases c with
 | false=>exact isTrue_or_nil e
 | true=>exact e
theorem pw_and(ha:PT X a tA)(hb:PW X (.BoolOp .And (b::rest) pos) tB'):PW X (.BoolOp .And (a::b::rest) pos) (QI tA tB'):=by
 intro wh pins s σ H Q I h;refine isTrue_and (bU (ha pins s σ H _ I h) λc s1 ⟨H1,I1,q1⟩=>?_)
 cases c with
 | true=>exact hb wh pins s1 σ H1 Q I1 q1
 | false=>exact⟨H1,I1,q1⟩
theorem pw_or(ha:PT X a tA)(hb:PW X (.BoolOp .Or (b::rest) pos) tB'):PW X (.BoolOp .Or (a::b::rest) pos) (W7 tA tB'):=by
 intro wh pins s σ H Q I h;refine isTrue_or (bU (ha pins s σ H _ I h) λc s1 ⟨H1,I1,q1⟩=>?_)
 cases c with
 | true=>exact⟨H1,I1,q1⟩
 | false=>exact hb wh pins s1 σ H1 Q I1 q1
theorem zg(ha:PT X a tA):PT X (.UnaryOp .Not a pos) (TX tA):=by
 intro pins s σ H Q I h;exact isTrue_not (ha pins s σ H (λc H1=>Q (!c) H1) I h)
def Zq(t:TT)(ta tb:TE):TE:=λσ H Q=>t σ H λc H1=>if c=true then ta σ H1 Q else tb σ H1 Q
theorem qV{c:Expr}(hc:PT X c tA)(ha:PE X a ta)(hb:PE X b tb):PE X (.IfExp c a b pos) (Zq tA ta tb):=by
 intro pins s σ H Q I h;refine wpAny_IfExp (bU (hc pins s σ H _ I h) λd s1 ⟨H1,I1,q1⟩=>?_)
 cases d with
 | true=>exact ha pins s1 σ H1 Q I1 q1
 | false=>exact hb pins s1 σ H1 Q I1 q1
end
def bZ(K:aV)(H:Hp)(a:Addr)(xs:List V):Prop :=
 Rd H a (.lst xs) ∨
  ∃(o:Obj) (its:Array Value) (n:Nat),K.lookup a=some o/\o.cls=.type "list"/\o.dict=none/\o.data=.seq its n/\its.size<=sizeLine/\Vals xs its.toList
def cX(K:aV)(H:Hp)(a:Addr)(xs:List V):Prop :=
 Rd H a (.tup xs) ∨
  ∃(o:Obj) (its:Array Value) (n:Nat),K.lookup a=some o/\o.cls=.type "tuple"/\o.data=.seq its n/\its.size<=sizeLine/\Vals xs its.toList
def TY:Value->Option V
 | .none=>some .non
 | .bool b=>some (.bl b)
 | .int i _=>some (.int i)
 | .str x _=>some (.str x)
 | .bytes b _=>some (.byt b)
 | .float b _=>some (.flt b)
 | .ref a=>some (.ref a)
 | .type n=>some (.ty n)
 | _=>none
theorem RelV.abs{x:V}{u:Value}(r:RelV x u):TY u=some x:=by
 cases x with
 | non=>cases r;rfl
 | bl _=>cases r;rfl
 | int _=>obtain⟨t,rfl⟩:=r;rfl
 | str _=>obtain⟨t,rfl⟩:=r;rfl
 | byt _=>obtain⟨t,rfl⟩:=r;rfl
 | flt _=>obtain⟨t,rfl⟩:=r;rfl
 | ref _=>cases r;rfl
 | ty _=>cases r;rfl
theorem RelV.inj{x y:V}{u:Value}(r:RelV x u)(q:RelV y u):x=y:=aak (r.abs.symm.trans q.abs)
theorem Vals.inj:∀{xs ys:List V} {us:List Value},Vals xs us->Vals ys us->xs=ys
 | _,_,_,.nil,.nil=>rfl
 | _,_,_,.cons r t,.cons r' t'=>by rw[r.inj r',Vals.inj t t']
section
variable {X:Cx} {pins:List (Addr×Obj)} {σ:St} {H:Hp} {s:Shared} {a:Addr} {xs ys:List V}
theorem bZ.of{K:aV}(h:H a=some (.lst xs)):bZ K H a xs:=.inl (.inl h)
theorem cX.of{K:aV}(h:H a=some (.tup xs)):cX K H a xs:=.inl (.inl h)
theorem Inv.list(I:Inv X pins σ H s)(h:bZ X.K H a xs):∃its:List Value,Vals xs its/\PlainL s.heap a its.toArray/\xs.length<=sizeLine:=by
 rcases h with h | ⟨o,its,n,hk,hc,hd,hs,hz,r⟩
 ·obtain⟨z,its,n,r,e⟩:=h.ok I.hok;exact⟨its,r,⟨_,n,e,rfl,rfl,rfl⟩,z⟩
 ·refine⟨its.toList,r,⟨o,n,I.jb a o hk,hc,hd,by simpa using hs⟩,?_⟩;have e:=r.length;simp only[Array.length_toList]at e;omega
theorem Inv.tuple(I:Inv X pins σ H s)(h:cX X.K H a xs):∃its:List Value,Vals xs its/\IsTup s.heap a its.toArray/\xs.length<=sizeLine:=by
 rcases h with h | ⟨o,its,n,hk,hc,hs,hz,r⟩
 ·obtain⟨z,its,r,p⟩:=h.ok I.hok;exact⟨its,r,p,z⟩
 ·refine⟨its.toList,r,⟨o,I.jb a o hk,hc,n,by simpa using hs⟩,?_⟩;have e:=r.length;simp only[Array.length_toList]at e;omega
theorem Inv.Er(I:Inv X pins σ H s)(h:bZ X.K H a xs)(h':bZ X.K H a ys):xs=ys:=by
 obtain⟨its,r,⟨o,n,e,_,_,d⟩,_⟩:=I.list h;obtain⟨its',r',⟨o',n',e',_,_,d'⟩,_⟩:=I.list h';rw[e]at e';cases e';rw[d]at d'
 injection d' with d1 _
 have:its=its':=by simpa using congrArg Array.toList d1
 subst this;exact r.inj r'
theorem Inv.Cg(I:Inv X pins σ H s)(h:cX X.K H a xs)(h':cX X.K H a ys):xs=ys:=by
 obtain⟨its,r,⟨o,e,_,n,d⟩,_⟩:=I.tuple h;obtain⟨its',r',⟨o',e',_,n',d'⟩,_⟩:=I.tuple h';rw[e]at e';cases e';rw[d]at d'
 injection d' with d1 _
 have:its=its':=by simpa using congrArg Array.toList d1
 subst this;exact r.inj r'
end
abbrev Cx.fw(X:Cx)(E:Value->Shared->Prop):Cx:={X with xe:=E}
abbrev Cx.S9(X:Cx):Cx:=X.fw λ_ _=>False
theorem Cx.Ok.fw{X:Cx}(ok:X.Ok)(E:Value->Shared->Prop):(X.fw E).Ok :=
 ⟨ok.mod,ok.kind,ok.glob,ok.blt,ok.above,ok.inj,ok.has,ok.cab,ok.hd,ok.frames,ok.stk,ok.exf,ok.bs,ok.bsz,ok.noex,ok.exfs,ok.ou,ok.frf⟩
theorem Cx.Ok.fZ{X:Cx}{E:Value->Shared->Prop}(ok:(X.fw E).Ok):X.Ok :=
 ⟨ok.mod,ok.kind,ok.glob,ok.blt,ok.above,ok.inj,ok.has,ok.cab,ok.hd,ok.frames,ok.stk,ok.exf,ok.bs,ok.bsz,ok.noex,ok.exfs,ok.ou,ok.frf⟩
section
variable {X:Cx} {pins:List (Addr×Obj)} {σ:St} {H:Hp} {s:Shared} {E:Value->Shared->Prop}
theorem Inv.fw(I:Inv X pins σ H s)(E:Value->Shared->Prop):Inv (X.fw E) pins σ H s:=⟨I.ok.fw E,I.os,I.bare,I.base,I.loc,I.cell,I.free,I.freeC,I.pin,I.hok,I.len⟩
theorem Inv.fZ(I:Inv (X.fw E) pins σ H s):Inv X pins σ H s:=⟨I.ok.fZ,I.os,I.bare,I.base,I.loc,I.cell,I.free,I.freeC,I.pin,I.hok,I.len⟩
theorem SP.fZ{D:Ends}{f:Flow}{s':Shared}(h:SP (X.fw E) pins D f s'):SP X pins D f s':=by
 cases f with
 | next=>obtain⟨σ',H',I,q⟩:=h;exact⟨σ',H',I.fZ,q⟩
 | brk=>obtain⟨σ',H',I,q⟩:=h;exact⟨σ',H',I.fZ,q⟩
 | cont=>obtain⟨σ',H',I,q⟩:=h;exact⟨σ',H',I.fZ,q⟩
 | ret u=>obtain⟨v,σ',H',I,r,q⟩:=h;exact⟨v,σ',H',I.fZ,r,q⟩
theorem oo.S9{st:List Stmt}{t:TS}(h:oo X.S9 st t):oo X st t:=λpins s σ H D I hw =>
 aam (h pins s σ H D (I.fw _) hw) (λ_ _ q=>q.fZ) λ_ _ z=>False.elim z
end
section
variable {X:Cx} {st:Stmt} {rest:List Stmt} {t u:TS} {e:Expr} {te:TE} {pos:Pos}
def kP:TS:=λD σ H=>D.nx σ H
def ql(t u:TS):TS:=λD σ H=>t {D with nx:=u D} σ H
theorem ba:oo X [] kP:=λ_ _ σ H _ I h=>abw ⟨σ,H,I,h⟩
theorem qK(h1:PS X st t)(h2:oo X rest u):oo X (st::rest) (ql t u):=by
 intro pins s σ H D I h;refine abW (bU (h1 pins s σ H {D with nx:=u D} I h) λf s1 q=>?_)
 cases f with
 | next =>
  obtain⟨σ',H',I',q⟩:=q;exact h2 pins s1 σ' H' D I' q
 | ret v=>exact q
 | brk=>exact q
 | cont=>exact q
theorem qO(h1:PS X st t):oo X [st] t:=by
 intro pins s σ H D I h;refine abW (bU (h1 pins s σ H D I h) λf s1 q=>?_)
 cases f with
 | next=>exact abw q
 | ret v=>exact q
 | brk=>exact q
 | cont=>exact q
theorem Inv.quiet{pins:List (Addr×Obj)}{σ:St}{H:Hp}{s:Shared}(I:Inv X pins σ H s):interactive X.env=false:=by simp[interactive,I.ok.kind]
def LR(te:TE):TS:=λD σ H=>te σ H λ_ H1=>D.nx σ H1
theorem cO(he:PE X e te)(hs:swapsWith e none pos.line X.env=pure false:=by rfl):PS X (.Expr e pos) (LR te):=by
 intro pins s σ H D I h;exact wpAny_Expr_any (bU (he pins s σ H _ I h) λv s1 ⟨x,H1,I1,r1,q1⟩=>⟨σ,H1,I1,q1⟩) I.quiet hs
def MS(te:TE):TS:=λD σ H=>te σ H D.rt
theorem aW(he:PE X e te):PS X (.Return (some e) pos) (MS te):=by
 intro pins s σ H D I h;exact wpAny_Return_some (bU (he pins s σ H _ I h) λv s1 ⟨x,H1,I1,r1,q1⟩=>⟨x,σ,H1,I1,r1,q1⟩)
def QJ:TS:=λD _ H=>D.rt .non H
def TZ(c:TT)(t u:TS):TS:=λD σ H=>c σ H λb H1=>if b=true then t D σ H1 else u D σ H1
theorem bA{c:Expr}{a b:List Stmt}{tc:TT}(hc:PT X c tc)(ha:oo X a t)(hb:oo X b u):PS X (.If c a b pos) (TZ tc t u):=by
 intro pins s σ H D I h;refine wpAny_If (bU (hc pins s σ H _ I h) λd s1 ⟨H1,I1,q1⟩=>?_)
 cases d with
 | true=>exact ha pins s1 σ H1 D I1 q1
 | false=>exact hb pins s1 σ H1 D I1 q1
def MT:TS:=λ_ _ _=>False
theorem iU:PS X st MT:=λ_ _ _ _ _ _ h=>h.elim
end
abbrev TG:=V->St->Hp->(St->Hp->Prop)->Prop
abbrev Il:=List V->St->Hp->(St->Hp->Prop)->Prop
def PG(X:Cx)(target:Expr)(t:TG):Prop :=
 ∀(pins:List (Addr×Obj)) (s:Shared) (σ:St) (H:Hp) (v:V) (u:Value) (Q:St->Hp->Prop),Inv X pins σ H s->RelV v u->t v σ H Q ->
  wpAny (model X.prog X.w) X.A (assign target X.env u) (λ_ s'=>∃σ' H',Inv X pins σ' H' s'/\Q σ' H') X.xe s
def QK(X:Cx)(ts:List Expr)(t:Il):Prop :=
 ∀(pins:List (Addr×Obj)) (s:Shared) (σ:St) (H:Hp) (vs:List V) (us:List Value) (Q:St->Hp->Prop),Inv X pins σ H s->Vals vs us->t vs σ H Q ->
  wpAny (model X.prog X.w) X.A (assignInOrder ((assignEach ts X.env).map (·.2)) us) (λ_ s'=>∃σ' H',Inv X pins σ' H' s'/\Q σ' H') X.xe s
abbrev MU:=V->V->V->Hp->(Hp->Prop)->Prop
def QL(X:Cx)(t:MU):Prop :=
 ∀(pins:List (Addr×Obj)) (s:Shared) (σ:St) (H:Hp) (o i v:V) (ov iv u:Value) (Q:Hp->Prop),Inv X pins σ H s->RelV o ov->RelV i iv->RelV v u->t o i v H Q ->
  wpAny (model X.prog X.w) X.A (setItem ov iv u) (λ_ s'=>∃H',Inv X pins σ H' s'/\Q H') X.xe s
section
variable {X:Cx} {pos:Pos}
def qW(i:Nat):TG:=λv σ H Q=>Q (σ.set i (some v)) H
theorem gH{i:Nat}{x:Str}(hN:X.N.Nodup)(hi:X.N[i]?=some x)(hx:Loc X.env.scope x)(hf:X.fn x=true∨X.env.scope.names.lookup x=some .local:=by first | exact .inl rfl | exact .inr rfl | assumption):PG X (.Name x pos) (qW i):=by
 intro pins s σ H v u Q I r h;exact wpAny_assign_Name (xt I hN hi hx r (λs' I'=>⟨_,H,I',h⟩) hf)
def Ua:Il:=λvs σ H Q=>vs=[]/\Q σ H
def LU(t:TG)(u:Il):Il:=λvs σ H Q=>∃v r,vs=v::r/\t v σ H λσ' H'=>u r σ' H' Q
theorem IY:QK X [] Ua:=by
 intro pins s σ H vs us Q I r h;obtain⟨e,h⟩:=h;subst e;cases r;exact assignInOrder_nil ⟨σ,H,I,h⟩
theorem Et{e:Expr}{es:List Expr}{t:TG}{u:Il}(h1:PG X e t)(h2:QK X es u)
  (hs:(assignEach (e::es) X.env).map (·.2)=assign e X.env::(assignEach es X.env).map (·.2):=by rfl):QK X (e::es) (LU t u):=by
 intro pins s σ H vs us Q I r h;obtain⟨v,vr,e1,h⟩:=h;subst e1
 cases r with
 | cons r rr =>
  rw[hs];refine assignInOrder_cons (bU (h1 pins s σ H _ _ _ I r h) λ_ s1 ⟨σ1,H1,I1,q1⟩=>?_);exact h2 pins s1 σ1 H1 _ _ Q I1 rr q1
def QM(K:aV)(n:Nat)(t:Il):TG:=λv σ H Q=>∃a xs,v=.ref a/\cX K H a xs/\xs.length=n/\t xs σ H Q
theorem MV{es:List Expr}{k:Nat}{t:Il}{n:Nat}(hc:X.calm=true)(h:QK X es t)
  (hn:(assignEach es X.env).length=n:=by rfl) (hst:(assignEach es X.env).findIdx? (·.1)=none:=by rfl):PG X (.Tuple es k pos) (QM X.K n t):=by
 intro pins s σ H v u Q I r hw;obtain⟨a,xs,e1,hq,hl,hw⟩:=hw;subst e1;cases r;obtain⟨its,rv,ht,hz⟩:=I.tuple hq;refine assign_Tuple_tuple (I.ok.hd hc) ht (by simp[hn,← hl,rv.length]) hst λh' hx=>?_
 have I1:Inv X pins σ H {s with heap:=h'}:=I.kept (t':=s.toks) λb o e=>hx b o (aar (aab e)) e
 exact h pins _ σ H xs _ Q I1 (by simpa using rv) hw
def QN(to ti:TE)(t:MU):TG:=λv σ H Q=>to σ H λo H1=>ti σ H1 λi H2=>t o i v H2 λH3=>Q σ H3
theorem oz{o i:Expr}{to ti:TE}{t:MU}(ho:PE X o to)(hi:PE X i ti)(hs:QL X t)
  (ha:∀v,assign (.Subscript o i pos) X.env v=(do
   let ov ← holding [v] (eval o X.env)
   let iv ← holding [v,ov] (eval i X.env)
   standAt pos
   holding [v,ov,iv] (setItem ov iv v)
   release [v,ov,iv] []):=by intro _;rfl):PG X (.Subscript o i pos) (QN to ti t):=by
 intro pins s σ H v u Q I r h;rw[ha];refine aaa (aa3 (bU (ho pins s σ H _ I h) λov s1 ⟨x,H1,I1,r1,q1⟩=>?_));refine aaa (aa3 (bU (hi pins s1 σ H1 _ I1 q1) λiv s2 ⟨y,H2,I2,r2,q2⟩=>?_));refine aaa (abA (aaa (aa3 (bU (hs pins s2 σ H2 x y v ov iv u _ I2 r1 r2 r q2) λ_ s3 ⟨H3,I3,q3⟩=>?_))));exact wpAny_release ⟨σ,H3,I3,q3⟩
def Eu(te:TE)(g:TG):TS:=λD σ H=>te σ H λx H1=>g x σ H1 D.nx
theorem oA{tg e:Expr}{te:TE}{g:TG}(he:PE X e te)(hg:PG X tg g)(hs:swapsWithSole [tg] e pos.line X.env=pure false:=by rfl)(hw:swappedStores [tg] e X.env=pure none:=by rfl)
  (h1:(assignEach [tg] X.env).map (·.2)=[assign tg X.env]:=by rfl):PS X (.Assign [tg] e pos) (Eu te g):=by
 intro pins s σ H D I h;refine wpAny_Assign_stores (bU (he pins s σ H _ I h) λv s1 ⟨x,H1,I1,r1,q1⟩=>?_) hs hw;rw[h1];exact bU (hg pins s1 σ H1 x v _ I1 r1 q1) λ_ s2 q=>q
theorem bX{i:Nat}{x:Str}{e:Expr}{te:TE}{pos':Pos}(hN:X.N.Nodup)(hi:X.N[i]?=some x)(hx:Loc X.env.scope x)(he:PE X e te)(hs:swapsWith e (some (.Name x pos')) pos.line X.env=pure false:=by rfl)(hf:X.fn x=true∨X.env.scope.names.lookup x=some .local:=by first | exact .inl rfl | exact .inr rfl | assumption):
  PS X (.Assign [.Name x pos'] e pos) (Eu te (qW i)):=by
 intro pins s σ H D I h;refine wpAny_Assign_Name (bU (he pins s σ H _ I h) λv s1 ⟨y,H1,I1,r1,q1⟩=>?_) hs;exact xt I1 hN hi hx r1 (λs2 I2=>⟨_,H1,I2,q1⟩) hf
end
section
variable {X:Cx} {pos:Pos}
def MW(c:TT)(tb:TS):TS:=λD σ H=>∃W:Nat->St->Hp->Prop,(∃m,W m σ H)/\∀m σ H,W m σ H ->
 c σ H λb H1=>if b=true then ∃N:St->Hp->Prop,(∀σ' H',N σ' H'->∃m',m' < m/\W m' σ' H')/\tb {D with nx:=N,ct:=N,bk:=D.nx} σ H1 else D.nx σ H1
theorem xu{c:Expr}{body:List Stmt}{tc:TT}{tb:TS}(hp:PassesOwn (model X.prog X.w) X.A X.env X.xe)(hc:PT X c tc)(hb:oo X body tb):PS X (.While c body [] pos) (MW tc tb):=by
 intro pins s σ H D I h;obtain⟨W,⟨m0,w0⟩,turn⟩:=h;refine wpAny_While (codeAny_whileLoop (λn s'=>∃σ' H',Inv X pins σ' H' s'/\W n σ' H') ?_ m0 ⟨σ,H,I,w0⟩);rintro n s1 ⟨σ1,H1,I1,w1⟩;refine abx hp (bU (hc pins s1 σ1 H1 _ I1 (turn n σ1 H1 w1)) λb s2 ⟨H2,I2,q2⟩=>?_)
 cases b with
 | true =>
  obtain⟨N,hN,q2⟩:=q2;rw[aaw rfl];refine abx hp (bU (hb pins s2 σ1 H2 _ I2 q2) λf s3 q3=>?_)
  cases f with
  | next =>
   obtain⟨σ3,H3,I3,n3⟩:=q3;obtain⟨m',hm,w3⟩:=hN σ3 H3 n3;exact⟨m',hm,σ3,H3,I3,w3⟩
  | cont =>
   obtain⟨σ3,H3,I3,n3⟩:=q3;obtain⟨m',hm,w3⟩:=hN σ3 H3 n3;exact⟨m',hm,σ3,H3,I3,w3⟩
  | brk=>exact q3
  | ret v=>exact q3
 | false =>
  rw[aas aaj];exact abw ⟨σ1,H2,I2,q2⟩
end
structure It where
 go:Nat->Hp->Prop
 yld:Nat->Hp->V->Hp->Prop
 stop:Nat->Hp->Prop
def mh(X:Cx)(pins:List (Addr×Obj))(H:Hp)(b:Addr):Prop :=
 H b=none/\b≠X.env.locals/\b∉X.fs/\(b∈X.ex∨X.s₀.heap.objs.size<=b)/\(∀x c,X.env.cells.lookup x=some c->c≠b)/\∀p∈X.pn++pins,p.1≠b
theorem Inv.MX{X:Cx}{pins:List (Addr×Obj)}{σ:St}{H H':Hp}{s:Shared}{b:Addr}(I:Inv X pins σ H s)(hb:s.heap.objs.size<=b)(hn:H' b=none):mh X pins H' b:=by
 refine⟨hn,aa5 (aae I.lt hb),I.TU hb,.inr (aaF I.sz hb),λx c e z=>?_,λp hp z=>?_⟩
 ·obtain⟨v,q⟩:=I.cell x c e;exact absurd (aae q.lt (by rw[z];exact hb)) (aaN _)
 ·exact absurd (aae (aab (I.pin p hp).1) (by rw[z];exact hb)) (aaN _)
structure Turn(P:Program)(w:World)(K:aV)(tg:Expr)(J:It)(fp:List Addr)(it:Addr)(tn:Nat->Heap->Prop):Prop where
 mem:it∈fp
 obj:∀i h,tn i h->∀b∈fp,∃o,h.get? b=some o/\∀v,o.data≠.cell v
 keep:∀i h h',tn i h->(∀b∈fp,∀o,h.get? b=some o->h'.get? b=some o)->tn i h'
 item:∀(X:Cx),X.prog=P->X.w=w->X.K=K->X.calm=true->∀(i:Nat) (pins:List (Addr×Obj)) (s:Shared) (σ:St) (H:Hp) (E:Value->Shared->Prop),Inv X pins σ H s->(∀b∈fp,mh X pins H b)->tn i s.heap->J.go i H ->
  wpAny (model P w) X.A (pyNext (.ref it)) (λr s1=>∃u,r=some u /\
   wpAny (model P w) X.A (letOwnedTupleGo tg (.ref it) u) (λ_ s2=>∃x H',Inv X pins σ H' s2/\RelV x u/\J.yld i H x H'/\tn (i + 1) s2.heap/\∀b∈fp,H' b=none) E s1) E s
 done:∀(X:Cx),X.prog=P->X.w=w->X.K=K->X.calm=true->∀(i:Nat) (pins:List (Addr×Obj)) (s:Shared) (σ:St) (H:Hp) (E:Value->Shared->Prop),Inv X pins σ H s->(∀b∈fp,mh X pins H b)->tn i s.heap->J.stop i H ->
  wpAny (model P w) X.A (pyNext (.ref it)) (λr s1=>r=none/\Inv X pins σ H s1) E s
 self:∀(A:Around) (i:Nat) (s:Shared) (Q:Value->Shared->Prop) (E:Value->Shared->Prop),tn i s.heap->Q (.ref it) s->wpAny (model P w) A (pyIter (.ref it)) Q E s
abbrev TI:=St->Hp->(It->Hp->Prop)->Prop
def W8(X:Cx)(pins:List (Addr×Obj))(σ:St)(tg:Expr)(R:It->Hp->Prop)(itv:Value)(s2:Shared):Prop :=
 ∃(it:Addr) (fp:List Addr) (tn:Nat->Heap->Prop) (J:It) (H':Hp),itv=.ref it/\Inv X pins σ H' s2/\Turn X.prog X.w X.K tg J fp it tn/\tn 0 s2.heap/\(∀b∈fp,mh X pins H' b)/\R J H'
def PI(X:Cx)(tg iter:Expr)(wi:TI):Prop :=
 ∀(pins:List (Addr×Obj)) (s:Shared) (σ:St) (H:Hp) (R:It->Hp->Prop),Inv X pins σ H s->wi σ H R ->
  wpAny (model X.prog X.w) X.A (eval iter X.env) (λv s1=>wpAny (model X.prog X.w) X.A (pyIter v) (W8 X pins σ tg R) X.xe s1) X.xe s
theorem Ew{M:Model}{A:Around}{E:Value->Shared->Prop}{s:Shared}{tg:Expr}{it:Addr}{u:Value}{o:Obj}{n:String}{vs:Array Value}{Q:Unit->Shared->Prop}(ho:s.heap.get? it=some o)(hc:o.cls=.type n)(hd:o.data=.fields vs)
  (hn:["enumerate","zip","dict_itemiterator","dict_reverseitemiterator","odict_iterator","itertools.zip_longest","itertools.pairwise"].contains n=false) (hQ:Q () s):wpAny M A (letOwnedTupleGo tg (.ref it) u) Q E s:=by
 unfold letOwnedTupleGo;cases tg<;>first
  | exact aag hQ
  | (cases u<;>first
    | exact aag hQ
    | (refine aaa (wpAny_load ho ?_)
       rw[hc,hd];show wpAny M A (if (["enumerate","zip","dict_itemiterator","dict_reverseitemiterator","odict_iterator","itertools.zip_longest","itertools.pairwise"].contains n&&vs[0]? == some (rawInt _))=true then _ else _) Q E s;rw[aas (by intro h;rw[hn,Bool.false_and]at h;cases h)];exact aag hQ))
def Im(K:aV)(a:Addr):It :=
 ⟨λi H=>∃xs x,bZ K H a xs/\xs[i]?=some x,λi H x H'=>H'=H/\∀xs,bZ K H a xs->xs[i]?=some x,λi H=>∃xs,bZ K H a xs/\xs.length<=i⟩
def Qk(K:aV)(a:Addr):It :=
 ⟨λi H=>∃xs x,cX K H a xs/\xs[i]?=some x,λi H x H'=>H'=H/\∀xs,cX K H a xs->xs[i]?=some x,λi H=>∃xs,cX K H a xs/\xs.length<=i⟩
def MY(lo:Int)(n:Nat):It:=⟨λi _=>i < n,λi H x H'=>H'=H/\x=.int (lo + i),λi _=>n<=i⟩
theorem uq{P:Program}{w:World}{K:aV}{tg:Expr}(a it:Addr):Turn P w K tg (Im K a) [it] it (λi h=>h.IsListIter it a i) where
 mem:=by simp
 obj:=λi h st b hb=>by
  have e:b=it:=by simpa using hb
  subst e;obtain⟨o,e,c,d⟩:=st;exact⟨o,e,λv z=>by rw[d]at z;cases z⟩
 keep:=λi h h' st k=>st.at λo e=>k it (by simp) o e
 item:=by
  intro X hP hw hK hc i pins s σ H E I hf st hg;subst hP hw hK;obtain⟨xs,x,hq,hx⟩:=hg;obtain⟨its,rv,p,hz⟩:=I.list hq;obtain⟨u,hu,ru⟩:=rv.get hx;obtain⟨f0,f1,f2,f3,f4,f5⟩:=hf it (by simp);refine wpAny_pyNext_list_item st p.isList (x:=u) (by simpa using hu) λh' st' sb=>?_
  have I1:Inv X pins σ H {s with heap:=h'}:=I.turned (t':=s.toks) (λb o hb e=>(sb.2 b hb).trans e) f0 f1 f3 f4 f5;obtain⟨o,e,c,d⟩:=id st';exact⟨u,rfl,Ew (s:={s with heap:=h'}) e c d (by decide) ⟨x,H,I1,ru,⟨rfl,λys hy=>by rw[I.Er hy hq];exact hx⟩,st',λb hb=>(hf b hb).1⟩⟩
 done:=by
  intro X hP hw hK hc i pins s σ H E I hf st hg;subst hP hw hK;obtain⟨xs,hq,hx⟩:=hg;obtain⟨its,rv,p,hz⟩:=I.list hq;obtain⟨f0,f1,f2,f3,f4,f5⟩:=hf it (by simp);have hl:=rv.length;exact wpAny_pyNext_list_end (I.ok.hd hc) st p.isList (by simp;omega) λh' eb=>⟨rfl,I.turned (t':=s.toks) (λb o hb e=>eb b o hb e) f0 f1 f3 f4 f5⟩
 self:=λ_ _ _ _ _ st h=>wpAny_pyIter_listiter st h
theorem zh{P:Program}{w:World}{K:aV}{tg:Expr}(a it:Addr):Turn P w K tg (Qk K a) [it] it (λi h=>h.IsTupleIter it a i) where
 mem:=by simp
 obj:=λi h st b hb=>by
  have e:b=it:=by simpa using hb
  subst e;obtain⟨o,e,c,d⟩:=st;exact⟨o,e,λv z=>by rw[d]at z;cases z⟩
 keep:=λi h h' st k=>st.at λo e=>k it (by simp) o e
 item:=by
  intro X hP hw hK hc i pins s σ H E I hf st hg;subst hP hw hK;obtain⟨xs,x,hq,hx⟩:=hg;obtain⟨its,rv,p,hz⟩:=I.tuple hq;obtain⟨u,hu,ru⟩:=rv.get hx;obtain⟨f0,f1,f2,f3,f4,f5⟩:=hf it (by simp);refine wpAny_pyNext_tuple_item st (show s.heap.IsTuple a its.toArray from p) (x:=u) (by simpa using hu) λh' st' sb=>?_
  have I1:Inv X pins σ H {s with heap:=h'}:=I.turned (t':=s.toks) (λb o hb e=>(sb.2 b hb).trans e) f0 f1 f3 f4 f5;obtain⟨o,e,c,d⟩:=id st';exact⟨u,rfl,Ew (s:={s with heap:=h'}) e c d (by decide) ⟨x,H,I1,ru,⟨rfl,λys hy=>by rw[I.Cg hy hq];exact hx⟩,st',λb hb=>(hf b hb).1⟩⟩
 done:=by
  intro X hP hw hK hc i pins s σ H E I hf st hg;subst hP hw hK;obtain⟨xs,hq,hx⟩:=hg;obtain⟨its,rv,p,hz⟩:=I.tuple hq;obtain⟨f0,f1,f2,f3,f4,f5⟩:=hf it (by simp);have hl:=rv.length;exact wpAny_pyNext_tuple_end (I.ok.hd hc) st (show s.heap.IsTuple a its.toArray from p) (by simp;omega) λh' eb=>⟨rfl,I.turned (t':=s.toks) (λb o hb e=>eb b o hb e) f0 f1 f3 f4 f5⟩
 self:=λ_ _ _ _ _ st h=>wpAny_pyIter_tupleiter st h
theorem zi{P:Program}{w:World}{K:aV}{tg:Expr}(it:Addr)(lo:Int)(n:Nat):Turn P w K tg (MY lo n) [it] it (λi h=>IsRangeIter h it (lo + (i:Nat) * 1) ((n:Int) - (i:Nat)) 1) where
 mem:=by simp
 obj:=λi h st b hb=>by
  have e:b=it:=by simpa using hb
  subst e
  exact⟨_,st,λv z=>by
   have z':Data.fields _=Data.cell v:=z;cases z'⟩
 keep:=λi h h' st k=>k it (by simp) _ st
 item:=by
  intro X hP hw hK hc i pins s σ H E I hf st hg;subst hP hw hK;obtain⟨f0,f1,f2,f3,f4,f5⟩:=hf it (by simp);have W:=Walks.range (prog:=X.prog) (w:=X.w) (I.ok.hd hc) it lo 1 n;refine W.item i s _ _ hg st λv h' tk hv st' kk=>?_
  obtain⟨t,rfl⟩:=hv;have I1:Inv X pins σ H {s with heap:=h',toks:=tk}:=I.turned (λb o hb e=>kk b o (by simpa using hb) e) f0 f1 f3 f4 f5;refine⟨_,rfl,Ew (s:={s with heap:=h',toks:=tk}) (n:="range_iterator") st' rfl rfl (by decide) ⟨.int (lo + i),H,I1,⟨t,?_⟩,⟨rfl,rfl⟩,st',λb hb=>(hf b hb).1⟩⟩;rw[Int.mul_one]
 done:=by
  intro X hP hw hK hc i pins s σ H E I hf st hg;subst hP hw hK;obtain⟨f0,f1,f2,f3,f4,f5⟩:=hf it (by simp);exact wpAny_pyNext_range_end (I.ok.hd hc) st (by have:n<=i:=hg;omega) λh' eb=>⟨rfl,I.turned (t':=s.toks) (λb o hb e=>eb b o hb e) f0 f1 f3 f4 f5⟩
 self:=λ_ _ _ _ _ st h=>wpAny_pyIter_rangeiter st h
section
variable {X:Cx} {tg:Expr}
def QO(K:aV)(tl:TE):TI:=λσ H R=>tl σ H λx H1=>∃a,x=.ref a/\(∃xs,bZ K H1 a xs)/\R (Im K a) H1
theorem qA{l:Expr}{tl:TE}(hl:PE X l tl):PI X tg l (QO X.K tl):=by
 intro pins s σ H R I h;refine bU (hl pins s σ H _ I h) λv s1 ⟨x,H1,I1,r1,q1⟩=>?_
 obtain⟨a,e,⟨xs,hq⟩,q⟩:=q1;subst e;cases r1;obtain⟨its,rv,p,hz⟩:=I1.list hq;refine wpAny_pyIter_list p.isList ?_;refine⟨s1.heap.objs.size,[s1.heap.objs.size],_,_,H1,rfl,I1.kept (t':=s1.toks) λb o e=>Heap.get?_push_of_some _ e,uq a _,⟨_,Heap.get?_push_size _ rfl,rfl,rfl⟩,λb hb=>?_,q⟩;have e:b=s1.heap.objs.size:=by simpa using hb
 subst e;exact I1.MX (aai _) (I1.hok.fresh (aai _))
theorem Ey{pins:List (Addr×Obj)}{σ:St}{H:Hp}{s:Shared}{R:It->Hp->Prop}{E:Value->Shared->Prop}{lo hi:Int}{t u v:Tok}{tk:Nat}(I:Inv X pins σ H s)(h1:-(2 ^ 62)<=lo)(h2:lo < 2 ^ 62)(h3:-(2 ^ 62)<=hi)(h4:hi < 2 ^ 62)
  (q:R (MY lo (hi - lo).toNat) H):wpAny (model X.prog X.w) X.A (pyIter (.ref s.heap.objs.size)) (W8 X pins σ tg R) E {s with heap:=s.heap.push {cls:=.type "range",data:=.fields #[.int lo t,.int hi u,.int 1 v]},toks:=tk}:=by
 refine wpAny_pyIter_range (IsRange.new ..) (small_one h1 h2 h3 h4) ?_;have I1:Inv X pins σ H {s with heap:=s.heap.push {cls:=.type "range",data:=.fields #[.int lo t,.int hi u,.int 1 v]},toks:=tk}:=I.kept λb o e=>aaf _ e
 refine⟨(s.heap.push {cls:=.type "range",data:=.fields #[.int lo t,.int hi u,.int 1 v]}).objs.size,[(s.heap.push {cls:=.type "range",data:=.fields #[.int lo t,.int hi u,.int 1 v]}).objs.size],_,_,H,rfl,
  I1.kept (t':=tk) λb o e=>aaf _ e,zi _ lo (hi - lo).toNat,?_,λb hb=>?_,q⟩
 ·have e1:lo + ((0:Nat):Int) * 1=lo:=by simp
  have e2:(((hi - lo).toNat:Nat):Int) - ((0:Nat):Int)=Builtin.Range.rangeSize lo hi 1:=by rw[rangeSize_one];split<;>omega
  show IsRangeIter _ _ (lo + ((0:Nat):Int) * 1) ((((hi - lo).toNat:Nat):Int) - ((0:Nat):Int)) 1;rw[e1,e2];exact aaC _ rfl
 ·have e:b=(s.heap.push {cls:=.type "range",data:=.fields #[.int lo t,.int hi u,.int 1 v]}).objs.size:=by simpa using hb
  subst e;exact I1.MX (aai _) (I1.hok.fresh (aai _))
def QP(ta:TA):TI:=λσ H R=>ta σ H λvs H1=>∃j:Int,vs=[.int j]/\-(2 ^ 62)<=j/\j < 2 ^ 62/\R (MY 0 j.toNat) H1
theorem ur{a:Expr}{ta:TA}{p pos:Pos}(hg:Gl X "range")(hm:X.mg "range"=none)(ha:PA X [a] ta)(hs:starEach [a] X.env=[(false,eval a X.env)]:=by rfl):PI X tg (.Call (.Name "range" p) [a] [] pos) (QP ta):=by
 intro pins s σ H R I h;refine Call_ (oy I hg hm boot_range (abu (bU (ha pos pins s σ H _ I h) λus s1 ⟨vs,H1,I1,r1,q1⟩=>?_) hs rfl));obtain⟨j,e,q1,q2,q⟩:=q1;subst e
 cases r1 with
 | cons r rr =>
  cases rr;obtain⟨t,rfl⟩:=r;exact call_range_1 (Ey I1 (by omega) (by omega) q1 q2 (by simpa using q))
def Ub(wi:TI)(g:TG)(tb:TS):TS:=λD σ H=>wi σ H λJ H1=>∃W:Nat->Nat->St->Hp->Prop,(∃m,W 0 m σ H1)/\∀i m σ H,W i m σ H ->
 (J.stop i H/\D.nx σ H)∨(J.go i H/\∃N:St->Hp->Prop,(∀σ' H',N σ' H'->∃m',m' < m/\W (i + 1) m' σ' H')/\∀x H',J.yld i H x H'->g x σ H' λσ2 H2=>tb {D with nx:=N,ct:=N,bk:=D.nx} σ2 H2)
def oB(fp:List Addr)(h:Heap):List (Addr×Obj):=fp.filterMap λb=>(h.get? b).map λo=>(b,o)
theorem gc{fp:List Addr}{h:Heap}{b:Addr}{o:Obj}(hb:b∈fp)(e:h.get? b=some o):(b,o)∈oB fp h:=abv.mpr ⟨b,hb,by rw[e];rfl⟩
theorem Ci{fp:List Addr}{h:Heap}{p:Addr×Obj}(hp:p∈oB fp h):p.1∈fp/\h.get? p.1=some p.2:=by
 obtain⟨b,hb,e⟩:=abv.mp hp
 cases q:h.get? b with
 | none=>rw[q]at e;cases e
 | some o =>
  rw[q]at e;have e':(b,o)=p:=aak e;subst e';exact⟨hb,q⟩
theorem Inv.pinned{pins:List (Addr×Obj)}{σ:St}{H:Hp}{s:Shared}{fp:List Addr}(I:Inv X pins σ H s)(hf:∀b∈fp,mh X pins H b)(ho:∀b∈fp,∃o,s.heap.get? b=some o/\∀v,o.data≠.cell v):Inv X (pins++oB fp s.heap) σ H s :=
 I.A1 λp hp=>(abY.mp hp).elim (λz=>I.pin p (aaA _ z)) λz=>by
  obtain⟨hb,e⟩:=Ci z;obtain⟨f0,f1,f2,_⟩:=hf p.1 hb;obtain⟨o,e',d⟩:=ho p.1 hb;rw[e]at e';cases e';exact⟨e,f0,f1,f2,d⟩
theorem Inv.kQ{pins pl:List (Addr×Obj)}{σ:St}{H:Hp}{s:Shared}(I:Inv X (pins++pl) σ H s):Inv X pins σ H s:=I.A1 λp hp=>I.pin p (aaA _ (List.mem_append_left _ hp))
theorem vn{iter:Expr}{body:List Stmt}{wi:TI}{g:TG}{tb:TS}{pos:Pos}(hp:PassesOwn (model X.prog X.w) X.A X.env X.xe)(hc:X.calm=true)(hi:PI X tg iter wi)(hg:PG X tg g)(hb:oo X body tb)
  (hs:∀x,foldedSetIterable iter X.env x=pure x:=by intro _;rfl):PS X (.For tg iter body [] pos) (Ub wi g tb):=by
 intro pins s σ H D I h;refine wpAny_For (bU (hi pins s σ H _ I h) λv s1 h1=>bU h1 λitv s2 h2=>?_) hs;obtain⟨it,fp,tn,J,H2,e,I2,T,bM,f2,W,⟨m0,w0⟩,turn⟩:=h2;subst e;have stat:∀{H':Hp},(∀b∈fp,H' b=none)->∀b∈fp,mh X pins H' b:=λhn b hb=>⟨hn b hb,(f2 b hb).2⟩
 refine codeAny_forLoop_any (λn s'=>∃i σ' H',Inv X pins σ' H' s'/\tn i s'.heap/\(∀b∈fp,H' b=none)/\W i n σ' H') ?_ m0 ⟨0,σ,H2,I2,bM,λb hb=>(f2 b hb).1,w0⟩;rintro n s3 ⟨i,σ3,H3,I3,jJ,W9,w3⟩;rcases turn i n σ3 H3 w3 with⟨stop,qn⟩ | ⟨go,N,hN,step⟩
 ·refine abx hp (bU (T.done X rfl rfl rfl hc i pins s3 σ3 H3 X.xe I3 (stat W9) jJ stop) λr s4 ⟨hr,I4⟩=>?_);subst hr;exact abw ⟨σ3,H3,I4,qn⟩
 ·refine abx hp (bU (T.item X rfl rfl rfl hc i pins s3 σ3 H3 X.xe I3 (stat W9) jJ go) λr s4 ⟨u,hr,h4⟩=>?_);subst hr;refine abx hp (bU h4 λ_ s5 ⟨x,H5,I5,r5,y5,y8,MZ⟩=>?_);have I5':=I5.pinned (stat MZ) (T.obj _ _ y8);refine abx hp (bU (hg _ s5 σ3 H5 x u _ I5' r5 (step x H5 y5)) λ_ s6 ⟨σ6,H6,I6,q6⟩=>?_);refine abx hp (bU (hb _ s6 σ6 H6 _ I6 q6) λf s7 q7=>?_)
  have again:∀{σ7:St} {H7:Hp},Inv X (pins++oB fp s5.heap) σ7 H7 s7->N σ7 H7->∃m,m < n/\∃i σ' H',Inv X pins σ' H' s7/\tn i s7.heap/\(∀b∈fp,H' b=none)/\W i m σ' H':=λ{σ7 H7} I7 n7=>by
   obtain⟨m',hm,w7⟩:=hN σ7 H7 n7;refine⟨m',hm,i + 1,σ7,H7,I7.kQ,T.keep _ _ _ y8 λb hb o e=>(I7.pin (b,o) (aaA _ (aaA _ (gc hb e)))).1,λb hb=>?_,w7⟩;obtain⟨o,e,d⟩:=T.obj _ _ y8 b hb;exact(I7.pin (b,o) (aaA _ (aaA _ (gc hb e)))).2.1
  cases f with
  | next=>obtain⟨σ7,H7,I7,n7⟩:=q7;exact again I7 n7
  | cont=>obtain⟨σ7,H7,I7,n7⟩:=q7;exact again I7 n7
  | brk=>obtain⟨σ7,H7,I7,q7⟩:=q7;exact⟨σ7,H7,I7.kQ,q7⟩
  | ret v=>obtain⟨x7,σ7,H7,I7,r7,q7⟩:=q7;exact⟨x7,σ7,H7,I7.kQ,r7,q7⟩
end
theorem xv{K:aV}{a:Addr}{xs:List V}{g:TG}{tb:TS}{D:Ends}{σ:St}{H:Hp}(Pv:Nat->St->Hp->Prop)(h0:Pv 0 σ H)(hl:∀i σ H,i<=xs.length->Pv i σ H->bZ K H a xs)
  (hs:∀i x σ H,xs[i]?=some x->Pv i σ H->g x σ H λσ2 H2=>tb {D with nx:=Pv (i + 1),ct:=Pv (i + 1),bk:=D.nx} σ2 H2) (hd:∀σ H,Pv xs.length σ H->D.nx σ H) :
  ∃W:Nat->Nat->St->Hp->Prop,(∃m,W 0 m σ H)/\∀i m σ H,W i m σ H ->
   ((Im K a).stop i H/\D.nx σ H)∨((Im K a).go i H/\∃N:St->Hp->Prop,(∀σ' H',N σ' H'->∃m',m' < m/\W (i + 1) m' σ' H')/\∀x H',(Im K a).yld i H x H'->g x σ H' λσ2 H2=>tb {D with nx:=N,ct:=N,bk:=D.nx} σ2 H2):=by
 refine⟨λi m σ H=>m=xs.length - i/\i<=xs.length/\Pv i σ H,⟨xs.length,by simp,Nat.zero_le _,h0⟩,?_⟩;rintro i m σ H ⟨rfl,hi,p⟩;have q:=hl i σ H hi p;by_cases hlt:i < xs.length
 ·refine .inr ⟨⟨xs,xs[i],q,by simp[hlt]⟩,Pv (i + 1),λσ' H' p'=>⟨xs.length - (i + 1),by omega,rfl,hlt,p'⟩,λx H' y=>?_⟩;obtain⟨e,y⟩:=y;subst e;exact hs i x σ _ (y xs q) p
 ·have e:i=xs.length:=by omega
  subst e;exact .inl ⟨⟨xs,q,aai _⟩,hd σ H p⟩
theorem Cj{lo:Int}{n:Nat}{g:TG}{tb:TS}{D:Ends}{σ:St}{H:Hp}(Pv:Nat->St->Hp->Prop)(h0:Pv 0 σ H)
  (hs:∀i σ H,i < n->Pv i σ H->g (.int (lo + i)) σ H λσ2 H2=>tb {D with nx:=Pv (i + 1),ct:=Pv (i + 1),bk:=D.nx} σ2 H2) (hd:∀σ H,Pv n σ H->D.nx σ H) :
  ∃W:Nat->Nat->St->Hp->Prop,(∃m,W 0 m σ H)/\∀i m σ H,W i m σ H ->
   ((MY lo n).stop i H/\D.nx σ H)∨((MY lo n).go i H/\∃N:St->Hp->Prop,(∀σ' H',N σ' H'->∃m',m' < m/\W (i + 1) m' σ' H')/\∀x H',(MY lo n).yld i H x H'->g x σ H' λσ2 H2=>tb {D with nx:=N,ct:=N,bk:=D.nx} σ2 H2):=by
 refine⟨λi m σ H=>m=n - i/\i<=n/\Pv i σ H,⟨n,by simp,Nat.zero_le _,h0⟩,?_⟩;rintro i m σ H ⟨rfl,hi,p⟩;by_cases hlt:i < n
 ·refine .inr ⟨hlt,Pv (i + 1),λσ' H' p'=>⟨n - (i + 1),by omega,rfl,hlt,p'⟩,λx H' y=>?_⟩;obtain⟨e,y⟩:=y;subst e y;exact hs i σ _ hlt p
 ·have e:i=n:=by omega
  subst e;exact .inl ⟨aai _,hd σ H p⟩
abbrev R2:=V->V->Hp->VK->Prop
def jH(X:Cx)(f:Value->Value->Sem Value)(r:R2):Prop :=
 ∀(pins:List (Addr×Obj)) (s:Shared) (σ:St) (H:Hp) (x y:V) (v u:Value) (Q:VK),Inv X pins σ H s->RelV x v->RelV y u->r x y H Q ->
  wpAny (model X.prog X.w) X.A (f v u) (EP X pins σ Q) X.xe s
def Uc(X:Cx)(f:Value->Sem Value)(r:V->Hp->VK->Prop):Prop :=
 ∀(pins:List (Addr×Obj)) (s:Shared) (σ:St) (H:Hp) (x:V) (v:Value) (Q:VK),Inv X pins σ H s->RelV x v->r x H Q ->
  wpAny (model X.prog X.w) X.A (f v) (EP X pins σ Q) X.xe s
def iV(X:Cx)(f:Value)(r:List V->Hp->VK->Prop):Prop :=
 ∀(pins:List (Addr×Obj)) (s:Shared) (σ:St) (H:Hp) (xs:List V) (us:List Value) (Q:VK),Inv X pins σ H s->Vals xs us->r xs H Q ->
  wpAny (model X.prog X.w) X.A (call f us) (EP X pins σ Q) X.xe s
def Ql(r:R2)(ta tb:TE):TE:=λσ H Q=>ta σ H λx H1=>tb σ H1 λy H2=>r x y H2 Q
def Zr(r:V->Hp->VK->Prop)(ta:TE):TE:=λσ H Q=>ta σ H λx H1=>r x H1 Q
inductive RI(C:Int->Int->Prop)(g:Int->Int->V)(x y:V)(H:Hp)(Q:VK):Prop where
 | mk (i j:Int) (e:x=.int i) (f:y=.int j) (c:C i j) (q:Q (g i j) H):RI C g x y H Q
def rI(C:Int->Int->Prop)(g:Int->Int->V):R2:=λx y H Q=>RI C g x y H Q
inductive Xa(g:Int->Int->V)(x y:V)(H:Hp)(Q:VK):Prop where
 | mk (i j:Int) (e:x=.int i) (f:y=.int j) (q:Q (g i j) H):Xa g x y H Q
def Io(g:Int->Int->V):R2:=λx y H Q=>Xa g x y H Q
def rU(g:Int->V):V->Hp->VK->Prop:=λx H Q=>∃i,x=.int i/\Q (g i) H
section
variable {X:Cx} {a b c:Expr} {ta tb tc:TE} {pos:Pos}
theorem M0(ha:PE X a ta)(hb:PE X b tb){pins:List (Addr×Obj)}{s:Shared}{σ:St}{H:Hp}{R:V->V->Hp->Prop}(I:Inv X pins σ H s)
  (h:ta σ H λx H1=>tb σ H1 λy H2=>R x y H2) {Q:Value->Shared->Prop} {f:Value->Value->Sem Value}
  (hf:∀v u s2 x y H2,Inv X pins σ H2 s2->RelV x v->RelV y u->R x y H2->wpAny (model X.prog X.w) X.A (f v u) Q X.xe s2) :
  wpAny (model X.prog X.w) X.A (eval a X.env) (λv s₁=>wpAny (model X.prog X.w) X.A (eval b X.env) (λu s₂=>wpAny (model X.prog X.w) X.A (f v u) Q X.xe s₂) X.xe s₁) X.xe s:=by
 refine bU (ha pins s σ H _ I h) λv s1 ⟨x,H1,I1,r1,q1⟩=>?_
 refine bU (hb pins s1 σ H1 _ I1 q1) λu s2 ⟨y,H2,I2,r2,q2⟩=>?_
 exact hf v u s2 x y H2 I2 r1 r2 q2
theorem da{op:Operator}{r:R2}(ho:jH X (binaryOp op) r)(ha:PE X a ta)(hb:PE X b tb):PE X (.BinOp a op b pos) (Ql r ta tb):=by
 intro pins s σ H Q I h;exact wpAny_BinOp (M0 ha hb I h λv u s2 x y H2 I2 rx ry q=>ho pins s2 σ H2 x y v u Q I2 rx ry q)
theorem QQ{op:UnaryOp}{r:V->Hp->VK->Prop}(ho:Uc X (unaryOp op) r)(ha:PE X a ta):PE X (.UnaryOp op a pos) (Zr r ta):=by
 intro pins s σ H Q I h;exact UnaryOp_ (bU (ha pins s σ H _ I h) λv s1 ⟨x,H1,I1,r1,q1⟩=>ho pins s1 σ H1 x v Q I1 r1 q1)
theorem LV{f:Value->Value->Sem Value}{C:Int->Int->Prop}{g:Int->Int->Int}
  (rule:∀(i j:Int) (t u:Tok) (s:Shared) (Q:Value->Shared->Prop) (E:Value->Shared->Prop),C i j->Q (.int (g i j) s.toks) {s with toks:=s.toks + 1}->wpAny (model X.prog X.w) X.A (f (.int i t) (.int j u)) Q E s) :
  jH X f (rI C λi j=>.int (g i j)):=by
 intro pins s σ H x y v u Q I rx ry h;obtain⟨i,j,rfl,rfl,hc,q⟩:=h;obtain⟨t,rfl⟩:=rx;obtain⟨t',rfl⟩:=ry;exact rule i j t t' s _ _ hc ⟨.int (g i j),H,I.tok _,⟨_,rfl⟩,q⟩
theorem QR{f:Value->Value->Sem Value}{g:Int->Int->Int}
  (rule:∀(i j:Int) (t u:Tok) (s:Shared) (Q:Value->Shared->Prop) (E:Value->Shared->Prop),Q (.int (g i j) s.toks) {s with toks:=s.toks + 1}->wpAny (model X.prog X.w) X.A (f (.int i t) (.int j u)) Q E s) :
  jH X f (Io λi j=>.int (g i j)):=by
 intro pins s σ H x y v u Q I rx ry h;obtain⟨i,j,rfl,rfl,q⟩:=h;obtain⟨t,rfl⟩:=rx;obtain⟨t',rfl⟩:=ry;exact rule i j t t' s _ _ ⟨.int (g i j),H,I.tok _,⟨_,rfl⟩,q⟩
theorem IZ{f:Value->Value->Sem Value}{g:Int->Int->Bool}
  (rule:∀(i j:Int) (t u:Tok) (s:Shared) (Q:Value->Shared->Prop) (E:Value->Shared->Prop),Q (.bool (g i j)) s->wpAny (model X.prog X.w) X.A (f (.int i t) (.int j u)) Q E s) :
  jH X f (Io λi j=>.bl (g i j)):=by
 intro pins s σ H x y v u Q I rx ry h;obtain⟨i,j,rfl,rfl,q⟩:=h;obtain⟨t,rfl⟩:=rx;obtain⟨t',rfl⟩:=ry;exact rule i j t t' s _ _ ⟨.bl (g i j),H,I,rfl,q⟩
def Ez(i j:Int):Prop:=0 < j/\j < 1073741824
def QS(i j:Int):Prop:=0<=j/\j<=1000000/\i.natAbs < 2 ^ 64
def EA(i j:Int):Prop:=(-(2 ^ 64) < i/\i < 2 ^ 64)∨(-(2 ^ 64) < j/\j < 2 ^ 64)
theorem EA.ok{i j:Int}(h:EA i j):IntMulOk i j:=by
 rcases h with⟨h1,h2⟩ | ⟨h1,h2⟩
 ·exact .of_left (intBits_le_64 h1 h2)
 ·exact .of_right (intBits_le_64 h1 h2)
theorem mB:jH X (binaryOp .Add) (Io λi j=>.int (i + j)):=QR λ_ _ _ _ _ _ _ q=>add_int q
theorem j2:jH X (binaryOp .Sub) (Io λi j=>.int (i - j)):=QR λ_ _ _ _ _ _ _ q=>sub_int q
theorem M1:jH X (binaryOp .Mult) (rI EA λi j=>.int (i * j)):=LV λ_ _ _ _ _ _ _ hc q=>mul_int q hc.ok
theorem A5:jH X (binaryOp .FloorDiv) (rI Ez λi j=>.int (i / j)):=LV λi j _ _ _ _ _ hc q=>by
 have h1:(0:Int) < j:=hc.1;have h2:j < 1073741824:=hc.2;exact floordiv_int (by omega) (by rw[acs i (by omega)];exact q) (.inl (PyProof.noPylong_small (by omega)))
theorem qX:jH X (binaryOp .Mod) (rI (λ_ j=>0 < j) λi j=>.int (i % j)):=LV λi j _ _ _ _ _ hc q=>by
 have h1:(0:Int) < j:=hc;exact mod_int' (by omega) (by rw[Int.fmod_eq_emod_of_nonneg i (by omega)];exact q)
theorem Ja:jH X (binaryOp .Mod) (rI (λ_ j=>j≠0) λi j=>.int (i.fmod j)):=LV λ_ _ _ _ _ _ _ hc q=>mod_int' hc q
theorem M3:jH X (binaryOp .Pow) (rI QS λi j=>.int (i ^ j.toNat)):=LV λ_ _ _ _ _ _ _ hc q=>pow_int_small hc.1 hc.2.1 hc.2.2 q
theorem Zs{f:Value->Sem Value}{g:Int->Int}
  (rule:∀(i:Int) (t:Tok) (s:Shared) (Q:Value->Shared->Prop) (E:Value->Shared->Prop),Q (.int (g i) s.toks) {s with toks:=s.toks + 1}->wpAny (model X.prog X.w) X.A (f (.int i t)) Q E s) :
  Uc X f (rU λi=>.int (g i)):=by
 intro pins s σ H x v Q I rx h;obtain⟨i,rfl,q⟩:=h;obtain⟨t,rfl⟩:=rx;exact rule i t s _ _ ⟨.int (g i),H,I.tok _,⟨_,rfl⟩,q⟩
theorem M4:Uc X (unaryOp .USub) (rU λi=>.int (-i)):=Zs λ_ _ _ _ _ q=>neg_int q
end
def QT:V->V->Bool
 | .non,.non=>true | .non,.int _=>true | .int _,.non=>true | .non,.bl _=>true | .bl _,.non=>true | .non,.str _=>true | .str _,.non=>true
 | .int _,.int _=>true | .bl _,.bl _=>true | .str _,.str _=>true | .byt _,.byt _=>true
 | .int _,.str _=>true | .str _,.int _=>true | .bl _,.str _=>true | .str _,.bl _=>true
 | _,_=>false
def Xc:R2:=λx y H Q=>QT x y=true/\Q (.bl (decide (x=y))) H
def Xd:R2:=λx y H Q=>QT x y=true/\Q (.bl (!decide (x=y))) H
theorem A6{i j:Int}:decide (V.int i=V.int j)=(i == j):=by
 rw[Bool.eq_iff_iff];simp
theorem EC{i j:Bool}:decide (V.bl i=V.bl j)=(i == j):=by
 rw[Bool.eq_iff_iff];simp
theorem A7{i j:Str}:decide (V.str i=V.str j)=(i == j):=by
 rw[Bool.eq_iff_iff];simp
theorem A8{i j:Array UInt8}:decide (V.byt i=V.byt j)=(i.toList == j.toList):=by
 rw[Bool.eq_iff_iff];cases i;cases j;simp
section
variable {X:Cx} {a b c:Expr} {ta tb tc:TE} {pos:Pos}
theorem bE{pins:List (Addr×Obj)}{σ:St}{H:Hp}{s:Shared}{Q:VK}{k k':Bool}(I:Inv X pins σ H s)(q:Q (.bl k) H)(e:k=k'):EP X pins σ Q (.bool k') s:=by
 subst e;exact⟨.bl k,H,I,rfl,q⟩
theorem bF:jH X (compareOp .Eq) Xc:=by
 intro pins s σ H x y v u Q I rx ry h;obtain⟨hs,q⟩:=h
 cases x with
 | non =>
  cases rx
  cases y with
  | non=>cases ry;exact PySem.EqNone.eq_none_none (bE I q (by simp))
  | bl j=>cases ry;exact PySem.EqNone.eq_none_bool (bE I q (by simp))
  | int j=>obtain⟨t',rfl⟩:=ry;exact PySem.EqNone.eq_none_int (bE I q (by simp))
  | str j=>obtain⟨t',rfl⟩:=ry;exact PySem.EqNone.eq_none_str (bE I q (by simp))
  | _=>exact absurd (show false=true from hs) aaj
 | bl i =>
  cases rx
  cases y with
  | non=>cases ry;exact PySem.EqNone.eq_bool_none (bE I q (by simp))
  | bl j=>cases ry;exact eq_bool (bE I q EC)
  | str j=>obtain⟨t',rfl⟩:=ry;exact PySem.EqMixed.eq_bool_str (bE I q (by simp))
  | _=>exact absurd (show false=true from hs) aaj
 | int i =>
  obtain⟨t,rfl⟩:=rx
  cases y with
  | non=>cases ry;exact PySem.EqNone.eq_int_none (bE I q (by simp))
  | int j=>obtain⟨t',rfl⟩:=ry;exact eq_int (bE I q A6)
  | str j=>obtain⟨t',rfl⟩:=ry;exact PySem.EqMixed.eq_int_str (bE I q (by simp))
  | _=>exact absurd (show false=true from hs) aaj
 | str i =>
  obtain⟨t,rfl⟩:=rx
  cases y with
  | non=>cases ry;exact PySem.EqNone.eq_str_none (bE I q (by simp))
  | bl j=>cases ry;exact PySem.EqMixed.eq_str_bool (bE I q (by simp))
  | int j=>obtain⟨t',rfl⟩:=ry;exact PySem.EqMixed.eq_str_int (bE I q (by simp))
  | str j=>obtain⟨t',rfl⟩:=ry;exact eq_str (bE I q A7)
  | _=>exact absurd (show false=true from hs) aaj
 | byt i =>
  obtain⟨t,rfl⟩:=rx
  cases y with
  | byt j=>obtain⟨t',rfl⟩:=ry;exact PySem.W.eq_bytes (bE I q A8)
  | _=>exact absurd (show false=true from hs) aaj
 | _=>cases y<;>exact absurd (show false=true from hs) aaj
theorem uu:jH X (compareOp .NotEq) Xd:=by
 intro pins s σ H x y v u Q I rx ry h;obtain⟨hs,q⟩:=h
 cases x with
 | non =>
  cases rx
  cases y with
  | non=>cases ry;exact PySem.EqNone.ne_none_none (bE I q (by simp))
  | bl j=>cases ry;exact PySem.EqNone.ne_none_bool (bE I q (by simp))
  | int j=>obtain⟨t',rfl⟩:=ry;exact PySem.EqNone.ne_none_int (bE I q (by simp))
  | str j=>obtain⟨t',rfl⟩:=ry;exact PySem.EqNone.ne_none_str (bE I q (by simp))
  | _=>exact absurd (show false=true from hs) aaj
 | bl i =>
  cases rx
  cases y with
  | non=>cases ry;exact PySem.EqNone.ne_bool_none (bE I q (by simp))
  | bl j=>cases ry;exact ne_bool (bE I q (abB not EC))
  | str j=>obtain⟨t',rfl⟩:=ry;exact PySem.EqMixed.ne_bool_str (bE I q (by simp))
  | _=>exact absurd (show false=true from hs) aaj
 | int i =>
  obtain⟨t,rfl⟩:=rx
  cases y with
  | non=>cases ry;exact PySem.EqNone.ne_int_none (bE I q (by simp))
  | int j=>obtain⟨t',rfl⟩:=ry;exact ne_int (bE I q (abB not A6))
  | str j=>obtain⟨t',rfl⟩:=ry;exact PySem.EqMixed.ne_int_str (bE I q (by simp))
  | _=>exact absurd (show false=true from hs) aaj
 | str i =>
  obtain⟨t,rfl⟩:=rx
  cases y with
  | non=>cases ry;exact PySem.EqNone.ne_str_none (bE I q (by simp))
  | bl j=>cases ry;exact PySem.EqMixed.ne_str_bool (bE I q (by simp))
  | int j=>obtain⟨t',rfl⟩:=ry;exact PySem.EqMixed.ne_str_int (bE I q (by simp))
  | str j=>obtain⟨t',rfl⟩:=ry;exact ne_str (bE I q (abB not A7))
  | _=>exact absurd (show false=true from hs) aaj
 | byt i =>
  obtain⟨t,rfl⟩:=rx
  cases y with
  | byt j=>obtain⟨t',rfl⟩:=ry;exact PySem.W.ne_bytes (bE I q (abB not A8))
  | _=>exact absurd (show false=true from hs) aaj
 | _=>cases y<;>exact absurd (show false=true from hs) aaj
theorem ED:jH X (compareOp .Lt) (Io λi j=>.bl (decide (i < j))):=IZ λ_ _ _ _ _ _ _ q=>lt_int q
theorem LW:jH X (compareOp .LtE) (Io λi j=>.bl (decide (i<=j))):=IZ λ_ _ _ _ _ _ _ q=>le_int q
theorem LX:jH X (compareOp .Gt) (Io λi j=>.bl (decide (j < i))):=IZ λ_ _ _ _ _ _ _ q=>gt_int q
theorem QU:jH X (compareOp .GtE) (Io λi j=>.bl (decide (j<=i))):=IZ λ_ _ _ _ _ _ _ q=>ge_int q
theorem zj:jH X (compareOp .Is) (λx y H Q=>y=.non/\Q (.bl (decide (x=.non))) H):=by
 intro pins s σ H x y v u Q I rx ry h;obtain⟨rfl,q⟩:=h;cases ry;refine is_none_gen (bE I q ?_);cases x<;>first
  | (cases rx;rfl)
  | (obtain⟨t,rfl⟩:=rx;rfl)
theorem vp:jH X (compareOp .IsNot) (λx y H Q=>y=.non/\Q (.bl (!decide (x=.non))) H):=by
 intro pins s σ H x y v u Q I rx ry h;obtain⟨rfl,q⟩:=h;cases ry;refine isnot_none_gen (bE I q ?_);cases x<;>first
  | (cases rx;rfl)
  | (obtain⟨t,rfl⟩:=rx;rfl)
theorem aO(b:Expr){op:CmpOp}(h:op≠.In:=by decide)(h2:op≠.NotIn:=by decide):behindInMarks op b=false:=by
 have e1:(op == CmpOp.In)=false:=by cases op<;>first | rfl | exact absurd rfl h
 have e2:(op == CmpOp.NotIn)=false:=by cases op<;>first | rfl | exact absurd rfl h2
 cases b<;>simp[behindInMarks,e1,e2]
theorem vq{op:CmpOp}{r:R2}(ho:jH X (compareOp op) r)(ha:PE X a ta)(hb:PE X b tb)(hm:behindInMarks op b=false):PE X (.Compare a [op] [b] pos) (Ql r ta tb):=by
 intro pins s σ H Q I h;exact wpAny_Compare1 (M0 ha hb I h λv u s2 x y H2 I2 rx ry q=>ho pins s2 σ H2 x y v u Q I2 rx ry q) hm
def EE(t:TE):TT:=λσ H Q=>t σ H λx H'=>TV x H' Q
theorem tR{op:CmpOp}{r:R2}(ho:jH X (compareOp op) r)(ha:PE X a ta)(hb:PE X b tb)(hm:behindInMarks op b=false):PT X (.Compare a [op] [b] pos) (EE (Ql r ta tb)):=by
 intro pins s σ H Q I h
 refine wpAny_isTrue_Compare1 (bU (ha pins s σ H _ I h) λv s1 ⟨x,H1,I1,r1,q1⟩=>bU (hb pins s1 σ H1 _ I1 q1) λu s2 ⟨y,H2,I2,r2,q2⟩ =>
  bU (ho pins s2 σ H2 x y v u _ I2 r1 r2 q2) λc s3 ⟨z,H3,I3,r3,k,e,q3⟩=>?_) hm
 subst e;cases r3;exact abP ⟨H3,I3,q3⟩
def EF(r r':R2)(ta tb tc:TE):TE:=λσ H Q=>ta σ H λx H1=>tb σ H1 λy H2=>r x y H2 λz H3=>∃k,z=.bl k /\
 (if k=true then tc σ H3 λw' H4=>r' y w' H4 Q else Q (.bl false) H3)
theorem EG{op op':CmpOp}{r r':R2}(ho:jH X (compareOp op) r)(ho':jH X (compareOp op') r')(ha:PE X a ta)(hb:PE X b tb)(hc:PE X c tc)
  (hm:lastMarks [op,op'] [b,c]=false:=by with_unfolding_all rfl):PT X (.Compare a [op,op'] [b,c] pos) (EE (EF r r' ta tb tc)):=by
 intro pins s σ H Q I h
 refine isTrue_chain (bU (ha pins s σ H _ I h) λv s1 ⟨x,H1,I1,r1,q1⟩=>test_link (bU (hb pins s1 σ H1 _ I1 q1) λu s2 ⟨y,H2,I2,r2,q2⟩ =>
  bU (ho pins s2 σ H2 x y v u _ I2 r1 r2 q2) λd s3 ⟨z,H3,I3,r3,k,e,q3⟩=>?_)) hm
 subst e;cases r3;refine abP ?_
 cases k with
 | false =>
  obtain⟨k',e',q'⟩:=q3;cases e';exact ite_ff ⟨H3,I3,q'⟩
 | true =>
  refine ite_tt (test_last (bU (hc pins s3 σ H3 _ I3 q3) λw' s4 ⟨z',H4,I4,r4,q4⟩=>bU (ho' pins s4 σ H4 y z' u w' _ I4 r2 r4 q4) λd' s5 ⟨z2,H5,I5,r5,k2,e2,q5⟩=>?_));subst e2;cases r5;exact abP ⟨H5,I5,q5⟩
theorem oE:(sizeLine:Nat) < 2 ^ 63:=by rw[acn];decide
theorem zk:jH X (binaryOp .Add) (λx y H Q=>∃i j,x=.str i/\y=.str j/\i.length + j.length<=sizeLine/\Q (.str (i++j)) H):=by
 intro pins s σ H x y v u Q I rx ry h;obtain⟨i,j,rfl,rfl,hz,q⟩:=h;obtain⟨t,rfl⟩:=rx;obtain⟨t',rfl⟩:=ry;exact add_str (λt' tk=>⟨.str (i++j),H,I.tok _,⟨_,rfl⟩,q⟩) hz
theorem vals1{x:V}{us:List Value}(r:Vals [x] us):∃u,us=[u]/\RelV x u:=by
 cases r with
 | cons r1 r2=>cases r2;exact⟨_,rfl,r1⟩
theorem vals2{x y:V}{us:List Value}(r:Vals [x,y] us):∃u w',us=[u,w']/\RelV x u/\RelV y w':=by
 cases r with
 | cons r1 r2 =>
  cases r2 with
  | cons r3 r4=>cases r4;exact⟨_,_,rfl,r1,r3⟩
theorem Ck(hc:X.calm=true):iV X (.builtin "min") (λxs H Q=>∃i j,xs=[.int i,.int j]/\Q (.int (if j < i then j else i)) H):=by
 intro pins s σ H xs us Q I r h;obtain⟨i,j,rfl,q⟩:=h;obtain⟨u,w',rfl,⟨t,rfl⟩,⟨t',rfl⟩⟩:=vals2 r;refine min_two_ints (I.ok.hd hc) λh' tk k=>⟨_,H,I.kept k,?_,q⟩
 by_cases hj:j < i
 ·rw[aaw hj,aaw hj];exact⟨_,rfl⟩
 ·rw[aas hj,aas hj];exact⟨_,rfl⟩
theorem uv:iV X (.type "int") (λxs H Q=>(∃i,xs=[.int i]/\Q (.int i) H)∨∃k,xs=[.bl k]/\Q (.int (if k then 1 else 0)) H):=by
 intro pins s σ H xs us Q I r h;rcases h with⟨i,rfl,q⟩ | ⟨k,rfl,q⟩
 ·obtain⟨u,rfl,t,rfl⟩:=vals1 r;exact call_int_int ⟨.int i,H,I,⟨_,rfl⟩,q⟩
 ·obtain⟨u,rfl,r1⟩:=vals1 r;cases r1;exact call_int_bool ⟨.int (if k then 1 else 0),H,I.tok _,⟨_,rfl⟩,q⟩
theorem xy:iV X (.builtin "divmod") (λxs H Q=>∃i j,xs=[.int i,.int j]/\Ez i j/\∀p,H p=none->Q (.ref p) (upd H p (.tup [.int (i / j),.int (i % j)]))):=by
 intro pins s σ H xs us Q I r h;obtain⟨i,j,rfl,⟨h1,h2⟩,q⟩:=h;obtain⟨u,w',rfl,⟨t,rfl⟩,⟨t',rfl⟩⟩:=vals2 r;refine divmod_int (by omega) ?_ (.inl (PyProof.noPylong_small (by omega)));rw[Int.fdiv_eq_ediv_of_nonneg i (by omega),Int.fmod_eq_emod_of_nonneg i (by omega)];have hn:H s.heap.objs.size=none:=I.hok.fresh (Nat.le_refl _);refine⟨.ref s.heap.objs.size,_,?_,rfl,q _ hn⟩;refine I.laid (λb o e=>Heap.get?_push_of_some _ e) (Nat.le_refl _) ⟨by simp only[List.length_cons,List.length_nil];rw[sizeLine_eq];decide,[.int (i / j) s.toks,.int (i % j) (s.toks + 1)],.cons ⟨_,rfl⟩ (.cons ⟨_,rfl⟩ .nil),?_⟩;exact⟨_,Heap.get?_push_size s.heap rfl,rfl,0,rfl⟩
end
structure zm(h:Heap)(x dx C:Addr)(mA:Str->Option Value):Prop where
 obj:h.get? x=some (PySem.W.instObj C dx)
 ns:h.Ns1 dx mA
 ne:dx≠x
theorem uw{h:Heap}{dx:Addr}{mA:Str->Option Value}(n:h.Ns1 dx mA):∃od,h.get? dx=some od/\∀name,PySem.W.lookIn name od=some (mA name):=by
 obtain⟨o,es,ep,ho,hd,hk,_,hm⟩:=n;refine⟨o,ho,λname=>?_⟩;have e:=hm name;unfold nsFind findBy at e;rw[← Array.find?_toList]at e;unfold PySem.W.lookIn;rw[hd];dsimp only;split
 ·rename_i y q;rw[q]at e;exact abB some e
 ·rename_i q;rw[q]at e
  have a:es.toList.any (·.refKey)=false:=by
   rw[List.any_eq_false];intro y hy;obtain⟨z,t,hkey⟩:=hk y (Array.mem_toList_iff.mp hy);simp[DictEntry.refKey,hkey]
  have a':¬ es.toList.any (·.refKey)=true:=by rw[a];exact aaj
  rw[aas a'];exact abB some e
theorem zm.look{h:Heap}{x dx C:Addr}{mA:Str->Option Value}(I:zm h x dx C mA):∃od,PySem.W.InstAt h x (PySem.W.instObj C dx) C (some od)/\∀name,PySem.W.lookIn name od=some (mA name) :=
 let ⟨od,ho,hl⟩:=uw I.ns
 ⟨od,⟨I.obj,rfl,rfl,ho⟩,hl⟩
section
variable {prog:Program} {w:World} {A:Around} {E:Value->Shared->Prop} {s:Shared} {K:aV} {x dx C f:Addr} {mA:Str->Option Value} {name:Str} {v:Value}
theorem get_map{expr:Bool}{Q:Value->Shared->Prop}(X:K.In s.heap)(I:zm s.heap x dx C mA)(hg:PySem.W.plainGet K C name=true)(hh:PySem.W.hasDictIn K C=true)
  (ha:PySem.W.findIn K (.ref C) name=some none) (hv:mA name=some v) (hv':PySem.W.handedIn v=true) (h:Q v {s with toks:=s.toks + 1}) :
  wpAny (model prog w) A (getAttr (.ref x) name expr) Q E s:=by
 obtain⟨od,J,hl⟩:=I.look;exact PySem.W.get_value X J (aci hg).1 (PySem.W.findObj_own hh ha rfl (by rw[hl,hv])) hv' h
theorem EH{pl:Sem Bool}{Q:Value×List Value->Shared->Prop}(X:K.In s.heap)(I:zm s.heap x dx C mA)(hg:PySem.W.plainGet K C name=true)
  (hf:PySem.W.findIn K (.ref C) name=some (some (.ref f))) (ht:PySem.W.isFn K (.ref f)=true) (hv:mA name=none) (h:Q (.ref f,[.ref x]) s) :
  wpAny (model prog w) A (getMethod (.ref x) name pl) Q E s:=by
 obtain⟨od,J,hl⟩:=I.look;exact PySem.W.method_fn X J (aci hg).1 (aci hg).2 hf (beq_iff_eq.mp ht) (by show(PySem.W.lookIn name od).map (·.isSome)=some false;rw[hl,hv];rfl) h
theorem Jb{ns:List Str}{Q:Unit->Shared->Prop}(X:K.In s.heap)(I:zm s.heap x dx C mA)
  (hs:PySem.W.findIn K (.ref C) "__setattr__"=some (some (.builtin "object.__setattr__"))) (hp:PySem.W.plainOver K C=true) (ht:PySem.W.takerIn K C name=some none) (hh:PySem.W.hasDictIn K C=true)
  (hw:PySem.Within mA ns) (hsz:ns.length<=sizeLine)
  (h:∀h',zm h' x dx C (λy=>if y=name then some v else mA y)->Heap.SameBut dx s.heap h'->Q () {s with heap:=h',toks:=s.toks + 2}) :
  wpAny (model prog w) A (setAttr (.ref x) name v) Q E s:=by
 obtain⟨od,J,hl⟩:=I.look;refine PySem.W.set_plain X J hs (PySem.W.osa_open (s:={s with toks:=s.toks + 1}) (r:=none) X J hp ht λb=>?_);obtain⟨cd,hc,hd'⟩:=PySem.W.any_some hh;have hx:s.heap.get? x=some ⟨.ref C,some dx,.plain,#[]⟩:=I.obj;refine aaa (aag (aaa (aaa (wpAny_loadPart hx (aaa (PySem.W.Looks.here (s:={s with toks:=s.toks + 1}) (PySem.W.looks_clsIn X hc) ?_))))));rw[hd'];refine aag (a:=some dx) (aaa (aag (aaa ?_)));refine wpAny_nsSet1 (s:={s with toks:=s.toks + 1}) I.ns λh' M5 Jc=>?_
 obtain⟨oD,esD,epD,hoD,A9,hcD⟩:=M5.count (PySem.Within.cons name v hw);refine aaa (wpAny_lookBehind hoD (by rw[A9];exact pastItsLine_dict (aaF hcD (by rw[aaJ];omega))) ?_);exact aag (h _ ⟨(Jc.2 _ (abX I.ne)).trans I.obj,M5,I.ne⟩ Jc)
theorem EI{R:Result->Shared->Prop}{vs:List Value}{kw:List (Str×Value)}(X:K.In s.heap)(hm:PySem.W.makesIn K C=true)
  (hi:PySem.W.findIn K (.ref C) "__init__"=some (some (.ref f))) (hf:PySem.W.typeIn K (.ref f)=some (.type "function"))
  (h:codeAny (model prog w) (A.under (.builtin "type.__call__" ⟨.ref C::vs,kw⟩)) (.call (.ref f) ⟨.ref (s.heap.objs.size + 1)::vs,kw⟩) (PySem.W.InitBack (s.heap.objs.size + 1) R)
   {s with heap:=(s.heap.push PySem.W.emptyDict).push (PySem.W.instObj C s.heap.objs.size)}) :
  codeAny (model prog w) A (.call (.ref C) ⟨vs,kw⟩) R s:=by
 obtain⟨hh,g,d,t,os⟩:=s;exact PySem.W.make_core (PySem.W.makes_of X hm) (PySem.W.looks_findIn X hi) (λself=>PySem.W.bind_fn X self hf) (.inl rfl) h
end
def df(f:Str)(v:V):List (Str×V)->List (Str×V)
 | []=>[(f,v)]
 | (g,x)::r=>if g=f then(g,v)::r else(g,x)::df f v r
theorem kR(f g:Str)(v:V):∀fs:List (Str×V),(df f v fs).lookup g=if g=f then some v else fs.lookup g
 | []=>by
  show List.lookup g [(f,v)]=_;by_cases h:g=f
  ·have hb:(g == f)=true:=beq_iff_eq.mpr h;simp only[List.lookup,hb,if_pos h]
  ·have hb:(g == f)=false:=beq_eq_false_iff_ne.mpr h;simp only[List.lookup,hb,if_neg h]
 | (k,x)::r=>by
  have ih:=kR f g v r;rw[show df f v ((k,x)::r)=(if k=f then(k,v)::r else(k,x)::df f v r)from rfl];by_cases hk:k=f
  ·rw[aaw hk];by_cases h:g=k
   ·have hb:(g == k)=true:=beq_iff_eq.mpr h;simp only[List.lookup,hb,if_pos (h.trans hk)]
   ·have hb:(g == k)=false:=beq_eq_false_iff_ne.mpr h;simp only[List.lookup,hb,if_neg (λe:g=f=>h (e.trans hk.symm))]
  ·rw[aas hk];by_cases h:g=k
   ·have hb:(g == k)=true:=beq_iff_eq.mpr h;simp only[List.lookup,hb,if_neg (λe:g=f=>hk (h.symm.trans e))]
   ·have hb:(g == k)=false:=beq_eq_false_iff_ne.mpr h;simp only[List.lookup,hb];exact ih
theorem jK(f:Str)(v:V):∀fs:List (Str×V),f∈(df f v fs).map (·.1)/\∀g,g∈fs.map (·.1)->g∈(df f v fs).map (·.1)
 | []=>⟨by simp[df],λg h=>by simp at h⟩
 | (k,x)::r=>by
  obtain⟨i1,i2⟩:=jK f v r;rw[show df f v ((k,x)::r)=(if k=f then(k,v)::r else(k,x)::df f v r)from rfl];by_cases hk:k=f
  ·rw[if_pos hk];subst hk;exact⟨by simp,λg h=>by simpa using h⟩
  ·rw[aas hk];refine⟨?_,λg h=>?_⟩
   ·rw[abC];exact aaB _ i1
   ·rw[abC]at h ⊢;rcases aaE.mp h with e | e
    ·exact aaE.mpr (.inl e)
    ·exact aaB _ (i2 g e)
theorem dF(f:Str)(v:V):∀fs:List (Str×V),(df f v fs).length<=fs.length + 1
 | []=>by simp[df]
 | (k,x)::r=>by
  have ih:=dF f v r;rw[show df f v ((k,x)::r)=(if k=f then(k,v)::r else(k,x)::df f v r)from rfl];by_cases hk:k=f
  ·rw[aaw hk,aaJ,aaJ];omega
  ·rw[aas hk,aaJ,aaJ];omega
theorem jI.some_of{v:V}{o:Option Value}(r:jI (some v) o):∃u,o=some u/\RelV v u:=by
 cases o with
 | none=>exact(show False from r).elim
 | some u=>exact⟨u,rfl,r⟩
theorem jI.none_of{o:Option Value}(r:jI none o):o=none:=by
 cases o with
 | none=>rfl
 | some u=>exact(show False from r).elim
theorem uy{v:V}{u:Value}(r:RelV v u):PySem.W.handedIn u=true:=by
 cases v with
 | non=>cases (show u=Value.none from r);rfl
 | bl b=>cases (show u=Value.bool b from r);rfl
 | int i=>obtain⟨t,e⟩:=(show ∃t,u=Value.int i t from r);cases e;rfl
 | str x=>obtain⟨t,e⟩:=(show ∃t,u=Value.str x t from r);cases e;rfl
 | byt b=>obtain⟨t,e⟩:=(show ∃t,u=Value.bytes b t from r);cases e;rfl
 | flt b=>obtain⟨t,e⟩:=(show ∃t,u=Value.float b t from r);cases e;rfl
 | ref a=>cases (show u=Value.ref a from r);rfl
 | ty n=>cases (show u=Value.type n from r);rfl
section
variable {P:Program} {w:World} {H H':Hp} {h h':Heap} {a C dx:Addr} {fs fs':List (Str×V)}
theorem vt(hok:kO P w H h)(e:H a=some (.ins C dx fs)):∃mA,zm h a dx C mA/\(∀f,jI (fs.lookup f) (mA f))/\PySem.Within mA (fs.map (·.1))/\fs.length<=1000/\H dx=some (.own a):=by
 obtain⟨d,z,ne,ob,mA,n,r,q⟩:=(show ej P w H h a (.ins C dx fs)from hok a _ e);exact⟨mA,⟨ob,n,ne⟩,r,q,z,d⟩
end
structure Ba(K:aV)(C:Addr):Prop where
 pg:PySem.W.plainGet K C Str.empty=true
 hd:PySem.W.hasDictIn K C=true
 po:PySem.W.plainOver K C=true
 sa:PySem.W.findIn K (.ref C) "__setattr__"=some (some (.builtin "object.__setattr__"))
theorem Ba.get{K:aV}{C:Addr}(c:Ba K C)(f:Str):PySem.W.plainGet K C f=true:=c.pg
def dG(K:aV)(C:Addr)(f:Str):Prop:=PySem.W.findIn K (.ref C) f=some none
theorem dG.QV{K:aV}{C:Addr}{f:Str}(n:dG K C f):PySem.W.takerIn K C f=some none:=by
 unfold PySem.W.takerIn;rw[show PySem.W.findIn K (.ref C) f=some none from n];rfl
structure Con(K:aV)(C:Addr)(f:Str)(v:V)(u:Value):Prop where
 at_:PySem.W.findIn K (.ref C) f=some (some u)
 rel:RelV v u
 get:PySem.W.specialIn K u "__get__"=some none
 cp:PySem.W.copiedNames.contains f=false
structure Meth(K:aV)(C:Addr)(m:Str)(f:Addr):Prop where
 at_:PySem.W.findIn K (.ref C) m=some (some (.ref f))
 fn:PySem.W.isFn K (.ref f)=true
 kp:PySem.W.keepIn K (.ref f)=true
section
variable {X:Cx} {pins:List (Addr×Obj)} {σ:St} {H:Hp} {s:Shared} {a C dx:Addr} {fs:List (Str×V)} {f:Str} {v:V} {A:Around} {E:Value->Shared->Prop}
theorem zo{b:Bool}{Q:Value->Shared->Prop}(I:Inv X pins σ H s)(e:H a=some (.ins C dx fs))(c:Ba X.K C)(n:dG X.K C f)(l:fs.lookup f=some v)
  (h:∀u s',Inv X pins σ H s'->RelV v u->Q u s'):wpAny (model X.prog X.w) A (getAttr (.ref a) f b) Q E s:=by
 obtain⟨mA,O,r,_,_,_⟩:=vt I.hok e;obtain⟨u,hu,ru⟩:=jI.some_of (v:=v) (o:=mA f) (by rw[← l];exact r f);exact get_map I.jb O (c.get f) c.hd n hu (uy ru) (h u _ (I.tok _) ru)
theorem mC{m:Str}{g:Addr}{pl:Sem Bool}{Q:Value×List Value->Shared->Prop}(I:Inv X pins σ H s)(e:H a=some (.ins C dx fs))(c:Ba X.K C)(k:Meth X.K C m g)(l:fs.lookup m=none)
  (h:Q (.ref g,[.ref a]) s):wpAny (model X.prog X.w) A (getMethod (.ref a) m pl) Q E s:=by
 obtain⟨mA,O,r,_,_,_⟩:=vt I.hok e;have hn:mA m=none:=jI.none_of (by rw[← l];exact r m);exact EH I.jb O (c.get m) k.at_ k.fn hn h
theorem zp{y:V}{u:Value}{Q:Unit->Shared->Prop}(I:Inv X pins σ H s)(e:H a=some (.ins C dx fs))(c:Ba X.K C)(n:dG X.K C f)(hl:fs.length < 1000)(ry:RelV y u)
  (h:∀s',Inv X pins σ (upd H a (.ins C dx (df f y fs))) s'->Q () s'):wpAny (model X.prog X.w) A (setAttr (.ref a) f u) Q E s:=by
 obtain⟨mA,O,r,wi,_,ho⟩:=vt I.hok e;have hz:(fs.map (·.1)).length<=sizeLine:=by rw[aah,acn];omega
 refine Jb I.jb O c.sa c.po n.QV c.hd wi hz λh' O' sb=>h _ ?_
 have hd:∃o,h'.get? dx=some o:=let ⟨o,_,_,e',_⟩:=O'.ns;⟨o,e'⟩
 refine I.write (x:=a) (e:=dx) (by rw[e];exact abn) (.inr ho) (λb q hb z=>(sb.2 b hb).trans z) hd ?_;refine⟨by rw[uN O.ne];exact ho,?_,O.ne,O'.obj,_,O'.ns,λg=>?_,λg hg=>?_⟩
 ·have:=dF f y fs;omega
 ·show jI ((df f y fs).lookup g) (if g=f then some u else mA g);rw[kR];by_cases q:g=f
  ·rw[aaw q,aaw q];exact ry
  ·rw[aas q,aas q];exact r g
 ·by_cases q:g=f
  ·rw[q];exact(jK f y fs).1
  ·refine(jK f y fs).2 g (wi g λz=>hg ?_);show(if g=f then some u else mA g)=none;rw[aas q];exact z
theorem Inv.made(I:Inv X pins σ H s):Inv X pins σ (upd (upd H s.heap.objs.size (.own (s.heap.objs.size + 1))) (s.heap.objs.size + 1) (.ins C s.heap.objs.size []))
  {s with heap:=(s.heap.push PySem.W.emptyDict).push (PySem.W.instObj C s.heap.objs.size)}:=by
 have e1:(s.heap.push PySem.W.emptyDict).get? s.heap.objs.size=some PySem.W.emptyDict:=aaC s.heap rfl
 have e2:((s.heap.push PySem.W.emptyDict).push (PySem.W.instObj C s.heap.objs.size)).get? (s.heap.objs.size + 1)=some (PySem.W.instObj C s.heap.objs.size):=by
  have:=aaC (s.heap.push PySem.W.emptyDict) (o:=PySem.W.instObj C s.heap.objs.size) rfl
  rwa [abR]at this
 have e3:(s.heap.push PySem.W.emptyDict).Ns s.heap.objs.size (λ_=>none):=⟨PySem.W.emptyDict,#[],_,e1,rfl,(λe he=>absurd he (by simp)),λ_=>rfl⟩;have I1:=I.laid (a:=s.heap.objs.size) (o:=.own (s.heap.objs.size + 1)) (h':=s.heap.push PySem.W.emptyDict) (t':=s.toks) (λb u q=>Heap.get?_push_of_some _ q) (Nat.le_refl _) ⟨_,e1⟩;refine I1.laid (a:=s.heap.objs.size + 1) (o:=.ins C s.heap.objs.size []) (t':=s.toks) (λb u q=>Heap.get?_push_of_some _ q) (Nat.le_of_eq (Heap.size_push _ _)) ?_;have ne:s.heap.objs.size≠s.heap.objs.size + 1:=Nat.ne_of_lt (Nat.lt_succ_self _);refine⟨by rw[uN ne,uS],Nat.zero_le _,ne,e2,λ_=>none,(Heap.Ns1.of_empty e3).at λo q=>Heap.get?_push_of_some _ q,λ_=>True.intro,λy hy=>absurd rfl hy⟩
theorem Bb{prog:Program}{w:World}{env:Env}{e:Expr}{f:Str}{pos:Pos}{s:Shared}{Q:Value->Shared->Prop}(hb:attributeBase e f env (eval e env)=eval e env)
  (h:wpAny (model prog w) A (eval e env) (λo s₁=>wpAny (model prog w) A (getAttr o f true) Q E s₁) E s):wpAny (model prog w) A (eval (.Attribute e f pos) env) Q E s :=
 Attribute_any_ h (by rw[arm_eval_Attribute,hb])
end
inductive QW(K:aV)(f:Str)(x:V)(H:Hp)(Q:VK):Prop where
 | mk (a C dx:Addr) (fs:List (Str×V)) (v:V) (e:x=.ref a) (h:H a=some (.ins C dx fs)) (c:Ba K C) (n:dG K C f) (l:fs.lookup f=some v) (q:Q v H):QW K f x H Q
def QX(K:aV)(ta:TE)(f:Str):TE:=λσ H Q=>ta σ H λx H1=>QW K f x H1 Q
def Ud(K:aV)(ta tv:TE)(f:Str):TS:=λD σ H=>tv σ H λy H1=>ta σ H1 λx H2=>∃a C dx fs,x=.ref a/\H2 a=some (.ins C dx fs)/\Ba K C/\dG K C f/\fs.length < 1000 /\
 D.nx σ (upd H2 a (.ins C dx (df f y fs)))
section
variable {X:Cx} {o e value:Expr} {f:Str} {pos pos' tpos:Pos} {ta tv:TE}
theorem g7(he:PE X e ta)(hb:attributeBase e f X.env (eval e X.env)=eval e X.env):PE X (.Attribute e f pos) (QX X.K ta f):=by
 intro pins s σ H Q I h;refine Bb hb (bU (he pins s σ H _ I h) λu s1 ⟨x,H1,I1,rx,a,C,dx,fs,v,ex,ea,c,n,l,q⟩=>?_);subst ex;obtain rfl:u=Value.ref a:=rx;exact zo I1 ea c n l λu' s2 I2 ru=>⟨v,H1,I2,ru,q⟩
theorem kS(ha:PE X o ta)(hv:PE X value tv)(hs:swapsWith value (some (.Attribute o f pos')) pos.line X.env=pure false):PS X (.Assign [.Attribute o f pos'] value pos) (Ud X.K ta tv f):=by
 intro pins s σ H D I h;refine acd (bU (hv pins s σ H _ I h) λu s1 ⟨y,H1,I1,ry,q⟩=>bU (ha pins s1 σ H1 _ I1 q) λov s2 ⟨x,H2,I2,rx,a,C,dx,fs,ex,ea,c,n,l,q2⟩=>?_) hs;subst ex;obtain rfl:ov=Value.ref a:=rx;exact zp I2 ea c n l ry λs3 I3=>⟨σ,_,I3,q2⟩
end
section
variable {X:Cx} {pins:List (Addr×Obj)} {σ:St} {H:Hp} {s:Shared} {A:Around} {E:Value->Shared->Prop} {Q:Value->Shared->Prop} {c:Value} {b:Bool}
inductive qY(K:aV)(H:Hp):V->Value->Prop where
 | non:qY K H .non (.type "NoneType")
 | bl (x:Bool):qY K H (.bl x) (.type "bool")
 | int (i:Int):qY K H (.int i) (.type "int")
 | str (x:Str):qY K H (.str x) (.type "str")
 | flt (x:UInt64):qY K H (.flt x) (.type "float")
 | lst {a:Addr} {xs:List V} (e:H a=some (.lst xs)):qY K H (.ref a) (.type "list")
 | mq {a:Addr} {o:Obj} {xs:List V} (e:H a=some (.mq o (.lst xs))):qY K H (.ref a) (.type "list")
 | tup {a:Addr} {xs:List V} (e:H a=some (.tup xs)):qY K H (.ref a) (.type "tuple")
 | dK {a:Addr} {kvs:List (Key×V)} (e:H a=some (.dK kvs)):qY K H (.ref a) (.type "dict")
 | dT {a:Addr} {kvs:List (List Key×V)} (e:H a=some (.dT kvs)):qY K H (.ref a) (.type "dict")
 | ins {a C dx:Addr} {fs:List (Str×V)} (e:H a=some (.ins C dx fs)) (cl:Ba K C) (ha:PySem.W.findIn K (.ref C) "__class__"=some (some (.builtin "object.__class__")))
   (hn:PySem.W.specialIn K (.builtin "object.__class__") "__get__"=some (some (.builtin "getset_descriptor.__get__"))) (htk:PySem.W.takesIn K (.builtin "object.__class__")=some true)
   (hm:PySem.W.mroIn K C (.type "object")=some true):qY K H (.ref a) (.ref C)
end
structure cw(k:Nat)(A:Around)(cm:Bool:=true):Prop where
 hd:cm=true->A.handled=none
 dp:A.depth + 2 * k + 5 < recursionLimit
 un:A.units + 16 * k + 200 < cLine
 gd:A.guards=some []
theorem cw.mono{j k:Nat}{A:Around}{cm:Bool}(r:cw k A cm)(h:j<=k):cw j A cm:=⟨r.hd,by have:=r.dp;omega,by have:=r.un;omega,r.gd⟩
theorem cw.low{k:Nat}{A:Around}{cm:Bool}(r:cw k A cm):cw k A false:=⟨(λz=>nomatch z),r.dp,r.un,r.gd⟩
theorem cw.deeper{k:Nat}{A:Around}{cm:Bool}(r:cw (k + 1) A cm)(env:Env):cw k (A.deeper env) cm :=
 ⟨r.hd,by have:=r.dp;show A.depth + 1 + 2 * k + 5 < _;omega,by have:=r.un;show A.units + 3 + 16 * k + 200 < _;omega,r.gd⟩
theorem zq{A:Around}{C:Addr}{us:List Value}{kw:List (Str×Value)}:(A.under (.builtin "type.__call__" ⟨.ref C::us,kw⟩)).depth=A.depth + 1:=by
 first | rfl | simp[Around.under,Code.weight,Code.isCreation,Code.isGuard,Code.isCaller,Code.frames,Code.isFrame,guardIds]
theorem zr{A:Around}{C:Addr}{us:List Value}{kw:List (Str×Value)}:(A.under (.builtin "type.__call__" ⟨.ref C::us,kw⟩)).units=A.units + 1:=by
 first | rfl | simp[Around.under,Code.cUnits,Code.frames,Code.isFrame]
theorem cw.make{k:Nat}{A:Around}{cm:Bool}(r:cw (k + 1) A cm)(C:Addr)(us:List Value)(kw:List (Str×Value)):cw k (A.under (.builtin "type.__call__" ⟨.ref C::us,kw⟩)) cm :=
 ⟨r.hd,by have:=r.dp;rw[zq];omega,by have:=r.un;rw[zr];omega,r.gd⟩
theorem cw.depth{k:Nat}{A:Around}{cm:Bool}(r:cw k A cm):A.depth < recursionLimit:=by have:=r.dp;omega
theorem cw.units{k:Nat}{A:Around}{cm:Bool}(r:cw k A cm):A.units + 64 < cLine:=by have:=r.un;omega
def vw:TA:=λ_ H Q=>Q [] H
def EJ(ta:TE)(tr:TA):TA:=λσ H Q=>ta σ H λx H1=>tr σ H1 λxs H2=>Q (x::xs) H2
section
variable {X:Cx} {e:Expr} {es:List Expr} {te:TE} {t:TA} {pos:Pos}
theorem pN:PA X [] vw:=λ_ _ _ _ H Q I h=>acu ⟨[],H,I,.nil,h⟩
theorem pK(ha:PE X e te)(hr:PA X es t)(hs:starEach (e::es) X.env=(false,eval e X.env)::starEach es X.env:=by rfl):PA X (e::es) (EJ te t):=by
 intro pos pins s σ H Q I h;rw[hs];show wpAny _ _ (spliced ((false,eval e X.env)::backTo pos (starEach es X.env))) _ _ s;refine aco (bU (ha pins s σ H _ I h) λu s1 ⟨x,H1,I1,r1,q1⟩=>?_);exact bU (hr pos pins s1 σ H1 _ I1 q1) λus s2 ⟨xs,H2,I2,r2,q2⟩=>⟨x::xs,H2,I2,.cons r1 r2,q2⟩
def M6(t:TA):TE:=λσ H Q=>t σ H λxs H1=>xs.length<=sizeLine/\∀p,H1 p=none->Q (.ref p) (upd H1 p (.tup xs))
def M7(t:TA):TE:=λσ H Q=>t σ H λxs H1=>xs.length<=sizeLine/\∀p,H1 p=none->Q (.ref p) (upd H1 p (.lst xs))
theorem dH{x1}(h:PA X es t):PE X (.Tuple es x1 pos) (M6 t):=by
 intro pins s σ H Q I hq;refine wpAny_Tuple_spliced (bU (h pos pins s σ H _ I hq) λus s1 ⟨xs,H1,I1,r,z,q⟩=>⟨by rw[← r.length];exact z,?_⟩);have hf:H1 s1.heap.objs.size=none:=I1.hok.fresh (aai _);refine⟨.ref s1.heap.objs.size,upd H1 s1.heap.objs.size (.tup xs),I1.laid (t':=s1.toks) (λb u e=>aaf _ e) (aai _) ?_,rfl,q _ hf⟩;exact⟨z,us,r,⟨_,aaC _ rfl,rfl,_,rfl⟩⟩
theorem eK(h:PA X es t):PE X (.List es pos) (M7 t):=by
 intro pins s σ H Q I hq;refine wpAny_List_spliced (bU (h pos pins s σ H _ I hq) λus s1 ⟨xs,H1,I1,r,z,q⟩=>⟨by rw[← r.length];exact z,?_⟩);have hf:H1 s1.heap.objs.size=none:=I1.hok.fresh (aai _);refine⟨.ref s1.heap.objs.size,upd H1 s1.heap.objs.size (.lst xs),I1.laid (t':=s1.toks) (λb u e=>aaf _ e) (aai _) ?_,rfl,q _ hf⟩;exact⟨z,us,0,r,aaC _ rfl⟩
end
abbrev Sp:=List V->Hp->VK->XK->Prop
abbrev xo:=List Env->Hp->Shared->XK->Value->Shared->Prop
structure zt(P:Program)(w:World)(K:aV)(mg:Str->Option Value)(base:Heap)(A:Around)(outer:List Env)(s:Shared)(H:Hp):Prop where
 frames:A.frames=some outer
 mod:Mod K mg base
 bs:∀b o,base.get? b=some o->s.heap.get? b=some o/\H b=none
 bsz:base.objs.size<=s.heap.objs.size
 ou:s.heap.FunFrames base outer
 frf:∀b∈iK outer,H b=none
 hok:kO P w H s.heap
 bare:AllBare s.gens
def CE(outer:List Env)(P:Program)(w:World)(H:Hp)(s:Shared)(Q:VK)(u:Value)(s':Shared):Prop :=
 ∃v H',s'.os=s.os/\AllBare s'.gens/\Un (iK outer) [] H H' s.heap s'.heap/\kO P w H' s'.heap/\RelV v u/\Q v H'
def CR(CX:xo)(outer:List Env)(P:Program)(w:World)(H:Hp)(s:Shared)(Q:VK)(E:XK)(r:Result)(s':Shared):Prop :=
 match r with
 | .ok (.ret u)=>CE outer P w H s Q u s'
 | .ok _=>False
 | .error e=>CX outer H s E e s'
structure bL(P:Program)(w:World)(K:aV)(mg:Str->Option Value)(base:Heap)(CX:xo)(k:Nat)(f:Addr)(fd:FuncData)(ps:List Str)(sp:Sp)(cm:Bool:=true):Prop where
 len:∀vs H Q E,sp vs H Q E->vs.length=ps.length
 run:∀(A:Around) (outer:List Env) (s:Shared) (H:Hp) (args:Args) (us:List Value) (vs:List V) (Q:VK) (E:XK),cw k A cm->zt P w K mg base A outer s H->BindsTo s fd args (ps.zip us)->Vals vs us->sp vs H Q E ->
  codeAny (model P w) A (.call (.ref f) args) (CR CX outer P w H s Q E) s
theorem zt.make{P:Program}{w:World}{K:aV}{mg:Str->Option Value}{base:Heap}{A:Around}{outer:List Env}{s:Shared}{H:Hp}(e:zt P w K mg base A outer s H)(C:Addr)(us:List Value)(kw:List (Str×Value)):
  zt P w K mg base (A.under (.builtin "type.__call__" ⟨.ref C::us,kw⟩)) outer s H:=⟨by first | exact e.frames | (simpa [Around.under,Code.envs,Code.isFrame,pushEnvs]using e.frames),e.mod,e.bs,e.bsz,e.ou,e.frf,e.hok,e.bare⟩
section
variable {X:Cx} {pins:List (Addr×Obj)} {σ:St} {H:Hp} {s s':Shared}
theorem Inv.EK(I:Inv X pins σ H s):zt X.prog X.w X.K X.mg X.base X.A X.stack s H :=
 ⟨I.ok.frames,I.ok.mod,I.bs,aaF I.ok.bsz I.sz,I.stack,I.jc,I.hok,I.bare⟩
theorem Inv.after{Q:VK}{u:Value}(I:Inv X pins σ H s)(h:CE X.stack X.prog X.w H s Q u s'):EP X pins σ Q u s':=by
 obtain⟨v,H',os,bare,un,hok,r,q⟩:=h;obtain⟨hh,g,d,t,os'⟩:=s';obtain rfl:os'=s.os:=os;exact⟨v,H',I.call (h':=hh) (g':=g) (d':=d) (t':=t) (ch:=[]) un hok bare (λb z=>absurd z (by simp)),r,q⟩
end
def xA(sp:Sp)(dvs:List V)(E:XK)(t:TA):TE:=λσ H Q=>t σ H λvs H1=>sp (vs++dvs) H1 Q E
inductive LY(C:Addr)(m:Str)(x:V)(H:Hp)(R:Prop):Prop where
 | mk (a dx:Addr) (fs:List (Str×V)) (e:x=.ref a) (h:H a=some (.ins C dx fs)) (l:fs.lookup m=none) (r:R):LY C m x H R
def uz(C:Addr)(m:Str)(sp:Sp)(dvs:List V)(E:XK)(ta:TE)(t:TA):TE:=λσ H Q=>ta σ H λx H1=>LY C m x H1 (t σ H1 λvs H2=>sp (x::(vs++dvs)) H2 Q E)
def LZ(C:Addr)(sp:Sp)(dvs:List V)(E:XK)(t:TA):TE:=λσ H Q=>t σ H λvs H1=>∀x dx,H1 x=none->H1 dx=none->dx≠x ->
 sp (.ref x::(vs++dvs)) (upd (upd H1 dx (.own x)) x (.ins C dx [])) (λv H2=>v=.non/\Q (.ref x) H2) E
def Binds(K:aV)(fd:FuncData)(ps:List Str)(ds:List Value):Prop :=
 ∀(s:Shared) (us:List Value),K.In s.heap->(us++ds).length=ps.length->BindsTo s fd ⟨us,[]⟩ (ps.zip (us++ds))
theorem Binds.all{K:aV}{fd:FuncData}{ps:List Str}(h:∀us:List Value,us.length=ps.length->bindArgs fd ⟨us,[]⟩=pure (ps.zip us)):Binds K fd ps []:=λs us _ hl=>by
 rw[aaT]at hl ⊢;exact .of_eq (h us hl)
def Passes(CX:xo)(X:Cx)(E:XK):Prop:=∀(pins:List (Addr×Obj)) (σ:St) (H:Hp) (s:Shared) (e:Value) (s':Shared),Inv X pins σ H s->CX X.stack H s E e s'->X.xe e s'
section
variable {X:Cx} {CX:xo} {k:Nat} {f C:Addr} {fd:FuncData} {ps:List Str} {sp:Sp} {dvs:List V} {ds:List Value} {E:XK} {x m:Str} {p pos apos:Pos} {e o:Expr} {es:List Expr} {ta:TE} {t:TA}
theorem zu{pins:List (Addr×Obj)}{σ:St}{H:Hp}{s:Shared}{Q:VK}{us:List Value}{vs:List V}(F:bL X.prog X.w X.K X.mg X.base CX k f fd ps sp)(hr:cw k X.A)(hb:Binds X.K fd ps ds)(hd:Vals dvs ds)(hx:Passes CX X E)
  (I:Inv X pins σ H s) (r:Vals vs us) (h:sp (vs++dvs) H Q E):wpAny (model X.prog X.w) X.A (call (.ref f) us) (EP X pins σ Q) X.xe s:=by
 have r2:Vals (vs++dvs) (us++ds):=r.append hd;have hl:(us++ds).length=ps.length:=by rw[← r2.length];exact F.len _ _ _ _ h
 refine acf (abS (F.run X.A X.stack s H ⟨us,[]⟩ (us++ds) (vs++dvs) Q E hr I.EK (hb s us I.jb hl) r2 h) λr s' hq=>?_)
 cases r with
 | error e=>exact hx pins σ H s e s' I hq
 | ok fl =>
  cases fl with
  | ret u=>exact I.after hq
  | next=>exact False.elim hq
  | brk=>exact False.elim hq
  | cont=>exact False.elim hq
theorem Bd(F:bL X.prog X.w X.K X.mg X.base CX k f fd ps sp)(hr:cw k X.A)(hg:Gl X x)(hm:X.mg x=some (.ref f))(hk:PySem.W.keepIn X.K (.ref f)=true)(hb:Binds X.K fd ps ds)(hd:Vals dvs ds)(hx:Passes CX X E)
  (ha:PA X (e::es) t) (hdb:(x == ("__debug__" : Str))=false:=by decide) (he:starEach (e::es) X.env=(false,eval e X.env)::starEach es X.env:=by rfl) (hpl:(backTo pos (starEach es X.env)).any (·.1)=false:=by rfl) :
  PE X (.Call (.Name x p) (e::es) [] pos) (xA sp dvs E t):=by
 intro pins s σ H Q I h;refine abb (gF I hg hm ?_ hdb);refine abh (h₀:=X.base) I.ok.mod.kin hk (bU (ha pos pins s σ H _ I h) λus s1 ⟨vs,H1,I1,r,q⟩=>⟨I1.jb,?_⟩) he hpl;exact zu F hr hb hd hx I1 r q
theorem Jd{pl:Sem Bool}(he:PE X o ta)(c:Ba X.K C)(hm:Meth X.K C m f)(F:bL X.prog X.w X.K X.mg X.base CX k f fd ps sp)(hr:cw k X.A)(hb:Binds X.K fd ps ds)(hd:Vals dvs ds)(hx:Passes CX X E)(ha:PA X (e::es) t)
  (hst:starEach (e::es) X.env=(false,eval e X.env)::starEach es X.env:=by rfl) (hpl:(backTo pos (starEach es X.env)).any (·.1)=false:=by rfl)
  (ht:eval (.Call (.Attribute o m apos) (e::es) [] pos) X.env=(do
   let ov ← eval o X.env
   standAt apos.atName
   let (f,first) ← holding [ov] (getMethod ov m pl)
   callWith pos f first (backTo pos (starEach (e::es) X.env)) (backToKw pos (keywordEach [] X.env))):=by rfl) :
  PE X (.Call (.Attribute o m apos) (e::es) [] pos) (uz C m sp dvs E ta t):=by
 intro pins s σ H Q I h;refine ab9 (pl:=pl) (bU (he pins s σ H _ I h) λu s1 ⟨x,H1,I1,rx,a,dx,fs,ex,ea,l,q⟩=>?_) ht;subst ex;obtain rfl:u=Value.ref a:=rx;refine mC I1 ea c hm l ?_;refine abh (first:=[.ref a]) (h₀:=X.base) I.ok.mod.kin hm.kp (bU (ha pos pins s1 σ H1 _ I1 q) λus s2 ⟨vs,H2,I2,r,q2⟩=>⟨I2.jb,?_⟩) hst hpl;exact zu (us:=.ref a::us) (vs:=.ref a::vs) F hr hb hd hx I2 (.cons rfl r) q2
theorem EL{pl:Sem Bool}(he:PE X o ta)(c:Ba X.K C)(hm:Meth X.K C m f)(F:bL X.prog X.w X.K X.mg X.base CX k f fd ps sp)(hr:cw k X.A)(hb:Binds X.K fd ps ds)(hd:Vals dvs ds)(hx:Passes CX X E)
  (ht:eval (.Call (.Attribute o m apos) [] [] pos) X.env=(do
   let ov ← eval o X.env
   standAt apos.atName
   let (f,first) ← holding [ov] (getMethod ov m pl)
   callWith pos f first (backTo pos (starEach [] X.env)) (backToKw pos (keywordEach [] X.env))):=by rfl) :
  PE X (.Call (.Attribute o m apos) [] [] pos) (uz C m sp dvs E ta vw):=by
 intro pins s σ H Q I h;refine ab9 (pl:=pl) (bU (he pins s σ H _ I h) λu s1 ⟨x,H1,I1,rx,a,dx,fs,ex,ea,l,q⟩=>?_) ht;subst ex;obtain rfl:u=Value.ref a:=rx;refine mC I1 ea c hm l ?_;exact PySem.W.callWith_K0 (first:=[.ref a]) I1.jb hm.kp (zu (us:=[.ref a]) (vs:=[.ref a]) F hr hb hd hx I1 (.cons rfl .nil) q)
structure Mk(K:aV)(C f:Addr):Prop where
 makes:PySem.W.makesIn K C=true
 init:PySem.W.findIn K (.ref C) "__init__"=some (some (.ref f))
 fn:PySem.W.isFn K (.ref f)=true
 kp:PySem.W.keepIn K (.ref C)=true
theorem EM{pins:List (Addr×Obj)}{σ:St}{H:Hp}{s:Shared}{Q:VK}{us:List Value}{vs:List V}(M:Mk X.K C f)(F:bL X.prog X.w X.K X.mg X.base CX k f fd ps sp)(hr:cw (k + 1) X.A)(hb:Binds X.K fd ps ds)(hd:Vals dvs ds)
  (hx:Passes CX X E) (I:Inv X pins σ H s) (r:Vals vs us)
  (h:∀x dx,H x=none->H dx=none->dx≠x->sp (.ref x::(vs++dvs)) (upd (upd H dx (.own x)) x (.ins C dx [])) (λv H2=>v=.non/\Q (.ref x) H2) E) :
  wpAny (model X.prog X.w) X.A (call (.ref C) us) (EP X pins σ Q) X.xe s:=by
 have hq:=h (s.heap.objs.size + 1) s.heap.objs.size (I.hok.fresh (abN _)) (I.hok.fresh (aai _)) (aar (Nat.lt_succ_self _));have I2:=Inv.made (C:=C) I;have r2:Vals (V.ref (s.heap.objs.size + 1)::(vs++dvs)) (Value.ref (s.heap.objs.size + 1)::(us++ds)):=.cons rfl (r.append hd)
 have hl:(Value.ref (s.heap.objs.size + 1)::us++ds).length=ps.length:=by
  have e:=r2.length;rw[F.len _ _ _ _ hq]at e;exact e.symm
 refine acf (EI (f:=f) I.jb M.makes M.init (beq_iff_eq.mp M.fn) (abS (F.run _ X.stack _ _ ⟨Value.ref (s.heap.objs.size + 1)::us,[]⟩ (Value.ref (s.heap.objs.size + 1)::(us++ds)) _ _ E (hr.make C us [])
  (I2.EK.make C us []) (hb _ (Value.ref (s.heap.objs.size + 1)::us) I2.jb hl) r2 hq) λr s' hq'=>?_))
 cases r with
 | error e=>exact hx pins σ _ _ e s' I2 hq'
 | ok fl =>
  cases fl with
  | ret u =>
   obtain⟨v,H',I3,rv,ev,q3⟩:=I2.after hq';subst ev;exact⟨rv,⟨V.ref (s.heap.objs.size + 1),H',I3,rfl,q3⟩⟩
  | next=>exact False.elim hq'
  | brk=>exact False.elim hq'
  | cont=>exact False.elim hq'
theorem Je(M:Mk X.K C f)(F:bL X.prog X.w X.K X.mg X.base CX k f fd ps sp)(hr:cw (k + 1) X.A)(hg:Gl X x)(hm:X.mg x=some (.ref C))(hb:Binds X.K fd ps ds)(hd:Vals dvs ds)(hx:Passes CX X E)
  (ha:PA X (e::es) t) (hdb:(x == ("__debug__" : Str))=false:=by decide) (he:starEach (e::es) X.env=(false,eval e X.env)::starEach es X.env:=by rfl) (hpl:(backTo pos (starEach es X.env)).any (·.1)=false:=by rfl) :
  PE X (.Call (.Name x p) (e::es) [] pos) (LZ C sp dvs E t):=by
 intro pins s σ H Q I h;refine abb (gF I hg hm ?_ hdb);refine abh (h₀:=X.base) I.ok.mod.kin M.kp (bU (ha pos pins s σ H _ I h) λus s1 ⟨vs,H1,I1,r,q⟩=>⟨I1.jb,?_⟩) he hpl;exact EM M F hr hb hd hx I1 r q
end
section
variable {X:Cx} {CX:xo} {k:Nat} {f C:Addr} {fd:FuncData} {ps ks:List Str} {sp:Sp} {E:XK} {x m:Str} {p pos apos kpos:Pos} {e o:Expr} {es:List Expr} {kws:List Keyword} {te ta:TE} {t tk:TA} {nm:Option Str}
structure Ue(K:aV)(fd:FuncData)(ps ks:List Str)(g:List Value->List Value->List Value)(gV:List V->List V->List V):Prop where
 to:∀(s:Shared) (us ws:List Value),K.In s.heap->(g us ws).length=ps.length->BindsTo s fd ⟨us,ks.zip ws⟩ (ps.zip (g us ws))
 rel:∀{vs:List V} {us:List Value} {zs:List V} {ws:List Value},Vals vs us->Vals zs ws->Vals (gV vs zs) (g us ws)
variable {g:List Value->List Value->List Value} {gV:List V->List V->List V}
end
structure aS(N P:List Str)(sc:Scope):Prop where
 kind:sc.kind=.function
 co:sc.isCoroutine=false
 gen:sc.isGenerator=false
 nd:N.Nodup
 pre:N.take P.length=P
 par:∀x∈P,sc.names.lookup x=some .local∨sc.names.lookup x=some .cell
 nofree:∀y∈sc.names,y.2≠.free
theorem uA{kindOf:Str->Option NameKind}{x:Str}:∀{binds:List (Str×Value)} {m:Str->Option Value},(∀v,(x,v)∉binds)->bindL kindOf binds m x=m x
 | [],_,_=>rfl
 | (n,v)::r,m,h=>by
  unfold bindL;rw[uA λw hw=>h w (List.mem_cons_of_mem _ hw)];split
  ·have:x≠n:=by rintro rfl;exact h v aat
   simp[this]
  ·rfl
theorem uB{kindOf:Str->Option NameKind}{x:Str}:∀{binds:List (Str×Value)} {m:Str->Option Value},(∀v,(x,v)∉binds)->bindC kindOf binds m x=m x
 | [],_,_=>rfl
 | (n,v)::r,m,h=>by
  unfold bindC;rw[uB λw hw=>h w (List.mem_cons_of_mem _ hw)];split
  ·rfl
  ·have:x≠n:=by rintro rfl;exact h v aat
   simp[this]
theorem uC{kindOf:Str->Option NameKind}{x:Str}{v:Value}:∀{P:List Str} {vs:List Value} {i:Nat} {m:Str->Option Value},P.Nodup->P[i]?=some x->vs[i]?=some v->kindOf x=some .local ->
  bindL kindOf (P.zip vs) m x=some v
 | [],_,_,_,_,h,_,_=>by simp at h
 | _::_,[],_,_,_,_,h,_=>by simp at h
 | p::P,w::vs,0,m,nd,h1,h2,hk=>by
  simp at h1 h2;subst h1;subst h2;show bindL kindOf ((p,w)::P.zip vs) m p=_;unfold bindL;rw[uA λv hv=>(List.nodup_cons.mp nd).1 (List.of_mem_zip hv).1,if_pos hk];simp
 | p::P,w::vs,i + 1,m,nd,h1,h2,hk=>by
  show bindL kindOf ((p,w)::P.zip vs) m x=_;unfold bindL;exact uC (i:=i) (List.nodup_cons.mp nd).2 (by simpa using h1) (by simpa using h2) hk
theorem uD{kindOf:Str->Option NameKind}{x:Str}{v:Value}:∀{P:List Str} {vs:List Value} {i:Nat} {m:Str->Option Value},P.Nodup->P[i]?=some x->vs[i]?=some v->kindOf x≠some .local ->
  bindC kindOf (P.zip vs) m x=some v
 | [],_,_,_,_,h,_,_=>by simp at h
 | _::_,[],_,_,_,_,h,_=>by simp at h
 | p::P,w::vs,0,m,nd,h1,h2,hk=>by
  simp at h1 h2;subst h1;subst h2;show bindC kindOf ((p,w)::P.zip vs) m p=_;unfold bindC;rw[uB λv hv=>(List.nodup_cons.mp nd).1 (List.of_mem_zip hv).1,if_neg hk];simp
 | p::P,w::vs,i + 1,m,nd,h1,h2,hk=>by
  show bindC kindOf ((p,w)::P.zip vs) m x=_;unfold bindC;exact uD (i:=i) (List.nodup_cons.mp nd).2 (by simpa using h1) (by simpa using h2) hk
def start(N:List Str)(vs:List V):St:=vs.map some++List.replicate (N.length - vs.length) none
def kI(CX:xo)(P:Program)(w:World)(K:aV)(mg:Str->Option Value)(base:Heap)(N:List Str)(qual:Str)(scope:Scope)(f:Addr)(cd:Value)(A:Around)(outer:List Env)(s:Shared)(H:Hp)(E:XK)(cm:Bool:=true):Cx where
 prog:=P
 w:=w
 K:=K
 mg:=mg
 base:=base
 A:=A.deeper (envOfC qual scope s.heap.objs.size f cd)
 N:=N
 s₀:=s
 H₀:=H
 env:=envOfC qual scope s.heap.objs.size f cd
 outer:=outer
 stack:=envOfC qual scope s.heap.objs.size f cd::outer
 ex:=[]
 calm:=cm
 fn:=λ_=>true
 pn:=[]
 xe:=λe s'=>wpAny (model P w) (A.deeper (envOfC qual scope s.heap.objs.size f cd)) (leaving (envOfC qual scope s.heap.objs.size f cd) e) (λ_ s''=>CX outer H s E e s'') (λe' s''=>CX outer H s E e' s'') s'
theorem xB{sc:Scope}{n:Nat}{x:Str}(h:sc.names.lookup x=some .cell):∃c,(cellsFrom n sc.names []).lookup x=some c:=by
 have q:=acM sc.names n [] (.inl h);exact acw.mp q
theorem Cm{cm:Bool}{CX:xo}{P:Program}{w:World}{K:aV}{mg:Str->Option Value}{base:Heap}{N ps:List Str}{qual:Str}{scope:Scope}{f:Addr}{cd:Value}{A:Around}{outer:List Env}{s s1:Shared}{H:Hp}{E:XK}{us:List Value}{vs:List V}
  (S:aS N ps scope) (hd:cm=true->A.handled=none) (e0:zt P w K mg base A outer s H) (hl:vs.length=ps.length) (r:Vals vs us)
  (x:InCallC s s.heap.objs.size (bindL (envOfC qual scope s.heap.objs.size f cd).kindOf (ps.zip us) λ_=>none) (cellsFrom (s.heap.objs.size + 1) scope.names []) (bindC (envOfC qual scope s.heap.objs.size f cd).kindOf (ps.zip us) λ_=>none) s1) :
  Inv (kI CX P w K mg base N qual scope f cd A outer s H E cm) [] (start N vs) H s1:=by
 have hpl:ps.length<=N.length:=by have:=abB List.length S.pre;rw[abq]at this;omega
 obtain⟨h1,tk,rfl,hk⟩:=x.done;have noA:∀b:Addr,b∉(kI CX P w K mg base N qual scope f cd A outer s H E cm).ex:=λb z=>absurd (show b∈([]:List Addr)from z) (by simp)
 refine⟨⟨e0.mod,S.kind,rfl,rfl,aai _,λy z c h1 h2=>?_,λy hy=>?_,λy c _ h=>?_,hd,Around.frames_deeper e0.frames,.inr ⟨rfl,rfl⟩,λb z=>absurd z (noA b),e0.bs,e0.bsz,λb _ _=>noA b,λb z=>absurd z (noA b),e0.ou,e0.frf⟩,
  rfl,e0.bare,Un.kept hk,⟨_,x.toInCall.ns,λi y v h1 h2 h3=>?_⟩,λy c h=>⟨_,x.cell y c h⟩,e0.hok.fresh (Nat.le_refl _),λy c h=>?_,λp hp=>absurd (show p∈([]:List (Addr×Obj))from hp) (by simp),e0.hok.kept hk,?_⟩
 ·exact name_of_addr x.apart (abI h1) (abI h2)
 ·have hy:scope.names.lookup y=some .cell∨scope.names.lookup y=some .free:=hy;rcases hy with hy | hy
  ·exact xB hy
  ·exact absurd rfl (S.nofree _ (abI hy))
 ·exact abQ (x.above y c (abI h))
 ·have hi:i < vs.length:=by
   unfold start at h2;by_cases hi:i < vs.length
   ·exact hi
   ·rw[List.getElem?_append_right (by simpa using hi)]at h2;rw[List.getElem?_replicate]at h2;split at h2<;>cases h2
  have ha:vs[i]?=some v:=by
   unfold start at h2;rw[List.getElem?_append_left (by simpa using hi),List.getElem?_map]at h2
   cases e:vs[i]? with
   | none=>rw[e]at h2;cases h2
   | some a=>rw[e]at h2;cases h2;rfl
  obtain⟨u,hu,rv⟩:=r.get ha
  have hp:ps[i]?=some y:=by
   rw[← S.pre,acx (by omega)];exact h1
  have ndP:ps.Nodup:=by rw[← S.pre];exact S.nd.sublist (List.take_sublist _ _)
  refine⟨u,rv,?_⟩;rcases S.par y (aaG hp)with k | k
  ·exact .inl ⟨k,uC ndP hp hu k⟩
  ·obtain⟨c,e⟩:=xB (n:=s.heap.objs.size + 1) k;refine .inr ⟨.inl k,c,e,?_⟩;have q:=x.cell y c e;rw[uD ndP hp hu (by show scope.names.lookup y≠_;rw[k];decide)]at q;exact q
 ·exact e0.hok.fresh (abQ (x.above y c (abI h)))
 ·unfold start;show _=N.length;rw[List.length_append,List.length_map,List.length_replicate];omega
theorem L3{cm:Bool}{CX:xo}{P:Program}{w:World}{K:aV}{mg:Str->Option Value}{base:Heap}{k:Nat}{f:Addr}{name qual:Str}{params:Arguments}{body:List Stmt}{scope:Scope}{dV kV doc pm cdv ct oc:Value}{an od:Option Addr}
  {osl:Array (Option Value)} {N ps:List Str} {sp:Sp} (lk:K.lookup f=some ⟨oc,od,.func (PySem.W.fnOf name qual params body scope dV kV doc pm an cdv ct),osl⟩) (hcd:PySem.W.codeIn K cdv qual=true) (S:aS N ps scope)
  (len:∀vs H Q E,sp vs H Q E->vs.length=ps.length)
  (hbody:∀(A:Around) (outer:List Env) (s:Shared) (H:Hp) (vs:List V) (Q:VK) (E:XK),cw k (A.deeper (envOfC qual scope s.heap.objs.size f cdv)) cm->sp vs H Q E ->
   ∃t,oo (kI CX P w K mg base N qual scope f cdv A outer s H E cm) body t/\t {nx:=λ_ H'=>Q .non H',rt:=Q} (start N vs) H) :
  bL P w K mg base CX (k + 1) f (PySem.W.fnOf name qual params body scope dV kV doc pm an cdv ct) ps sp cm:=by
 refine⟨len,λA outer s H args us vs Q E hr e0 hb r hsp=>?_⟩;have hl:=len _ _ _ _ hsp;have KX:K.In s.heap:=e0.mod.kin.keeps λb o e=>(e0.bs b o e).1
 have lim:s.heap.NoLimit:=e0.mod.nolimit.keeps λb o e=>(e0.bs b o e).1
 have hkind:∀y∈ps.zip us,scope.names.lookup y.1=some .local∨(scope.names.lookup y.1=some .cell/\((cellsFrom (s.heap.objs.size + 1) scope.names []).lookup y.1).isSome=true):=λ⟨n,v⟩ hy=>by
  rcases S.par n (List.of_mem_zip hy).1 with q | q
  ·exact .inl q
  ·exact .inr ⟨q,acM _ _ _ (.inl q)⟩
 refine codeAny_call_function hr.depth (KX _ _ lk) rfl S.co S.gen rfl (PySem.W.codeRec_of KX hcd) (hb _ _ _ _ ?_);refine wpAny_newFunctionEnv_cells S.kind hkind λenv he s1 x=>?_
 subst he;refine⟨lim.keeps x.toInCall.keep,codeAny_func ?_⟩;obtain⟨t,ht,hq⟩:=hbody A outer s H vs Q E (hr.deeper _) hsp;have I:Inv (kI CX P w K mg base N qual scope f cdv A outer s H E cm) [] (start N vs) H s1:=Cm S hr.hd e0 hl r x;refine aam (ht [] s1 (start N vs) H _ I hq) (λfl s' hs=>?_) λe s' hs=>hs
 have fin:∀{σ':St} {H':Hp} {v:V} {u:Value},Inv (kI CX P w K mg base N qual scope f cdv A outer s H E cm) [] σ' H' s'->RelV v u->Q v H'->CE outer P w H s Q u s' :=
  λ{σ' H' v u} J rv q=>⟨v,H',J.os,J.bare,J.base,J.hok,rv,q⟩
 cases fl with
 | ret u =>
  obtain⟨v,σ',H',J,rv,q⟩:=hs;exact fin J rv q
 | next =>
  obtain⟨σ',H',J,q⟩:=hs;exact fin (v:=V.non) (u:=Value.none) J rfl q
 | brk =>
  obtain⟨_,_,_,q⟩:=hs;exact False.elim q
 | cont =>
  obtain⟨_,_,_,q⟩:=hs;exact False.elim q
section
variable {X:Cx} {x:Str} {p pos:Pos} {e:Expr} {es:List Expr} {t:TA} {id T:String} {r:List V->Hp->VK->Prop}
def Ug(r:List V->Hp->VK->Prop)(t:TA):TE:=λσ H Q=>t σ H λvs H1=>r vs H1 Q
theorem qZ(hc:iV X (.builtin id) r)(hg:Gl X x)(hm:X.mg x=none)(hv:bootBuiltins x=some (.builtin id))(ha:PA X (e::es) t)(hn:x≠"__name__":=by decide)(hdb:(x == ("__debug__" : Str))=false:=by decide)
  (he:starEach (e::es) X.env=(false,eval e X.env)::starEach es X.env:=by rfl) (hpl:(backTo pos (starEach es X.env)).any (·.1)=false:=by rfl):PE X (.Call (.Name x p) (e::es) [] pos) (Ug r t):=by
 intro pins s σ H Q I h;refine abb (oy I hg hm hv ?_ hn hdb);exact PyProof.Rows.callWith_builtin1 (bU (ha pos pins s σ H _ I h) λus s1 ⟨vs,H1,I1,r1,q1⟩=>hc pins s1 σ H1 vs us Q I1 r1 q1) he hpl
theorem lW(hc:iV X (.type T) r)(hg:Gl X x)(hm:X.mg x=none)(hv:bootBuiltins x=some (.type T))(ha:PA X (e::es) t)(hn:x≠"__name__":=by decide)(hdb:(x == ("__debug__" : Str))=false:=by decide)
  (he:starEach (e::es) X.env=(false,eval e X.env)::starEach es X.env:=by rfl) (hpl:(backTo pos (starEach es X.env)).any (·.1)=false:=by rfl):PE X (.Call (.Name x p) (e::es) [] pos) (Ug r t):=by
 intro pins s σ H Q I h;refine abb (oy I hg hm hv ?_ hn hdb);exact abu (bU (ha pos pins s σ H _ I h) λus s1 ⟨vs,H1,I1,r1,q1⟩=>hc pins s1 σ H1 vs us Q I1 r1 q1) he hpl
end
end L2
namespace HT
open PySem PyProof.Rows
section
open PySem.SeqAt
open PySem.AutoSeq1 (wpAny_loadPart')
open PySem.MeetsSeq PySem.MeetsSeq2 PySem.MeetsSeq3
end
section
variable {prog:Program} {w:World} {A:Around} {E:Value->Shared->Prop} {s:Shared}
theorem Jf{t b:Addr}{vs ws:List Value}{Q:Value->Shared->Prop}(ht:IsTup s.heap t vs.toArray)(hb:IsTup s.heap b ws.toArray)(hv:vs≠[])
  (h1:ws=[]->Q (.ref t) s) (h2:ws≠[]->Q (.ref s.heap.objs.size) {s with heap:=s.heap.push {cls:=.type "tuple",data:=.seq (vs++ws).toArray}})
  (hsz:vs.length + ws.length<=sizeLine):wpAny (model prog w) A (binaryOp .Add (.ref t) (.ref b)) Q E s:=by
 obtain⟨⟨cls,dd,data,sl⟩,ho,hc,n,hd⟩:=id ht;obtain⟨⟨Zt,Xe,data2,M8⟩,Co,L4,n2,hd2⟩:=id hb;simp only at hc hd L4 hd2;subst hc hd L4 hd2;have e:vs.toArray++ws.toArray=(vs++ws).toArray:=by simp
 by_cases hw:ws=[]
 ·exact concat_meets ⟨_,ho,rfl⟩ ⟨_,Co,rfl⟩ noFill_tuple_add seq_tuple_add acN acH (acy _ _)
   (tuple_addW1 t b vs.toArray ws.toArray n n2 dd Xe sl M8 (by simpa using hv) (by simp[hw])) ⟨ho,Co,h1 hw⟩
 ·refine concat_meets ⟨_,ho,rfl⟩ ⟨_,Co,rfl⟩ noFill_tuple_add seq_tuple_add acN acH (acy _ _)
   (tuple_addW2 t b vs.toArray ws.toArray n n2 dd Xe sl M8 (by simpa using hv) (by simpa using hw) (by rw[List.size_toArray,List.size_toArray];exact hsz)) ⟨ho,Co,?_⟩
  rw[e];exact h2 hw
def eL(n d:Nat):Option Int->Nat
 | none=>d
 | some v=>if v < 0 then(v + (n:Int)).toNat else min v.toNat n
theorem M9(n d:Nat)(hd:d<=n)(o:Option Int):eL n d o<=n:=by
 cases o with
 | none=>exact hd
 | some v =>
  show(if v < 0 then(v + (n:Int)).toNat else min v.toNat n)<=n;by_cases hv:v < 0
  ·rw[aaw hv];omega
  ·rw[aas hv];exact Nat.min_le_right _ _
theorem Be(v:Int)(n d:Nat):(if v < 0 then max (v + (n:Int)) 0 else min v (n:Int))=((eL n d (some v):Nat):Int):=by
 show(if v < 0 then max (v + (n:Int)) 0 else min v (n:Int))=(((if v < 0 then(v + (n:Int)).toNat else min v.toNat n):Nat):Int);by_cases hv:v < 0
 ·simp only[if_pos hv];omega
 ·simp only[if_neg hv];omega
theorem zv(lo hi:Option Int)(n:Nat):Builtin.Slice.sliceAdjust lo hi 1 (n:Int)=(((eL n 0 lo:Nat):Int),((eL n n hi:Nat):Int)):=by
 have h1:¬ ((1:Int) < 0):=by omega
 unfold Builtin.Slice.sliceAdjust;simp only[h1,if_false];refine Prod.ext ?_ ?_
 ·cases lo with
  | none=>rfl
  | some v=>exact Be v n 0
 ·cases hi with
  | none=>rfl
  | some v=>exact Be v n n
theorem zw(i j:Nat):Builtin.Slice.slicePlaces (i:Int) (j:Int) 1=j - i:=by
 unfold Builtin.Slice.slicePlaces;have h1:(1:Int) > 0:=by omega
 simp only[h1,if_true,Int.ediv_one];split<;>omega
theorem ra{v:Value}{o:Option Int}{Q:Option Int->Shared->Prop}(p:IsPart v o)(h:Q o s):wpAny (model prog w) A (Builtin.Slice.slicePartIndex v) Q E s:=by
 cases p with
 | none=>exact slicePart_none h
 | int i t=>exact slicePart_int h
theorem jL{sl:Addr}{vl vu:Value}{lo hi:Option Int}{n:Nat}{Q:Int×Int×Nat->Shared->Prop}(hs:s.heap.IsSliceOf sl vl vu .none)(pl:IsPart vl lo)(pu:IsPart vu hi)
  (h:Q (((eL n 0 lo:Nat):Int),1,eL n n hi - eL n 0 lo) s):wpAny (model prog w) A (Builtin.Slice.sliceApplied (.ref sl) (pure (n:Int))) Q E s:=by
 obtain⟨os,hos,hcs,hds⟩:=id hs;unfold Builtin.Slice.sliceApplied Builtin.Slice.sliceFields;refine wpAny_bind (wpAny_bind (wpAny_field hos hds (x:=vl) rfl (wpAny_bind (wpAny_field hos hds (x:=vu) rfl (wpAny_bind (wpAny_field hos hds (x:=.none) rfl (wpAny_pure ?_)))))));refine wpAny_bind (slicePart_none ?_);show wpAny _ _ (if ((1:Int) == 0)=true then _ else _) _ _ s;rw[if_neg (by decide)];refine wpAny_bind (ra pl (wpAny_bind (ra pu (wpAny_bind (wpAny_pure ?_)))));show wpAny _ _ (match Builtin.Slice.sliceAdjust lo hi 1 (n:Int)with | (lo,hi)=>pure (lo,(1:Int),Builtin.Slice.slicePlaces lo hi 1)) _ _ s;rw[zv lo hi n];show wpAny _ _ (pure (((eL n 0 lo:Nat):Int),(1:Int),Builtin.Slice.slicePlaces ((eL n 0 lo:Nat):Int) ((eL n n hi:Nat):Int) 1)) _ _ s;rw[zw];exact wpAny_pure h
theorem EN(xs:Array Value)(i k:Nat):((List.range k).filterMap λ(m:Nat)=>xs[((i:Int) + (m:Int) * 1).toNat]?).toArray=((xs.toList.drop i).take k).toArray:=by
 have e:(λ(m:Nat)=>xs[((i:Int) + (m:Int) * 1).toNat]?)=λm=>xs[i + m]?:=by
  funext m
  have:((i:Int) + (m:Int) * 1).toNat=i + m:=by omega
  rw[this]
 rw[e];have:=pick_run xs i k;rw[List.filterMap_map]at this;have e2:((λx=>xs[x]?) ∘ λx=>i + x)=λm=>xs[i + m]?:=rfl
 rw[e2]at this;rw[this]
theorem nq{t sl:Addr}{items:Array Value}{vl vu:Value}{lo hi:Option Int}{Q:Value->Shared->Prop}(ht:IsTup s.heap t items)(hs:s.heap.IsSliceOf sl vl vu .none)(pl:IsPart vl lo)(pu:IsPart vu hi)
  (hw:¬ (eL items.size 0 lo=0/\eL items.size items.size hi=items.size))
  (h:Q (.ref s.heap.objs.size) {s with heap:=s.heap.push {cls:=.type "tuple",data:=.seq ((items.toList.drop (eL items.size 0 lo)).take (eL items.size items.size hi - eL items.size 0 lo)).toArray}})
  (hsz:items.size<=sizeLine):wpAny (model prog w) A (getItem (.ref t) (.ref sl)) Q E s:=by
 have htake:sizeOk (.seq ((items.toList.drop (eL items.size 0 lo)).take (eL items.size items.size hi - eL items.size 0 lo)).toArray):=by
  show((items.toList.drop (eL items.size 0 lo)).take (eL items.size items.size hi - eL items.size 0 lo)).toArray.size<=sizeLine;rw[aaS,abq,acz,Array.length_toList];omega
 have hj:eL items.size items.size hi<=items.size:=M9 _ _ (Nat.le_refl _) hi;obtain⟨os,hos,hcs,hds⟩:=id hs;have hTs:s.TypeIs (.ref sl) "slice":=⟨os,hos,hcs⟩;unfold getItem
 try with_reducible refine aa3 ?_
 first | refine aaa (aag ?_) | skip
 refine aaa (wpAny_sequenceKey ht.typeIs (by decide) ?_);refine aaa (wpAny_callSpecial?_slot (name:=Str.ofString "__getitem__") ht.typeIs abJ
  (acA abJ ht.typeIs entry_tuple_getitem ?_ (args_tuple_getitem _ _)))
 show wpAny _ _ (Builtin.Tuple.tupleItemsOf (.ref t) >>= _) _ _ s;refine aaa (tupleItemsOf_ ht ?_);refine aaa (wpAny_typeOf hTs ?_);rw[aaw (by decide)];refine aaa (jL hs pl pu ?_)
 have hno:¬ ((((eL items.size 0 lo:Nat):Int) == 0&&(1:Int) == 1&&(eL items.size items.size hi - eL items.size 0 lo) == items.size)=true):=by
  intro q;rw[ab4,ab4]at q;have q1:((eL items.size 0 lo:Nat):Int)=0:=eq_of_beq q.1.1;have q2:eL items.size items.size hi - eL items.size 0 lo=items.size:=eq_of_beq q.2;exact hw ⟨by omega,by omega⟩
 show wpAny _ _ (if (((eL items.size 0 lo:Nat):Int) == 0&&(1:Int) == 1&&(eL items.size items.size hi - eL items.size 0 lo) == items.size)=true then _ else _) _ _ s;rw[aas hno,EN]
 first
  | exact aaa (m:=Builtin.Tuple.tupleExact _) (abD (aag ⟨_,rfl,aag h⟩) htake)
  | exact aaa (m:=Builtin.Tuple.tupleExact _) (abD (aaa (aag (aag ⟨_,rfl,aag h⟩))) htake)
  | exact aaa (aaa (m:=Builtin.Tuple.tupleExact _) (abD (aag (aag ⟨_,rfl,aag h⟩)) htake))
  | exact aaa (aaa (m:=Builtin.Tuple.tupleExact _) (abD (aag ⟨_,rfl,aag h⟩) htake))
end
end HT
namespace L2
open PySem PySem.Spec PyProof.Rows
abbrev TO:=St->Hp->(Option Int->Hp->Prop)->Prop
def PO(X:Cx)(e:Option Expr)(t:TO):Prop :=
 ∀(pins:List (Addr×Obj)) (s:Shared) (σ:St) (H:Hp) (Q:Option Int->Hp->Prop),Inv X pins σ H s->t σ H Q ->
  wpAny (model X.prog X.w) X.A (evalPart e X.env) (λu s'=>∃o H',Inv X pins σ H' s'/\IsPart u o/\Q o H') X.xe s
def Jg:TO:=λ_ H Q=>Q none H
def QY(t:TE):TO:=λσ H Q=>t σ H λx H1=>∃i,x=.int i/\Q (some i) H1
section
variable {X:Cx} {e:Expr} {te:TE} {lo hi:Option Expr} {tl th:TO} {pos p2:Pos}
theorem Bf:PO X none Jg:=by
 intro pins s σ H Q I h;rw[evalPart_none];exact aag ⟨none,H,I,.none,h⟩
theorem Bg(h:PE X e te):PO X (some e) (QY te):=by
 intro pins s σ H Q I hw;rw[evalPart_some];refine bU (h pins s σ H _ I hw) λu s1 ⟨x,H1,I1,r1,q1⟩=>?_
 obtain⟨i,rfl,q⟩:=q1;obtain⟨t,rfl⟩:=r1;exact⟨some i,H1,I1,.int i t,q⟩
def Ip(X:Cx)(r:V->Option Int->Option Int->Hp->VK->Prop):Prop :=
 ∀(pins:List (Addr×Obj)) (s:Shared) (σ:St) (H:Hp) (x:V) (v vl vu:Value) (lo hi:Option Int) (sl:Addr) (Q:VK),Inv X pins σ H s->RelV x v->s.heap.IsSliceOf sl vl vu .none->IsPart vl lo->IsPart vu hi->r x lo hi H Q ->
  ∃T id,typeLookup (.type T) "__getitem__"=pure (some (.builtin id))/\s.TypeIs v T/\wpAny (model X.prog X.w) X.A (getItem v (.ref sl)) (EP X pins σ Q) X.xe s
def Zu(r:V->Option Int->Option Int->Hp->VK->Prop)(te:TE)(tl th:TO):TE:=λσ H Q=>te σ H λx H1=>tl σ H1 λl H2=>th σ H2 λu H3=>r x l u H3 Q
theorem xC{r:V->Option Int->Option Int->Hp->VK->Prop}(hr:Ip X r)(he:PE X e te)(hl:PO X lo tl)(hu:PO X hi th):PE X (.Subscript e (.Slice lo hi none p2) pos) (Zu r te tl th):=by
 intro pins s σ H Q I h;refine Subscript_ (bU (he pins s σ H _ I h) λv s1 ⟨x,H1,I1,r1,q1⟩=>?_);refine wpAny_Slice (bU (hl pins s1 σ H1 _ I1 q1) λvl s2 ⟨l,H2,I2,pl,q2⟩=>bU (hu pins s2 σ H2 _ I2 q2) λvu s3 ⟨u,H3,I3,pu,q3⟩=>?_);rw[evalPart_none];refine aag ?_;have I4:Inv X pins σ H3 {s3 with heap:=s3.heap.push {cls:=.type "slice",data:=.fields #[vl,vu,.none]}}:=I3.kept (t':=s3.toks) λb ob q=>aaf _ q
 obtain⟨T,id,hT,ht,hg⟩:=hr pins {s3 with heap:=s3.heap.push {cls:=.type "slice",data:=.fields #[vl,vu,.none]}} σ H3 x v vl vu l u s3.heap.objs.size Q I4 r1 (Heap.IsSliceOf.new ..) pl pu q3;show wpAny (model X.prog X.w) X.A (subscriptTail e (.Slice lo hi none p2) v (.ref s3.heap.objs.size)) (EP X pins σ Q) X.xe {s3 with heap:=s3.heap.push {cls:=.type "slice",data:=.fields #[vl,vu,.none]}};exact tail_any (ops:=[.ref s3.heap.objs.size,v]) ht hT hg (by with_unfolding_all rfl)
def rb(xs:List V)(lo hi:Option Int):List V:=(xs.drop (HT.eL xs.length 0 lo)).take (HT.eL xs.length xs.length hi - HT.eL xs.length 0 lo)
theorem p6(xs:List V)(lo hi:Option Int):(rb xs lo hi).length<=xs.length:=by
 unfold rb;rw[List.length_take,List.length_drop];omega
def Uh(K:aV):V->Option Int->Option Int->Hp->VK->Prop:=λx lo hi H Q=>∃a xs,x=.ref a/\cX K H a xs /\
 ¬ (HT.eL xs.length 0 lo=0/\HT.eL xs.length xs.length hi=xs.length)/\∀p,H p=none->Q (.ref p) (upd H p (.tup (rb xs lo hi)))
theorem EO:Ip X (Uh X.K):=by
 intro pins s σ H x v vl vu lo hi sl Q I rx hs pl pu h;obtain⟨a,xs,rfl,hx,hw,q⟩:=h;cases rx;obtain⟨its,r,ht,hz⟩:=I.tuple hx;have hlen:its.toArray.size=xs.length:=by rw[aaS];exact r.length.symm
 refine⟨"tuple",_,abJ.lookup,ht.typeIs,?_⟩;refine HT.nq ht hs pl pu (by rw[hlen];exact hw) ?_ (by rw[hlen];exact hz);rw[hlen];refine⟨.ref s.heap.objs.size,_,I.laid (t':=s.toks) (o:=.tup (rb xs lo hi)) (λb ob q=>aaf _ q) (aai _) ?_,rfl,q _ (I.hok.fresh (aai _))⟩;exact⟨aaF (p6 xs lo hi) hz,_,(r.drop (HT.eL xs.length 0 lo)).take (HT.eL xs.length xs.length hi - HT.eL xs.length 0 lo),IsTup.new _ _⟩
def QZ(K:aV):R2:=λx y H Q=>∃a b xs ys,x=.ref a/\y=.ref b/\cX K H a xs/\cX K H b ys/\xs≠[]/\xs.length + ys.length<=sizeLine /\
 (ys=[]->Q (.ref a) H)/\(ys≠[]->∀p,H p=none->Q (.ref p) (upd H p (.tup (xs++ys))))
theorem Vals.vx{xs:List V}{us:List Value}(r:Vals xs us):us=[]↔xs=[]:=by
 cases r with
 | nil=>simp
 | cons _ _=>simp
theorem Jh:jH X (binaryOp .Add) (QZ X.K):=by
 intro pins s σ H x y v u Q I rx ry h;obtain⟨a,b,xs,ys,rfl,rfl,ha,hb,hx,hz,q1,q2⟩:=h;cases rx;cases ry;obtain⟨its,r1,p1,_⟩:=I.tuple ha;obtain⟨Cp,r2,p2,_⟩:=I.tuple hb;refine HT.Jf p1 p2 (λz=>hx (r1.vx.mp z)) (λz=>⟨.ref a,H,I,rfl,q1 (r2.vx.mp z)⟩) (λz=>?_) (by rw[← r1.length,← r2.length];exact hz);refine⟨.ref s.heap.objs.size,_,I.laid (t':=s.toks) (o:=.tup (xs++ys)) (λb ob q=>aaf _ q) (aai _) ?_,rfl,q2 (λw=>z (r2.vx.mpr w)) _ (I.hok.fresh (aai _))⟩;exact⟨by rw[aaZ];exact hz,_,r1.append r2,IsTup.new _ _⟩
end
def ER(n:Nat)(i:Int):Option Nat:=if 0<=i then(if i < n then some i.toNat else none)else if -(n:Int)<=i then some (i + n).toNat else none
def p7{α:Type}(xs:List α)(i:Int):Option α:=(ER xs.length i).bind λj=>xs[j]?
theorem Bh{n:Nat}{i:Int}{j:Nat}(h:ER n i=some j):seqIndex? i n=some j/\j < n/\-(n:Int)<=i/\i < n:=by
 unfold ER at h;by_cases h0:0<=i
 ·rw[aaw h0]at h;by_cases h1:i < n
  ·rw[aaw h1]at h;have e:i.toNat=j:=aak h;exact⟨by rw[seqIndex_of h0 h1,e],by omega,by omega,h1⟩
  ·rw[aas h1]at h;cases h
 ·rw[aas h0]at h;by_cases h1:-(n:Int)<=i
  ·rw[aaw h1]at h;have e:(i + n).toNat=j:=aak h;exact⟨by rw[seqIndex_neg (by omega) h1,e],by omega,h1,by omega⟩
  ·rw[aas h1]at h;cases h
theorem vy{α:Type}{xs:List α}{i:Int}{v:α}(h:p7 xs i=some v):∃j,seqIndex? i xs.length=some j/\xs[j]?=some v/\j < xs.length/\-(xs.length:Int)<=i/\i < xs.length:=by
 unfold p7 at h
 cases e:ER xs.length i with
 | none=>rw[e]at h;cases h
 | some j =>
  rw[e]at h;obtain⟨h1,h2,h3,h4⟩:=Bh e;exact⟨j,h1,h,h2,h3,h4⟩
theorem aN{α:Type}{xs:List α}{j:Nat}{v:α}(h:xs[j]?=some v):p7 xs (j:Int)=some v:=by
 have hj:j < xs.length:=(ft h).1
 have e:ER xs.length (j:Int)=some j:=by
  unfold ER;rw[if_pos (by omega),if_pos (by omega)];simp
 unfold p7;rw[e];exact h
def vz(b:Expr):Prop:=∀o i,subscripted b false o i=operate [o,i] (getItem o i)
def Ji(X:Cx)(r:R2):Prop :=
 ∀(value slice:Expr) (pins:List (Addr×Obj)) (s:Shared) (σ:St) (H:Hp) (x y:V) (v u:Value) (Q:VK),Inv X pins σ H s->RelV x v->RelV y u->r x y H Q ->
  subscripted slice false v u=operate [v,u] (getItem v u)->wpAny (model X.prog X.w) X.A (subscriptTail value slice v u) (EP X pins σ Q) X.xe s
def Zv(X:Cx)(id:String)(r:V->List V->Hp->VK->Prop):Prop :=
 ∀(pins:List (Addr×Obj)) (s:Shared) (σ:St) (H:Hp) (x:V) (xs:List V) (v:Value) (us:List Value) (Q:VK),Inv X pins σ H s->RelV x v->Vals xs us->r x xs H Q ->
  wpAny (model X.prog X.w) X.A (call (.builtin id) (v::us)) (EP X pins σ Q) X.xe s
section
variable {X:Cx} {a b:Expr} {ta tb:TE} {pos:Pos}
theorem Ji.or{r r':R2}(h:Ji X r)(h':Ji X r'):Ji X (λx y H Q=>r x y H Q∨r' x y H Q):=by
 intro value slice pins s σ H x y v u Q I rx ry q hs;rcases q with q | q
 ·exact h value slice pins s σ H x y v u Q I rx ry q hs
 ·exact h' value slice pins s σ H x y v u Q I rx ry q hs
theorem aQ{r:R2}(hr:Ji X r)(ha:PE X a ta)(hb:PE X b tb)(hs:vz b):PE X (.Subscript a b pos) (Ql r ta tb):=by
 intro pins s σ H Q I h;exact Subscript_ (M0 ha hb I h λv u s2 x y H2 I2 rx ry q=>hr a b pins s2 σ H2 x y v u Q I2 rx ry q (hs _ _))
inductive Q0(K:aV)(x y:V)(H:Hp)(Q:VK):Prop where
 | mk (p:Addr) (xs:List V) (i:Int) (v:V) (e:x=.ref p) (f:y=.int i) (s:bZ K H p xs) (a:p7 xs i=some v) (q:Q v H):Q0 K x y H Q
def Jk(K:aV):R2:=λx y H Q=>Q0 K x y H Q
inductive Q2(K:aV)(x y:V)(H:Hp)(Q:VK):Prop where
 | mk (p:Addr) (xs:List V) (i:Int) (v:V) (e:x=.ref p) (f:y=.int i) (s:cX K H p xs) (a:p7 xs i=some v) (q:Q v H):Q2 K x y H Q
def xD(K:aV):R2:=λx y H Q=>Q2 K x y H Q
def Q3:R2:=λx y H Q=>∃z i c,x=.str z/\y=.int i/\z.length<=sizeLine/\p7 z.cps.toList i=some c/\Q (.str ⟨#[c]⟩) H
theorem bH:Ji X (Jk X.K):=by
 intro value slice pins s σ H x y v u Q I rx ry h hs;obtain⟨p,xs,i,z,rfl,rfl,hq,he,q⟩:=h;cases rx;obtain⟨t,rfl⟩:=ry;obtain⟨its,r,pl,hz⟩:=I.list hq;obtain⟨j,h1,h2,h3,h4,h5⟩:=vy he;obtain⟨w,ew,rw'⟩:=r.get h2;have hl:=r.length;have hn:=oE;have fin:EP X pins σ Q w s:=⟨z,H,I,rw',q⟩;by_cases h0:0<=i
 ·have hj:i.toNat=j:=by
   rw[seqIndex_of h0 h5]at h1;exact aak h1
  exact item_listR pl.isList h0 (by omega) (by rw[hj];simpa using ew) fin hs
 ·have hj:(i + (its.toArray.size:Int)).toNat=j:=by
   rw[seqIndex_neg (by omega) h4]at h1;rw[aaS,← hl];exact aak h1
  exact subscriptTail_builtinR (x:=w) pl.isList.typeIs slot_list_getitem.lookup
   (wpAny_getItem_list_neg (Q:=λr s'=>r=w/\EP X pins σ Q r s') pl.isList (by omega) (by rw[List.size_toArray]<;>omega) (by omega) (by rw[hj];simpa using ew) ⟨rfl,fin⟩) hs
theorem aU:Ji X (xD X.K):=by
 intro value slice pins s σ H x y v u Q I rx ry h hs;obtain⟨p,xs,i,z,rfl,rfl,hq,he,q⟩:=h;cases rx;obtain⟨t,rfl⟩:=ry;obtain⟨its,r,pl,hz⟩:=I.tuple hq;obtain⟨j,h1,h2,h3,h4,h5⟩:=vy he;obtain⟨w,ew,rw'⟩:=r.get h2;have hl:=r.length;have hn:=oE;have fin:EP X pins σ Q w s:=⟨z,H,I,rw',q⟩;exact subscriptTail_builtinR (x:=w) pl.typeIs slot_tuple_getitem.lookup
  (getItem_tuple (j:=j) (Q:=λr s'=>r=w/\EP X pins σ Q r s') pl (by omega) (by omega) (by rw[List.size_toArray,← hl];exact h1) (by simpa using ew) ⟨rfl,fin⟩) hs
theorem Na:Ji X Q3:=by
 intro value slice pins s σ H x y v u Q I rx ry h hs;obtain⟨z,i,c,rfl,rfl,hz,he,q⟩:=h;obtain⟨t,rfl⟩:=rx;obtain⟨t',rfl⟩:=ry;obtain⟨j,h1,h2,h3,h4,h5⟩:=vy he;have hl:z.cps.toList.length=z.length:=by simp[Str.length]
 rw[hl]at h1 h4 h5;have hn:=oE
 exact tail_any (typeIs_str s z t) slot_str_getitem.lookup (getItem_str (c:=c) (by
  have e1:decide (i < -(2 ^ 63:Int))=false:=decide_eq_false (by omega);have e2:decide (i ≥ 2 ^ 63)=false:=decide_eq_false (by omega);rw[e1,e2,Bool.or_false]) (by rw[h1];simpa using h2) ⟨.str ⟨#[c]⟩,H,I.tok _,⟨_,rfl⟩,q⟩) hs
def Xf(K:aV):R2:=λx y H Q=>Jk K x y H Q∨xD K x y H Q∨Q3 x y H Q
theorem ES:Ji X (Xf X.K):=bH.or (aU.or Na)
theorem zx(its:List Value)(n j:Nat)(u:Value):Obj.mapSeq (·.setIfInBounds j u) {cls:=.type "list",data:=.seq its.toArray n}={cls:=.type "list",data:=.seq (its.set j u).toArray n}:=by
 simp[Obj.mapSeq]
theorem Inv.lst{pins:List (Addr×Obj)}{σ:St}{H:Hp}{s:Shared}{p:Addr}{xs:List V}(I:Inv X pins σ H s)(h:H p=some (.lst xs)):
  ∃(its:List Value) (n:Nat),Vals xs its/\s.heap.get? p=some {cls:=.type "list",data:=.seq its.toArray n}/\xs.length<=sizeLine:=by
 obtain⟨z,its,n,r,e⟩:=I.hok p _ h;exact⟨its,n,r,e,z⟩
theorem Inv.Nb{pins:List (Addr×Obj)}{σ:St}{H:Hp}{s:Shared}{p:Addr}{xs ys:List V}{its its':List Value}{n n':Nat}{f:Obj->Obj}(I:Inv X pins σ H s)(h:H p=some (.lst xs))
  (ho:s.heap.get? p=some {cls:=.type "list",data:=.seq its.toArray n}) (hf:f {cls:=.type "list",data:=.seq its.toArray n}={cls:=.type "list",data:=.seq its'.toArray n'}) (r:Vals ys its') (hz:ys.length<=sizeLine) (t:Nat) :
  Inv X pins σ (upd H p (.lst ys)) {s with heap:=s.heap.update p f,toks:=t}:=by
 have e:(s.heap.update p f).get? p=some {cls:=.type "list",data:=.seq its'.toArray n'}:=by
  rw[abi f ho (by rw[hf]<;>rfl),hf]
 refine I.write (x:=p) (e:=p) (by rw[h];trivial) (.inl rfl) (λb u hb q=>(abO _ _ (abX hb)).trans q) ⟨_,e⟩ ?_;exact⟨hz,its',n',r,e⟩
def L5:V->V->V->Hp->(Hp->Prop)->Prop:=λo i v H Q=>∃p xs k j,o=.ref p/\i=.int k/\H p=some (.lst xs)/\ER xs.length k=some j/\Q (upd H p (.lst (xs.set j v)))
theorem set_list:QL X L5:=by
 intro pins s σ H o i v ov iv u Q I ro ri rv h;obtain⟨p,xs,k,j,rfl,rfl,hp,hj,q⟩:=h;cases ro;obtain⟨t,rfl⟩:=ri;obtain⟨its,n,r,ho,hz⟩:=I.lst hp;obtain⟨h1,h2,h3,h4⟩:=Bh hj;have hl:=r.length;have hn:=oE
 have I':Inv X pins σ (upd H p (.lst (xs.set j v))) {s with heap:=s.heap.update p (Obj.mapSeq (·.setIfInBounds j u))} :=
  I.Nb hp ho (zx its n j u) (r.set rv j) (by rw[aaX];exact hz) s.toks
 by_cases h0:0<=k
 ·have hk:k.toNat=j:=by
   rw[seqIndex_of h0 h4]at h1;exact aak h1
  exact PySem.W.ki_setAt ho h0 (by omega) (by rw[aaS,← hl];exact h4) (by rw[hk];exact⟨_,I',q⟩)
 ·have hk:(k + (its.toArray.size:Int)).toNat=j:=by
   rw[seqIndex_neg (by omega) h3]at h1;rw[aaS,← hl];exact aak h1
  exact PySem.W.ki_setBack ho (by omega) (by rw[aaS,← hl];exact h3) (by omega) (by rw[hk];exact⟨_,I',q⟩)
theorem vA(lo hi:Option Int)(n:Nat):(sliceBounds lo hi none n).1=((HT.eL n 0 lo:Nat):Int)/\(sliceBounds lo hi none n).2.1=((HT.eL n n hi:Nat):Int)/\(sliceBounds lo hi none n).2.2=1:=by
 refine⟨?_,?_,rfl⟩
 ·cases lo with
  | none=>simp[sliceBounds,HT.eL]
  | some i =>
   simp only[sliceBounds,HT.eL,Option.getD_none,show(1:Int) > 0 by decide,if_true];by_cases h:i < 0
   ·simp only[h,if_true]<;>omega
   ·simp only[h,if_false]<;>omega
 ·cases hi with
  | none=>simp[sliceBounds,HT.eL]
  | some i =>
   simp only[sliceBounds,HT.eL,Option.getD_none,show(1:Int) > 0 by decide,if_true];by_cases h:i < 0
   ·simp only[h,if_true]<;>omega
   ·simp only[h,if_false]<;>omega
theorem tP(its:List Value)(lo hi:Option Int):slicePick its.toArray lo hi none=((its.drop (HT.eL its.length 0 lo)).take (HT.eL its.length its.length hi - HT.eL its.length 0 lo)).toArray:=by
 obtain⟨h1,h2,h3⟩:=vA lo hi its.toArray.size;unfold slicePick;rw[h1,h2,h3];simp only[sliceRange_one,pick_run,List.size_toArray]<;>rfl
def Q4(K:aV):V->Option Int->Option Int->Hp->VK->Prop:=λx lo hi H Q=>∃a xs,x=.ref a/\bZ K H a xs/\∀p,H p=none->Q (.ref p) (upd H p (.lst (rb xs lo hi)))
theorem Jl:Ip X (Q4 X.K):=by
 intro pins s σ H x v vl vu lo hi sl Q I rx hs pl pu h;obtain⟨a,xs,rfl,hx,q⟩:=h;cases rx;obtain⟨its,r,ht,hz⟩:=I.list hx;have hlen:=r.length;refine⟨"list",_,slot_list_getitem.lookup,ht.isList.typeIs,?_⟩;refine wpAny_getItem_list_slice ht.isList hs pl pu .none (by simp) ?_ (by rw[List.size_toArray]<;>omega)
 rw[tP,← hlen];refine⟨.ref s.heap.objs.size,_,I.laid (t':=s.toks) (o:=.lst (rb xs lo hi)) (λb ob q=>aaf _ q) (aai _) ?_,rfl,q _ (I.hok.fresh (aai _))⟩;exact⟨aaF (p6 xs lo hi) hz,_,0,(r.drop (HT.eL xs.length 0 lo)).take (HT.eL xs.length xs.length hi - HT.eL xs.length 0 lo),aaC _ rfl⟩
def mr:V->Bool
 | .non=>true
 | .bl _=>true
 | .int _=>true
 | .str _=>true
 | _=>false
def Jm:V->V->Bool
 | .non,.non=>true
 | .bl a,.bl b=>a == b
 | .bl a,.int b=>(if a then 1 else 0) == b
 | .int a,.bl b=>a == (if b then 1 else 0)
 | .int a,.int b=>a == b
 | .str a,.str b=>a == b
 | _,_=>false
theorem Nd{A:Around}{s:Shared}{y x:V}{u v:Value}(ry:RelV y u)(rx:RelV x v)(fy:mr y=true)(fx:mr x=true):SeqAt.EqAt A s u v (Jm y x):=by
 cases y with
 | non =>
  cases ry
  cases x with
  | non=>cases rx;exact SeqAt.EqAt.same _
  | bl b=>cases rx;exact SeqAt.EqAt.none_bool b
  | int b=>obtain⟨t,rfl⟩:=rx;exact SeqAt.EqAt.none_int b t
  | str b=>obtain⟨t,rfl⟩:=rx;exact SeqAt.EqAt.none_str b t
  | _=>exact absurd (show false=true from fx) aaj
 | bl a =>
  cases ry
  cases x with
  | non=>cases rx;exact SeqAt.EqAt.bool_none a
  | bl b=>cases rx;exact SeqAt.EqAt.bool_bool a b
  | int b=>obtain⟨t,rfl⟩:=rx;exact SeqAt.EqAt.bool_int a b t
  | str b=>obtain⟨t,rfl⟩:=rx;exact SeqAt.EqAt.bool_str a b t
  | _=>exact absurd (show false=true from fx) aaj
 | int a =>
  obtain⟨t',rfl⟩:=ry
  cases x with
  | non=>cases rx;exact SeqAt.EqAt.int_none a t'
  | bl b=>cases rx;exact SeqAt.EqAt.int_bool a t' b
  | int b=>obtain⟨t,rfl⟩:=rx;exact SeqAt.EqAt.int_int a t' b t
  | str b=>obtain⟨t,rfl⟩:=rx;exact SeqAt.EqAt.int_str a t' b t
  | _=>exact absurd (show false=true from fx) aaj
 | str a =>
  obtain⟨t',rfl⟩:=ry
  cases x with
  | non=>cases rx;exact SeqAt.EqAt.str_none a t'
  | bl b=>cases rx;exact SeqAt.EqAt.str_bool a t' b
  | int b=>obtain⟨t,rfl⟩:=rx;exact SeqAt.EqAt.str_int a t' b t
  | str b=>obtain⟨t,rfl⟩:=rx;exact SeqAt.EqAt.str_str a t' b t
  | _=>exact absurd (show false=true from fx) aaj
 | _=>exact absurd (show false=true from fy) aaj
def Jn(x:V)(u:Value):Bool:=match u with
 | .none=>Jm .non x
 | .bool b=>Jm (.bl b) x
 | .int i _=>Jm (.int i) x
 | .str z _=>Jm (.str z) x
 | _=>false
theorem ET{x y:V}{u:Value}(r:RelV y u)(f:mr y=true):Jn x u=Jm y x:=by
 cases y with
 | non=>cases r;rfl
 | bl b=>cases r;rfl
 | int i=>obtain⟨t,rfl⟩:=r;rfl
 | str z=>obtain⟨t,rfl⟩:=r;rfl
 | _=>exact absurd (show false=true from f) aaj
theorem vB{x:V}:∀{xs:List V} {us:List Value},Vals xs us->xs.all mr=true->us.any (Jn x)=xs.any λy=>Jm y x
 | _,_,.nil,_=>rfl
 | y::xs,u::us,.cons r t,f=>by
  rw[List.all_cons,ab4]at f;rw[ab3,ab3,ET r f.1,vB t f.2]
theorem rf{A:Around}{s:Shared}{x:V}{v:Value}(rx:RelV x v)(fx:mr x=true):∀{xs:List V} {us:List Value},Vals xs us->xs.all mr=true->∀u∈us,SeqAt.EqAt A s u v (Jn x u)
 | _,_,.nil,_=>λu hu=>by cases hu
 | y::xs,u::us,.cons r t,f=>λu' hu=>by
  rw[List.all_cons,ab4]at f;rcases aaE.mp hu with rfl | hu
  ·rw[ET r f.1];exact Nd r rx f.1 fx
  ·exact rf rx fx t f.2 u' hu
def Ta(x:V)(xs:List V):Bool:=xs.any λy=>Jm y x
def Xg(K:aV)(neg:Bool):R2:=λx y H Q=>∃p xs,y=.ref p/\(bZ K H p xs∨cX K H p xs)/\mr x=true/\xs.all mr=true/\Q (.bl (if neg then !Ta x xs else Ta x xs)) H
theorem uE:jH X (compareOp .In) (Xg X.K false):=by
 intro pins s σ H x y v u Q I rx ry h;obtain⟨p,xs,rfl,hq,fx,fs,q⟩:=h;cases ry;rcases hq with hq | hq
 ·obtain⟨its,r,pl,hz⟩:=I.list hq;refine SeqAt.in_listAt (Jn x) pl.isList (λw hw=>rf rx fx r fs w (by simpa using hw)) ⟨.bl _,H,I,rfl,?_⟩;rw[show its.toArray.any (Jn x)=its.any (Jn x)by simp,vB r fs];exact q
 ·obtain⟨its,r,pl,hz⟩:=I.tuple hq;refine SeqAt.in_tupleAt (Jn x) pl (λw hw=>rf rx fx r fs w (by simpa using hw)) ⟨.bl _,H,I,rfl,?_⟩;rw[show its.toArray.any (Jn x)=its.any (Jn x)by simp,vB r fs];exact q
theorem vC:iV X (.builtin "len") (λxs H Q=>∃p ys,xs=[.ref p]/\(bZ X.K H p ys∨cX X.K H p ys)/\Q (.int ys.length) H):=by
 intro pins s σ H xs us Q I r h;obtain⟨p,ys,rfl,hq,q⟩:=h;obtain⟨u,rfl,rx⟩:=vals1 r;cases rx;have hn:=oE;rcases hq with hq | hq
 ·obtain⟨its,r',pl,hz⟩:=I.list hq;have hlen:=r'.length;exact Calls.call_len_list pl.isList (by simp only[List.size_toArray]<;>omega) ⟨.int ys.length,H,I.tok _,⟨s.toks + 1,by rw[List.size_toArray,hlen]⟩,q⟩
 ·obtain⟨its,r',pl,hz⟩:=I.tuple hq;have hlen:=r'.length;exact len_tuple pl (by simp only[List.size_toArray]<;>omega) ⟨.int ys.length,H,I.tok _,⟨s.toks + 1,by rw[List.size_toArray,hlen]⟩,q⟩
theorem vD:iV X (.builtin "len") (λxs H Q=>∃z,xs=[.str z]/\z.length<=sizeLine/\Q (.int z.length) H):=by
 intro pins s σ H xs us Q I r h;obtain⟨z,rfl,hz,q⟩:=h;obtain⟨u,rfl,t,rfl⟩:=vals1 r;have hn:=oE;exact len_str (by omega) ⟨.int z.length,H,I.tok _,⟨_,rfl⟩,q⟩
theorem j3:iV X (.type "list") (λxs H Q=>∃p ys,xs=[.ref p]/\(bZ X.K H p ys∨cX X.K H p ys)/\∀l,H l=none->Q (.ref l) (upd H l (.lst ys))):=by
 intro pins s σ H xs us Q I r h;obtain⟨p,ys,rfl,hq,q⟩:=h;obtain⟨u,rfl,rx⟩:=vals1 r;cases rx;have fin:∀(its:List Value),Vals ys its->ys.length<=sizeLine->∀(h':Heap) (c':Nat),(∀b o',s.heap.get? b=some o'->h'.get? b=some o') ->
   h'.get? s.heap.objs.size=some {cls:=.type "list",dict:=none,data:=.seq its.toArray c',slots:=#[]}->EP X pins σ Q (.ref s.heap.objs.size) {s with heap:=h'}:=λits r' hz h' c' kp e =>
  ⟨.ref s.heap.objs.size,_,I.laid (t':=s.toks) kp (aai _) (show ej X.prog X.w _ h' _ (.lst ys)from ⟨hz,its,c',r',e⟩),rfl,q _ (I.hok.fresh (aai _))⟩
 rcases hq with hq | hq
 ·obtain⟨its,r',pl,hz⟩:=I.list hq;have hlen:=r'.length;obtain⟨o,ho,hc,n,hd⟩:=pl.isList;exact call_list_seq p (.inl rfl) ho hc hd (λh' c' kp e=>fin its r' hz h' c' kp e) (by simp only[List.size_toArray]<;>omega)
 ·obtain⟨its,r',pl,hz⟩:=I.tuple hq;have hlen:=r'.length;obtain⟨o,ho,hc,n,hd⟩:=pl;exact call_list_seq p (.inr rfl) ho hc hd (λh' c' kp e=>fin its r' hz h' c' kp e) (by simp only[List.size_toArray]<;>omega)
def Ui(K:aV)(T:String)(x:V)(H:Hp):Prop:=match x with
 | .str _=>T="str"
 | .int _=>T="int"
 | .ref p=>(T="list"/\∃xs,bZ K H p xs)∨(T="tuple"/\∃o,K.lookup p=some o/\o.cls=.type "tuple"/\o.dict=none) ∨
   (T="dict"/\((∃kvs,H p=some (.dK kvs))∨∃kvs,H p=some (.dT kvs)))∨(T="set"/\∃S n,H p=some (.set S n))
 | _=>False
theorem Nf{pins:List (Addr×Obj)}{σ:St}{H:Hp}{s:Shared}{T:String}{x:V}{v:Value}(I:Inv X pins σ H s)(r:RelV x v)(ty:Ui X.K T x H):
  s.TypeIs v T/\∀a,v=.ref a->∃ob,s.heap.get? a=some ob/\ob.dict=none:=by
 cases x with
 | str z =>
  obtain⟨t,rfl⟩:=r;cases (show T="str" from ty);exact⟨typeIs_str s z t,λ_ e=>nomatch e⟩
 | int i =>
  obtain⟨t,rfl⟩:=r;cases (show T="int" from ty);exact⟨typeIs_int s i t,λ_ e=>nomatch e⟩
 | ref p =>
  cases r;rcases ty with⟨rfl,xs,hq⟩ | ⟨rfl,o,hk,hc,hd⟩ | ⟨rfl,hk⟩ | ⟨rfl,S,n,hk⟩
  ·obtain⟨its,_,pl,_⟩:=I.list hq;refine⟨pl.isList.typeIs,λa e=>?_⟩;cases e;obtain⟨o,n,e,c,hd,_⟩:=pl;exact⟨o,e,hd⟩
  ·refine⟨⟨o,I.jb p o hk,hc⟩,λa e=>?_⟩;cases e;exact⟨o,I.jb _ o hk,hd⟩
  ·have z:∃o,s.heap.get? p=some o/\o.ExactDict:=by
    rcases hk with⟨kvs,hk⟩ | ⟨kvs,hk⟩
    ·obtain⟨_,_,_,_,o,_,_,e,ex,_⟩:=I.hok p _ hk;exact⟨o,e,ex⟩
    ·obtain⟨_,_,_,_,o,_,_,e,ex,_⟩:=I.hok p _ hk;exact⟨o,e,ex⟩
   obtain⟨o,e,ex⟩:=z;refine⟨⟨o,e,ex.1⟩,λa e2=>?_⟩;cases e2;exact⟨o,e,ex.2.1⟩
  ·obtain⟨o,_,_,_,e,ex,_⟩:=I.hok p _ hk;refine⟨⟨o,e,ex.1⟩,λa e2=>?_⟩;cases e2;exact⟨o,e,ex.2.1⟩
 | _=>exact False.elim ty
def Zw(K:aV)(T:String)(r:V->List V->Hp->VK->Prop)(to:TE)(t:TA):TE:=λσ H Q=>to σ H λx H1=>Ui K T x H1/\t σ H1 λxs H2=>r x xs H2 Q
variable {o e:Expr} {es:List Expr} {to:TE} {t:TA} {name:Str} {apos cpos:Pos} {T id:String} {r:V->List V->Hp->VK->Prop}
theorem rg(pa:PlainAttrs T)(slot:Slot T name id)(hty:typeOf (.builtin id)=pure (.type "method_descriptor"))(hm:Zv X id r)(ho:PE X o to)(ha:PA X (e::es) t)
  (hbase:attributeBase o name X.env (eval o X.env)=eval o X.env:=by rfl)
  (hfew:((backTo cpos (starEach (e::es) X.env)).all (λx=>!x.1)&&(backToKw cpos (keywordEach [] X.env)).all (λx=>x.1.isSome)
   && decide ((e::es).length + ([]:List Keyword).length + (if ([]:List Keyword).isEmpty then 0 else 1) < 30))=true:=by rfl)
  (hline:(apos.endLine == cpos.line)=true:=by rfl) (hs:starEach (e::es) X.env=(false,eval e X.env)::starEach es X.env:=by rfl) (hplain:(backTo cpos (starEach es X.env)).any (·.1)=false:=by rfl) :
  PE X (.Call (.Attribute o name apos) (e::es) [] cpos) (Zw X.K T r to t):=by
 intro pins s σ H Q I h;refine wpAny_Call_method_late hbase hfew hline rfl (bU (ho pins s σ H _ I h) λv s1 ⟨x,H1,I1,r1,ty,q1⟩=>?_);obtain⟨h1,h2⟩:=Nf I1 r1 ty;refine⟨T,id,pa,slot,hty,h1,h2,?_⟩;have hA:=ha cpos pins s1 σ H1 _ I1 q1;rw[hs]at hA ⊢;refine Calls.callWith_builtin (by show(false||(backTo cpos (starEach es X.env)).any (·.1))=false;rw[hplain]<;>rfl) (Calls.evalArgs_plain ?_)
 exact bU hA λus s2 ⟨vs,H2,I2,r2,q2⟩=>hm pins s2 σ H2 x vs v us Q I2 r1 r2 q2
end
def Xh(X:Cx)(id:String)(r:V->List V->Hp->VK->Prop):Prop :=
 ∀(pins:List (Addr×Obj)) (s:Shared) (σ:St) (H:Hp) (x:V) (xs:List V) (v:Value) (us:List Value) (Q:VK),Inv X pins σ H s->RelV x v->Vals xs us->r x xs H Q ->
  wpAny (model X.prog X.w) X.A (call (.builtin id) (v::us)) (EP X pins σ Q) X.xe s
theorem Vals.one:∀{x:V} {us:List Value},Vals [x] us->∃u,us=[u]/\RelV x u
 | _,_,.cons r .nil=>⟨_,rfl,r⟩
theorem Vals.eraseIdx:∀{xs:List V} {us:List Value} (i:Nat),Vals xs us->Vals (xs.eraseIdx i) (us.eraseIdx i)
 | _,_,_,.nil=>.nil
 | _,_,0,.cons _ t=>t
 | _,_,i + 1,.cons r t=>.cons r (Vals.eraseIdx i t)
theorem uF{α:Type}:∀(l:List α) (i:Nat),(l.eraseIdx i).length<=l.length
 | [],_=>aai _
 | _::_,0=>abN _
 | _::r,i + 1=>acB (uF r i)
section
variable {X:Cx} {pins:List (Addr×Obj)} {σ:St} {H:Hp} {s:Shared} {l b:Addr} {xs ys zs:List V}
theorem Inv.Q5{its its':List Value}{n:Nat}{f:Array Value->Array Value}{t':Nat}(I:Inv X pins σ H s)(hH:H l=some (.lst xs))
  (e:s.heap.get? l=some {cls:=.type "list",data:=.seq its.toArray n}) (hf:f its.toArray=its'.toArray) (hv:Vals ys its') (hz:ys.length<=sizeLine) :
  Inv X pins σ (upd H l (.lst ys)) {s with heap:=s.heap.update l (Obj.mapSeq f),toks:=t'}:=by
 have q:=PySem.IsL.update e f;rw[hf]at q;refine I.write (x:=l) (e:=l) (by rw[hH];exact trivial) (.inl rfl) (λb' u hb hu=>(abO s.heap (Obj.mapSeq f) (abX hb)).trans hu) ⟨_,q⟩ ?_;exact⟨hz,its',_,hv,q⟩
theorem Inv.Ng{its:List Value}{t':Nat}(I:Inv X pins σ H s)(hv:Vals ys its)(hz:ys.length<=sizeLine):
  Inv X pins σ (upd H s.heap.objs.size (.lst ys)) {s with heap:=s.heap.push {cls:=.type "list",data:=.seq its.toArray},toks:=t'} :=
 I.laid (λ_ _ q=>aaf _ q) (aai _) ⟨hz,its,0,hv,aaC _ rfl⟩
theorem Inv.fresh(I:Inv X pins σ H s):H s.heap.objs.size=none:=I.hok.fresh (aai _)
theorem Inv.Q6(I:Inv X pins σ H s)(hH:H l=some (.lst xs)):xs.length<=sizeLine/\∃(its:List Value) (n:Nat),Vals xs its/\xs.length=its.length/\s.heap.get? l=some {cls:=.type "list",data:=.seq its.toArray n}:=by
 obtain⟨z,its,n,r,e⟩:=I.hok l _ hH;exact⟨z,its,n,r,r.length,e⟩
end
section
variable {X:Cx}
def Jo:V->List V->Hp->VK->Prop:=λx vs H Q=>∃l xs y,x=.ref l/\vs=[y]/\H l=some (.lst xs)/\xs.length < sizeLine/\Q .non (upd H l (.lst (xs++[y])))
theorem eS:Xh X "list.append" Jo:=by
 intro pins s σ H x vs v us Q I rx rv h;obtain⟨l,xs,y,rfl,rfl,hH,hz,q⟩:=h;cases rx;obtain⟨u,rfl,ru⟩:=rv.one;obtain⟨z,its,n,r,hl,e⟩:=I.Q6 hH;refine call_meets F.slot_list_append ⟨_,e,rfl⟩ F.entry_list_append (F.args_list_append_2 _ _) (PySem.list_append l its.toArray n u (by rw[List.size_toArray];omega)) ⟨e,?_⟩;refine⟨.non,_,I.Q5 (its':=its++[u]) hH e (by simp) (r.append (.cons ru .nil)) ?_,rfl,q⟩;rw[List.length_append,List.length_singleton];omega
def Nh:V->List V->Hp->VK->Prop:=λx vs H Q=>∃l xs i k y,x=.ref l/\vs=[.int i]/\H l=some (.lst xs)/\-(2 ^ 63)<=i/\i < 2 ^ 63/\seqIndex? i xs.length=some k/\xs[k]?=some y/\Q y (upd H l (.lst (xs.eraseIdx k)))
theorem EU:Xh X "list.pop" Nh:=by
 intro pins s σ H x vs v us Q I rx rv h;obtain⟨l,xs,i,k,y,rfl,rfl,hH,h1,h2,hk,hy,q⟩:=h;cases rx;obtain⟨u,rfl,ru⟩:=rv.one;obtain⟨t,rfl⟩:=ru;obtain⟨z,its,n,r,hl,e⟩:=I.Q6 hH;obtain⟨w,hw,rw'⟩:=r.get hy;refine call_meets F.slot_list_pop ⟨_,e,rfl⟩ F.entry_list_pop (F.args_list_pop_2 _ _)
  (MeetsSeq.list_pop_at l its.toArray n i t k w (fitsIndex_both h1 h2) (by rw[aaS,← hl];exact hk) (by rw[← Array.getElem?_toList];exact hw) (by rw[aaS];omega)) ⟨e,?_⟩
 refine⟨y,_,I.Q5 (its':=its.eraseIdx k) hH e ?_ (r.eraseIdx k) ?_,rw',q⟩
 ·show its.toArray.eraseIdxIfInBounds k=(its.eraseIdx k).toArray;rw[List.eraseIdxIfInBounds_toArray]
 ·have:=uF xs k;omega
end
section
variable {prog:Program} {w:World} {A:Around} {E:Value->Shared->Prop} {s:Shared}
set_option maxRecDepth 100000 in
end
section
variable {X:Cx}
end
end L2
namespace Att
open PySem PySem.W PySem.Calls PyProof.Rows
theorem qo{P:Params}{h:Heap}:∀(ns:List Int) (vs:List Value),WellAll P h vs (ns.map WData.int)->IntsAre vs ns:=by
 intro ns
 induction ns with
 | nil =>
  intro vs w;rw[List.map_nil]at w;cases w;exact .nil
 | cons n ns ih =>
  intro vs w;rw[abC]at w
  cases w with
  | cons a b =>
   cases a;exact .cons _ _ (ih _ b)
theorem Cq{l:OpenLaw}{n:Nat}(hn:l.most=some n){P:Params}{h:Heap}{args:List WData}{vals:List Value}
  (hpre:l.row.toRowW.claim.pre args=true) (hwl:WellAll P h vals args) :
  ∃a vs ns,vals=[Value.ref a]/\args=[WData.list (ns.map WData.int)]/\h.get? a=some {cls:=.type "list",data:=.seq vs.toArray}/\IntsAre vs ns/\ns.length<=n:=by
 have hsh:WShape.hasAll [] args [.list .int]=true:=(pre_splitW hpre).1;have hc:l.pre.holds [] {args:=args}=true:=(pre_splitW hpre).2;obtain⟨d,r,rfl,h1,h2⟩:=hasAllW_cons hsh;obtain rfl:=hasAllW_nil h2;obtain⟨xs,rfl,h3⟩:=hasW_list h1;obtain⟨ns,rfl⟩:=items_int h3
 have hlen:ns.length<=n:=by
  unfold OpenLaw.pre at hc
  have h4:(WTm.not (.lt (.lit (.int (n:Int))) (.len (.arg 0)))).holds [] {args:=[.list (ns.map .int)]}=true:=by
   have h4:=(holds_andW hc).1;rw[hn]at h4;exact h4
  have h5:=condW_of h4 (w_not (w_lt w_lit (w_len_list (w_arg rfl))));rw[aah]at h5;refine Nat.le_of_not_lt λq=>?_
  have q':(n:Int) < ((ns.length:Nat):Int):=by omega
  first
   | (rw[abT q']at h5;exact absurd h5 (by decide))
   | (simp at h5;omega)
 cases hwl with
 | cons w1 w2 =>
  cases w2
  cases w1 with
  | list ho hall=>exact⟨_,_,ns,rfl,rfl,ho,qo ns _ hall,hlen⟩
theorem Cr(l:OpenLaw)(args:List WData):l.row.toRowW.claim.post args (.bool true) args=true :=
 postW_of (r:=l.row.toRowW) (X:=(true == true))
  (show WShape.has [] (.bool true) .bool=true by first | rfl | decide | simp[WShape.has,WShape.arms,WShape.armsAll])
  (show(WTm.eq .res (.lit (.bool true))).value [] {args:=args,res:=some (.bool true),after:=args}=some (.bool (true == true))from w_eq_bool (w_res rfl) w_lit) rfl
theorem xE{l:OpenLaw}{n:Nat}{q:Program}{loose:List Str}{XP:(Str->Option Value)->Heap->Prop}{YP:World->Heap->Prop}{d:DefRec}
  (hn:l.most=some n) (hdf:d.params.defaults=[])
  (call:∀(w:World) (s₀ s₁:Shared) (mg mb:Str->Option Value) (fa:Addr) (o:Obj) (pm cd doc:Value) (a:Addr) (vs:List Value) (ns:List Int),
   Ground q loose [] XP w s₀ mg mb s₁.heap->YP w s₁.heap ->
   s₁.heap.get? fa=some o->o.data=.func (docDef d.name d.params d.body d.scope pm cd doc)->s₁.heap.CodeRec cd d.name->mg d.name=some (.ref fa) ->
   s₁.heap.get? a=some {cls:=.type "list",data:=.seq vs.toArray}->IntsAre vs ns->ns.length<=n->s₁.gens=#[] ->
   codeAny (model l.prog w) callerA (.call (.ref fa) ⟨[.ref a],[]⟩) (λr s'=>r=.ok (.ret (.bool true))/\OldK s₁.heap s'.heap/\s'.os=s₁.os/\AllBare s'.gens) s₁) :
  WalkO q loose XP YP l.row.toRowW d [] (λf vs=>PySem.call f vs):=by
 intro w s₀ s₁ mg mb G Y fa o pm cd doc dV kV ho hd hcd hD hmg hg args vals as hpre hlay hrd hwl hlo;obtain rfl:dV=.none:=Dflts.none hD hdf;obtain rfl:kV=.none:=Dflts.noKw hD;obtain⟨a,vs,ns,rfl,rfl,hobj,hints,hlen⟩:=Cq hn hpre hwl;refine enter_call (abS (call w s₀ s₁ mg mb fa o pm cd doc a vs ns G Y ho (fd_plain hd) hcd hmg hobj hints hlen hg) λr s' hq=>?_);obtain⟨rfl,h2,h3,h4⟩:=hq;exact⟨.inl ⟨.bool true,.bool true,[],rfl,λ_=>rfl,.bool true,Cr l _,λ_=>⟨List.Pairwise.nil,λ_ hm=>(nomatch hm)⟩⟩,h2,h3,h4⟩
section
variable {prog:Program} {w:World} {A:Around} {E:Value->Shared->Prop} {s:Shared} {K:Frag}
end
end Att
namespace L2
open PySem PySem.Spec PyProof.Rows
theorem uG:∀{vs:List Value} {ns:List Int},IntsAre vs ns->Vals (ns.map V.int) vs
 | _,_,.nil=>.nil
 | _,_,.cons n t h=>.cons ⟨t,rfl⟩ (uG h)
def Ni(H:Hp):Prop:=∀b,H b=none∨∃o xs,H b=some (.mq o (.lst xs))
theorem EV{P:Program}{w:World}{K:aV}{mg mb:Str->Option Value}{CX:xo}{k:Nat}{fa a:Addr}{fd:FuncData}{x:Str}{sp:Sp}{s₁:Shared}{vs:List Value}{ns:List Int}
  (KX:K.In s₁.heap) (hns:s₁.heap.Ns mainGlobals mg) (hb:s₁.heap.Ns builtinsNs mb) (hbb:∀x:Str,x≠"__name__"->mb x=bootBuiltins x) (hlim:s₁.heap.NoLimit) (hg:s₁.gens=#[])
  (ha:s₁.heap.get? a=some {cls:=.type "list",data:=.seq vs.toArray}) (hi:IntsAre vs ns) (hl:ns.length<=sizeLine) (hr:cw k callerA)
  (F:∀base:Heap,K.In base->base.Ns mainGlobals mg->bL P w K mg base CX k fa fd [x] sp) (hbind:∀(s:Shared) (u:Value),BindsTo s fd ⟨[u],[]⟩ [(x,u)])
  (hsp:∀H:Hp,Ni H->bZ K H a (ns.map V.int)->sp [.ref a] H (λv _=>v=.bl true) λ_ _ _=>False)
  (hCX:∀H e s',CX [] H s₁ (λ_ _ _=>False) e s'->False) :
  codeAny (model P w) callerA (.call (.ref fa) ⟨[.ref a],[]⟩) (λr s'=>r=.ok (.ret (.bool true))/\OldK s₁.heap s'.heap/\s'.os=s₁.os/\AllBare s'.gens) s₁:=by
 have rv:=uG hi;have lenV:=hi.length;have core:∀H:Hp,Ni H->bZ K H a (ns.map V.int)->kO P w H s₁.heap->(∀b,H b≠none->b=a)->(H a≠none->K.lookup a=none) ->
   codeAny (model P w) callerA (.call (.ref fa) ⟨[.ref a],[]⟩) (λr s'=>r=.ok (.ret (.bool true))/\OldK s₁.heap s'.heap/\s'.os=s₁.os/\AllBare s'.gens) s₁:=by
  intro H hO hS hok hA hK;have base_of:∀{b:Addr} {o:Obj},s₁.heap.get? b=some o->H b=none->(vm s₁.heap H).get? b=some o:=λe n=>Em e n
  have noA:∀{b:Addr} {o:Obj} {es:Array DictEntry} {ep:Nat},s₁.heap.get? b=some o->o.data=.dict es ep->H b=none:=λ{b o es ep} e d=>by
   cases q:H b with
   | none=>rfl
   | some u =>
    have e':b=a:=hA b (by rw[q];simp);subst e';rw[ha]at e;cases e;have d':Data.seq vs.toArray _=Data.dict es ep:=d;cases d'
  have nsK:∀{b:Addr} {m:Str->Option Value},s₁.heap.Ns b m->(vm s₁.heap H).Ns b m:=λ{b m} ⟨o,es,ep,e,d,r⟩=>⟨o,es,ep,base_of e (noA e d),d,r⟩
  have hKb:K.In (vm s₁.heap H):=λb o e=>base_of (KX b o e) (by
   cases q:H b with
   | none=>rfl
   | some u =>
    have e':b=a:=hA b (by rw[q];simp);subst e';rw[hK (by rw[q];simp)]at e;cases e)
  have hM:Mod K mg (vm s₁.heap H):=⟨hKb,nsK hns,⟨mb,nsK hb,hbb⟩,let ⟨mc,h1,h2⟩:=hlim;⟨mc,nsK h1,h2⟩⟩;have e0:zt P w K mg (vm s₁.heap H) callerA [] s₁ H:=⟨rfl,hM,λb o e=>IU e,Nat.le_of_eq (Cf _ _),trivial,λb hb=>absurd (show b∈([]:List Addr)from hb) (by simp),hok,.of_eq hg⟩;refine codeAny_mono ((F _ hKb (nsK hns)).run callerA [] s₁ H ⟨[.ref a],[]⟩ [.ref a] [.ref a] _ _ hr e0 (hbind s₁ (.ref a)) (.cons rfl .nil) (hsp H hO hS)) λr s' h=>?_
  cases r with
  | error e=>exact(hCX H e s' h).elim
  | ok fl =>
   cases fl with
   | next=>exact False.elim h
   | brk=>exact False.elim h
   | cont=>exact False.elim h
   | ret u =>
    obtain⟨v,H',os,bare,un,hok',r',q⟩:=h;have q':v=.bl true:=q;subst q';obtain rfl:u=Value.bool true:=r';refine⟨rfl,OldK.of_keep λb o e=>?_,os,bare⟩
    cases q:H b with
    | none=>exact un.keep b o e q (by intro z;exact absurd (show b∈([]:List Addr)from z) (by simp)) (by simp)
    | some u =>
     rcases hO b with z | ⟨ob,xs,z⟩
     ·rw[q]at z;cases z
     ·have z2:=un.fu b ob _ z;obtain⟨e1,_⟩:=hok b _ z;obtain⟨e2,_⟩:=hok' b _ z2;rw[e]at e1;cases e1;exact e2
 cases hk:K.lookup a with
 | some o =>
  have e:=KX a o hk;rw[ha]at e;cases e;refine core (λ_=>none) (λ_=>.inl rfl) (.inr ⟨_,vs.toArray,_,hk,rfl,rfl,rfl,by rw[List.size_toArray,lenV];exact hl,by simpa using rv⟩) (λb u z=>by have z':(none:Option HO)=some u:=z;cases z') (λb z=>absurd rfl z) λz=>absurd rfl z
 | none =>
  refine core (λb=>if b=a then some (.mq {cls:=.type "list",data:=.seq vs.toArray} (.lst (ns.map V.int)))else none) (λb=>?_) (.inl (.inr ⟨{cls:=.type "list",data:=.seq vs.toArray},aaw rfl⟩)) (λb u z=>?_) (λb z=>?_) λ_=>hk
  ·by_cases hb:b=a
   ·exact .inr ⟨_,_,aaw hb⟩
   ·exact .inl (aas hb)
  ·by_cases hb:b=a
   ·have z':=(aaw hb).symm.trans z;cases z';subst hb;exact⟨ha,by rw[aah];exact hl,vs,_,rv,ha⟩
   ·have z':=(aas hb).symm.trans z;cases z'
  ·by_cases hb:b=a
   ·exact hb
   ·exact absurd (aas hb) z
theorem Jp{l:PySem.W.OpenLaw}{n k:Nat}{q:Program}{loose:List Str}{XP:(Str->Option Value)->Heap->Prop}{YP:World->Heap->Prop}{d:DefRec}{K:Params->aV}{CX:World->xo}{sp:World->Sp}{x:Str}
  (hn:l.most=some n) (M5:n<=sizeLine) (hdf:d.params.defaults=[]) (hr:cw k callerA)
  (hY:∀(w:World) (h:Heap),YP w h->(K w.params).In h)
  (F:∀(w:World) (mg:Str->Option Value) (fa:Addr) (h:Heap),(K w.params).In h->h.Ns mainGlobals mg->mg d.name=some (.ref fa) ->
   ∃fd:FuncData,(∀(s:Shared) (u:Value),BindsTo s fd ⟨[u],[]⟩ [(x,u)]) /\
    ∀base:Heap,(K w.params).In base->base.Ns mainGlobals mg->bL l.prog w (K w.params) mg base (CX w) k fa fd [x] (sp w))
  (hsp:∀(w:World) (H:Hp) (a:Addr) (ns:List Int),ns.length<=n->Ni H->bZ (K w.params) H a (ns.map V.int)->sp w [.ref a] H (λv _=>v=.bl true) λ_ _ _=>False)
  (hCX:∀(w:World) (H:Hp) (s:Shared) (e:Value) (s':Shared),CX w [] H s (λ_ _ _=>False) e s'->False) :
  PySem.W.WalkO q loose XP YP l.row.toRowW d [] (λf vs=>PySem.call f vs):=by
 refine Att.xE hn hdf λw s₀ s₁ mg mb fa o pm cd doc a vs ns G Y ho hd hcd hmg hobj hints hlen hg=>?_
 have KX:=hY w _ Y;obtain⟨fd,hb,hF⟩:=F w mg fa _ KX G.T.g hmg;exact EV KX G.T.g G.T.b G.T.builtins G.T.nolimit hg hobj hints (aaF hlen M5) hr hF hb (λH hO hS=>hsp w H a ns hlen hO hS) λH e s'=>hCX w H s₁ e s'
def iC(s:Stmt)(j:Nat):Stmt:=match s with
 | .ClassDef _ _ _ body _ _ _ _ _ _ _=>body.getD j (.Pass ⟨0,0,0,0⟩)
 | _=>.Pass ⟨0,0,0,0⟩
def dA(s:Stmt):Arguments:=match s with
 | .FunctionDef _ a _ _ _ _ _ _ _ _=>a
 | _=>{posonlyargs:=[],args:=[],vararg:=none,kwonlyargs:=[],kw_defaults:=[],kwarg:=none,defaults:=[]}
def dB(s:Stmt):List Stmt:=match s with
 | .FunctionDef _ _ b _ _ _ _ _ _ _=>b
 | _=>[]
def dS(s:Stmt):Scope:=match s with
 | .FunctionDef _ _ _ _ _ _ sc _ _ _=>sc
 | _=>{kind:=.function,names:=[],isGenerator:=false,isCoroutine:=false}
abbrev cb:xo:=λ_ _ _ _ _ _=>False
abbrev E0:XK:=λ_ _ _=>False
theorem rh{X:Cx}:Passes cb X E0:=λ_ _ _ _ _ _ _ h=>h.elim
structure iq(K:aV)(x qual:Str)(st:Stmt)(f:Addr)(fd:FuncData):Prop where
 ex:∃(oc:Value) (od:Option Addr) (kV doc pm:Value) (an:Option Addr) (cdv ct:Value) (osl:Array (Option Value)),
  fd=PySem.W.fnOf x qual (dA st) (dB st) (dS st) .none kV doc pm an cdv ct/\K.lookup f=some ⟨oc,od,.func fd,osl⟩/\PySem.W.codeIn K cdv qual=true
 kp:PySem.W.keepIn K (.ref f)=true
section
variable {P:Program} {w:World} {K:aV} {mg:Str->Option Value} {base:Heap}
theorem iq.ok{cm:Bool}{x qual:Str}{st:Stmt}{f:Addr}{fd:FuncData}{N ps:List Str}{k:Nat}{sp:Sp}(F:iq K x qual st f fd)(S:aS N ps (dS st))(len:∀vs H Q E,sp vs H Q E->vs.length=ps.length)
  (hbody:∀(cdv:Value) (A:Around) (outer:List Env) (s:Shared) (H:Hp) (vs:List V) (Q:VK) (E:XK),cw k (A.deeper (envOfC qual (dS st) s.heap.objs.size f cdv)) cm->sp vs H Q E ->
   ∃t,oo (kI cb P w K mg base N qual (dS st) f cdv A outer s H E cm).S9 (dB st) t/\t {nx:=λ_ H'=>Q .non H',rt:=Q} (start N vs) H):bL P w K mg base cb (k + 1) f fd ps sp cm:=by
 obtain⟨oc,od,kV,doc,pm,an,cdv,ct,osl,rfl,lk,hcd⟩:=F.ex;refine L3 lk hcd S len λA outer s H vs Q E hr hsp=>?_
 obtain⟨t,h,q⟩:=hbody cdv A outer s H vs Q E hr hsp;exact⟨t,h.S9,q⟩
theorem iq.binds{x qual:Str}{st:Stmt}{f:Addr}{fd:FuncData}{ps:List Str}(F:iq K x qual st f fd)
  (h:∀(kV doc pm:Value) (an:Option Addr) (cdv ct:Value) (us:List Value),us.length=ps.length->bindArgs (PySem.W.fnOf x qual (dA st) (dB st) (dS st) .none kV doc pm an cdv ct) ⟨us,[]⟩=pure (ps.zip us)):Binds K fd ps []:=by
 obtain⟨oc,od,kV,doc,pm,an,cdv,ct,osl,rfl,lk,hcd⟩:=F.ex;exact .all (h kV doc pm an cdv ct)
theorem rj{x qual:Str}{st:Stmt}{f:Addr}{oc:Value}{od an:Option Addr}{osl:Array (Option Value)}{kV doc pm cdv ct:Value}(l:K.lookup f=some ⟨oc,od,.func (PySem.W.fnOf x qual (dA st) (dB st) (dS st) .none kV doc pm an cdv ct),osl⟩)
  (c:PySem.W.codeIn K cdv qual=true) (k:PySem.W.keepIn K (.ref f)=true):iq K x qual st f (PySem.W.fnOf x qual (dA st) (dB st) (dS st) .none kV doc pm an cdv ct):=⟨⟨oc,od,kV,doc,pm,an,cdv,ct,osl,rfl,l,c⟩,k⟩
end
theorem Bi{A:Around}{k:Nat}(hr:cw k A):A.units + 1 < cLine:=aaR (Nat.add_le_add_left (by decide:1<=64) _) hr.units
theorem sK{n:Nat}(h:n<=1000):n < sizeLine:=aaR h (by decide)
section
variable {X:Cx}
theorem pv(i:Nat){x:Str}{pos:Pos}(hN:X.N[i]?=some x:=by rfl)(hv:S8 X.env.scope x:=by first | exact aac rfl | exact acZ (aac rfl) | exact acZ (acZ rfl))(hd:(x == ("__debug__" : Str))=false:=by decide)
  (hcd:(x == ("__classdict__" : Str))=false:=by decide):PE X (.Name x pos) (Eo i):=Ep hN hv hd hcd
end
theorem mi{A B:Prop}(h:B):if false=true then A else B:=by
 rw[aas aaj];exact h
theorem kT{A B:Prop}(h:A):if true=true then A else B:=by
 rw[aaw rfl];exact h
def bf(H H':Hp):Prop:=∀b o,H b=some o->H' b=some o
theorem bf.refl(H:Hp):bf H H:=λ_ _ h=>h
theorem bf.trans{H H1 H2:Hp}(a:bf H H1)(b:bf H1 H2):bf H H2:=λc o h=>b c o (a c o h)
theorem bf.seq{K:aV}{H H':Hp}{a:Addr}{xs:List V}(e:bf H H')(h:bZ K H a xs):bZ K H' a xs:=by
 rcases h with(h | ⟨o,h⟩) | h
 ·exact .inl (.inl (e _ _ h))
 ·exact .inl (.inr ⟨o,e _ _ h⟩)
 ·exact .inr h
open PySem PySem.Spec
theorem Nj:bootBuiltins "len"=some (.builtin "len"):=by decide +kernel
theorem tQ:bootBuiltins "isinstance"=some (.builtin "isinstance"):=by decide +kernel
theorem Nk:bootBuiltins "min"=some (.builtin "min"):=by decide +kernel
theorem Nl:bootBuiltins "all"=some (.builtin "all"):=by decide +kernel
theorem zy:bootBuiltins "int"=some (.type "int"):=by decide +kernel
theorem Jq:bootBuiltins "bool"=some (.type "bool"):=by decide +kernel
theorem qB:bootBuiltins "list"=some (.type "list"):=by decide +kernel
theorem EW:bootBuiltins "tuple"=some (.type "tuple"):=by decide +kernel
theorem Nm:bootBuiltins "zip"=some (.type "zip"):=by decide +kernel
theorem Jr:bootBuiltins "dict"=some (.type "dict"):=by decide +kernel
theorem bK{c A B:Prop}[Decidable c](h:¬ c)(b:B):if decide c=true then A else B:=by rw[abm h];exact mi b
theorem iM{c A B:Prop}[Decidable c](h:c)(a:A):if decide c=true then A else B:=by rw[abT h];exact kT a
theorem tS{c A B:Prop}[Decidable c](h:c)(b:B):if (!decide c)=true then A else B:=by rw[abT h];exact mi b
theorem mD{c A B:Prop}[Decidable c](h:¬ c)(a:A):if (!decide c)=true then A else B:=by rw[abm h];exact kT a
theorem D2{b:Bool}{A B:Prop}(h:b=true)(a:A):if b=true then A else B:=by rw[h];exact kT a
theorem D3{b:Bool}{A B:Prop}(h:b=false)(a:B):if b=true then A else B:=by rw[h];exact mi a
structure eM(P:Program)(w:World)(K:aV)(mg:Str->Option Value)(base:Heap)(CX:xo)(x:Str)(k:Nat)(ps:List Str)(sp:Sp):Prop where
 ex:∃(f:Addr) (fd:FuncData),bL P w K mg base CX k f fd ps sp/\Binds K fd ps []/\PySem.W.keepIn K (.ref f)=true/\mg x=some (.ref f)
section
variable {X:Cx} {x:Str} {k:Nat} {ps:List Str} {sp:Sp} {e:Expr} {es:List Expr} {t:TA} {p pos:Pos}
theorem cT(h:eM X.prog X.w X.K X.mg X.base cb x k ps sp)(hr:cw k X.A)(hg:Gl X x)(ha:PA X (e::es) t)(hdb:(x == ("__debug__" : Str))=false:=by decide)
  (he:starEach (e::es) X.env=(false,eval e X.env)::starEach es X.env:=by rfl) (hpl:(backTo pos (starEach es X.env)).any (·.1)=false:=by rfl) :
  PE X (.Call (.Name x p) (e::es) [] pos) (xA sp [] E0 t):=by
 obtain⟨f,fd,F,b,kp,m⟩:=h.ex;exact Bd F hr hg m kp b .nil rh ha hdb he hpl
end
theorem bf.tup{K:aV}{H H':Hp}{a:Addr}{xs:List V}(e:bf H H')(h:cX K H a xs):cX K H' a xs:=by
 rcases h with(h | ⟨o,h⟩) | h
 ·exact .inl (.inl (e _ _ h))
 ·exact .inl (.inr ⟨o,e _ _ h⟩)
 ·exact .inr h
inductive bz(K:aV)(H:Hp):V->PyData->Prop
 | non:bz K H .non .none
 | bl (b:Bool):bz K H (.bl b) (.bool b)
 | int (i:Int):bz K H (.int i) (.int i)
 | str (x:Str):bz K H (.str x) (.str x)
 | lst {a:Addr} {xs:List V} {ds:List PyData} (h:bZ K H a xs) (hl:xs.length=ds.length) (hi:∀(i:Nat) (x:V) (d:PyData),xs[i]?=some x->ds[i]?=some d->bz K H x d):bz K H (.ref a) (.list ds)
 | tup {a:Addr} {xs:List V} {ds:List PyData} (h:cX K H a xs) (hl:xs.length=ds.length) (hi:∀(i:Nat) (x:V) (d:PyData),xs[i]?=some x->ds[i]?=some d->bz K H x d):bz K H (.ref a) (.tuple ds)
def eT(K:aV)(H:Hp)(xs:List V)(ds:List PyData):Prop:=xs.length=ds.length/\∀(i:Nat) (x:V) (d:PyData),xs[i]?=some x->ds[i]?=some d->bz K H x d
theorem eT.nil{K:aV}{H:Hp}:eT K H [] []:=⟨rfl,λi x d h=>by simp at h⟩
theorem eT.cons{K:aV}{H:Hp}{x:V}{d:PyData}{xs:List V}{ds:List PyData}(h:bz K H x d)(r:eT K H xs ds):eT K H (x::xs) (d::ds) :=
 ⟨by simp[r.1],λi y e h1 h2=>by
  cases i with
  | zero=>simp at h1 h2;subst h1;subst h2;exact h
  | succ i=>exact r.2 i y e (by simpa using h1) (by simpa using h2)⟩
theorem bz.zz{K:aV}{H:Hp}{a:Addr}{xs:List V}{ds:List PyData}(h:bZ K H a xs)(r:eT K H xs ds):bz K H (.ref a) (.list ds):=.lst h r.1 r.2
theorem bz.EX{K:aV}{H:Hp}{a:Addr}{xs:List V}{ds:List PyData}(h:cX K H a xs)(r:eT K H xs ds):bz K H (.ref a) (.tuple ds):=.tup h r.1 r.2
theorem bz.same{K:aV}{H H':Hp}(e:bf H H'){v:V}{d:PyData}(h:bz K H v d):bz K H' v d:=by
 induction h with
 | non=>exact .non
 | bl b=>exact .bl b
 | int i=>exact .int i
 | str x=>exact .str x
 | lst h hl hi ih=>exact .lst (e.seq h) hl ih
 | tup h hl hi ih=>exact .tup (e.tup h) hl ih
theorem kU{h:Heap}:∀{xs:List V} {us:List Value} {ds:List PyData},Vals xs us->xs.length=ds.length->(∀(i:Nat) (x:V) (d:PyData) (u:Value),xs[i]?=some x->ds[i]?=some d->RelV x u->∃as,Reads h u d as)->∃as,ReadsAll h us ds as
 | [],_,[],.nil,_,_=>⟨[],.nil⟩
 | [],_,_::_,_,hl,_=>nomatch hl
 | _::_,_,[],_,hl,_=>nomatch hl
 | x::xs,u::us,d::ds,.cons r t,hl,hi=>by
  obtain⟨as,ha⟩:=hi 0 x d u rfl rfl r;obtain⟨bs,hb⟩:=kU t (by simpa using hl) λi y e w h1 h2=>hi (i + 1) y e w (by simpa using h1) (by simpa using h2)
  exact⟨as++bs,.cons ha hb⟩
section
variable {X:Cx} {pins:List (Addr×Obj)} {σ:St} {H:Hp} {s:Shared}
theorem bz.reads(I:Inv X pins σ H s){v:V}{d:PyData}(h:bz X.K H v d):∀{u:Value},RelV v u->∃as,Reads s.heap u d as:=by
 induction h with
 | non=>intro u r;cases r;exact⟨_,.none⟩
 | bl b=>intro u r;cases r;exact⟨_,.bool b⟩
 | int i=>intro u r;obtain⟨t,rfl⟩:=r;exact⟨_,.int i t⟩
 | str x=>intro u r;obtain⟨t,rfl⟩:=r;exact⟨_,.str x t⟩
 | lst h hl hi ih =>
  intro u r;cases r;obtain⟨its,rv,⟨o,n,e,c,_,d⟩,hz⟩:=I.list h;obtain⟨as,ha⟩:=kU (h:=s.heap) rv hl λi x d u h1 h2 r=>ih i x d h1 h2 r
  exact⟨_,.list e c d ha⟩
 | tup h hl hi ih =>
  intro u r;cases r;obtain⟨its,rv,⟨o,e,c,n,d⟩,hz⟩:=I.tuple h;obtain⟨as,ha⟩:=kU (h:=s.heap) rv hl λi x d u h1 h2 r=>ih i x d h1 h2 r
  exact⟨_,.tuple e c d ha⟩
end
section
variable {X:Cx}
def Nn(K:aV):R2:=λx y H Q=>∃d d',bz K H x d/\bz K H y d'/\PySem.SeqAt.shaped d=true/\PySem.SeqAt.shaped d'=true/\Q (.bl (PyData.eqv d d')) H
def Q7(K:aV):R2:=λx y H Q=>∃d d',bz K H x d/\bz K H y d'/\PySem.SeqAt.shaped d=true/\PySem.SeqAt.shaped d'=true/\Q (.bl (!PyData.eqv d d')) H
theorem zA(hu:X.A.units + 64 < cLine):jH X (compareOp .Eq) (Nn X.K):=by
 intro pins s σ H x y v u Q I rx ry h;obtain⟨d,d',h1,h2,s1,s2,q⟩:=h;obtain⟨as,r1⟩:=h1.reads I rx;obtain⟨bs,r2⟩:=h2.reads I ry;exact eq_dataH r1 r2 s1 s2 hu ⟨.bl _,H,I,rfl,q⟩
theorem EY(hu:X.A.units + 64 < cLine):jH X (compareOp .NotEq) (Q7 X.K):=by
 intro pins s σ H x y v u Q I rx ry h;obtain⟨d,d',h1,h2,s1,s2,q⟩:=h;obtain⟨as,r1⟩:=h1.reads I rx;obtain⟨bs,r2⟩:=h2.reads I ry;exact ne_dataH r1 r2 s1 s2 hu ⟨.bl _,H,I,rfl,q⟩
def Q8(a:Addr):Heap->Prop:=λh=>∃o,h.get? a=some o/\o.cls=.type "dict"
inductive Js(K:aV)(H:Hp):V->String->Prop
 | non:Js K H .non "NoneType"
 | bl (b:Bool):Js K H (.bl b) "bool"
 | int (i:Int):Js K H (.int i) "int"
 | str (x:Str):Js K H (.str x) "str"
 | lst {a:Addr} {xs:List V} (h:bZ K H a xs):Js K H (.ref a) "list"
 | tup {a:Addr} {xs:List V} (h:cX K H a xs):Js K H (.ref a) "tuple"
 | dct {a:Addr} (h:H a=some (.ext (Q8 a))):Js K H (.ref a) "dict"
def Uj(K:aV):List V->Hp->VK->Prop:=λvs H Q=>∃x n t b,vs=[x,.ty n]/\Js K H x t/\PySem.W.kitOne K (.type t) (.type n)=some b/\Q (.bl b) H
theorem EZ:iV X (.builtin "isinstance") (Uj X.K):=by
 intro pins s σ H xs us Q I r h;obtain⟨x,n,t,b,rfl,ty,e,q⟩:=h;obtain⟨u,w',rfl,rx,rw'⟩:=vals2 r;cases rw';have fin:∀tk,EP X pins σ Q (.bool b) {s with toks:=tk}:=λtk=>⟨.bl b,H,I.tok tk,rfl,q⟩
 cases ty with
 | non=>cases rx;exact aby PySem.W.kitx_none I.jb abn e (λz=>nomatch z) fin
 | bl y=>cases rx;exact aby PySem.W.kitx_bool I.jb abn e (λz=>nomatch z) fin
 | int i=>obtain⟨t,rfl⟩:=rx;exact aby PySem.W.kitx_int I.jb abn e (λz=>nomatch z) fin
 | str y=>obtain⟨t,rfl⟩:=rx;exact aby PySem.W.kitx_str I.jb abn e (λz=>nomatch z) fin
 | lst h =>
  cases rx;obtain⟨its,rv,⟨o,n,e1,c,_,d⟩,hz⟩:=I.list h;exact aby PySem.W.kitx_list I.jb ⟨o,e1,c⟩ e (λz=>nomatch z) fin
 | dct h =>
  cases rx;obtain⟨⟨o,e1,c⟩,_⟩:=I.hok _ _ h;exact aby PySem.W.kitx_dict I.jb ⟨o,e1,c⟩ e (λz=>nomatch z) fin
 | tup h =>
  cases rx;obtain⟨its,rv,⟨o,e1,c,n,d⟩,hz⟩:=I.tuple h;exact aby PySem.W.kitx_tuple I.jb ⟨o,e1,c⟩ e (λz=>nomatch z) fin
def E8(i j:Int):Prop:=(-340282366920938463463374607431768211456 < i/\i < 340282366920938463463374607431768211456)/\(-340282366920938463463374607431768211456 < j/\j < 340282366920938463463374607431768211456)
theorem E8.ok{i j:Int}(h:E8 i j):IntMulOk i j:=by
 have e:(2:Nat) ^ 128=340282366920938463463374607431768211456:=by decide
 obtain⟨⟨h1,h2⟩,h3,h4⟩:=h;have a:i.natAbs < 2 ^ 128:=by rw[e];omega
 have b:j.natAbs < 2 ^ 128:=by rw[e];omega
 exact IntMulOk.of_bits (aaF (acI a) (by decide)) (aaF (acI b) (by decide))
end
def mE(cells:List (Str×Addr)):List (Str×NameKind)->List (Str×Addr)->List (Str×Addr)
 | [],cs=>cs
 | (n,k)::r,cs=>mE cells r (if k == .free then(match cells.lookup n with | some c=>(n,c)::cs | none=>cs)else cs)
theorem xF{cells:List (Str×Addr)}:∀(names:List (Str×NameKind)) (cs:List (Str×Addr)),(∀x c,cs.lookup x=some c->cells.lookup x=some c)->∀x c,(mE cells names cs).lookup x=some c->cells.lookup x=some c
 | [],_,h=>h
 | (n,k)::r,cs,h=>by
  refine xF r _ λx c e=>?_
  split at e
  ·split at e
   ·rename_i c' hc;rw[acC]at e;by_cases z:(x == n)=true
    ·rw[z]at e;have z':x=n:=by simpa using z
     rw[z'];exact hc.trans e
    ·rw[ab5]at z;rw[z]at e;exact h x c e
   ·exact h x c e
  ·exact h x c e
theorem uH{cells:List (Str×Addr)}{x:Str}{c:Addr}(hx:cells.lookup x=some c):∀(names:List (Str×NameKind)) (cs:List (Str×Addr)),cs.lookup x=some c->(mE cells names cs).lookup x=some c
 | [],_,h=>h
 | (n,k)::r,cs,h=>by
  refine uH hx r _ ?_;split
  ·split
   ·rename_i c' hc;rw[acC];by_cases z:(x == n)=true
    ·rw[z];have z':x=n:=by simpa using z
     rw[z']at hx;exact hc.symm.trans hx
    ·rw[ab5]at z;rw[z];exact h
   ·exact h
  ·exact h
theorem rl{cells:List (Str×Addr)}{x:Str}{c:Addr}(hx:cells.lookup x=some c):∀(names:List (Str×NameKind)) (cs:List (Str×Addr)),(x,NameKind.free)∈names->(mE cells names cs).lookup x=some c
 | [],_,h=>nomatch h
 | (n,k)::r,cs,h=>by
  rcases aaE.mp h with e | h
  ·cases e;refine uH hx r _ ?_;simp[hx,List.lookup_cons]
  ·exact rl hx r _ h
theorem jt{env:Env}{scope:Scope}(h:∀y∈scope.names,y.2=NameKind.free->∃c,env.cells.lookup y.1=some c):closureFor scope env=pure (mE env.cells scope.names []):=by
 have go:∀(names:List (Str×NameKind)) (cs:List (Str×Addr)),(∀y∈names,y.2=NameKind.free->∃c,env.cells.lookup y.1=some c) ->
   (forIn names cs λx (r:List (Str×Addr))=>if (x.2 == NameKind.free)=true then do let c ← cellOf env x.1;pure (ForInStep.yield ((x.1,c)::r))else pure (ForInStep.yield r):Sem (List (Str×Addr)))=pure (mE env.cells names cs):=by
  intro names
  induction names with
  | nil=>intro cs _;rfl
  | cons y r ih =>
   intro cs hy;obtain⟨n,k⟩:=y;rw[List.forIn_cons];by_cases hk:k=NameKind.free
   ·subst hk;obtain⟨c,hc⟩:=hy _ List.mem_cons_self rfl;have hc':env.cells.lookup n=some c:=hc;have hcell:cellOf env n=pure c:=by simp only[cellOf,hc']
    simp only[hcell,beq_self_eq_true,if_true,pure_bind];rw[ih _ λy hm=>hy y (List.mem_cons_of_mem _ hm)];simp only[mE,beq_self_eq_true,if_true,hc']
   ·have hb:(k == NameKind.free)=false:=by simpa using hk
    simp only[hb,Bool.false_eq_true,if_false,pure_bind];rw[ih _ λy hm=>hy y (List.mem_cons_of_mem _ hm)];simp only[mE,hb,Bool.false_eq_true,if_false]
 have e:=go scope.names [] h;unfold closureFor;simp only[bind_pure]at e ⊢;exact e
theorem rn{scope:Scope}{env:Env}(x:Str):(relabel scope env).names.lookup x=(scope.names.lookup x).map λk=>if (k == NameKind.free&&env.scope.kind == .function&&env.kindOf x == some .cell)=true then .cell else k:=by
 show(scope.names.map λ(n,k)=>if (k == NameKind.free&&env.scope.kind == .function&&env.kindOf n == some .cell)=true then(n,NameKind.cell)else(n,k)).lookup x=_
 induction scope.names with
 | nil=>rfl
 | cons y r ih =>
  obtain⟨n,k⟩:=y;rw[abC];by_cases z:(x == n)=true
  ·have z':x=n:=by simpa using z
   subst z';by_cases hc:(k == NameKind.free&&env.scope.kind == .function&&env.kindOf x == some .cell)=true
   ·simp only[hc,if_true,List.lookup_cons,beq_self_eq_true,Option.map_some]
   ·simp only[hc,if_false,List.lookup_cons,beq_self_eq_true,Option.map_some,Bool.false_eq_true]
  ·rw[ab5]at z;by_cases hc:(k == NameKind.free&&env.scope.kind == .function&&env.kindOf n == some .cell)=true
   ·simp only[hc,if_true,List.lookup_cons,z];exact ih
   ·simp only[hc,if_false,List.lookup_cons,z,Bool.false_eq_true];exact ih
theorem eU{α β:Type}[BEq α][LawfulBEq α]{x:α}{b:β}:∀{l:List (α×β)},l.lookup x=some b->(x,b)∈l
 | [],h=>by simp at h
 | (n,k)::r,h=>by
  rw[acC]at h;by_cases z:(x == n)=true
  ·rw[z]at h;have z':x=n:=by simpa using z
   cases h;rw[z'];exact aat
  ·rw[ab5]at z;rw[z]at h;exact aaB _ (eU h)
def Cx.jM(X:Cx)(N:List Str)(scope:Scope)(C:Addr)(ex:List Addr)(s:Shared)(H:Hp):Cx where
 prog:=X.prog
 w:=X.w
 K:=X.K
 mg:=X.mg
 base:=X.base
 A:=X.A
 N:=N
 s₀:=s
 H₀:=H
 env:=compEnvC scope (mE X.env.cells scope.names []) C X.env
 outer:=X.stack
 stack:=X.stack
 ex:=ex
 fn:=λ_=>false
 calm:=X.calm
 pn:=[]
 xe:=λ_ _=>False
structure kW(X:Cx)(own:Nat)(N:List Str)(ix:List Nat)(scope:Scope):Prop where
 kind:scope.kind=.function
 calm:X.calm=true
 free:scope.names.all (λy=>y.2 != .free||X.env.kindOf y.1 == some .cell)=true
 cell:scope.names.all (λy=>y.2 != .cell)=true
 loc:scope.names.all (λy=>y.2 != .local||scope.names.lookup y.1 == some .local)=true
 ixs:(ix.map λi=>X.N[i]?)=(N.drop own).map some
 fr:(N.drop own).all (λx=>scope.names.lookup x == some .free)=true
 len:N.length=own + ix.length
def dq(own:Nat)(ix:List Nat)(σ:St):St:=List.replicate own none++ix.map λi=>(σ[i]?).getD none
theorem zB(own:Nat)(ix:List Nat)(σ:St):(dq own ix σ).drop own=ix.map λi=>(σ[i]?).getD none:=by
 unfold dq;rw[List.drop_left' (by simp)]
theorem uI{own:Nat}{ix:List Nat}{σ:St}{j:Nat}{v:V}(h:(dq own ix σ)[j]?=some (some v)):∃i,own<=j/\ix[j - own]?=some i/\σ[i]?=some (some v):=by
 unfold dq at h;by_cases hj:j < own
 ·rw[List.getElem?_append_left (by simpa using hj)]at h;rw[List.getElem?_replicate]at h;simp[hj]at h
 ·rw[List.getElem?_append_right (by simpa using hj)]at h;rw[List.length_replicate,List.getElem?_map]at h
  cases e:ix[j - own]? with
  | none=>rw[e]at h;simp at h
  | some i =>
   rw[e]at h;refine⟨i,by omega,rfl,?_⟩;have h':(σ[i]?).getD none=some v:=by simpa using h
   cases q:σ[i]? with
   | none=>rw[q]at h';simp at h'
   | some o=>rw[q]at h';simp at h';rw[h']
theorem rq{own:Nat}{ix:List Nat}{σ σ2:St}(hd:σ2.drop own=ix.map λi=>(σ[i]?).getD none):∀(j:Nat) v,(dq own ix σ)[j]?=some (some v)->σ2[j]?=some (some v):=λj v h=>by
 by_cases hj:j < own
 ·obtain⟨i,h1,_⟩:=uI h;omega
 ·have e:(dq own ix σ)[j]?=((dq own ix σ).drop own)[j - own]?:=by rw[abL];congr 1;omega
  have e2:σ2[j]?=(σ2.drop own)[j - own]?:=by rw[abL];congr 1;omega
  rw[e,zB,← hd,← e2]at h;exact h
section
variable {X:Cx} {pins:List (Addr×Obj)} {σ:St} {H:Hp} {s:Shared} {own:Nat} {N:List Str} {ix:List Nat} {scope:Scope}
theorem kW.has(B:kW X own N ix scope)(I:Inv X pins σ H s):∀y∈scope.names,y.2=NameKind.free->X.env.kindOf y.1=some .cell/\∃c,X.env.cells.lookup y.1=some c:=λy hy e=>by
 have z:=List.all_eq_true.mp B.free y hy;rw[e]at z;have z':X.env.kindOf y.1=some .cell:=by simpa using z
 exact⟨z',I.ok.has y.1 (.inl z')⟩
theorem uJ{C:Addr}{ex:List Addr}{h':Heap}{tk:Nat}(B:kW X own N ix scope)(I:Inv X pins σ H s)(hC:C=s.heap.objs.size)(hx:∀b∈ex,mh X pins H b)(hlt:∀b∈ex,b < s.heap.objs.size)
  (hn:h'.Ns C (λ_=>none)) (hk:∀b o,s.heap.get? b=some o->h'.get? b=some o):Inv (X.jM N scope C ex s H) [] (dq own ix σ) H {s with heap:=h',toks:=tk}:=by
 have sub:∀x c,(mE X.env.cells scope.names []).lookup x=some c->X.env.cells.lookup x=some c:=xF scope.names [] λx c e=>by simp at e
 have nb:∀b o,X.base.get? b=some o->b∉ex:=λb o e hb=>by
  rcases (hx b hb).2.2.2.1 with z | z
  ·exact I.ok.noex b o e z
  ·exact absurd (aae (aab e) (aaF I.ok.bsz z)) (aaN _)
 have nstk:∀b∈ex,b∉iK X.stack:=λb hb z=>by
  rcases aaE.mp (I.ze b z)with e | e
  ·exact(hx b hb).2.1 e
  ·exact(hx b hb).2.2.1 e
 refine⟨⟨I.ok.mod,B.kind,I.ok.glob,I.ok.blt,?_,λx y c e1 e2=>I.ok.inj x y c (sub x c e1) (sub y c e2),λx hk'=>?_,(λ_ _ z=>absurd (show false=true from z) (by decide)),I.ok.hd,I.ok.frames,.inl rfl,λb hb=>⟨?_,λx c e=>(hx b hb).2.2.2.2.1 x c (sub x c e)⟩,
  λb o e=>I.bs b o e,aaF I.ok.bsz I.sz,nb,nstk,I.stack,I.jc⟩,rfl,I.bare,Un.kept hk,⟨_,hn,λj x v e1 e2 e3=>?_⟩,λx c e=>?_,?_,λx c e=>I.freeC x c (sub x c e),(λp hp=>nomatch hp),I.hok.kept hk,?_⟩
 ·show s.heap.objs.size<=C;exact ac0 hC.symm
 ·have hk'':(relabel scope X.env).names.lookup x=some .cell∨(relabel scope X.env).names.lookup x=some .free:=hk';rw[rn]at hk''
  have hf:scope.names.lookup x=some .free:=by
   cases q:scope.names.lookup x with
   | none=>rw[q]at hk'';rcases hk'' with z | z<;>cases z
   | some k =>
    rw[q]at hk'';by_cases hkf:k=.free
    ·rw[hkf]
    ·exfalso
     have hb:(k == NameKind.free)=false:=by simpa using hkf
     have hm:=List.all_eq_true.mp B.cell (x,k) (eU q);simp only[Option.map_some,hb,Bool.false_and,Bool.false_eq_true,if_false]at hk'';rcases hk'' with z | z
     ·rw[Option.some.inj z]at hm;exact absurd hm (by simp)
     ·exact hkf (aak z)
  obtain⟨_,c,hc⟩:=B.has I (x,.free) (eU hf) rfl;exact⟨c,rl hc scope.names [] (eU hf)⟩
 ·show b≠C;rw[hC];exact aar (hlt b hb)
 ·obtain⟨i,h1,h2,h3⟩:=uI e2;have hN:N[j]?=some x:=e1
  have hxN:X.N[i]?=some x:=by
   have e:(ix.map λi=>X.N[i]?)[j - own]?=((N.drop own).map some)[j - own]?:=by rw[B.ixs]
   rw[aaO,h2,aaO,abL]at e;have hj:own + (j - own)=j:=by omega
   rw[hj,hN]at e;simpa using e
  have hfr:scope.names.lookup x=some .free:=by
   have hm:x∈N.drop own:=by
    refine aaG (i:=j - own) ?_;rw[abL,show own + (j - own)=j by omega];exact hN
   have:=List.all_eq_true.mp B.fr x hm;simpa using this
  obtain⟨hkc,c,hc⟩:=B.has I (x,.free) (eU hfr) rfl;obtain⟨m,hm,hl⟩:=I.loc;obtain⟨u,r,l⟩:=hl i x v hxN h3 (.inr (.inl hkc));refine⟨u,r,?_⟩;rcases l with⟨z,_⟩ | ⟨_,c',hc',hz⟩
  ·have z':X.env.kindOf x=some .local:=z;have hkc':X.env.kindOf x=some .cell:=hkc;rw[hkc']at z';cases z'
  ·rw[hc]at hc';cases hc';refine .inr ⟨.inl ?_,c,rl hc scope.names [] (eU hfr),?_⟩
   ·show(relabel scope X.env).names.lookup x=some .cell;rw[rn,hfr];have hkc':X.env.kindOf x=some .cell:=hkc;have hkf:X.env.scope.kind=.function:=I.ok.kind;simp[hkc',hkf]
   ·obtain⟨o,ho,hd⟩:=hz;exact⟨o,hk _ _ ho,hd⟩
 ·obtain⟨v,o,ho,hd⟩:=I.cell x c (sub x c e);exact⟨v,o,hk _ _ ho,hd⟩
 ·show H C=none;exact I.hok.fresh (ac0 hC.symm)
 ·show(dq own ix σ).length=N.length;rw[B.len];simp[dq]
theorem Bj{C:Addr}{ex:List Addr}{σ':St}{H':Hp}{s':Shared}(I:Inv X pins σ H s)(hx:∀b∈ex,mh X pins H b)(I':Inv (X.jM N scope C ex s H) [] σ' H' s'):Inv X pins σ H' s' :=
 I.A2 (ch:=ex) I'.os I'.base I'.hok I'.bare λb hb=>⟨(hx b hb).2.2.2.1,(hx b hb).2.1,(hx b hb).2.2.2.2.1,(hx b hb).2.2.2.2.2⟩
def Np(X:Cx)(ifs:List Expr)(tt:TT):Prop:=∀(pins:List (Addr×Obj)) (s:Shared) (σ:St) (H:Hp) (Q:Bool->Hp->Prop),Inv X pins σ H s->tt σ H Q ->
 wpAny (model X.prog X.w) X.A (forIn ifs true λc r=>if r=true then do let ok ← isTrue c X.env (eval c X.env);pure (ForInStep.yield ok)else pure (ForInStep.yield r)) (TP X pins σ Q) X.xe s
def Uk:TT:=λ_ H Q=>Q true H
theorem qC{X:Cx}:Np X [] Uk:=λ_ _ _ H _ I h=>wpAny_tests_nil ⟨H,I,h⟩
def Qm(J:It)(own:Nat)(ix:List Nat)(σ:St)(g:TG)(tt:TT)(te:TE)(D:Addr)(H1:Hp)(Q:VK):Prop:=∃W:Nat->Nat->List V->Hp->Prop,
 (∃m,W 0 m [] (upd H1 D (.lst [])))/\∀i m ys H2,W i m ys H2->H2 D=some (.lst ys)/\((J.stop i H2/\Q (.ref D) H2)∨(J.go i H2/\ys.length < sizeLine/\∃Nx:List V->Hp->Prop,(∀ys' H',Nx ys' H'->∃m',m' < m/\W (i + 1) m' ys' H')/\∀x H3,J.yld i H2 x H3 ->
  g x (dq own ix σ) H3 λσ2 H4=>σ2.drop own=(ix.map λi=>(σ[i]?).getD none)/\tt σ2 H4 λb H5=>if b=true then te σ2 H5 λv H6=>H6 D=some (.lst ys)/\Nx (ys++[v]) (upd H6 D (.lst (ys++[v])))else Nx ys H5))
def Qn(own:Nat)(ix:List Nat)(wi:TI)(g:TG)(tt:TT)(te:TE):TE:=λσ H Q=>wi σ H λJ H1=>∀D,H1 D=none->Qm J own ix σ g tt te D H1 Q
theorem xG{prog:Program}{w:World}{A:Around}{R:Result->Shared->Prop}{s:Shared}{elt target iter:Expr}{ifs:List Expr}{scope:Scope}{pos:Pos}{it acc:Value}{env:Env}(I:Nat->Shared->Prop)
  (turn:∀n s,I n s->wpAny (model prog w) A (pyNext it) (λr s1=>match r with
   | none=>R (.ok .next) s1
   | some v=>wpAny (model prog w) A (letOwnedTupleGo target it v) (λ_ s1'=>wpAny (model prog w) A (assign target env v) (λ_ s2 =>
     wpAny (model prog w) A (forIn ifs true λc r=>if r=true then do let ok ← isTrue c env (eval c env);pure (ForInStep.yield ok)else pure (ForInStep.yield r)) (λok s3 =>
      if ok=true then wpAny (model prog w) A (eval elt env) (λx s4=>wpAny (model prog w) A (call (.builtin "list.append") [acc,x]) (λ_ s5=>∃m,m < n/\I m s5) (λ_ _=>False) s4) (λ_ _=>False) s3
      else ∃m,m < n/\I m s3) (λ_ _=>False) s2) (λ_ _=>False) s1') (λ_ _=>False) s1) (λ_ _=>False) s)
  (n:Nat) (h:I n s):codeAny (model prog w) A (.compLoop (.ListComp elt [⟨target,iter,ifs,0⟩] scope pos) 0 it acc env) R s:=by
 refine codeAny_loop rfl I (λn s hI=>?_) n h;show wpAny _ A ((compTurn (.ListComp elt [⟨target,iter,ifs,0⟩] scope pos) 0 it acc env).onRaise (λx=>do noteFrame x env;theTreesLotGoes x)) _ _ s;refine wpAny_noted ?_;rw[compTurn_list];refine aaa (abA (aaa (aam (turn n s hI) (λr s1 h1=>?_) λ_ _ z=>z.elim)))
 cases r with
 | none=>exact aag h1
 | some v =>
  refine aaa (aam h1 (λ_ s1' h1'=>?_) λ_ _ z=>z.elim);refine aaa (aam h1' (λ_ s2 h2=>aaa (aam h2 (λok s3 h3=>?_) λ_ _ z=>z.elim)) λ_ _ z=>z.elim)
  cases ok with
  | false=>exact aag ⟨rfl,h3⟩
  | true=>exact aaa (aaa (aam h3 (λx s4 h4=>aaa (aam h4 (λ_ s5 h5=>aag (aag ⟨rfl,h5⟩)) λ_ _ z=>z.elim)) λ_ _ z=>z.elim))
theorem Bk{elt tg iter:Expr}{ifs:List Expr}{pos:Pos}{g:TG}{tt:TT}{te:TE}{it:Addr}{fp:List Addr}{tn:Nat->Heap->Prop}{J:It}{Q:VK}{E:Value->Shared->Prop}{RR:Value->Addr->Result->Shared->Prop}(B:kW X own N ix scope)
  (hin:∀(C:Addr) (s:Shared) (H:Hp),PG (X.jM N scope C fp s H) tg g/\Np (X.jM N scope C fp s H) ifs tt/\PE (X.jM N scope C fp s H) elt te)
  (I:Inv X pins σ H s) (T:Turn X.prog X.w X.K tg J fp it tn) (st:tn 0 s.heap) (hf:∀b∈fp,mh X pins H b)
  (h:∀D,H D=none->Qm J own ix σ g tt te D H Q)
  (fin:∀(D C:Addr) (H':Hp) (s':Shared) (m:Str->Option Value),Inv X pins σ H' s'->s'.heap.Ns C m->H' C=none->C≠X.env.locals->(X.s₀.heap.objs.size<=C)->(∀x c,X.env.cells.lookup x=some c->c≠C)->(∀p∈X.pn++pins,p.1≠C)->Q (.ref D) H'->RR (.ref D) C (.ok .next) s') :
  wpAny (model X.prog X.w) X.A (newList []) (λacc s3=>wpAny (model X.prog X.w) X.A (newFunctionEnv scope X.env.globals (mE X.env.cells scope.names []) [] X.env.qual none .none (some X.env)) (λcenv s4 =>
   codeAny (model X.prog X.w) X.A (.compStart (.ListComp elt [⟨tg,iter,ifs,0⟩] scope pos) 0 (.ref it) acc {cenv with scope:=relabel scope X.env}) (RR acc cenv.locals) s4) E s3) E s:=by
 obtain⟨W,⟨m0,w0⟩,turn⟩:=h s.heap.objs.size I.fresh;refine abD ?_;have I3:=I.Ng (its:=[]) (ys:=[]) (t':=s.toks) .nil (abl _)
 have hcell:∀y∈scope.names,y.2≠NameKind.cell:=λy hy e=>by
  have:=ab6.mp B.cell y hy;rw[e]at this;exact absurd this (by decide)
 refine wpAny_newFunctionEnv hcell (by intro y hy;simp at hy) (λh1 zC zD=>?_) B.kind;dsimp only at zC zD ⊢;generalize Nq:s.heap.push {cls:=.type "list",dict:=none,data:=.seq ([]:List Value).toArray}=h2 at zC zD ⊢
 have I3':Inv X pins σ (upd H s.heap.objs.size (.lst [])) {s with heap:=h2}:=by
  have z:({s with heap:=s.heap.push {cls:=.type "list",data:=.seq ([]:List Value).toArray},toks:=s.toks}:Shared)={s with heap:=h2}:=by rw[← Nq]
  rw[← z];exact I3
 have sz:h2.objs.size=s.heap.objs.size + 1:=by rw[← Nq,abR]
 have Nr:∀b o,s.heap.get? b=some o->h2.get? b=some o:=λb o e=>by rw[← Nq];exact aaf _ e
 have xH:∀b o,h2.get? b=some o->h1.get? b=some o:=λb o e=>zD.extBut b o (aar (aab e)) (aaf _ e)
 have there:∀b∈fp,b < s.heap.objs.size:=λb hb=>by obtain⟨o,e,_⟩:=T.obj _ _ st b hb;exact aab e
 have L6:∀b∈fp,mh X pins (upd H s.heap.objs.size (.lst [])) b:=λb hb=>⟨by rw[uN (aar (there b hb))];exact(hf b hb).1,(hf b hb).2⟩
 have Ju:h1.Ns h2.objs.size (λ_=>none):=by simpa using zC
 have I4:=uJ (tk:=s.toks + ([]:List (Str×Value)).length) (own:=own) (N:=N) (ix:=ix) B I3' rfl L6 (λb hb=>aae (there b hb) (by show s.heap.objs.size<=h2.objs.size;rw[sz];exact abN _)) Ju xH;have qD:tn 0 h1:=T.keep _ _ _ st λb _ o e=>xH b o (Nr b o e)
 have Bc:(X.jM N scope h2.objs.size fp {s with heap:=h2} (upd H s.heap.objs.size (.lst []))).calm=true:=B.calm;obtain⟨pg,pif,pe⟩:=hin h2.objs.size {s with heap:=h2} (upd H s.heap.objs.size (.lst []))
 have fpb:∀{H':Hp},(∀b∈fp,H' b=none)->∀b∈fp,mh (X.jM N scope h2.objs.size fp {s with heap:=h2} (upd H s.heap.objs.size (.lst []))) [] H' b:=λhz b hb =>
  ⟨hz b hb,aar (aae (there b hb) (by show s.heap.objs.size<=h2.objs.size;rw[sz];exact abN _)),I4.ok.exfs b hb,.inl hb,λx c e=>(I4.ok.exf b hb).2 x c e,(λp hp=>nomatch hp)⟩
 have loop:∀s3:Shared,s3={s with heap:=h1,toks:=s.toks + ([]:List (Str×Value)).length} ->
   codeAny (model X.prog X.w) X.A (.compLoop (.ListComp elt [⟨tg,iter,ifs,0⟩] scope pos) 0 (.ref it) (.ref s.heap.objs.size) (compEnvC scope (mE X.env.cells scope.names []) h2.objs.size X.env)) (RR (.ref s.heap.objs.size) h2.objs.size) s3:=by
  rintro s3 rfl;refine xG (λn s'=>∃i ys H',Inv (X.jM N scope h2.objs.size fp {s with heap:=h2} (upd H s.heap.objs.size (.lst []))) [] (dq own ix σ) H' s'/\tn i s'.heap/\(∀b∈fp,H' b=none)/\W i n ys H') ?_ m0
   ⟨0,[],_,I4,qD,λb hb=>(L6 b hb).1,w0⟩
  rintro n s5 ⟨i,ys,H5,I5,y8,MZ,w5⟩;obtain⟨hD,t5⟩:=turn i n ys H5 w5;rcases t5 with⟨stop,qn⟩ | ⟨go,hz,Nx,hNx,step⟩
  ·refine bU (T.done (X.jM N scope h2.objs.size fp {s with heap:=h2} (upd H s.heap.objs.size (.lst []))) rfl rfl rfl Bc i [] s5 _ H5 (λ_ _=>False) I5 (fpb MZ) y8 stop) λr s6 ⟨hr,I6⟩=>?_
   subst hr;obtain⟨m,hm,_⟩:=I6.loc;refine fin _ _ H5 s6 m (Bj I3' L6 I6) hm I6.free ?_ ?_ (λx c e z=>?_) (λp hp z=>?_) qn
   ·have:=I3'.lt;exact aa5 this
   ·exact I3'.sz
   ·obtain⟨v,q⟩:=I3'.cell x c e;have:=q.lt;rw[z]at this;exact absurd this (aaN _)
   ·have:=aab (I3'.pin p hp).1;rw[z]at this;exact absurd this (aaN _)
  ·refine bU (T.item (X.jM N scope h2.objs.size fp {s with heap:=h2} (upd H s.heap.objs.size (.lst []))) rfl rfl rfl Bc i [] s5 _ H5 (λ_ _=>False) I5 (fpb MZ) y8 go) λr s6 ⟨u,hr,h6⟩=>?_
   subst hr;refine bU h6 λ_ s7 ⟨x,H7,I7,r7,y7,Nt,Ul⟩=>?_
   have I7':=I7.pinned (fpb Ul) (T.obj _ _ Nt);refine bU (pg _ s7 _ H7 x u _ I7' r7 (step x H7 y7)) λ_ s8 ⟨σ8,H8,I8,Um,q8⟩=>?_
   refine bU (pif _ s8 σ8 H8 _ I8 q8) λb s9 ⟨H9,I9,q9⟩=>?_
   have again:∀{ys':List V} {H':Hp} {s':Shared},Inv (X.jM N scope h2.objs.size fp {s with heap:=h2} (upd H s.heap.objs.size (.lst []))) ([]++oB fp s7.heap) σ8 H' s'->Nx ys' H' ->
     ∃m,m < n/\∃i ys H',Inv (X.jM N scope h2.objs.size fp {s with heap:=h2} (upd H s.heap.objs.size (.lst []))) [] (dq own ix σ) H' s'/\tn i s'.heap/\(∀b∈fp,H' b=none)/\W i m ys H':=by
    intro ys' H' s' I' w';obtain⟨m',hm,w'⟩:=hNx _ _ w';refine⟨m',hm,i + 1,ys',H',(I'.kQ).weak ?_ (rq Um),T.keep _ _ _ Nt λb hb o e=>(I'.pin (b,o) (aaA _ (aaA _ (gc hb e)))).1,λb hb=>?_,w'⟩
    ·rw[I'.len,← I4.len]
    ·obtain⟨o,e,d⟩:=T.obj _ _ Nt b hb;exact(I'.pin (b,o) (aaA _ (aaA _ (gc hb e)))).2.1
   cases b with
   | true =>
    simp only[if_true]at q9 ⊢;refine bU (pe _ s9 σ8 H9 _ I9 q9) λv Uo ⟨y,Q9,Up,Uq,Nu,Ur⟩=>?_
    refine bU (eS _ Uo σ8 Q9 (.ref _) [y] (.ref _) [v] (λ_ H'=>Nx (ys++[y]) H') Up rfl (.cons Uq .nil) ⟨_,ys,y,rfl,rfl,Nu,hz,Ur⟩) λ_ Zx ⟨_,Tb,Us,_,Ut⟩=>?_
    exact again Us Ut
   | false =>
    simp only[Bool.false_eq_true,if_false]at q9 ⊢;exact again I9 q9
 exact codeAny_compStart_list (loop _ rfl) (T.self _ 0 _ _ _ qD (loop _ rfl))
theorem vF{K:aV}{a:Addr}{xs:List V}{g:TG}{tt:TT}{te:TE}{H1:Hp}{Q:VK}{D:Addr}(Pv:Nat->List V->Hp->Prop)(hn:xs.length<=sizeLine)(h0:Pv 0 [] (upd H1 D (.lst [])))(hD:∀i ys H,i<=xs.length->Pv i ys H->H D=some (.lst ys)/\ys.length<=i/\bZ K H a xs)
  (hs:∀i x ys H2,xs[i]?=some x->Pv i ys H2->g x (dq own ix σ) H2 λσ2 H4=>σ2.drop own=(ix.map λi=>(σ[i]?).getD none)/\tt σ2 H4 λb H5=>if b=true then te σ2 H5 λv H6=>H6 D=some (.lst ys)/\Pv (i + 1) (ys++[v]) (upd H6 D (.lst (ys++[v])))else Pv (i + 1) ys H5)
  (hd:∀ys H2,Pv xs.length ys H2->Q (.ref D) H2) :
  Qm (Im K a) own ix σ g tt te D H1 Q:=by
 refine⟨λi m ys H=>m=xs.length - i/\i<=xs.length/\Pv i ys H,⟨xs.length,by simp,Nat.zero_le _,h0⟩,?_⟩;rintro i m ys H2 ⟨rfl,hi,p⟩;obtain⟨q1,q2,q3⟩:=hD i ys H2 hi p;refine⟨q1,?_⟩;by_cases hlt:i < xs.length
 ·refine .inr ⟨⟨xs,xs[i],q3,by simp[hlt]⟩,by omega,Pv (i + 1),λys' H' p'=>⟨xs.length - (i + 1),by omega,rfl,hlt,p'⟩,λx H3 y=>?_⟩;obtain⟨e1,e2⟩:=y;subst e1;exact hs i x ys _ (e2 xs q3) p
 ·have e:i=xs.length:=by omega
  subst e;exact .inl ⟨⟨xs,q3,aai _⟩,hd ys H2 p⟩
theorem Nv{K:aV}{a:Addr}{xs:List V}{g:TG}{tt:TT}{te:TE}{H1:Hp}{Q:VK}{D:Addr}(Pv:Nat->List V->Hp->Prop)(hn:xs.length<=sizeLine)(h0:Pv 0 [] (upd H1 D (.lst [])))(hD:∀i ys H,i<=xs.length->Pv i ys H->H D=some (.lst ys)/\ys.length<=i/\cX K H a xs)
  (hs:∀i x ys H2,xs[i]?=some x->Pv i ys H2->g x (dq own ix σ) H2 λσ2 H4=>σ2.drop own=(ix.map λi=>(σ[i]?).getD none)/\tt σ2 H4 λb H5=>if b=true then te σ2 H5 λv H6=>H6 D=some (.lst ys)/\Pv (i + 1) (ys++[v]) (upd H6 D (.lst (ys++[v])))else Pv (i + 1) ys H5)
  (hd:∀ys H2,Pv xs.length ys H2->Q (.ref D) H2) :
  Qm (Qk K a) own ix σ g tt te D H1 Q:=by
 refine⟨λi m ys H=>m=xs.length - i/\i<=xs.length/\Pv i ys H,⟨xs.length,by simp,Nat.zero_le _,h0⟩,?_⟩;rintro i m ys H2 ⟨rfl,hi,p⟩;obtain⟨q1,q2,q3⟩:=hD i ys H2 hi p;refine⟨q1,?_⟩;by_cases hlt:i < xs.length
 ·refine .inr ⟨⟨xs,xs[i],q3,by simp[hlt]⟩,by omega,Pv (i + 1),λys' H' p'=>⟨xs.length - (i + 1),by omega,rfl,hlt,p'⟩,λx H3 y=>?_⟩;obtain⟨e1,e2⟩:=y;subst e1;exact hs i x ys _ (e2 xs q3) p
 ·have e:i=xs.length:=by omega
  subst e;exact .inl ⟨⟨xs,q3,aai _⟩,hd ys H2 p⟩
theorem L7{elt tg iter:Expr}{ifs:List Expr}{pos:Pos}{wi:TI}{g:TG}{tt:TT}{te:TE}(own:Nat)(N:List Str)(ix:List Nat)(B:kW X own N ix scope)(hi:PI X tg iter wi)
  (hin:∀(C:Addr) (fp:List Addr) (s:Shared) (H:Hp),PG (X.jM N scope C fp s H) tg g/\Np (X.jM N scope C fp s H) ifs tt/\PE (X.jM N scope C fp s H) elt te)
  (hs:∀x,foldedSetIterable iter X.env x=pure x:=by intro _;rfl):PE X (.ListComp elt [⟨tg,iter,ifs,0⟩] scope pos) (Qn own ix wi g tt te):=by
 intro pins s σ H Q I h
 have hnames:∀y∈scope.names,y.2=NameKind.local->scope.names.lookup y.1=some .local:=λy hy e=>by
  have:=List.all_eq_true.mp B.loc y hy;rw[e]at this;simpa using this
 rw[eval_ListComp];refine acD (use:=none) rfl hs (jt λy hy e=>(B.has I y hy e).2) B.kind hnames (bU (hi pins s σ H _ I h) λv s1 h1=>bU h1 λitv s2 h2=>?_);obtain⟨it,fp,tn,J,H2,e,I2,T,bM,f2,rd⟩:=h2;subst e;refine Bk (Q:=Q) (RR:=λacc C=>compPost (model X.prog X.w) X.A X.xe none (EP X pins σ Q) acc C) B (λC s H=>hin C fp s H) I2 T bM f2 rd ?_;intro D C H' s' m I' hn hC hL hsz hce hpi q;exact⟨m,hn,λh' sb=>⟨.ref D,H',I'.turned (t':=s'.toks) (λb o hb e=>(sb.2 b hb).trans e) hC hL (.inr hsz) hce hpi,rfl,q⟩⟩
theorem xI{i:Nat}{x:Str}{elt tg iter:Expr}{ifs:List Expr}{pos pos' spos:Pos}{wi:TI}{g:TG}{tt:TT}{te:TE}(hN:X.N.Nodup)(hxi:X.N[i]?=some x)(hx:Loc X.env.scope x)(own:Nat)(N:List Str)(ix:List Nat)(B:kW X own N ix scope)(hi:PI X tg iter wi)
  (hin:∀(C:Addr) (fp:List Addr) (s:Shared) (H:Hp),PG (X.jM N scope C fp s H) tg g/\Np (X.jM N scope C fp s H) ifs tt/\PE (X.jM N scope C fp s H) elt te)
  (hsw:swapsWith (.ListComp elt [⟨tg,iter,ifs,0⟩] scope pos) (some (.Name x pos')) spos.line X.env=pure true:=by rfl) (hs:∀x,foldedSetIterable iter X.env x=pure x:=by intro _;rfl)
  (hfn:X.fn x=true∨X.env.scope.names.lookup x=some .local:=by first | exact .inl rfl | exact .inr rfl):PS X (.Assign [.Name x pos'] (.ListComp elt [⟨tg,iter,ifs,0⟩] scope pos) spos) (Eu (Qn own ix wi g tt te) (qW i)):=by
 intro pins s σ H D0 I h
 have hnames:∀y∈scope.names,y.2=NameKind.local->scope.names.lookup y.1=some .local:=λy hy e=>by
  have:=List.all_eq_true.mp B.loc y hy;rw[e]at this;simpa using this
 rw[exec_Assign_Name_used _ _ _ _ hsw];refine aaa (abA (aaa ?_));show wpAny _ X.A (do let _ ← comprehension (.ListComp elt [⟨tg,iter,ifs,0⟩] scope pos) scope X.env _ (newList []) false (eval iter X.env) (some (assign (.Name x pos') X.env))) _ _ s;refine aaa (bU (acD (use:=some (assign (.Name x pos') X.env)) (Q:=λ_ s'=>SP X pins D0 .next s') rfl hs (jt λy hy e=>(B.has I y hy e).2) B.kind hnames (bU (hi pins s σ H _ I h) λv s1 h1=>bU h1 λitv s2 h2=>?_)) λ_ s' hq=>aag (aag hq));obtain⟨it,fp,tn,J,H2,e,I2,T,bM,f2,rd⟩:=h2;subst e;refine Bk (Q:=λv H'=>qW i v σ H' D0.nx) (RR:=λacc C=>compPost (model X.prog X.w) X.A X.xe (some (assign (.Name x pos') X.env)) (λ_ s'=>SP X pins D0 .next s') acc C) B (λC s H=>hin C fp s H) I2 T bM f2 rd ?_;intro D C H' s' m I' hn hC hL hsz hce hpi q;show wpAny _ X.A (assign (.Name x pos') X.env (.ref D)) _ _ s';refine wpAny_assign_Name (ow I' hN hxi hx (v:=.ref D) rfl (λs'' I'' ⟨a,sb,ha⟩=>?_) hfn);refine⟨m,hn.sameBut sb ?_,λh' sb'=>⟨_,H',I''.turned (t':=s''.toks) (λb o hb e=>(sb'.2 b hb).trans e) hC hL (.inr hsz) hce hpi,q⟩⟩;rcases ha with e | e
 ·rw[e];exact hL
 ·exact abX (hce x a e)
end
theorem range_all(bs:List Bool):(List.range bs.length).all (λi=>(bs[i]?).getD true)=bs.all id:=by
 rw[Bool.eq_iff_iff,ab6,ab6]
 constructor
 ·intro h b hb;obtain⟨i,hi,e⟩:=List.mem_iff_getElem.mp hb;have z:=h i (List.mem_range.mpr hi);rw[jG hi,e]at z;exact z
 ·intro h i hi;have hi':=List.mem_range.mp hi;rw[jG hi'];exact h _ (ab7 hi')
section
variable {X:Cx}
def Uu(K:aV):List V->Hp->VK->Prop:=λxs H Q=>∃(p:Addr) (bs:List Bool),xs=[.ref p]/\bZ K H p (bs.map V.bl)/\Q (.bl (bs.all id)) H
theorem E9(hc:X.calm=true):iV X (.builtin "all") (Uu X.K):=by
 intro pins s σ H xs us Q I r h;obtain⟨p,bs,rfl,hS,q⟩:=h;obtain⟨u,rfl,ru⟩:=vals1 r;cases ru;obtain⟨its,rv,pl,hz⟩:=I.list hS
 have hlen:its.toArray.size=bs.length:=by
  have:=rv.length;simp at this;simp[this]
 have hlt:p < s.heap.objs.size:=by obtain⟨o,n,e,_⟩:=pl;exact aab e
 refine call_all_walk (wpAny_pyIter_list pl.isList ?_);refine⟨s.heap.objs.size,_,_,its.toArray.size,_,_,λi=>(bs[i]?).getD true,rfl,Walks.list (show X.A.in1.handled=none from I.ok.hd hc) _ _ (aar hlt) its.toArray,⟨⟨_,aaC _ rfl,rfl,rfl⟩,pl.isList.push _⟩,?_,λh' tk k=>?_⟩
 ·intro i v s' Q' E' hv hq
  have hi:i < bs.length:=by
   rw[← hlen];exact(Array.getElem?_eq_some_iff.mp hv).1
  obtain⟨u',hu',ru'⟩:=rv.get (i:=i) (x:=.bl bs[i]) (by rw[List.getElem?_map,jG hi];rfl);have e:its[i]?=some v:=by simpa using hv
  rw[hu']at e;cases e;cases ru';have hq':Q' ((bs[i]?).getD true) s':=hq;rw[jG hi]at hq';exact abP hq'
 ·rw[hlen,range_all];exact⟨.bl _,H,I.kept (t':=tk) λb o e=>k b o (by simpa using Nat.ne_of_lt (Heap.lt_size e)) (Heap.get?_push_of_some _ e),rfl,q⟩
def L8(K:aV):R2:=λx y H Q=>∃l b xs zs,x=.ref l/\y=.ref b/\bZ K H l xs/\bZ K H b zs/\xs.length + zs.length<=sizeLine/\∀p,H p=none->Q (.ref p) (upd H p (.lst (xs++zs)))
theorem Bl:jH X (binaryOp .Add) (L8 X.K):=by
 intro pins s σ H x y v u Q I rx ry h;obtain⟨l,b,xs,zs,rfl,rfl,hH,hB,hz,q⟩:=h;cases rx;cases ry;obtain⟨its,r,⟨⟨c1,d1,a1,Tc⟩,n,e,rfl,rfl,rfl⟩,z⟩:=I.list hH;obtain⟨Cp,r2,⟨⟨c2,d2,a2,M8⟩,n2,e2,rfl,rfl,rfl⟩,z2⟩:=I.list hB;have hl:=r.length;have Nw:=r2.length;refine concat_meets ⟨_,e,rfl⟩ ⟨_,e2,rfl⟩ noFill_list_add seq_list_add PySem.F.slot_list_add PySem.F.entry_list_add (PySem.F.args_list_add_2 _ _)
  (list_addW l b its.toArray Cp.toArray n n2 none none Tc M8 (by rw[aaS,aaS];omega)) ⟨e,e2,?_⟩
 rw[show its.toArray++Cp.toArray=(its++Cp).toArray by simp];exact⟨.ref _,_,I.Ng (t':=s.toks) (r.append r2) (by rw[List.length_append];omega),rfl,q _ I.fresh⟩
end
section
variable {X:Cx} {tg:Expr}
end
section
variable {prog:Program} {w:World} {A:Around} {E:Value->Shared->Prop} {s:Shared}
variable {q1 q2:Bool} {z TI TO i1 i2 l1 l2:Addr} {k1 k2:Nat} {xs ys:Array Value} {x y a b:Value}
end
section
variable {prog:Program} {w:World} {A:Around} {E:Value->Shared->Prop} {s:Shared} {q1 q2:Bool}
end
def Xi(q:Bool)(K:aV)(H:Hp)(a:Addr)(xs:List V):Prop:=match q with | true=>bZ K H a xs | false=>cX K H a xs
section
variable {X:Cx}
end
theorem rz{H:Hp}{p:Addr}(h:H p=none)(o:HO):bf H (upd H p o):=λb u q=>by rw[uN (nN q h)];exact q
section
variable {prog:Program} {w:World} {A:Around} {E:Value->Shared->Prop} {s:Shared}
theorem Cs{t sl:Addr}{items:Array Value}{vl vu:Value}{lo hi:Option Int}{Q:Value->Shared->Prop}(ht:IsTup s.heap t items)(hs:s.heap.IsSliceOf sl vl vu .none)(pl:IsPart vl lo)(pu:IsPart vu hi)
  (hw:HT.eL items.size 0 lo=0/\HT.eL items.size items.size hi=items.size) (h:Q (.ref t) s):wpAny (model prog w) A (getItem (.ref t) (.ref sl)) Q E s:=by
 obtain⟨os,hos,hcs,hds⟩:=id hs;have hTs:s.TypeIs (.ref sl) "slice":=⟨os,hos,hcs⟩;unfold getItem
 try with_reducible refine aa3 ?_
 first | refine aaa (aag ?_) | skip
 refine wpAny_bind (wpAny_sequenceKey ht.typeIs (by decide) ?_);refine wpAny_bind (wpAny_callSpecial?_slot (name:=Str.ofString "__getitem__") ht.typeIs PyProof.Rows.slot_tuple_getitem (wpAny_call_entry PyProof.Rows.slot_tuple_getitem ht.typeIs entry_tuple_getitem ?_ (args_tuple_getitem _ _)));show wpAny _ _ (Builtin.Tuple.tupleItemsOf (.ref t) >>= _) _ _ s;refine wpAny_bind (tupleItemsOf_ ht (wpAny_bind (wpAny_typeOf hTs ?_)));rw[if_pos (by decide)];refine wpAny_bind (HT.jL hs pl pu ?_);show wpAny _ _ (if (((HT.eL items.size 0 lo:Nat):Int) == 0&&(1:Int) == 1&&(HT.eL items.size items.size hi - HT.eL items.size 0 lo) == items.size)=true then _ else _) _ _ s;rw[if_pos (by rw[hw.1,hw.2];simp)];unfold Builtin.Tuple.tupleIsExact;refine wpAny_bind (wpAny_bind (wpAny_typeOf ht.typeIs (wpAny_pure ?_)));rw[if_pos (by decide)];exact wpAny_bind (wpAny_rule (wpAny_pure ⟨_,rfl,wpAny_pure h⟩))
end
section
variable {X:Cx}
def Ra(K:aV):V->Option Int->Option Int->Hp->VK->Prop:=λx lo hi H Q=>∃a xs,x=.ref a/\cX K H a xs/\∀p H',bf H H'->cX K H' p (rb xs lo hi)->Q (.ref p) H'
theorem Jv:Ip X (Ra X.K):=by
 intro pins s σ H x v vl vu lo hi sl Q I rx hs pl pu h;obtain⟨a,xs,rfl,hx,q⟩:=h;by_cases hw:HT.eL xs.length 0 lo=0/\HT.eL xs.length xs.length hi=xs.length
 ·cases rx;obtain⟨its,r,ht,hz⟩:=I.tuple hx;have hlen:its.toArray.size=xs.length:=by rw[aaS];exact r.length.symm
  refine⟨"tuple",_,PyProof.Rows.slot_tuple_getitem.lookup,ht.typeIs,Cs ht hs pl pu (by rw[hlen];exact hw) ⟨.ref a,H,I,rfl,q a H (bf.refl _) ?_⟩⟩;have e:rb xs lo hi=xs:=by unfold rb;rw[hw.1,hw.2];simp
  rw[e];exact hx
 ·exact EO pins s σ H _ v vl vu lo hi sl Q I rx hs pl pu ⟨a,xs,rfl,hx,hw,λp hp=>q p _ (rz hp _) (cX.of uS)⟩
def L9(K:aV):R2:=λx y H Q=>∃a b xs ys,x=.ref a/\y=.ref b/\cX K H a xs/\cX K H b ys/\xs.length + ys.length<=sizeLine/\∀p H',bf H H'->cX K H' p (xs++ys)->Q (.ref p) H'
theorem Jw:jH X (binaryOp .Add) (L9 X.K):=by
 intro pins s σ H x y v u Q I rx ry h;obtain⟨a,b,xs,ys,rfl,rfl,ha,hb,hz,q⟩:=h;by_cases hx:xs=[]
 ·subst hx;cases rx;cases ry;obtain⟨its,r1,p1,_⟩:=I.tuple ha;obtain⟨Cp,r2,p2,_⟩:=I.tuple hb;cases r1;obtain⟨⟨c1,d1,e1,Tc⟩,ho,hc,n,hd⟩:=id p1;obtain⟨⟨c2,d2,e2,M8⟩,Co,L4,n2,hd2⟩:=id p2;simp only at hc hd L4 hd2;subst hc hd L4 hd2;exact concat_meets ⟨_,ho,rfl⟩ ⟨_,Co,rfl⟩ noFill_tuple_add seq_tuple_add PySem.F.slot_tuple_add PySem.F.entry_tuple_add (PySem.F.args_tuple_add_2 _ _)
   (tuple_addW0 a b _ Cp.toArray n n2 d1 d2 Tc M8 (by simp)) ⟨ho,Co,⟨.ref b,H,I,rfl,q b H (bf.refl _) hb⟩⟩
 ·exact Jh pins s σ H _ _ v u Q I rx ry ⟨a,b,xs,ys,rfl,rfl,ha,hb,hx,hz,λe=>q a H (bf.refl _) (by rw[e,aaT];exact ha),λ_ p hp=>q p _ (rz hp _) (cX.of uS)⟩
end
structure Ma(P:Program)(w:World)(fs:List Env)(H H':Hp)(h0 B:Heap)(a:Addr)(cls a0:Value)(h:Heap):Prop where
 keep:∀b o,h0.get? b=some o->H b=none->b∉iK fs->B.get? b=some o
 there:∀b o,h0.get? b=some o->b∉iK fs->∃o',B.get? b=some o'
 slot:∀b o,h0.get? b=some o->b∈iK fs->∃sl,h.get? b=some {o with slots:=sl}
 free:∀b o,h0.get? b=some o->H b=none->H' b=none
 tups:∀b xs,H b=some (.tup xs)->H' b=some (.tup xs)
 fu:∀b o u,H b=some (.mq o u)->H' b=some (.mq o u)
 tbls:∀b ps,H b=some (.tbl ps)->∃more,H' b=some (.tbl (ps++more))
 hok:kO P w H' B
 fly:Heap.FlyingW B fs a cls a0 h
section
variable {P:Program} {w:World} {fs:List Env} {H H':Hp} {h0 B h h':Heap} {a:Addr} {cls a0:Value}
theorem Ma.new(F:Ma P w fs H H' h0 B a cls a0 h):H' a=none:=by
 cases q:H' a with
 | none=>rfl
 | some u =>
  have:=(F.hok a u q).lt;have z:=F.fly.2.1
  exact absurd z (by
   intro z
   have e:∃o,B.get? a=some o:=by
    have ok:=F.hok a u q
    cases u with
    | lst xs=>obtain⟨_,_,_,_,e⟩:=ok;exact⟨_,e⟩
    | tup xs=>obtain⟨_,_,_,o,e,_⟩:=ok;exact⟨_,e⟩
    | dK kvs=>obtain⟨_,_,_,_,o,_,_,e,_⟩:=ok;exact⟨_,e⟩
    | dT kvs=>obtain⟨_,_,_,_,o,_,_,e,_⟩:=ok;exact⟨_,e⟩
    | set S n=>obtain⟨o,_,_,_,e,_⟩:=ok;exact⟨_,e⟩
    | ins C dx fs=>obtain⟨_,_,_,e,_⟩:=ok;exact⟨_,e⟩
    | own y=>exact ok
    | xd fs=>obtain⟨_,⟨o,_,_,e,_⟩,_⟩:=ok;exact⟨_,e⟩
    | rng lo hi=>obtain⟨_,_,_,e⟩:=ok;exact⟨_,e⟩
    | mq ob u=>obtain⟨e,_⟩:=ok;exact⟨_,e⟩
    | tbl ps=>exact⟨_,ok⟩
    | met f y=>exact⟨_,ok⟩
    | ext φ=>obtain⟨_,e,_⟩:=ok;exact e
   obtain⟨o,e⟩:=e;rw[z]at e;cases e)
end
def Rz(X:Cx)(E:XK):Prop:=∀(pins:List (Addr×Obj)) (σ:St) (H:Hp) (s:Shared) (h':Heap) (e C:Addr) (vs:List Value),Inv X pins σ H s->Heap.MadeExcOf s.heap h' e (.ref C) vs->E (.ref C) none H->X.xe (.ref e) {s with heap:=h'}
section
variable {P:Program} {w:World} {K:aV} {mg:Str->Option Value} {base:Heap} {N:List Str} {qual:Str} {scope:Scope} {f:Addr} {cd:Value} {A:Around} {outer:List Env} {s₀:Shared} {H₀:Hp} {E:XK}
theorem bt{env:Env}{l:List Env}{L b:Addr}(hf:env.frame=some L):b∈iK (env::l)↔b=L∨b∈iK l:=by
 unfold iK;rw[List.filterMap_cons,hf];exact List.mem_cons
end
theorem Ct{K:aV}{h:Heap}{C:Addr}{bmB:List Value}{newId:String}(X:K.In h)(q:PySem.W.excIn K C bmB newId=true):
  ∃bm N nm qn bs hd sn sub ab col dd k0 k1 k2 k3 k5 mN,h.get? C=some (excClassObj nm qn C N bs bm hd sn sub ab col dd k0 k1 k2 k3 k5 newId)/\h.Ns N mN/\mN "__init__"=none/\OwnTail h bmB bm:=by
 unfold PySem.W.excIn at q;split at q
 ·rename_i dd cd sl ho;split at q
  ·rename_i C' bm k0 k1 k2 k3 n k5 hm hs;simp only[Bool.and_eq_true,beq_iff_eq,Bool.not_eq_true']at q;obtain⟨⟨⟨⟨⟨rfl,rfl⟩,hdel⟩,ht⟩,hok⟩,hni⟩:=q;obtain⟨nm,bs,mro,ns,qn,hd,sn,sub,ab,col,del⟩:=cd;dsimp only at hm hdel hok hni;subst hm hdel
   have hsl:sl=#[k0,k1,k2,k3,some (.builtin n),k5]:=by
    obtain⟨l⟩:=sl;simp only at hs;rw[hs]
   subst hsl;exact⟨bm,ns,nm,qn,bs,hd,sn,sub,ab,col,dd,k0,k1,k2,k3,k5,_,X _ _ ho,.of_isNs (PySem.W.isNs_of_in X hok),PySem.W.nsMap_none_of_in X hok hni,PySem.W.tail_of_in X ht⟩
  ·cases q
 ·cases q
def rA:Bool->List Value
 | true=>[.type "ValueError",.type "Exception",.type "BaseException",.type "object"]
 | false=>[.type "Exception",.type "BaseException",.type "object"]
def Xj:Bool->String
 | true=>"ValueError"
 | false=>"Exception"
def vG:Bool->String
 | true=>"ValueError.__new__"
 | false=>"Exception.__new__"
def Zy:Bool->String
 | true=>"ValueError.__init__"
 | false=>"Exception.__init__"
theorem Td:∀b,PySem.ExcBaseFacts (Xj b) (vG b) (Zy b) (rA b)
 | true=>F.excBase_ValueError
 | false=>F.excBase_Exception
theorem Bm(b:Bool):(rA b).contains (.type (Xj b))=true:=by cases b<;>decide
theorem rC(b:Bool):(rA b).contains (.type "BaseException")=true:=by cases b<;>decide
section
variable {X:Cx} {x:Str} {C:Addr} {E:XK} {np cpos pos:Pos}
def Ny(C:Addr)(E:XK):TS:=λ_ _ H=>E (.ref C) none H
theorem oF{bx:Bool}(hz:Rz X E)(hg:Gl X x)(hm:X.mg x=some (.ref C))(q:PySem.W.excIn X.K C (rA bx) (vG bx)=true)(hc:X.calm=true)(hd:(x == ("__debug__" : Str))=false:=by decide)(hpl:backTo cpos (starEach [] X.env)=[]:=by rfl):
  PS X (.Raise (some (.Call (.Name x np) [] [] cpos)) none pos) (Ny C E):=by
 intro pins s σ H D I h;obtain⟨bm,N,nm,qn,bs,hd',sn,sub,ab,col,dd,k0,k1,k2,k3,k5,mN,hC,hn,hi,T⟩:=Ct I.jb q;refine wpAny_Raise_call_subU (C:=C) (mN:=mN) (nm:=nm) (q:=qn) (N:=N) (bs:=bs) (bm:=bm) (hdct:=hd') (sn:=sn) (sub:=sub) (ab:=ab) (col:=col) (dd:=dd) (k0:=k0) (k1:=k1) (k2:=k2) (k3:=k3) (k5:=k5) (Td bx) (bmB:=rA bx) (Bm bx) (Td bx) (T.hasType (X:="BaseException") (b:=true) (rC bx)) (I.ok.hd hc) (by rw[hpl];rfl) hi ?_;refine gF I hg hm ⟨rfl,?_⟩ hd;rw[hpl];refine PyProof.Rows.evalArgs_none ⟨rfl,by decide,hC,hn,T,λh' e hx=>?_⟩;exact hz pins σ H s h' e C [] I hx h
end
abbrev Cx.hand(X:Cx)(a:Addr)(E:Value->Shared->Prop):Cx:={X with A:=X.A.mark (some (.ref a)),calm:=false,xe:=E}
section
variable {X:Cx} {pins:List (Addr×Obj)} {σ:St} {H:Hp} {s:Shared}
theorem Inv.hand(I:Inv X pins σ H s)(a:Addr)(E:Value->Shared->Prop):Inv (X.hand a E) pins σ H s :=
 ⟨⟨I.ok.mod,I.ok.kind,I.ok.glob,I.ok.blt,I.ok.above,I.ok.inj,I.ok.has,I.ok.cab,(λz=>nomatch (show false=true from z)),I.ok.frames,I.ok.stk,I.ok.exf,I.ok.bs,I.ok.bsz,I.ok.noex,I.ok.exfs,I.ok.ou,I.ok.frf⟩,I.os,I.bare,I.base,I.loc,I.cell,I.free,I.freeC,I.pin,I.hok,I.len⟩
theorem Inv.gf{a:Addr}{E:Value->Shared->Prop}(ok:X.Ok)(I:Inv (X.hand a E) pins σ H s):Inv X pins σ H s:=⟨ok,I.os,I.bare,I.base,I.loc,I.cell,I.free,I.freeC,I.pin,I.hok,I.len⟩
theorem Inv.adopt{a:Addr}{φ:Heap->Prop}(I:Inv X pins σ H s)(hn:H a=none)(h1:X.s₀.heap.get? a=none)(hL:a≠X.env.locals)(hfs:a∉X.fs)(hc:∀x c,X.env.cells.lookup x=some c->c≠a)(hp:∀p∈X.pn++pins,p.1≠a)
  (ok:φ s.heap/\(∃o,s.heap.get? a=some o)/\∀u v:Heap,φ u->(∀o,u.get? a=some o->v.get? a=some o)->φ v):Inv X pins σ (upd H a (.ext φ)) s:=by
 refine⟨I.ok,I.os,I.bare,⟨I.base.keep,I.base.slot,λb o e n hx=>?_,I.base.there,λb xs e=>?_,λb o u e=>?_,λb ps e=>?_⟩,I.loc,I.cell,?_,λx c e=>?_,λp hq=>?_,λb u e=>?_,I.len⟩
 ·rw[uN (λz=>by rw[z,h1]at e;cases e)];exact I.base.free b o e n hx
 ·have e':=I.base.tups b xs e;rw[uN (nN e' hn)];exact e'
 ·have e':=I.base.fu b o u e;rw[uN (nN e' hn)];exact e'
 ·obtain⟨m,e'⟩:=I.base.tbls b ps e;exact⟨m,by rw[uN (nN e' hn)];exact e'⟩
 ·rw[uN (abX hL)];exact I.free
 ·rw[uN (hc x c e)];exact I.freeC x c e
 ·obtain⟨q1,q2,q3⟩:=I.pin p hq;exact⟨q1,by rw[uN (hp p hq)];exact q2,q3⟩
 ·by_cases hb:b=a
  ·subst hb;rw[uS]at e;cases e;exact ok
  ·rw[uN hb]at e;exact(I.hok b u e).qT (λ_ _ _ q=>q) (λc q=>by rw[uN (nN q hn)];exact q) λc xs q=>by rw[uN (nN q hn)];exact q
theorem Bo{M:Model}{A:Around}{E:Value->Shared->Prop}{i:Nat}{n:Str}{pos:Pos}{Q:Unit->Shared->Prop}(I:Inv X pins σ H s)(hN:X.N.Nodup)(hi:X.N[i]?=some n)(hk:X.env.kindOf n=some .local)
  (h:∀s',Inv X pins (σ.set i none) H s'->Q () s'):wpAny M A (do bindName X.env n .none;unbindBehindTheSuite X.env n pos) Q E s:=by
 obtain⟨m,hn,hl⟩:=id I.loc;have hcls:(X.env.scope.kind == .class||(X.env.scope.kind == .module&&X.env.locals != X.env.globals))=false:=by rw[I.ok.kind];rfl
 have hiσ:i < σ.length:=by rw[I.len];exact(ft hi).1
 obtain⟨oL,_,_,hoL,_⟩:=id hn;refine wpAny_nameGoes_keeps hk hn hcls λh' v hn' hs=>?_
 refine h _ ⟨I.ok,I.os,I.bare,⟨λb o e n hb hx=>?_,λb o e n hb hx=>?_,I.base.free,λb o e hx=>?_,I.base.tups,I.base.fu,I.base.tbls⟩,⟨_,hn',λj y v' e1 e2 e3=>?_⟩,λy c e=>?_,I.free,I.freeC,λp hp=>?_,λb ob e=>?_,by simpa using I.len⟩
 ·exact(hs.2 b (aar (aae (aab e) I.ok.above))).trans (I.base.keep b o e n hb hx)
 ·obtain⟨sl,e1⟩:=I.base.slot b o e n hb hx;exact⟨sl,(hs.2 b (aar (aae (aab e) I.ok.above))).trans e1⟩
 ·obtain⟨o',e1⟩:=I.base.there b o e hx;exact⟨o',(hs.2 b (aar (aae (aab e) I.ok.above))).trans e1⟩
 ·by_cases hj:j=i
  ·subst hj;rw[aal hiσ]at e2;cases e2
  ·rw[aav (abX hj)]at e2;obtain⟨u',r',q⟩:=hl j y v' e1 e2 e3;refine⟨u',r',?_⟩;rcases q with⟨k,e⟩ | ⟨k,c,e,z⟩
   ·refine .inl ⟨k,?_⟩;have:y≠n:=λe=>hj (qU hN e1 (e ▸ hi))
    simp[this,e]
   ·exact .inr ⟨k,c,e,z.sameBut hs (I.IW y c e)⟩
 ·obtain⟨w',z⟩:=I.cell y c e;exact⟨w',z.sameBut hs (I.IW y c e)⟩
 ·obtain⟨e,n,ne,nf,d⟩:=I.pin p hp;exact⟨(hs.2 p.1 ne).trans e,n,ne,nf,d⟩
 ·refine(I.hok b ob e).qT (λc w' hc q=>(hs.2 c ?_).trans q) (λ_ q=>q) λ_ _ q=>q
  rintro rfl;rcases hc with rfl | hc
  ·rw[I.free]at e;cases e
  ·rw[I.free]at hc;cases hc
end
section
variable {X:Cx} {CW:Addr} {cx n:Str} {i:Nat} {b₀:Stmt} {suite:List Stmt} {np hpos pos:Pos} {tb:TS}
end
open PySem PySem.Spec PyProof.Rows PySem.W Builtin.Getset_descriptor
structure KX(K:Frag)(C:Addr):Prop where
 ga:findIn K (.ref C) "__getattribute__"=some (some (.builtin "BaseException.__getattribute__"))
 gh:findIn K (.ref C) "__getattr__"=some none
 cl:findIn K (.ref C) "__class__"=some (some (.builtin "object.__class__"))
 mb:mroIn K C (.type "BaseException")=some true
 mo:mroIn K C (.type "object")=some true
section
variable {prog:Program} {w:World} {A:Around} {E:Value->Shared->Prop} {K:Frag} {a C:Addr} {o:Obj} {h:Heap} {g:Array GenState} {d:Drawn} {t:Nat} {os:OsState}
theorem Fc{M:Model}{nameV:Value}{Q:Unit->Shared->Prop}(X:K.In h)(k:KX K C)(hx:h.get? a=some o)(hc:o.cls=.ref C)(hq:Q () ⟨h,g,d,t,os⟩):wpAny M A (checkBuiltinCall "BaseException.__getattribute__" ⟨[.ref a,nameV],[]⟩) Q E ⟨h,g,d,t,os⟩:=by
 have L1:=looks_mroIn (M:=M) X k.mb;have hk:builtinKind "BaseException.__getattribute__"=some .slot:=by decide +kernel
 have hsplit:splitId "BaseException.__getattribute__"=some ("BaseException","__getattribute__"):=by decide +kernel
 have ha:=F.args_bexc_ga (.ref a) nameV;simp only[checkBuiltinCall,hk,hsplit];refine wpAny_bind ?_;unfold isInstance
 repeat (first | (with_reducible refine aaK hx ?_;rw[hc]) | with_reducible refine L1.at ?_ | wp_step)
 exact hq
end
section
variable {X:Cx}
end
def xJ(_i j:Int):Prop:=j≠0/\j.natAbs < 18446744073709551616
theorem xJ.ok{i j:Int}(hc:xJ i j):Builtin.divisionGoesByPylong i j=false:=by
 refine PyProof.noPylong_of_log2 ?_;have z:j.natAbs≠0:=λz=>hc.1 (Int.natAbs_eq_zero.mp z)
 exact aae ((Nat.log2_lt z).mpr (show j.natAbs < 2 ^ 64 from hc.2)) (by decide)
theorem Fd{X:Cx}:jH X (binaryOp .FloorDiv) (rI xJ λi j=>.int (i.fdiv j)):=LV λ_ _ _ _ _ _ _ hc q=>floordiv_int hc.1 q (.inl hc.ok)
section
variable {X:Cx}
def Mb:V->Option Int->Option Int->Hp->VK->Prop:=λv lo hi H Q=>∃(x:Str),v=.str x/\x.length<=sizeLine/\Q (.str (Txt.slice x lo hi)) H
theorem Jx:Ip X Mb:=by
 intro pins s σ H x v vl vu lo hi sl Q I rx hs pl pu h;obtain⟨x,rfl,hz,q⟩:=h;obtain⟨t,rfl⟩:=rx
 have go:∀(l u:Option (Int×Tok)),l.map (·.1)=lo->u.map (·.1)=hi->s.heap.IsSlice sl l u none->∃T id,typeLookup (.type T) "__getitem__"=pure (some (.builtin id))/\s.TypeIs (.str x t) T/\wpAny (model X.prog X.w) X.A (getItem (.str x t) (.ref sl)) (EP X pins σ Q) X.xe s:=λl u el eu hs=>by
  subst el eu;refine⟨"str",_,PySem.F.slot_str_getitem.lookup,typeIs_str _ _ _,wpAny_getItem_str_slice (l:=l) (u:=u) (st:=none) hs rfl (post_val_or_str ⟨aaF (Txt.slice_le x _ _) hz,λt' k=>?_⟩)⟩;exact⟨.str _,H,I.kept (t':=k) λ_ _ e=>e,⟨t',rfl⟩,q⟩
 cases pl with
 | none =>
  cases pu with
  | none=>exact go none none rfl rfl hs
  | int j tj=>exact go none (some (j,tj)) rfl rfl hs
 | int i ti =>
  cases pu with
  | none=>exact go (some (i,ti)) none rfl rfl hs
  | int j tj=>exact go (some (i,ti)) (some (j,tj)) rfl rfl hs
end
open PySem PySem.Spec PyProof.Rows PySem.W PySem.Builtin PySem.Builtin.ObjectAttr
def oG(K:Frag)(C:Addr)(bmB:List Value)(newId:String):Bool:=match K.lookup C with
 | some ⟨.type "type",_,.cls cd,sl⟩=>(match cd.mro,sl.toList with
  | .ref C'::bm,[_,_,_,_,some (.builtin n),_]=>C' == C&&n == newId&&!cd.hasDel&&tailIn K bmB bm&&nsOkIn K cd.ns&&cd.hasDict
  | _,_=>false)
 | _=>false
theorem nt{K:Frag}{h:Heap}{C:Addr}{bmB:List Value}{newId:String}(X:K.In h)(q:oG K C bmB newId=true):
  ∃(bm:List Value) (N:Addr) (nm qn:Str) (bs:List Value) (sn:List Str) (sub:List Value) (ab:Bool) (col:Option Bool) (dd:Option Addr) (k0 k1 k2 k3 k5:Option Value) (mN:Str->Option Value),
   h.get? C=some (excClassObj nm qn C N bs bm true sn sub ab col dd k0 k1 k2 k3 k5 newId)/\h.Ns N mN/\OwnTail h bmB bm/\∃cd,clsIn K C=some cd/\cd.mro=.ref C::bm/\cd.hasDict=true:=by
 unfold oG at q;split at q
 ·rename_i dd cd sl ho;split at q
  ·rename_i C' bm k0 k1 k2 k3 n k5 hm hs;simp only[Bool.and_eq_true,beq_iff_eq,Bool.not_eq_true']at q;have hcls:clsIn K C=some cd:=by unfold clsIn;rw[ho]
   obtain⟨⟨⟨⟨⟨rfl,rfl⟩,hdel⟩,ht⟩,hok⟩,hhd⟩:=q;obtain⟨nm,bs,mro,ns,qn,hd,sn,sub,ab,col,del⟩:=cd;dsimp only at hm hdel hok hhd;subst hm hdel hhd
   have hsl:sl=#[k0,k1,k2,k3,some (.builtin n),k5]:=by
    obtain⟨l⟩:=sl;simp only at hs;rw[hs]
   subst hsl;exact⟨bm,ns,nm,qn,bs,sn,sub,ab,col,dd,k0,k1,k2,k3,k5,_,X _ _ ho,.of_isNs (PySem.W.isNs_of_in X hok),PySem.W.tail_of_in X ht,⟨_,hcls,by rfl,by rfl⟩⟩
  ·cases q
 ·cases q
section
variable {prog:Program} {w:World} {A:Around} {E:Value->Shared->Prop} {K:Frag} {h:Heap} {g:Array GenState} {d:Drawn} {t:Nat} {os:OsState}
variable {nm q:Str} {C N:Addr} {bs bm bmB:List Value} {hdct:Bool} {sn:List Str} {sub:List Value} {ab:Bool} {col:Option Bool} {dd:Option Addr} {k0 k1 k2 k3 k5:Option Value} {B Bn newId nid initId inN:String} {bmN:List Value}
def oH(C:Addr)(t:Addr):Obj:={cls:=.ref C,data:=.fields #[.ref t,.none,.none,.none,.bool false,.none]}
theorem zE(Fn:ExcBaseFacts Bn newId inN bmN)(hBn:bmB.contains (.type Bn)=true)(F:ExcBaseFacts B nid initId bmB)(T:OwnTail h bmB bm){rest:List Value}{Q:Fin->Shared->Prop}{fI:Addr}
  (hC:h.get? C=some (excClassObj nm q C N bs bm hdct sn sub ab col dd k0 k1 k2 k3 k5 newId)) (X:K.In h) (hi:findIn K (.ref C) "__init__"=some (some (.ref fI))) (hf:isFn K (.ref fI)=true)
  (hq:wpAny (model prog w) A (call (.ref fI) (.ref (h.objs.size + 1)::rest)) (λr s'=>r=.none/\Q (.done (.ret (.ref (h.objs.size + 1)))) s') E ⟨(h.push {cls:=.type "tuple",data:=.seq rest.toArray}).push (oH C h.objs.size),g,d,t,os⟩) (hrest:rest.length<=sizeLine) :
  wpAny (model prog w) A (Builtin.«type.__call__» ⟨.ref C::rest,[]⟩) Q E ⟨h,g,d,t,os⟩:=by
 repeat (first | with_reducible refine aaK hC ?_ | with_reducible refine wpAny_madeBy_exc hC ?_ | wp_step)
 refine codeAny_call_builtin_code (Code.quiet_builtin _ Fn.quiet) (wpAny_check_new_subU Fn hBn T hC ?_);refine codeAny_exc_new_subU Fn hBn F T hC ?_ hrest;show wpAny _ _ _ _ _ _;have kp:∀b o,h.get? b=some o->((h.push {cls:=.type "tuple",data:=.seq rest.toArray}).push {cls:=.ref C,data:=.fields #[.ref h.objs.size,.none,.none,.none,.bool false,.none]}).get? b=some o:=λb o e=>aaf _ (aaf _ e)
 have hC₁:=kp _ _ hC;have X₁:=X.keeps kp;have hget:((h.push {cls:=.type "tuple",data:=.seq rest.toArray}).push
   {cls:=.ref C,data:=.fields #[.ref h.objs.size,.none,.none,.none,.bool false,.none]}).get? (h.objs.size + 1)=some
   {cls:=.ref C,data:=.fields #[.ref h.objs.size,.none,.none,.none,.bool false,.none]}:=by heap_get
 have hcC:(Value.ref C::bm).contains (.ref C)=true:=by simp
 unfold isInstance
 repeat (first | with_reducible refine aaK hget ?_ | (with_reducible refine acj hC₁ ?_;rw[hcC]) | wp_step)
 show wpAny _ _ (typeLookup (.ref C) _) _ _ _;refine(acE (M:=model prog w) X₁ hi).at ?_;refine aa3 (aaa ((bind_fn X₁ _ (beq_iff_eq.mp hf)).at ?_));refine aaa (aam hq (λr s' hr=>?_) λ_ _ x=>x);obtain⟨rfl,hQ⟩:=hr
 wp_walk
 exact hQ
theorem Cu(Fn:ExcBaseFacts Bn newId inN bmN)(hBn:bmB.contains (.type Bn)=true)(F:ExcBaseFacts B nid initId bmB)(T:OwnTail h bmB bm){rest:List Value}{Q:Value->Shared->Prop}{fI:Addr}
  (hC:h.get? C=some (excClassObj nm q C N bs bm hdct sn sub ab col dd k0 k1 k2 k3 k5 newId)) (X:K.In h) (hi:findIn K (.ref C) "__init__"=some (some (.ref fI))) (hf:isFn K (.ref fI)=true)
  (hq:wpAny (model prog w) (A.under (.builtin "type.__call__" ⟨.ref C::rest,[]⟩)) (call (.ref fI) (.ref (h.objs.size + 1)::rest)) (λr s'=>r=.none/\Q (.ref (h.objs.size + 1)) s') E ⟨(h.push {cls:=.type "tuple",data:=.seq rest.toArray}).push (oH C h.objs.size),g,d,t,os⟩) (hrest:rest.length<=sizeLine) :
  wpAny (model prog w) A (call (.ref C) rest) Q E ⟨h,g,d,t,os⟩:=by
 have f1:=tc_lookup;have f2:=tc_bind (.ref C);have hT:(⟨h,g,d,t,os⟩:Shared).TypeIs (.ref C) "type":=⟨_,hC,rfl⟩;refine acf (codeAny_of_tree ?_);show wpAny _ _ (callAny (.ref C) _) _ _ _
 repeat (any_goals (first | assumption | with_reducible refine aaK hC ?_ | wp_step))
 refine⟨rfl,?_⟩;exact codeAny_call_builtin_at (Code.quiet_builtin _ (by decide +kernel)) entry_typeCall (wpAny_check_type_call_sub hC (zE Fn hBn F T hC X hi hf hq hrest))
end
theorem xK(self:Value){h:Heap}{bm:List Value}{bx:Bool}(T:OwnTail h (rA bx) bm):refuseLoop self "__setattr__" bm=pure ():=by
 induction T with
 | base =>
  cases bx with
  | true=>exact PySem.F.store_ValueError.passes self
  | false=>exact PySem.F.store_Exception.passes self
 | own _ _ _ _ ih=>rw[refuseLoop_ref];exact ih
section
variable {prog:Program} {w:World} {A:Around} {K:Frag} {s:Shared} {x C:Addr} {R:Result->Shared->Prop}
theorem uK{ox:Obj}{od:Option Obj}{name:Str}{tk:Tok}{v:Value}{bm:List Value}{cd:ClassData}{bx:Bool}(X:K.In s.heap)(I:InstAt s.heap x ox C od)(hc:clsIn K C=some cd)(hm':cd.mro=.ref C::bm)(T:OwnTail s.heap (rA bx) bm)(hmo:mroIn K C (.type "object")=some true)(ht:findIn K (.ref C) name=some none)
  (h:wpAny (model prog w) A.in1 (storeInOwnDict (.ref x) (.ref C) (.str name tk) name v false)
   (λfin s'=>match fin with | .done f=>R (.ok f) s' | .again c'=>c'.quiet=true/\codeAny (model prog w) A c' R s') (λe s'=>R (.error e) s') s) :
  codeAny (model prog w) A (.call (.builtin "object.__setattr__") ⟨[.ref x,.str name tk,v],[]⟩) R s:=by
 have SF:=PySem.F.store_object;have sub:Looks (model prog w) s.heap (isInstance (.ref x) (.type "object")) true:=I.type.andThen (looks_mroIn X hmo);refine codeAny_call_builtin SF.slot.plain SF.entry (@check_slot (model prog w) _ _ s "object.__setattr__" "object" "__setattr__" (.ref x) [.str name tk,v] [] _ SF.kind SF.split sub (SF.args (.ref x) (.str name tk) v) ?_);have hm:Looks (model prog w) s.heap (mroOf (.ref C)) cd.mro:=(looks_clsIn X hc).andThen .now;rw[osa_eq,refuse_eq];refine aaa (aaa (I.type.here (aaa (hm.here ?_))));rw[hm',refuseLoop_ref,xK _ T];refine aag (aaa (I.type.here (aaa ((acE X ht).here (aaa ?_)))));refine aag ?_;exact h
end
section
variable {prog:Program} {w:World} {A:Around} {E:Value->Shared->Prop} {h:Heap} {g:Array GenState} {d:Drawn} {t:Nat} {os:OsState}
variable {nm q:Str} {C N x:Addr} {bs bm:List Value} {sn:List Str} {sub:List Value} {ab:Bool} {col:Option Bool} {dd:Option Addr} {k0 k1 k2 k3 k5:Option Value} {newId:String} {name:Str} {v:Value}
theorem zF{tk:Tok}{o:Obj}{Q:Fin->Shared->Prop}(hC:h.get? C=some (excClassObj nm q C N bs bm true sn sub ab col dd k0 k1 k2 k3 k5 newId))(hx:h.get? x=some o)(hc:o.cls=.ref C)(hnc:∀c,o.data≠.cls c)(hdn:o.dict=none)
  (hq:∀h' tk',h'.get? x=some {cls:=o.cls,dict:=some h.objs.size,data:=o.data,slots:=o.slots}->h'.Ns1 h.objs.size (λy=>if y=name then some v else none)->(∀b ob,b≠x->h.get? b=some ob->h'.get? b=some ob)->Q (.done (.ret .none)) ⟨h',g,d,tk',os⟩) :
  wpAny (model prog w) A (storeInOwnDict (.ref x) (.ref C) (.str name tk) name v false) Q E ⟨h,g,d,t,os⟩:=by
 unfold storeInOwnDict
 repeat (first | (with_reducible refine aaK hx ?_;rw[hc]) | with_reducible refine aaK hC ?_ | wp_step)
 rw[hdn];dsimp only;rw[if_neg (by simp[typeHasDict])];split
 ·rename_i c hcd;exact absurd hcd (hnc c)
 ·have hx₁:(h.push {cls:=.type "dict",data:=.dict #[]}).get? x=some o:=aaf _ hx;have hxs:x≠h.objs.size:=aar (aab hx);refine aaa (wpAny_alloc' ?_);refine aaa (wpAny_update' hx₁ ?_);refine aag ?_;have hgd:((h.push {cls:=.type "dict",data:=.dict #[]}).update x λo=>{cls:=o.cls,dict:=some h.objs.size,data:=o.data,slots:=o.slots}).get? h.objs.size
    = some {cls:=.type "dict",data:=.dict #[]} :=
   (Heap.get?_update_ne _ _ _ _ hxs.symm).trans (Heap.get?_push_at rfl rfl)
  have hnd:((h.push {cls:=.type "dict",data:=.dict #[]}).update x λo=>{cls:=o.cls,dict:=some h.objs.size,data:=o.data,slots:=o.slots}).Ns h.objs.size (λ_=>none) :=
   ⟨_,#[],_,hgd,rfl,λe he=>absurd he (by simp),λ_=>rfl⟩
  show wpAny _ _ (storeInDict h.objs.size (.str name tk) name v) _ _ _;unfold storeInDict newKeyGuard;refine wpAny_bind (wpAny_pure (wpAny_bind (wpAny_nsSet1 (Heap.Ns1.of_empty hnd) λh' hn' hs=>?_)));obtain⟨oD,esD,epD,hoD,A9,hcD⟩:=hn'.count (Within.cons name v Within.nil);refine wpAny_bind (wpAny_lookBehind hoD (by rw[A9];exact pastItsLine_dict (Nat.le_trans hcD (by rw[List.length_cons,List.length_nil,sizeLine_eq];omega))) ?_)
  wp_walk
  have hx':h'.get? x=some {cls:=o.cls,dict:=some h.objs.size,data:=o.data,slots:=o.slots}:=by
   refine(hs.2 x hxs).trans (abi _ hx₁ ?_);have hfr:=(acp.mp hx).2;obtain⟨oc,od,odt,osl⟩:=o;cases odt<;>first | rfl | exact hfr
  refine hq h' _ hx' hn' λb ob hbx hb=>?_
  exact(hs.2 b (aar (aab hb))).trans ((Heap.get?_update_ne _ _ _ _ hbx).trans (aaf _ hb))
theorem zG{tk:Tok}{o:Obj}{dx:Addr}{mA:Str->Option Value}{ns:List Str}{Q:Fin->Shared->Prop}(hC:h.get? C=some (excClassObj nm q C N bs bm true sn sub ab col dd k0 k1 k2 k3 k5 newId))(hx:h.get? x=some o)(hc:o.cls=.ref C)(hdx:o.dict=some dx)(hns:h.Ns1 dx mA)(hw:Within mA ns)(hl:ns.length < 1000)
  (hq:∀h' tk',h'.Ns1 dx (λy=>if y=name then some v else mA y)->(∀b ob,b≠dx->h.get? b=some ob->h'.get? b=some ob)->Q (.done (.ret .none)) ⟨h',g,d,tk',os⟩) :
  wpAny (model prog w) A (storeInOwnDict (.ref x) (.ref C) (.str name tk) name v false) Q E ⟨h,g,d,t,os⟩:=by
 unfold storeInOwnDict
 repeat (first | (with_reducible refine aaK hx ?_;rw[hc]) | with_reducible refine aaK hC ?_ | wp_step)
 rw[hdx];refine wpAny_pure ?_;show wpAny _ _ (storeInDict dx (.str name tk) name v) _ _ _;unfold storeInDict newKeyGuard;refine wpAny_bind (wpAny_pure (wpAny_bind (wpAny_nsSet1 hns λh' hn' hs=>?_)));obtain⟨oD,esD,epD,hoD,A9,hcD⟩:=hn'.count (Within.cons name v hw);refine wpAny_bind (wpAny_lookBehind hoD (by rw[A9];exact pastItsLine_dict (Nat.le_trans hcD (by rw[List.length_cons,sizeLine_eq];omega))) ?_)
 wp_walk
 exact hq h' _ hn' λb ob hb hb'=>(hs.2 b hb).trans hb'
end
def XP(C e:Addr)(dx:Option Addr):Heap->Prop:=λh=>∃t0,h.get? e=some {cls:=.ref C,dict:=dx,data:=.fields #[.ref t0,.none,.none,.none,.bool false,.none]}
def XD(dx:Addr)(fs:List (Str×V)):Heap->Prop:=λh=>∃mA,h.Ns1 dx mA/\(∀f,jI (fs.lookup f) (mA f))/\Within mA (fs.map (·.1))
structure KXs(K:Frag)(C:Addr):Prop where
 sa:findIn K (.ref C) "__setattr__"=some (some (.builtin "object.__setattr__"))
 ex:∃bx,oG K C (rA bx) (vG bx)=true
 mo:mroIn K C (.type "object")=some true
theorem uL{C e:Addr}{dx:Option Addr}(h1 h2:Heap)(h:XP C e dx h1)(k:∀o,h1.get? e=some o->h2.get? e=some o):XP C e dx h2:=by
 obtain⟨t0,g⟩:=h;exact⟨t0,k _ g⟩
theorem uM{dx:Addr}{fs:List (Str×V)}(h1 h2:Heap)(h:XD dx fs h1)(k:∀o,h1.get? dx=some o->h2.get? dx=some o):XD dx fs h2:=by
 obtain⟨mA,n,r⟩:=h;exact⟨mA,n.at k,r⟩
theorem Ns1.obj{h:Heap}{a:Addr}{m:Str->Option Value}(n:h.Ns1 a m):∃o,h.get? a=some o:=let ⟨o,_,_,e,_⟩:=n;⟨o,e⟩
section
variable {X:Cx} {C a:Addr} {pins:List (Addr×Obj)} {σ:St} {H:Hp} {s:Shared} {A:Around} {E:Value->Shared->Prop} {f:Str}
theorem Rb{y:V}{u:Value}{Q:Unit->Shared->Prop}(I:Inv X pins σ H s)(e:H a=some (.ext (XP C a none)))(k:KXs X.K C)(hf:findIn X.K (.ref C) f=some none)(ry:RelV y u)
  (h:∀s' dx,H dx=none->dx≠a->Inv X pins σ (upd (upd H dx (.ext (XD dx [(f,y)]))) a (.ext (XP C a (some dx)))) s'->Q () s'):wpAny (model X.prog X.w) A (setAttr (.ref a) f u) Q E s:=by
 obtain⟨⟨t0,hg⟩,_,_⟩:=I.hok a _ e;obtain⟨bx,hbx⟩:=k.ex;obtain⟨bm,N,nm,qn,bs,sn,sub,ab,col,dd,k0,k1,k2,k3,k5,mN,hC,hn,T,cd,hcd,hmro,_⟩:=nt I.jb hbx;have IA:InstAt s.heap a {cls:=.ref C,dict:=none,data:=.fields #[.ref t0,.none,.none,.none,.bool false,.none]} C none:=⟨hg,rfl,rfl,abn⟩;refine set_plain I.jb IA k.sa (uK (s:={s with toks:=s.toks + 1}) I.jb IA hcd hmro T k.mo hf ?_);obtain⟨hp,g,d,tk,os⟩:=s;have hda:hp.objs.size≠a:=aa5 (aab hg);refine zF hC hg rfl (λc z=>by cases z) rfl λh' tk' g1 n1 kp=>h _ hp.objs.size (I.hok.fresh (aai _)) hda ?_
 obtain⟨od,god⟩:=Ns1.obj n1;have hpo:(hp.push od).get? hp.objs.size=some od:=aaC hp (acp.mp god).2;have n0:(hp.push od).Ns1 hp.objs.size (λy=>if y=f then some u else none):=n1.at λo q=>by rw[god]at q;cases q;exact hpo
 have Xk:XD hp.objs.size [(f,y)] (hp.push od):=⟨_,n0,λg=>by
  show jI (List.lookup g [(f,y)]) (if g=f then some u else none);by_cases q:g=f
  ·rw[if_pos q,q];simp only[List.lookup,beq_self_eq_true];exact ry
  ·rw[if_neg q];simp only[List.lookup];rw[beq_false_of_ne q];exact True.intro,λg hg=>by
  by_cases q:g=f
  ·rw[q];exact List.mem_singleton_self _
  ·exact absurd (aas q) hg⟩
 have I1:=I.laid (a:=hp.objs.size) (o:=.ext (XD hp.objs.size [(f,y)])) (h':=hp.push od) (t':=tk') (λb u q=>aaf _ q) (aai _) ⟨Xk,⟨_,hpo⟩,uM⟩;have ea:upd H hp.objs.size (.ext (XD hp.objs.size [(f,y)])) a=some (.ext (XP C a none)):=by rw[uN hda.symm];exact e
 refine I1.write (x:=a) (e:=a) (t':=tk') (by rw[ea];exact abn) (.inl rfl) (λb ob hb z=>?_) ⟨_,g1⟩ ⟨⟨t0,g1⟩,⟨_,g1⟩,uL⟩;by_cases hbs:b=hp.objs.size
 ·subst hbs;have z':(hp.push od).get? hp.objs.size=some ob:=z;rw[hpo]at z';cases z';exact god
 ·have z':(hp.push od).get? b=some ob:=z;rw[Heap.get?_push_ne _ _ _ hbs]at z';exact kp b ob hb z'
theorem Rc{y:V}{u:Value}{dx:Addr}{fs:List (Str×V)}{Q:Unit->Shared->Prop}(I:Inv X pins σ H s)(e:H a=some (.ext (XP C a (some dx))))(ed:H dx=some (.ext (XD dx fs)))(hl:fs.length < 900)(k:KXs X.K C)(hf:findIn X.K (.ref C) f=some none)(ry:RelV y u)
  (h:∀s',Inv X pins σ (upd H dx (.ext (XD dx (df f y fs)))) s'->Q () s'):wpAny (model X.prog X.w) A (setAttr (.ref a) f u) Q E s:=by
 obtain⟨⟨t0,hg⟩,_,_⟩:=I.hok a _ e;obtain⟨⟨mA,n,r,wi⟩,_,_⟩:=I.hok dx _ ed;obtain⟨bx,hbx⟩:=k.ex;obtain⟨bm,N,nm,qn,bs,sn,sub,ab,col,dd,k0,k1,k2,k3,k5,mN,hC,hn,T,cd,hcd,hmro,_⟩:=nt I.jb hbx;obtain⟨od,god⟩:=Ns1.obj n;have IA:InstAt s.heap a {cls:=.ref C,dict:=some dx,data:=.fields #[.ref t0,.none,.none,.none,.bool false,.none]} C (some od):=⟨hg,rfl,rfl,god⟩;refine set_plain I.jb IA k.sa (uK (s:={s with toks:=s.toks + 1}) I.jb IA hcd hmro T k.mo hf ?_);obtain⟨hp,g,d,tk,os⟩:=s;refine zG hC hg rfl rfl n wi (by rw[aah];omega) λh' tk' n1 kp=>h _ ?_
 obtain⟨od',god'⟩:=Ns1.obj n1;refine I.write (x:=dx) (e:=dx) (t':=tk') (by rw[ed];exact abn) (.inl rfl) (λb ob hb z=>kp b ob hb z) ⟨_,god'⟩ ⟨⟨_,n1,λg=>?_,λg hg=>?_⟩,⟨_,god'⟩,uM⟩
 ·show jI ((df f y fs).lookup g) (if g=f then some u else mA g);rw[kR];by_cases q:g=f
  ·rw[aaw q,aaw q];exact ry
  ·rw[aas q,aas q];exact r g
 ·by_cases q:g=f
  ·rw[q];exact(jK f y fs).1
  ·refine(jK f y fs).2 g (wi g λz=>hg ?_);show(if g=f then some u else mA g)=none;rw[aas q];exact z
end
def Zz(K:Frag)(ta tv:TE)(f:Str):TS:=λD σ H=>tv σ H λy H1=>ta σ H1 λx H2=>∃a C,x=.ref a/\KXs K C/\dG K C f /\
 ((H2 a=some (.ext (XP C a none))/\∀dx,H2 dx=none->dx≠a->D.nx σ (upd (upd H2 dx (.ext (XD dx [(f,y)]))) a (.ext (XP C a (some dx))))) ∨
  ∃dx fs,H2 a=some (.ext (XP C a (some dx)))/\H2 dx=some (.ext (XD dx fs))/\fs.length < 900/\D.nx σ (upd H2 dx (.ext (XD dx (df f y fs)))))
section
variable {X:Cx} {o e value:Expr} {f:Str} {pos pos' tpos:Pos} {ta tv:TE}
theorem Mc(ha:PE X o ta)(hv:PE X value tv)(hs:swapsWith value (some (.Attribute o f pos')) pos.line X.env=pure false):PS X (.Assign [.Attribute o f pos'] value pos) (Zz X.K ta tv f):=by
 intro pins s σ H D I h;refine acd (bU (hv pins s σ H _ I h) λu s1 ⟨y,H1,I1,ry,q⟩=>bU (ha pins s1 σ H1 _ I1 q) λov s2 ⟨x,H2,I2,rx,a,C,ex,k,n,q2⟩=>?_) hs;subst ex;obtain rfl:ov=Value.ref a:=rx;rcases q2 with⟨ea,q2⟩ | ⟨dx,fs,ea,ed,l,q2⟩
 ·exact Rb I2 ea k n ry λs3 dx hd hda I3=>⟨σ,_,I3,q2 dx hd hda⟩
 ·exact Rc I2 ea ed l k n ry λs3 I3=>⟨σ,_,I3,q2⟩
end
section
variable {prog:Program} {w:World} {A:Around} {E:Value->Shared->Prop} {K:Frag} {a C:Addr} {o:Obj} {od:Option Obj} {h:Heap} {g:Array GenState} {d:Drawn} {t:Nat} {os:OsState} {name:Str} {v:Value}
theorem Uv{tk:Tok}{Q:Fin->Shared->Prop}(X:K.In h)(IA:InstAt h a o C od)(hf:findObj K C od name=some (.value v))(hq:Q (.done (.ret v)) ⟨h,g,d,t,os⟩):
  wpAny (model prog w) A (Builtin.«object.__getattribute__» ⟨[.ref a,.str name tk],[]⟩) Q E ⟨h,g,d,t,os⟩:=by
 have L0:=IA.type (M:=model prog w);have L1:=looks_find (M:=model prog w) X IA hf;refine aaa (aag (aaa (aag (aaa (L0.at (aaa (L1.at ?_)))))));exact aag hq
theorem ZA{tk:Tok}{fill expr:Bool}{Q:Value->Shared->Prop}(X:K.In h)(k:KX K C)(IA:InstAt h a o C od)(hf:findObj K C od name=some (.value v))(hh:handedIn v=true)(hq:Q v ⟨h,g,d,t,os⟩):
  wpAny (model prog w) A (getAttrBy (.ref a) (.str name tk) fill expr) Q E ⟨h,g,d,t,os⟩:=by
 have hx:=IA.at_;have hc:=IA.cls;have L1:=acE (M:=model prog w) X k.ga;have L2:=acE (M:=model prog w) X k.gh;have f3:=F.excAttr_ValueError.ga.bind (.ref a);have Xk:(expr&&onTheHeap (Value.builtin "BaseException.__getattribute__"))=false:=by cases expr<;>rfl
 have ZC:(Value.builtin "BaseException.__getattribute__" == Value.builtin "object.__getattribute__")=false:=by decide +kernel
 have hx1:(onTheHeap (Value.ref C)&&Value.builtin "BaseException.__getattribute__" == Value.builtin "object.__getattribute__")=false:=by rw[ZC];rfl
 repeat (any_goals (first | assumption | (with_reducible refine aaK hx ?_;rw[hc]) | with_reducible refine L1.at ?_ | with_reducible refine L2.at ?_ | wp_step))
 refine codeAny_call_builtin F.excAttr_ValueError.ga.plain F.entry_bexc_ga (Fc X k hx hc (Uv X IA hf ?_));have ho:=handedOut_of hh
 repeat (any_goals (first | assumption | wp_step | (rw[ho])))
theorem Rf{expr:Bool}{Q:Value->Shared->Prop}(X:K.In h)(k:KX K C)(IA:InstAt h a o C od)(hf:findObj K C od name=some (.value v))(hh:handedIn v=true)(hq:Q v ⟨h,g,d,t + 1,os⟩):
  wpAny (model prog w) A (getAttr (.ref a) name expr) Q E ⟨h,g,d,t,os⟩:=by
 unfold getAttr;refine wpAny_bind (wpAny_mkText ?_);exact ZA X k IA hf hh hq
end
def XG(C a dx:Addr):Heap->Prop:=λh=>∃o vs,h.get? a=some o/\o.cls=.ref C/\o.dict=some dx/\o.data=.fields vs
def Te(K:Frag)(ta:TE)(f:Str):TE:=λσ H Q=>ta σ H λx H1=>∃a C dx fs v φ,x=.ref a/\H1 a=some (.ext φ)/\(∀h,φ h->XG C a dx h)/\H1 dx=some (.ext (XD dx fs))/\KX K C/\hasDictIn K C=true/\dG K C f/\fs.lookup f=some v/\Q v H1
theorem Fe{X:Cx}{e:Expr}{f:Str}{pos:Pos}{ta:TE}(he:PE X e ta)(hb:attributeBase e f X.env (eval e X.env)=eval e X.env):PE X (.Attribute e f pos) (Te X.K ta f):=by
 intro pins s σ H Q I h;refine Bb hb (bU (he pins s σ H _ I h) λu s1 ⟨x,H1,I1,rx,a,C,dx,fs,v,φ,ex,ea,hφ,ed,k,hd,n,l,q⟩=>?_);subst ex;obtain rfl:u=Value.ref a:=rx;obtain⟨p,_,_⟩:=I1.hok a _ ea;obtain⟨⟨mA,nn,r,_⟩,_,_⟩:=I1.hok dx _ ed;obtain⟨o,vs,g1,g2,g3,g4⟩:=hφ _ p;obtain⟨od,ho,hl⟩:=uw nn;obtain⟨u',hu,ru⟩:=jI.some_of (v:=v) (o:=mA f) (by rw[← l];exact r f);have IA:InstAt s1.heap a o C (some od):=⟨g1,g2,by unfold notCls;rw[g4],by rw[g3];exact ho⟩;obtain⟨hp,g,d,t,os⟩:=s1;exact Rf I1.jb k IA (findObj_own hd n rfl (by rw[hl,hu])) (uy ru) ⟨v,H1,I1.tok _,ru,q⟩
structure Xl(K:Frag)(C f:Addr):Prop where
 ex:∃bx,oG K C (rA bx) (vG bx)=true
 init:findIn K (.ref C) "__init__"=some (some (.ref f))
 fn:isFn K (.ref f)=true
 kp:keepIn K (.ref C)=true
section
variable {X:Cx} {CX:xo} {k:Nat} {f C:Addr} {fd:FuncData} {ps:List Str} {sp:Sp} {dvs:List V} {ds:List Value} {E:XK} {x m:Str} {p pos apos:Pos} {e o:Expr} {es:List Expr} {ta:TE} {t:TA}
theorem uO{pins:List (Addr×Obj)}{σ:St}{H:Hp}{s:Shared}{Q:VK}{us:List Value}{vs:List V}{cm:Bool}(M:Xl X.K C f)(F':bL X.prog X.w X.K X.mg X.base CX k f fd ps sp cm)(hr:cw (k + 1) X.A cm)(hb:Binds X.K fd ps ds)(hd:Vals dvs ds)
  (hx:Passes CX X E) (I:Inv X pins σ H s) (r:Vals vs us) (hz:vs.length<=sizeLine)
  (h:∀x,s.heap.objs.size<=x->H x=none->sp (.ref x::(vs++dvs)) (upd H x (.ext (XP C x none))) (λv H2=>v=.non/\Q (.ref x) H2) E) :
  wpAny (model X.prog X.w) X.A (call (.ref C) us) (EP X pins σ Q) X.xe s:=by
 obtain⟨bx,hbx⟩:=M.ex;obtain⟨bm,N,nm,qn,bs,sn,sub,ab,col,dd,k0,k1,k2,k3,k5,mN,hC,hn,T,cd,hcd,hmro,_⟩:=nt I.jb hbx;have hq:=h (s.heap.objs.size + 1) (abN _) (I.hok.fresh (abN _));obtain⟨hp,g,d,tk,os⟩:=s;have I1:=I.kept (h':=hp.push {cls:=.type "tuple",data:=.seq us.toArray}) (t':=tk) (λb u q=>aaf _ q)
 have e2:((hp.push {cls:=.type "tuple",data:=.seq us.toArray}).push (oH C hp.objs.size)).get? (hp.objs.size + 1)=some (oH C hp.objs.size):=by
  have:=aaC (hp.push {cls:=.type "tuple",data:=.seq us.toArray}) (o:=oH C hp.objs.size) rfl
  rwa [abR]at this
 have I2:=I1.laid (a:=hp.objs.size + 1) (o:=.ext (XP C (hp.objs.size + 1) none)) (h':=(hp.push {cls:=.type "tuple",data:=.seq us.toArray}).push (oH C hp.objs.size)) (t':=tk) (λb u q=>aaf _ q) (ac0 (abR _ _)) ⟨⟨_,e2⟩,⟨_,e2⟩,uL⟩;have r2:Vals (V.ref (hp.objs.size + 1)::(vs++dvs)) (Value.ref (hp.objs.size + 1)::(us++ds)):=.cons rfl (r.append hd)
 have hl:(Value.ref (hp.objs.size + 1)::us++ds).length=ps.length:=by
  have e:=r2.length;rw[F'.len _ _ _ _ hq]at e;exact e.symm
 refine Cu (bmB:=rA bx) (Td bx) (Bm bx) (Td bx) T hC I.jb M.init M.fn ?_ (by rw[← r.length];exact hz);refine acf (abS (F'.run _ X.stack _ _ ⟨Value.ref (hp.objs.size + 1)::us,[]⟩ (Value.ref (hp.objs.size + 1)::(us++ds)) _ _ E (hr.make C us [])
  (I2.EK.make C us []) (hb _ (Value.ref (hp.objs.size + 1)::us) I2.jb hl) r2 hq) λr s' hq'=>?_)
 cases r with
 | error e=>exact hx pins σ _ _ e s' I2 hq'
 | ok fl =>
  cases fl with
  | ret u =>
   obtain⟨v,H',I3,rv,ev,q3⟩:=I2.after hq';subst ev;exact⟨rv,⟨V.ref (hp.objs.size + 1),H',I3,rfl,q3⟩⟩
  | next=>exact False.elim hq'
  | brk=>exact False.elim hq'
  | cont=>exact False.elim hq'
end
def inner(s:Stmt):Stmt:=match s with
 | .ClassDef _ _ _ b _ _ _ _ _ _ _=>b.headD (.Pass ⟨0,0,0,0⟩)
 | _=>.Pass ⟨0,0,0,0⟩
def zH(K:Frag)(fs:List Str):Sp:=λvs H Q _=>∃a C ys,vs=.ref a::ys/\ys.length=fs.length/\KXs K C/\(∀f∈fs,dG K C f)/\H a=some (.ext (XP C a none)) /\
 ∀dx,H dx=none->dx≠a->Q .non (upd (upd H dx (.ext (XD dx (fs.zip ys)))) a (.ext (XP C a (some dx))))
structure vH(P:Program)(w:World)(K:Frag)(mg:Str->Option Value)(base:Heap)(C:Addr)(fs:List Str):Prop where
 s:KXs K C
 no:∀f∈fs,dG K C f
 le:fs.length<=1000
 ini:∃f fd,Xl K C f/\bL P w K mg base cb 1 f fd ("self"::fs) (zH K fs) false/\Binds K fd ("self"::fs) []
section
variable {X:Cx} {C:Addr} {fs:List Str} {x:Str} {p pos:Pos} {e:Expr} {es:List Expr} {t:TA}
end
open PySem PySem.Spec PyProof.Rows PySem.W
def Cn(o:Obj):Prop:=∃vs,o.data=.fields vs/\vs[2]?=some .none
def Dk(h h':Heap):Prop:=∀b o,h.get? b=some o->∃o',h'.get? b=some o'/\o'.dict=o.dict/\(Cn o->Cn o')
theorem Dk.refl(h:Heap):Dk h h:=λ_ o e=>⟨o,e,rfl,id⟩
theorem Dk.trans{h1 h2 h3:Heap}(x:Dk h1 h2)(y:Dk h2 h3):Dk h1 h3:=λb o e =>
 let ⟨o1,e1,d1,c1⟩:=x b o e;let ⟨o2,e2,d2,c2⟩:=y b o1 e1;⟨o2,e2,d2.trans d1,λz=>c2 (c1 z)⟩
def KD{α:Type}(t:Sem α):Prop:=∀(M:Model) (Γ:PySem.Ctx) (Q:α->Pos->Shared->Prop) (E:Value->Pos->Shared->Prop) (p:Pos) (s:Shared),
 Sem.wp M Γ t Q E p s->Sem.wp M Γ t (λa p' s'=>Q a p' s'/\Dk s.heap s'.heap) (λe p' s'=>E e p' s'/\Dk s.heap s'.heap) p s
section
variable {α β:Type}
theorem bO(a:α):KD (pure a:Sem α):=λ_ _ _ _ _ s h=>⟨h,Dk.refl s.heap⟩
theorem ek(m:String):KD (Sem.unsupported m:Sem α):=λ_ _ _ _ _ _ h=>False.elim (by simpa using h)
theorem bB{t:Sem α}{f:α->Sem β}(h1:KD t)(h2:∀a,KD (f a)):KD (t >>= f):=by
 intro M Γ Q E p s h;rw[Sem.wp_bind']at h ⊢;refine Sem.wp_mono M Γ t (λa p1 s1 z=>?_) (λ_ _ _ z=>z) p s (h1 M Γ _ _ p s h);exact Sem.wp_mono M Γ (f a) (λ_ _ _ y=>⟨y.1,z.2.trans y.2⟩) (λ_ _ _ y=>⟨y.1,z.2.trans y.2⟩) p1 s1 (h2 a M Γ _ _ p1 s1 z.1)
theorem vI(a:Addr)(part:Option Value):KD (loadPart a part):=λM Γ Q E p s h=>by
 unfold loadPart at h ⊢;rw[Sem.wp_load]at h ⊢;obtain⟨o,e,q⟩:=h;exact⟨o,e,q,Dk.refl _⟩
theorem Cv{h:Heap}{a:Addr}{f:Obj->Obj}(hf:∀o:Obj,((f o).dict=o.dict/\(Cn o->Cn (f o)))/\(o.isFreed=false->(f o).isFreed=false)):Dk h (h.update a f):=λb o e=>by
 by_cases hb:a=b
 ·subst hb;exact⟨_,abi f e ((hf o).2 (acp.mp e).2),(hf o).1⟩
 ·exact⟨o,(abO h f hb).trans e,rfl,id⟩
theorem uP(a:Addr)(part:Option Value){f:Obj->Obj}(hf:∀o:Obj,((f o).dict=o.dict/\(Cn o->Cn (f o)))/\(o.isFreed=false->(f o).isFreed=false)):KD (updatePart a part f):=λM Γ Q E p s h=>by
 unfold updatePart at h ⊢;rw[Sem.wp_update]at h ⊢;exact⟨h.1,h.2,Cv hf⟩
theorem xM(o:Obj):KD (alloc o):=λM Γ Q E p s h=>by
 unfold alloc at h ⊢;rw[Sem.wp_alloc]at h ⊢;exact⟨h,λb ob e=>⟨ob,Heap.get?_push_of_some _ e,rfl,id⟩⟩
theorem rD:KD stack:=λM Γ Q E p s h=>⟨h,Dk.refl _⟩
end
theorem dI{α:Type}{t:Sem α}(k:KD t){M:Model}{A:Around}{E:Value->Shared->Prop}{Q:α->Shared->Prop}{s:Shared}(h:wpAny M A t Q E s):wpAny M A t (λa s'=>Q a s'/\Dk s.heap s'.heap) E s:=λΓ p hΓ =>
 Sem.wp_mono M Γ t (λ_ _ _ y=>y) (λ_ _ _ y=>y.1) p s (k M Γ _ _ p s (h Γ p hΓ))
theorem nu(v:Value)(i:Nat):KD (field v i):=by
 unfold field fieldsOf;refine bB ?_ λvs=>?_
 ·split
  ·refine bB (vI _ _) λo=>?_
   split
   ·exact bO _
   ·exact ek _
  ·exact ek _
 ·first
  | (split<;>first | exact bO _ | exact ek _)
theorem Ff(i:Nat)(x:Value)(hi:i≠2)(o:Obj):((Obj.mapFields (·.setIfInBounds i x) o).dict=o.dict/\(Cn o->Cn (Obj.mapFields (·.setIfInBounds i x) o)))/\(o.isFreed=false->(Obj.mapFields (·.setIfInBounds i x) o).isFreed=false):=by
 obtain⟨c,d,dt,sl⟩:=o;refine⟨⟨?_,λ⟨vs,e,q⟩=>⟨_,abZ e _,?_⟩⟩,?_⟩
 ·cases dt<;>rfl
 ·rw[Array.getElem?_setIfInBounds_ne hi];exact q
 ·cases dt<;>exact λz=>z
theorem jd(v:Value)(i:Nat)(x:Value)(hi:i≠2:=by decide):KD (setField v i x):=by
 unfold setField updateField;split
 ·refine bB (vI _ _) λo=>?_
  split
  ·split
   ·exact uP _ _ (Ff _ _ hi)
   ·exact ek _
  ·exact ek _
 ·exact ek _
theorem fz(e:Value)(f:Option Addr):KD (setFlight e f):=by
 unfold setFlight;refine bB (nu _ _) λtb=>?_
 split
 ·exact jd _ _ _
 ·exact bO _
theorem Cw(env:Env)(outer:List Env):KD (behindIsImport env outer):=by
 unfold behindIsImport;split
 ·exact bO _
 ·split
  ·exact bO _
  ·exact bB (nu _ _) λ_=>bO _
theorem Fg:KD underTheClaimsCaller:=by
 unfold underTheClaimsCaller;exact bB rD λ_=>bO _
theorem Jy(env:Env)(b:Bool)(l:List Env):KD (keptBack env b l):=by
 unfold keptBack;split
 ·split
  ·exact bO _
  ·exact bB Fg λ_=>bO _
 ·exact bO _
theorem xN:∀l:List Env,KD (readyFrames l)
 | []=>bO _
 | env::outer=>by
  unfold readyFrames;split
  ·refine bB (vI _ _) λo=>?_
   split
   ·exact bO _
   ·refine bB (Cw _ _) λb=>bB (Jy _ _ _) λv=>bB (uP _ _ λo=>⟨⟨rfl,λz=>z⟩,λz=>by obtain⟨c,d,dt,sl⟩:=o;cases dt<;>exact z⟩) λ_=>xN outer
  ·exact ek _
theorem rE(l:List Env):KD (frameObject l):=by
 unfold frameObject;split
 ·exact bO _
 ·exact bB (xN _) λ_=>bO _
theorem vJ:KD frameEnvs:=by
 unfold frameEnvs;exact bB rD λ_=>bO _
theorem rF(env:Env):KD (PySem.frameOf env):=by
 unfold PySem.frameOf;refine bB vJ λl=>bB (rE _) λr=>?_
 split
 ·exact bO _
 ·exact ek _
theorem xO(f:Addr)(b:Bool):KD (entryPlaceOf f b):=by
 unfold entryPlaceOf;refine bB rD λl=>?_
 split
 ·exact bO _
 ·exact bO _
theorem p8(a b c d e:Value)(pl:List Value):KD (EntryCells.newEntry a b c d e pl):=by
 unfold EntryCells.newEntry newFields newObj newObjAsIs;generalize ([a,b,c,d,e]++if pl.isEmpty=true then List.replicate 6 Value.none else pl).toArray=ws;dsimp only;split
 ·exact bB (ek _) λ_=>bB (xM _) λ_=>bO _
 ·exact bB (xM _) λ_=>bO _
theorem qF(e:Value)(env:Env):KD (noteFrame e env):=by
 unfold noteFrame;split
 ·refine bB (nu _ _) λhd=>?_
  dsimp only;split
  ·refine bB (nu _ _) λx=>?_
   split
   ·exact bO _
   ·exact bB (jd _ _ _) λ_=>bB (rF _) λ_=>bB (xO _ _) λ_=>bB (p8 _ _ _ _ _ _) λ_=>jd _ _ _
  ·exact bB (rF _) λ_=>bB (xO _ _) λ_=>bB (p8 _ _ _ _ _ _) λ_=>jd _ _ _
 ·exact ek _
theorem j4(env:Env)(e:Value):KD (leaving env e):=bB (qF e env) λ_=>fz e none
def fA(h:Heap)(a:Addr)(dd:Option Addr):Prop:=∃o,h.get? a=some o/\o.dict=dd/\(dd=none->Cn o)
theorem fA.dk{h h':Heap}{a:Addr}{dd:Option Addr}(d:fA h a dd)(k:Dk h h'):fA h' a dd :=
 let ⟨o,e,q,c⟩:=d;let ⟨o',e',q',c'⟩:=k a o e;⟨o',e',q'.trans q,λz=>c' (c z)⟩
def dD(P:Program)(w:World):xo:=λouter H s E e s'=>∃(a C t:Addr) (H':Hp) (B:Heap) (dd:Option Addr),e=.ref a/\s'.os=s.os/\AllBare s'.gens/\Ma P w outer H H' s.heap B a (.ref C) (.ref t) s'.heap/\fA s'.heap a dd/\E (.ref C) dd H'
def del(H:Hp)(a:Addr):Hp:=λb=>if b=a then none else H b
theorem xP{H:Hp}{a:Addr}:del H a a=none:=by unfold del;rw[if_pos rfl]
theorem dY{H:Hp}{a b:Addr}(h:b≠a):del H a b=H b:=by unfold del;rw[if_neg h]
def Xm(X:Cx)(E:XK):Prop:=∀(pins:List (Addr×Obj)) (σ:St) (H:Hp) (s:Shared) (a C:Addr) (dx:Option Addr),Inv X pins σ H s->X.s₀.heap.objs.size<=a->H a=some (.ext (XP C a dx))->E (.ref C) dx (del H a)->X.xe (.ref a) s
section
variable {P:Program} {w:World} {K:aV} {mg:Str->Option Value} {base:Heap} {N:List Str} {qual:Str} {scope:Scope} {f:Addr} {cd:Value} {A:Around} {outer:List Env} {s₀:Shared} {H₀:Hp} {E:XK}
theorem zI:Xm (kI (dD P w) P w K mg base N qual scope f cd A outer s₀ H₀ E) E:=by
 intro pins σ H s a C dx I Uw hHa hE
 let env:=envOfC qual scope s₀.heap.objs.size f cd
 have hf:env.frame=some s₀.heap.objs.size:=rfl;have Rg:s₀.heap.objs.size<=a:=Uw;obtain⟨⟨t0,hg⟩,_,_⟩:=I.hok a _ hHa;have hst:=I.stack
 have nfa:a∉iK (env::outer):=λhb=>by
  have:=I.jc a hb;rw[this]at hHa;cases hHa
 let hid:=a::iK (env::outer)
 have hBs:(hideAll s.heap hid).StaysIn s.heap:=λb o q=>of_hideAll _ q
 have hin:∀v∈(env::outer),∀b,v.frame=some b->b∈hid:=λv hv b hb=>aaB _ (abv.mpr ⟨v,hv,hb⟩)
 have hFF:s.heap.FunFrames (hideAll s.heap hid) (env::outer):=acm hst hin;have hBa:(hideAll s.heap hid).get? a=none:=acF _ aat;show wpAny _ _ (leaving env (.ref a)) _ _ _;have lib:=wpAny_leaving_firstW (M:=model P w) (A:=(kI (dD P w) P w K mg base N qual scope f cd A outer s₀ H₀ E).A) (E:=λ_ _=>False) (s:=s) (Q:=λ_ s'=>∃h',s'={s with heap:=h'}/\Heap.LeftW (hideAll s.heap hid) (env::outer) a (.ref C) (.ref t0) s.heap h') (I.ok.frames) hFF hf hg hBs hBa rfl rfl rfl λh' L=>⟨h',rfl,L⟩
 refine aam (dI (j4 env (.ref a)) lib) (λ_ s' z=>?_) λ_ _ z=>z.elim
 obtain⟨⟨h2,rfl,k1,⟨_,_,k2⟩,k3,x4⟩,dk⟩:=z
 have ni:∀b o,s₀.heap.get? b=some o->b∉iK outer->b∉hid:=λb o q nb hb=>by
  rcases aaE.mp hb with z | z
  ·exact absurd (aab q) (by rw[z];exact Nat.not_lt.mpr Rg)
  ·rcases (bt hf).mp z with z | z
   ·exact absurd (aab q) (by rw[z];exact aaN _)
   ·exact nb z
 refine⟨a,C,t0,del H a,_,dx,rfl,I.os,I.bare,⟨λb o q n nb=>?_,λb o q nb=>?_,λb o q hb=>?_,λb o q n=>?_,λb xs q=>?_,λb o u q=>?_,λb ps q=>?_,λb u q=>?_,⟨k1,hBa,k2,k3⟩⟩,fA.dk ⟨_,hg,rfl,λ_=>⟨_,rfl,rfl⟩⟩ dk,hE⟩
 ·exact aba _ (I.base.keep b o q n nb (by intro z;cases z)) (ni b o q nb)
 ·obtain⟨o',q'⟩:=I.base.there b o q (by intro z;cases z);exact⟨o',aba _ q' (ni b o q nb)⟩
 ·obtain⟨sl,q'⟩:=I.base.slot b o q (I.ok.frf b hb) hb (by intro z;cases z);obtain⟨_,o',ho',hn⟩:=hst.mem ((bt hf).mpr (.inr hb));rw[q']at ho';have e1:=aak ho';obtain⟨sl',q2⟩:=x4 b _ q' (by rw[e1];exact hn);exact⟨sl',q2⟩
 ·have:=I.base.free b o q n (by intro z;cases z);unfold del;split
  ·rfl
  ·exact this
 ·have:=I.base.tups b xs q;rw[dY (cv this hHa (by intro z;cases z))];exact this
 ·have:=I.base.fu b o u q;rw[dY (cv this hHa (by intro z;cases z))];exact this
 ·obtain⟨m1,e1⟩:=I.base.tbls b ps q;exact⟨m1,by rw[dY (cv e1 hHa (by intro z;cases z))];exact e1⟩
 ·have hba:b≠a:=λz=>by subst z;rw[xP]at q;cases q
  rw[dY hba]at q
  have nf:∀c v,H c=some v->c≠a->c∉hid:=λc v q' hca hb=>by
   rcases aaE.mp hb with z | z
   ·exact hca z
   ·have:=I.jc c z;rw[this]at q';cases q'
  have no:∀c,H c=some (.own b)->c≠a:=λc q'=>cv q' hHa (by intro z;cases z)
  refine(I.hok b u q).qT (λc v hc q'=>aba _ q' ?_) (λc q'=>by rw[dY (no c q')];exact q') λc xs q'=>by rw[dY (cv q' hHa (by intro z;cases z))];exact q'
  rcases hc with z | z
  ·rw[z];exact nf b u q hba
  ·exact nf c _ z (no c z)
theorem vK:Rz (kI (dD P w) P w K mg base N qual scope f cd A outer s₀ H₀ E) E:=by
 intro pins σ H s h' e C vs I hx hE
 let env:=envOfC qual scope s₀.heap.objs.size f cd
 have hf:env.frame=some s₀.heap.objs.size:=rfl;have hst:=I.stack;have hin:∀v∈(env::outer),∀b,v.frame=some b->b∈iK (env::outer):=λv hv b hb=>abv.mpr ⟨v,hv,hb⟩
 have hBs:(hideAll s.heap (iK (env::outer))).StaysIn s.heap:=λb o q=>of_hideAll _ q
 have hFF:s.heap.FunFrames (hideAll s.heap (iK (env::outer))) (env::outer):=acm hst hin;obtain⟨tx,hxt,_⟩:=hx.there;show wpAny _ _ (leaving env (.ref e)) _ _ _;have lib:=wpAny_leaves_madeW (M:=model P w) (A:=(kI (dD P w) P w K mg base N qual scope f cd A outer s₀ H₀ E).A) (E:=λ_ _=>False) (s:={s with heap:=h'})
  (Q:=λ_ s'=>∃h2 t,s'={s with heap:=h2}/\Heap.FlyingW (hideAll s.heap (iK (env::outer))) outer e (.ref C) (.ref t) h2/\h'.UpToSlots h2) (I.ok.frames) hf hBs hFF hx λh2 t x1 _ _ x4=>⟨h2,t,rfl,x1,x4⟩
 refine aam (dI (j4 env (.ref e)) lib) (λ_ s' z=>?_) λ_ _ z=>z.elim
 obtain⟨⟨h2,t,rfl,x1,x4⟩,dk⟩:=z
 have ni:∀b o,s₀.heap.get? b=some o->b∉iK outer->b∉iK (env::outer):=λb o q nb hb=>by
  rcases (bt hf).mp hb with z | z
  ·exact absurd (aab q) (by rw[z];exact aaN _)
  ·exact nb z
 refine⟨e,C,t,H,_,none,rfl,I.os,I.bare,⟨λb o q n nb=>?_,λb o q nb=>?_,λb o q hb=>?_,λb o q n=>I.base.free b o q n (by intro z;cases z),I.base.tups,I.base.fu,I.base.tbls,λb u q=>?_,x1⟩,fA.dk ⟨_,hxt,rfl,λ_=>⟨_,rfl,rfl⟩⟩ dk,hE⟩
 ·exact aba _ (I.base.keep b o q n nb (by intro z;cases z)) (ni b o q nb)
 ·obtain⟨o',q'⟩:=I.base.there b o q (by intro z;cases z);exact⟨o',aba _ q' (ni b o q nb)⟩
 ·obtain⟨sl,q'⟩:=I.base.slot b o q (I.ok.frf b hb) hb (by intro z;cases z);obtain⟨_,o',ho',hn⟩:=hst.mem ((bt hf).mpr (.inr hb));rw[q']at ho';have e1:=aak ho';obtain⟨sl',q2⟩:=x4 b _ (hx.keeps b _ q') (by rw[e1];exact hn);exact⟨sl',q2⟩
 ·have nf:∀c v,H c=some v->c∉iK (env::outer):=λc v q hb=>by
   have:=I.jc c hb;rw[this]at q;cases q
  refine(I.hok b u q).qT (λc v hc q'=>aba _ q' ?_) (λ_ q'=>q') λ_ _ q'=>q'
  rcases hc with z | z
  ·rw[z];exact nf b u q
  ·exact nf c _ z
theorem bI:Passes (dD P w) (kI (dD P w) P w K mg base N qual scope f cd A outer s₀ H₀ E) E:=by
 intro pins σ H s e s' I hc;obtain⟨a,C,t,H',B,dd,rfl,ho,hb,F,hdd,hE⟩:=hc
 let env:=envOfC qual scope s₀.heap.objs.size f cd
 have hf:env.frame=some s₀.heap.objs.size:=rfl;have F':Ma P w (env::outer) H H' s.heap B a (.ref C) (.ref t) s'.heap:=F;show wpAny _ _ (leaving env (.ref a)) _ _ _;have lib:=wpAny_leaves_onW (M:=model P w) (A:=(kI (dD P w) P w K mg base N qual scope f cd A outer s₀ H₀ E).A) (E:=λ_ _=>False) (s:=s')
  (Q:=λ_ s2=>∃h2,s2={s' with heap:=h2}/\Heap.FlyingW B outer a (.ref C) (.ref t) h2/\s'.heap.UpToSlots h2) (I.ok.frames) hf F'.fly λh2 x1 x4=>⟨h2,rfl,x1,x4⟩
 refine aam (dI (j4 env (.ref a)) lib) (λ_ s2 z=>?_) λ_ _ z=>z.elim
 obtain⟨⟨h2,rfl,x1,x4⟩,dk⟩:=z
 have ni:∀b o,s₀.heap.get? b=some o->b∉iK outer->b∉iK (env::outer):=λb o q nb hb=>by
  rcases (bt hf).mp hb with z | z
  ·exact absurd (aab q) (by rw[z];exact aaN _)
  ·exact nb z
 refine⟨a,C,t,H',B,dd,rfl,ho.trans I.os,hb,⟨λb o q n nb=>?_,λb o q nb=>?_,λb o q hb=>?_,λb o q n=>?_,λb xs q=>F'.tups b xs (I.base.tups b xs q),λb o u q=>F'.fu b o u (I.base.fu b o u q),λb ps q=>?_,F'.hok,x1⟩,hdd.dk dk,hE⟩
 ·exact F'.keep b o (I.base.keep b o q n nb (by intro z;cases z)) (I.base.free b o q n (by intro z;cases z)) (ni b o q nb)
 ·obtain⟨o',q'⟩:=I.base.there b o q (by intro z;cases z);exact F'.there b o' q' (ni b o q nb)
 ·obtain⟨sl,q'⟩:=I.base.slot b o q (I.ok.frf b hb) hb (by intro z;cases z);obtain⟨M8,q2⟩:=F'.slot b _ q' ((bt hf).mpr (.inr hb));obtain⟨_,o',ho',hn⟩:=F'.fly.2.2.1.mem ((bt hf).mpr (.inr hb));rw[q2]at ho';have e1:=aak ho';obtain⟨sl',q3⟩:=x4 b _ q2 (by rw[e1];exact hn);exact⟨sl',q3⟩
 ·obtain⟨o',q'⟩:=I.base.there b o q (by intro z;cases z);exact F'.free b o' q' (I.base.free b o q n (by intro z;cases z))
 ·obtain⟨m1,e1⟩:=I.base.tbls b ps q;obtain⟨m2,e2⟩:=F'.tbls b _ e1;exact⟨m1++m2,by rw[e2,Array.append_assoc]⟩
theorem iq.Cy{x qual:Str}{st:Stmt}{f:Addr}{fd:FuncData}{N ps:List Str}{k:Nat}{sp:Sp}(F:iq K x qual st f fd)(S:aS N ps (dS st))(len:∀vs H Q E,sp vs H Q E->vs.length=ps.length)
  (hbody:∀(cdv:Value) (A:Around) (outer:List Env) (s:Shared) (H:Hp) (vs:List V) (Q:VK) (E:XK),cw k (A.deeper (envOfC qual (dS st) s.heap.objs.size f cdv))->sp vs H Q E ->
   ∃t,oo (kI (dD P w) P w K mg base N qual (dS st) f cdv A outer s H E) (dB st) t/\t {nx:=λ_ H'=>Q .non H',rt:=Q} (start N vs) H):bL P w K mg base (dD P w) (k + 1) f fd ps sp:=by
 obtain⟨oc,od,kV,doc,pm,an,cdv,ct,osl,rfl,lk,hcd⟩:=F.ex;exact L3 lk hcd S len λA outer s H vs Q E hr hsp=>hbody cdv A outer s H vs Q E hr hsp
end
theorem Fh{X:Cx}{x:Str}{k:Nat}{ps:List Str}{sp:Sp}{e:Expr}{es:List Expr}{t:TA}{p pos:Pos}{E:XK}(h:eM X.prog X.w X.K X.mg X.base (dD X.prog X.w) x k ps sp)(hx:Passes (dD X.prog X.w) X E)(hr:cw k X.A)(hg:Gl X x)(ha:PA X (e::es) t)(hdb:(x == ("__debug__" : Str))=false:=by decide)
  (he:starEach (e::es) X.env=(false,eval e X.env)::starEach es X.env:=by rfl) (hpl:(backTo pos (starEach es X.env)).any (·.1)=false:=by rfl) :
  PE X (.Call (.Name x p) (e::es) [] pos) (xA sp [] E t):=by
 obtain⟨f,fd,F,b,kp,m⟩:=h.ex;exact Bd F hr hg m kp b .nil hx ha hdb he hpl
theorem Nz{P:Program}{w:World}{X:Cx}:Passes (dD P w) X E0:=λ_ _ _ _ _ _ _ ⟨_,_,_,_,_,_,_,_,_,_,_,h⟩=>h.elim
section
variable {M:Model} {A:Around} {E:Value->Shared->Prop} {env:Env} {nm qn:Str} {C Nc:Addr} {bs bm:List Value} {hdct:Bool} {sn:List Str} {sub:List Value} {ab:Bool} {col:Option Bool} {dd:Option Addr} {k0 k1 k2 k3 k5:Option Value} {newId:String}
theorem Cz{s:Shared}{x:Sem Value}{Q:Flow->Shared->Prop}(hb:bm.contains (.type "BaseException")=true)(hh:A.handled=none)
  (h:wpAny M A x (λv s1=>∃e t0 dx,v=.ref e/\s1.heap.get? C=some (excClassObj nm qn C Nc bs bm hdct sn sub ab col dd k0 k1 k2 k3 k5 newId) /\
   s1.heap.get? e=some {cls:=.ref C,dict:=dx,data:=.fields #[.ref t0,.none,.none,.none,.bool false,.none]}/\E (.ref e) s1) E s):wpAny M A (raiseStmt env (some x) none) Q E s:=by
 have hB:(Value.ref C::bm).contains (.type "BaseException")=true:=by rw[acq,hb,ac1]
 unfold raiseStmt;refine wpAny_bind (wpAny_mono h (λv s1 z=>?_) λ_ _ z=>z);obtain⟨e,t0,dx,rfl,gC,ge,hE⟩:=z;obtain⟨hp,g,d,tk,os⟩:=s1
 repeat (first | with_reducible refine aaK ge ?_ | (with_reducible refine acj gC ?_;rw[hB]) | with_reducible refine aaK gC ?_ | wp_step)
 exact wpAny_raiseNew_none hh hE
end
def Jz(C:Addr)(fs:List Str)(E:XK)(t:TA):TS:=λ_ σ H=>t σ H λvs H1=>vs.length=fs.length/\∀dx H2,H1 dx=none->bf H1 H2->H2 dx=some (.ext (XD dx (fs.zip vs)))->E (.ref C) (some dx) H2
section
variable {X:Cx} {C:Addr} {fs:List Str} {x:Str} {np cpos pos:Pos} {e:Expr} {es:List Expr} {t:TA} {E:XK}
theorem oJ(hz:Xm X E)(M:vH X.prog X.w X.K X.mg X.base C fs)(hr:cw 2 X.A)(hg:Gl X x)(hm:X.mg x=some (.ref C))(hc:X.calm=true)(ha:PA X (e::es) t)(hdb:(x == ("__debug__" : Str))=false:=by decide)
  (he:starEach (e::es) X.env=(false,eval e X.env)::starEach es X.env:=by rfl) (hpl:(backTo cpos (starEach es X.env)).any (·.1)=false:=by rfl) :
  PS X (.Raise (some (.Call (.Name x np) (e::es) [] cpos)) none pos) (Jz C fs E t):=by
 intro pins s σ H D I h;obtain⟨f,fd,M',F',b⟩:=M.ini;obtain⟨bx,hbx⟩:=M'.ex;obtain⟨bm,N,nm,qn,bs,sn,sub,ab,col,dd,k0,k1,k2,k3,k5,mN,hC,hn,T,_⟩:=nt I.mod.kin hbx;rw[arm_exec_Raise];refine aaa (abA (Cz (C:=C) (nm:=nm) (qn:=qn) (Nc:=N) (bs:=bs) (bm:=bm) (hdct:=true) (sn:=sn) (sub:=sub) (ab:=ab) (col:=col) (dd:=dd) (k0:=k0) (k1:=k1) (k2:=k2) (k3:=k3) (k5:=k5) (newId:=vG bx) (T.hasType (X:="BaseException") (b:=true) (rC bx)) (I.ok.hd hc) ?_));refine aaa (aam (?_:wpAny (model X.prog X.w) X.A (eval (.Call (.Name x np) (e::es) [] cpos) X.env) _ X.xe s) (λv s1 z=>aaa (abA (aag z))) λ_ _ z=>z);refine abb (gF I hg hm ?_ hdb);refine abh (h₀:=X.base) I.ok.mod.kin M'.kp (bU (ha cpos pins s σ H _ I h) λus s1 ⟨vs,H1,I1,r,hl,q⟩=>⟨I1.jb,?_⟩) he hpl;refine aam (uO (dvs:=[]) M' F' hr.low b .nil rh I1 r (by rw[hl,acn];have:=M.le;omega) (Q:=λv H2=>∃a dx,v=.ref a/\s1.heap.objs.size<=a/\H2 a=some (.ext (XP C a (some dx)))/\E (.ref C) (some dx) (del H2 a)) λa hsz hn'=>⟨a,C,vs++[],rfl,by rw[aaT];exact hl,M.s,M.no,uS,λdx hd hda=>⟨rfl,a,dx,rfl,hsz,uS,?_⟩⟩) (λu s' z=>?_) λ_ _ z=>z
 ·rw[uN hda]at hd;refine q dx _ hd (λc o z=>?_) ?_
  ·rw[dY (nN z hn'),uN (nN z hn'),uN (nN z hd),uN (nN z hn')];exact z
  ·rw[dY hda,uN hda,uS,aaT]
 ·obtain⟨v,H2,I2,rv,a,dx,rfl,hsz,hHa,hE⟩:=z;cases rv;obtain⟨⟨t0,g0⟩,_,_⟩:=I2.hok a _ hHa;exact⟨a,t0,_,rfl,I2.bk _ _ hC,g0,hz pins σ H2 s' a C (some dx) I2 (aaF I1.sz hsz) hHa hE⟩
end
def Md(C a:Addr)(dd:Option Addr):Heap->Prop:=λh=>∃o vs,h.get? a=some o/\o.cls=.ref C/\o.data=.fields vs/\o.dict=dd
theorem zJ{C a dx:Addr}(h:Heap)(p:Md C a (some dx) h):XG C a dx h:=let ⟨o,vs,q1,q2,q3,q4⟩:=p;⟨o,vs,q1,q2,q4,q3⟩
section
variable {X:Cx} {CW:Addr} {cx n:Str} {i:Nat} {b₀:Stmt} {suite:List Stmt} {np hpos pos:Pos} {tb:TS}
end
def iO(M:Model)(A:Around)(E:Value->Shared->Prop)(Q:Value->Shared->Prop)(acc:Value)(cenv:Env):Result->Shared->Prop:=λr s'=>∃m,s'.heap.Ns cenv.locals m/\∀h',Heap.SameBut cenv.locals s'.heap h' ->
 match r with
 | .ok _=>Q acc {s' with heap:=h'}
 | .error x=>wpAny M A (PySem.passOn "comprehension.variables-let-go" x cenv:Sem Value) (λ_ _=>False) E {s' with heap:=h'}
theorem CA{M:Model}{A:Around}{E:Value->Shared->Prop}{s:Shared}{env:Env}{e:Expr}{scope:Scope}{pos:Pos}{newAcc first:Sem Value}{g:Comprehension}{gs:List Comprehension}{cl:List (Str×Addr)}{Q:Value->Shared->Prop}
  (hcl:clausesOf e=g::gs) (hs:∀x,foldedSetIterable g.iter env x=pure x) (hclos:closureFor scope env=pure cl) (hkind:scope.kind=.function) (hnames:∀x∈scope.names,x.2=NameKind.local->scope.names.lookup x.1=some .local)
  (h:wpAny M A first (λx s₁=>wpAny M A (pyIter x) (λit s₂=>wpAny M A newAcc (λacc s₃=>wpAny M A (newFunctionEnv scope env.globals cl [] env.qual none .none (some env)) (λcenv s₄ =>
   codeAny M A (.compStart e 0 it acc {cenv with scope:=relabel scope env}) (iO M A E Q acc {cenv with scope:=relabel scope env}) s₄) E s₃) E s₂) E s₁) E s) :
  wpAny M A (comprehension e scope env pos newAcc false first none) Q E s:=by
 unfold comprehension;rw[hclos,hcl];refine wpAny_bind (wpAny_mono h (λx s₁ h₁=>?_) λ_ _ z=>z);refine wpAny_bind (wpAny_standAt (wpAny_bind (wpAny_of_eq (hs x) (wpAny_bind (wpAny_holding (wpAny_mono h₁ (λit s₂ h₂=>?_) λ_ _ z=>z))))));refine wpAny_standIf (wpAny_bind (wpAny_mono h₂ (λacc s₃ h₃=>wpAny_bind (wpAny_pure (wpAny_bind (wpAny_mono h₃ (λcenv s₄ h₄=>?_) λ_ _ z=>z)))) λ_ _ z=>z))
 have hv:∀x∈(scope.names.filter λ(n,k)=>(k == NameKind.local||k == NameKind.cell)&&n != Str.ofString ".0").reverse,x.2=NameKind.local->(relabel scope env).names.lookup x.1=some .local:=λx hx hl =>
  lookup_relabel_local (hnames x (List.mem_filter.mp (List.mem_reverse.mp hx)).1 hl)
 refine aa3 (aaa (wpAny_attempt (aa3 (wpAny_run (abS h₄ λr s' hr=>?_)))));obtain⟨m,hn,hr⟩:=hr
 cases r with
 | ok f=>exact aaa (aa3 (wpAny_comp_letGo hkind _ _ m hv hn λh' m' _ sb=>aag (hr h' sb)))
 | error x =>
  refine aaa (aa3 (wpAny_comp_letGo hkind _ _ m hv hn λh' m' _ sb=>?_));exact aam (hr h' sb) (λ_ _ z=>z.elim) λ_ _ z=>z
structure kE(h:Heap)(a C t T L:Addr):Prop where
 ne:T≠a
 ex:∃oe vs oT ts,h.get? a=some oe/\oe.cls=.ref C/\vs[0]?=some (.ref t)/\oe.data=.fields vs/\vs[1]?=some (.ref T)/\h.get? T=some oT/\oT.data=.fields ts/\ts[3]?=some (rawInt L)
theorem kE.of{B:Heap}{l:List Env}{a C t L:Addr}{h:Heap}(x:B.HeldW l a (.ref C) (.ref t) L h):∃T,kE h a C t T L/\B.get? T=none:=by
 obtain⟨_,_,_,oe,vs,T,oT,ts,h1,⟨h2,h3⟩,h4,h5,h6,h7,h8,h9,ZD⟩:=x;exact⟨T,⟨h7,oe,vs,oT,ts,h1,h2,h3,h4,h5,h8,h9,ZD⟩,h6⟩
theorem kE.eq{h h':Heap}{a C t T L:Addr}(x:kE h a C t T L)(ha:h'.get? a=h.get? a)(hT:h'.get? T=h.get? T):kE h' a C t T L:=by
 obtain⟨n,oe,vs,oT,ts,h1,h2,h3,h4,h5,h6,h7,h8⟩:=x;exact⟨n,oe,vs,oT,ts,ha.trans h1,h2,h3,h4,h5,hT.trans h6,h7,h8⟩
theorem kE.held{h:Heap}{a C t T L:Addr}{l:List Env}{base:Heap}(x:kE h a C t T L)(st:h.FunFrames base l){hid:List Addr}(h1:a∈hid)(h2:T∈hid)(h3:∀v∈l,∀b,v.frame=some b->b∈hid):(hideAll h hid).HeldW l a (.ref C) (.ref t) L h:=by
 obtain⟨n,oe,vs,oT,ts,e1,e2,e3,e4,e5,e6,e7,e8⟩:=x;exact⟨λb o q=>of_hideAll _ q,acF _ h1,acm st h3,oe,vs,T,oT,ts,e1,⟨e2,e3⟩,e4,e5,acF _ h2,n,e6,e7,e8⟩
def kX(X:Cx)(E:XK):Prop:=∀(pins:List (Addr×Obj)) (σ:St) (H:Hp) (s:Shared) (a C t T:Addr) (dd:Option Addr),Inv X pins σ H s->kE s.heap a C t T X.env.locals->fA s.heap a dd->H a=none->H T=none->X.s₀.heap.get? a=none->X.s₀.heap.get? T=none->E (.ref C) dd H->X.xe (.ref a) s
theorem CB{M:Model}{A:Around}{E:Value->Shared->Prop}{s:Shared}{env:Env}{a C t T L:Addr}{Q:Unit->Shared->Prop}(hf:env.frame=some L)(x:kE s.heap a C t T L)(q:Q () s):wpAny M A (noteFrame (.ref a) env) Q E s:=by
 obtain⟨n,oe,vs,oT,ts,e1,e2,e3,e4,e5,e6,e7,e8⟩:=x;unfold noteFrame;rw[hf];refine wpAny_bind (wpAny_field e1 e4 e5 ?_);rw[if_pos (by rfl)];refine wpAny_bind (wpAny_field e6 e7 e8 ?_);rw[if_pos (by simp)];exact wpAny_pure q
section
variable {P:Program} {w:World} {K:aV} {mg:Str->Option Value} {base:Heap} {N:List Str} {qual:Str} {scope:Scope} {f:Addr} {cd:Value} {A:Around} {outer:List Env} {s₀:Shared} {H₀:Hp} {E:XK}
theorem je:kX (kI (dD P w) P w K mg base N qual scope f cd A outer s₀ H₀ E) E:=by
 intro pins σ H s a C t T dd I hx hdd hHa hHT h0a h0T hE
 let env:=envOfC qual scope s₀.heap.objs.size f cd
 have hf:env.frame=some s₀.heap.objs.size:=rfl;have hst:=I.stack
 let hid:=a::T::iK (env::outer)
 have hin:∀v∈(env::outer),∀b,v.frame=some b->b∈hid:=λv hv b hb=>aaB _ (aaB _ (abv.mpr ⟨v,hv,hb⟩))
 have held:(hideAll s.heap hid).HeldW (env::outer) a (.ref C) (.ref t) s₀.heap.objs.size s.heap:=hx.held hst aat (aaB _ aat) hin;show wpAny _ _ (leaving env (.ref a)) _ _ _
 have lib:wpAny (model P w) (kI (dD P w) P w K mg base N qual scope f cd A outer s₀ H₀ E).A (leaving env (.ref a)) (λ_ s'=>∃h',s'={s with heap:=h'}/\(hideAll s.heap hid).FlyingW (env::outer) a (.ref C) (.ref t) h'/\s.heap.UpToSlots h') (λ_ _=>False) s:=by
  unfold leaving;refine wpAny_bind (CB hf hx ?_);exact wpAny_landsW held λh' x1 x2=>⟨h',rfl,x1,x2⟩
 refine aam (dI (j4 env (.ref a)) lib) (λ_ s' z=>?_) λ_ _ z=>z.elim
 obtain⟨⟨h2,rfl,k1,x4⟩,dk⟩:=z
 have fl:(hideAll s.heap hid).FlyingW outer a (.ref C) (.ref t) h2:=by
  obtain⟨y1,y2,y3,y4⟩:=k1;rw[Heap.FunFrames.eq_2]at y3;exact⟨y1,y2,y3.2.2,y4⟩
 have ni:∀b o,s₀.heap.get? b=some o->b∉iK outer->b∉hid:=λb o q nb hb=>by
  rcases aaE.mp hb with z | hb
  ·rw[z]at q;have z:=h0a.symm.trans q;cases z
  rcases aaE.mp hb with z | z
  ·rw[z]at q;have z:=h0T.symm.trans q;cases z
  ·rcases (bt hf).mp z with z | z
   ·exact absurd (aab q) (by rw[z];exact aaN _)
   ·exact nb z
 refine⟨a,C,t,H,_,dd,rfl,I.os,I.bare,⟨λb o q n nb=>?_,λb o q nb=>?_,λb o q hb=>?_,λb o q n=>I.base.free b o q n (by intro z;cases z),I.base.tups,I.base.fu,I.base.tbls,λb u q=>?_,fl⟩,hdd.dk dk,hE⟩
 ·exact aba _ (I.base.keep b o q n nb (by intro z;cases z)) (ni b o q nb)
 ·obtain⟨o',q'⟩:=I.base.there b o q (by intro z;cases z);exact⟨o',aba _ q' (ni b o q nb)⟩
 ·obtain⟨sl,q'⟩:=I.base.slot b o q (I.ok.frf b hb) hb (by intro z;cases z);obtain⟨_,o',ho',hn⟩:=hst.mem ((bt hf).mpr (.inr hb));rw[q']at ho';have e1:=aak ho';obtain⟨sl',q2⟩:=x4 b _ q' (by rw[e1];exact hn);exact⟨sl',q2⟩
 ·have nf:∀c v,H c=some v->c∉hid:=λc v q hb=>by
   rcases aaE.mp hb with z | hb
   ·rw[z,hHa]at q;cases q
   rcases aaE.mp hb with z | z
   ·rw[z,hHT]at q;cases q
   ·have:=I.jc c z;rw[this]at q;cases q
  refine(I.hok b u q).qT (λc v hc q'=>aba _ q' ?_) (λ_ q'=>q') λ_ _ q'=>q'
  rcases hc with z | z
  ·rw[z];exact nf b u q
  ·exact nf c _ z
end
theorem xQ{M:Model}{A:Around}{E:Value->Shared->Prop}{s:Shared}{env:Env}{a C t T L:Addr}{what:String}{Q:Value->Shared->Prop}(hf:env.frame=some L)(x:kE s.heap a C t T L)
  (q:∀h',(∀b,h'.get? b=s.heap.get? b)->E (.ref a) {s with heap:=h'}):wpAny M A (PySem.passOn what (.ref a) env:Sem Value) Q E s:=by
 obtain⟨n,oe,vs,oT,ts,e1,e2,e3,e4,e5,e6,e7,e8⟩:=x;unfold PySem.passOn;refine wpAny_bind (wpAny_field e1 e4 e5 ?_);rw[if_neg (by intro z;cases z)];unfold setFlight;refine wpAny_bind (wpAny_bind (wpAny_field e1 e4 e5 ?_));rw[if_pos (by rfl),hf]
 have hs:3 < ts.size:=by
  rcases Nat.lt_or_ge 3 ts.size with z | z
  ·exact z
  ·rw[Array.getElem?_eq_none z]at e8;cases e8
 refine wpAny_setField e6 e7 hs ?_;refine wpAny_throw (q _ λb=>?_);exact abB (λh=>Heap.get? h b) (Heap.update_setField_same _ _ _ _ _ _ e6 e7 e8)
theorem kO.has{P:Program}{w:World}{H:Hp}{B:Heap}{a:Addr}(k:kO P w H B)(z:B.get? a=none):H a=none:=by
 cases q:H a with
 | none=>rfl
 | some u =>
  have e:∃o,B.get? a=some o:=by
   have ok:=k a u q
   cases u with
   | lst xs=>obtain⟨_,_,_,_,e⟩:=ok;exact⟨_,e⟩
   | tup xs=>obtain⟨_,_,_,o,e,_⟩:=ok;exact⟨_,e⟩
   | dK kvs=>obtain⟨_,_,_,_,o,_,_,e,_⟩:=ok;exact⟨_,e⟩
   | dT kvs=>obtain⟨_,_,_,_,o,_,_,e,_⟩:=ok;exact⟨_,e⟩
   | set S n=>obtain⟨o,_,_,_,e,_⟩:=ok;exact⟨_,e⟩
   | ins C dx fs=>obtain⟨_,_,_,e,_⟩:=ok;exact⟨_,e⟩
   | own y=>exact ok
   | xd fs=>obtain⟨_,⟨o,_,_,e,_⟩,_⟩:=ok;exact⟨_,e⟩
   | rng lo hi=>obtain⟨_,_,_,e⟩:=ok;exact⟨_,e⟩
   | mq ob u=>obtain⟨e,_⟩:=ok;exact⟨_,e⟩
   | tbl ps=>exact⟨_,ok⟩
   | met f y=>exact⟨_,ok⟩
   | ext φ=>obtain⟨_,e,_⟩:=ok;exact e
  obtain⟨o,e⟩:=e;rw[z]at e;cases e
theorem Ma.Xn{P:Program}{w:World}{fs:List Env}{H H':Hp}{h0 B h h':Heap}{a:Addr}{cls a0:Value}(F:Ma P w fs H H' h0 B a cls a0 h)(st:B.StaysIn h')(u:h.UpToSlots h'):Un (iK fs) [] H H' h0 h' where
 keep:=λb o e n hb _=>st b o (F.keep b o e n hb)
 slot:=λb o e _ hb _=>by
  obtain⟨sl,q⟩:=F.slot b o e hb;obtain⟨_,o',ho',hn⟩:=F.fly.2.2.1.mem hb;rw[q]at ho';have e1:=aak ho';obtain⟨sl',q'⟩:=u b _ q (by rw[e1];exact hn);exact⟨sl',q'⟩
 free:=λb o e n _=>F.free b o e n
 there:=λb o e _=>by
  by_cases hb:b∈iK fs
  ·obtain⟨sl,q⟩:=F.slot b o e hb;obtain⟨_,o',ho',hn⟩:=F.fly.2.2.1.mem hb;rw[q]at ho';have e1:=aak ho';obtain⟨sl',q'⟩:=u b _ q (by rw[e1];exact hn);exact⟨_,q'⟩
  ·obtain⟨o',q⟩:=F.there b o e hb;exact⟨o',st b o' q⟩
 tups:=F.tups
 fu:=F.fu
 tbls:=F.tbls
section
variable {X:Cx} {pins:List (Addr×Obj)} {σ:St} {H:Hp} {s:Shared} {own:Nat} {N:List Str} {ix:List Nat} {scope:Scope} {E:XK}
theorem Fj{C:Addr}{fp:List Addr}{Q:Value->Shared->Prop}{acc:Value}{cl:List (Str×Addr)}(I:Inv X pins σ H s)(hx:∀b∈fp,mh X pins H b)(hst:X.stack=X.env::X.outer)(hf:X.env.frame=some X.env.locals)(hex:X.ex=[])(hp:kX X E)
  (hL:C≠X.env.locals) (hsz:X.s₀.heap.objs.size<=C) (hce:∀x c,X.env.cells.lookup x=some c->c≠C) (hpi:∀p∈X.pn++pins,p.1≠C) (hnf:C∉iK X.stack)
  {pinsb:List (Addr×Obj)} {σb:St} {Hb:Hp} {sb s1:Shared} {e:Value} (Ib:Inv (X.jM N scope C fp s H) pinsb σb Hb sb) (hc:dD X.prog X.w X.stack Hb sb E e s1) :
  notedBy (model X.prog X.w) X.A (compEnvC scope cl C X.env) (λx s'=>iO (model X.prog X.w) X.A X.xe Q acc (compEnvC scope cl C X.env) (.error x) s') e s1:=by
 obtain⟨a,Cc,t,H',B,dd,rfl,ho,hb,F,hdd,hE⟩:=hc;have hfr:X.A.frames=some (X.env::X.outer):=by rw[← hst];exact I.ok.frames
 rw[hst]at F;have hnf':C∉iK (X.env::X.outer):=by rw[← hst];exact hnf
 unfold notedBy;show wpAny _ X.A (noteFrame (.ref a) X.env) _ _ s1;have lib:=wpAny_looks_onW (M:=model X.prog X.w) (A:=X.A) (E:=λx s'=>iO (model X.prog X.w) X.A X.xe Q acc (compEnvC scope cl C X.env) (.error x) s') (s:=s1) (Q:=λ_ s'=>∃h4,s'={s1 with heap:=h4}/\Heap.HeldW B (X.env::X.outer) a (.ref Cc) (.ref t) X.env.locals h4/\s1.heap.UpToSlots h4) hfr hf F.fly λh4 kF NA=>⟨h4,rfl,kF,NA⟩
 refine aam (dI (qF (.ref a) X.env) lib) (λ_ s4 z4=>?_) λ_ _ z=>z
 obtain⟨⟨h4,rfl,kF,NA⟩,Ux⟩:=z4;have Uy:fA h4 a dd:=hdd.dk Ux
 have Tf:Inv (X.jM N scope C fp s H) pinsb σb H' {s1 with heap:=h4}:=by
  refine Ib.A2 (ch:=[]) ho ?_ (F.hok.kept kF.1) hb (λb z=>nomatch z);show Un (iK X.stack) [] Hb H' sb.heap h4;rw[hst];exact F.Xn kF.1 NA
 have I4:Inv X pins σ H' {s1 with heap:=h4}:=I.A2 (ch:=fp) Tf.os Tf.base Tf.hok Tf.bare λb hb=>⟨(hx b hb).2.2.2.1,(hx b hb).2.1,(hx b hb).2.2.2.2.1,(hx b hb).2.2.2.2.2⟩
 obtain⟨m,hm,_⟩:=Ib.loc;have hm:sb.heap.Ns C m:=hm;obtain⟨oC,es,ep,hgC,hdC,hr⟩:=hm;have hHC:Hb C=none:=Ib.free;have hBC:B.get? C=some oC:=F.keep C oC hgC hHC hnf';have ZE:h4.Ns C m:=⟨oC,es,ep,kF.1 C oC hBC,hdC,hr⟩;have hC':H' C=none:=F.free C oC hgC hHC;obtain⟨T,hX,hBT⟩:=kE.of kF;have hBa:B.get? a=none:=kF.2.1;have haC:a≠C:=λz=>by rw[z,hBC]at hBa;cases hBa
 have hTC:T≠C:=λz=>by rw[z,hBC]at hBT;cases hBT
 have Rh:∀b,B.get? b=none->b∉iK (X.env::X.outer)->X.s₀.heap.get? b=none:=λb hB hn=>by
  cases e:X.s₀.heap.get? b with
  | none=>rfl
  | some o =>
   obtain⟨o1,e1⟩:=I.base.there b o e (by rw[hex];exact λz=>nomatch z)
   obtain⟨o2,e2⟩:=Ib.base.there b o1 e1 (λz=>by
    rcases (hx b z).2.2.2.1 with y | y
    ·rw[hex]at y;exact nomatch y
    ·exact absurd (aab e) (Nat.not_lt.mpr y))
   obtain⟨o3,e3⟩:=F.there b o2 e2 hn;rw[hB]at e3;cases e3
 have Ri:∀b o vs,h4.get? b=some o->o.data=.fields vs->b∉iK (X.env::X.outer):=λb o vs e1 e2 hm=>by
  obtain⟨_,o',ho',hn'⟩:=kF.2.2.1.mem hm;rw[e1]at ho';cases ho';exact hn' _ e2
 obtain⟨oe,vs,oT,ts,x1,x2,x3,x4,x5,x6,x7,x8⟩:=hX.ex;refine⟨m,ZE,λh' sb'=>?_⟩;have sb':Heap.SameBut C h4 h':=sb';have I5:Inv X pins σ H' {s1 with heap:=h'}:=I4.turned (t':=s1.toks) (λb o hb e=>(sb'.2 b hb).trans e) hC' hL (.inr hsz) hce hpi;have Xo:kE h' a Cc t T X.env.locals:=hX.eq (sb'.2 a haC) (sb'.2 T hTC);refine xQ (L:=X.env.locals) hf Xo λh6 Ti=>?_
 have I6:Inv X pins σ H' {s1 with heap:=h6}:=I5.kept (t':=s1.toks) λb o e=>(Ti b).trans e
 obtain⟨od,gd,qd⟩:=Uy;exact hp pins σ H' _ a Cc t T dd I6 (Xo.eq (Ti a) (Ti T)) ⟨od,(Ti a).trans ((sb'.2 a haC).trans gd),qd⟩ F.new (kO.has F.hok hBT) (Rh a hBa (Ri a oe vs x1 x4)) (Rh T hBT (Ri T oT ts x6 x7)) hE
end
theorem vL{prog:Program}{w:World}{A:Around}{R:Result->Shared->Prop}{s:Shared}{elt target iter:Expr}{ifs:List Expr}{scope:Scope}{pos:Pos}{it acc:Value}{env:Env}(I:Nat->Shared->Prop)
  (turn:∀n s,I n s->wpAny (model prog w) A (pyNext it) (λr s1=>match r with
   | none=>R (.ok .next) s1
   | some v=>wpAny (model prog w) A (letOwnedTupleGo target it v) (λ_ s1'=>wpAny (model prog w) A (assign target env v) (λ_ s2 =>
     wpAny (model prog w) A (forIn ifs true λc r=>if r=true then do let ok ← isTrue c env (eval c env);pure (ForInStep.yield ok)else pure (ForInStep.yield r)) (λok s3 =>
      if ok=true then wpAny (model prog w) A (eval elt env) (λx s4=>wpAny (model prog w) A (call (.builtin "list.append") [acc,x]) (λ_ s5=>∃m,m < n/\I m s5) (notedBy (model prog w) A env λx s'=>R (.error x) s') s4) (notedBy (model prog w) A env λx s'=>R (.error x) s') s3
      else ∃m,m < n/\I m s3) (notedBy (model prog w) A env λx s'=>R (.error x) s') s2) (notedBy (model prog w) A env λx s'=>R (.error x) s') s1') (notedBy (model prog w) A env λx s'=>R (.error x) s') s1) (notedBy (model prog w) A env λx s'=>R (.error x) s') s)
  (n:Nat) (h:I n s):codeAny (model prog w) A (.compLoop (.ListComp elt [⟨target,iter,ifs,0⟩] scope pos) 0 it acc env) R s:=by
 refine codeAny_loop rfl I (λn s hI=>?_) n h;show wpAny _ A ((compTurn (.ListComp elt [⟨target,iter,ifs,0⟩] scope pos) 0 it acc env).onRaise (λx=>do noteFrame x env;theTreesLotGoes x)) _ _ s;refine wpAny_noted ?_;rw[compTurn_list];refine aaa (abA (aaa (aam (turn n s hI) (λr s1 h1=>?_) λ_ _ z=>z)))
 cases r with
 | none=>exact aag h1
 | some v =>
  refine aaa (aam h1 (λ_ s1' h1'=>?_) λ_ _ z=>z);refine aaa (aam h1' (λ_ s2 h2=>aaa (aam h2 (λok s3 h3=>?_) λ_ _ z=>z)) λ_ _ z=>z)
  cases ok with
  | false=>exact aag ⟨rfl,h3⟩
  | true=>exact aaa (aaa (aam h3 (λx s4 h4=>aaa (aam h4 (λ_ s5 h5=>aag (aag ⟨rfl,h5⟩)) λ_ _ z=>z)) λ_ _ z=>z))
section
variable {X:Cx} {pins:List (Addr×Obj)} {σ:St} {H:Hp} {s:Shared} {own:Nat} {N:List Str} {ix:List Nat} {scope:Scope} {E:XK}
theorem Fl{elt tg iter:Expr}{ifs:List Expr}{pos:Pos}{g:TG}{tt:TT}{te:TE}{it:Addr}{fp:List Addr}{tn:Nat->Heap->Prop}{J:It}{Q:VK}{E':Value->Shared->Prop}{Qv:Value->Shared->Prop}(B:kW X own N ix scope)
  (hin:∀(C:Addr) (s:Shared) (H:Hp) (XE:Value->Shared->Prop),Passes (dD X.prog X.w) ((X.jM N scope C fp s H).fw XE) E->PG ((X.jM N scope C fp s H).fw XE) tg g/\Np ((X.jM N scope C fp s H).fw XE) ifs tt/\PE ((X.jM N scope C fp s H).fw XE) elt te)
  (hst:X.stack=X.env::X.outer) (hfm:X.env.frame=some X.env.locals) (hex:X.ex=[]) (hp:kX X E)
  (I:Inv X pins σ H s) (T:Turn X.prog X.w X.K tg J fp it tn) (st:tn 0 s.heap) (hf:∀b∈fp,mh X pins H b)
  (h:∀D,H D=none->Qm J own ix σ g tt te D H Q)
  (fin:∀(D:Addr) (H':Hp) (s':Shared),Inv X pins σ H' s'->Q (.ref D) H'->Qv (.ref D) s') :
  wpAny (model X.prog X.w) X.A (newList []) (λacc s3=>wpAny (model X.prog X.w) X.A (newFunctionEnv scope X.env.globals (mE X.env.cells scope.names []) [] X.env.qual none .none (some X.env)) (λcenv s4 =>
   codeAny (model X.prog X.w) X.A (.compStart (.ListComp elt [⟨tg,iter,ifs,0⟩] scope pos) 0 (.ref it) acc {cenv with scope:=relabel scope X.env}) (iO (model X.prog X.w) X.A X.xe Qv acc {cenv with scope:=relabel scope X.env}) s4) E' s3) E' s:=by
 obtain⟨W,⟨m0,w0⟩,turn⟩:=h s.heap.objs.size I.fresh;refine abD ?_;have I3:=I.Ng (its:=[]) (ys:=[]) (t':=s.toks) .nil (abl _)
 have hcell:∀y∈scope.names,y.2≠NameKind.cell:=λy hy e=>by
  have:=ab6.mp B.cell y hy;rw[e]at this;exact absurd this (by decide)
 refine wpAny_newFunctionEnv hcell (by intro y hy;simp at hy) (λh1 zC zD=>?_) B.kind;dsimp only at zC zD ⊢;generalize Nq:s.heap.push {cls:=.type "list",dict:=none,data:=.seq ([]:List Value).toArray}=h2 at zC zD ⊢
 have I3':Inv X pins σ (upd H s.heap.objs.size (.lst [])) {s with heap:=h2}:=by
  have z:({s with heap:=s.heap.push {cls:=.type "list",data:=.seq ([]:List Value).toArray},toks:=s.toks}:Shared)={s with heap:=h2}:=by rw[← Nq]
  rw[← z];exact I3
 have sz:h2.objs.size=s.heap.objs.size + 1:=by rw[← Nq,abR]
 have Nr:∀b o,s.heap.get? b=some o->h2.get? b=some o:=λb o e=>by rw[← Nq];exact aaf _ e
 have xH:∀b o,h2.get? b=some o->h1.get? b=some o:=λb o e=>zD.extBut b o (aar (aab e)) (aaf _ e)
 have there:∀b∈fp,b < s.heap.objs.size:=λb hb=>by obtain⟨o,e,_⟩:=T.obj _ _ st b hb;exact aab e
 have L6:∀b∈fp,mh X pins (upd H s.heap.objs.size (.lst [])) b:=λb hb=>⟨by rw[uN (aar (there b hb))];exact(hf b hb).1,(hf b hb).2⟩
 have Ju:h1.Ns h2.objs.size (λ_=>none):=by simpa using zC
 have I4':=uJ (tk:=s.toks + ([]:List (Str×Value)).length) (own:=own) (N:=N) (ix:=ix) B I3' rfl L6 (λb hb=>aae (there b hb) (by show s.heap.objs.size<=h2.objs.size;rw[sz];exact abN _)) Ju xH;have qD:tn 0 h1:=T.keep _ _ _ st λb _ o e=>xH b o (Nr b o e)
 have cL:h2.objs.size≠X.env.locals:=aa5 I3'.lt;have cS:X.s₀.heap.objs.size<=h2.objs.size:=I3'.sz
 have cC:∀x c,X.env.cells.lookup x=some c->c≠h2.objs.size:=λx c e z=>by
  obtain⟨v,q⟩:=I3'.cell x c e;have:=q.lt;rw[z]at this;exact absurd this (aaN _)
 have cP:∀p∈X.pn++pins,p.1≠h2.objs.size:=λp hp z=>by
  have:=aab (I3'.pin p hp).1;rw[z]at this;exact absurd this (aaN _)
 have cF:h2.objs.size∉iK X.stack:=λz=>by
  obtain⟨_,o,ho,_⟩:=I3'.stack.mem z;exact absurd (aab ho) (aaN _)
 let cenv:=compEnvC scope (mE X.env.cells scope.names []) h2.objs.size X.env
 let XE:Value->Shared->Prop:=notedBy (model X.prog X.w) X.A cenv λx s'=>iO (model X.prog X.w) X.A X.xe Qv (.ref s.heap.objs.size) cenv (.error x) s'
 let Xb:=(X.jM N scope h2.objs.size fp {s with heap:=h2} (upd H s.heap.objs.size (.lst []))).fw XE
 have I4:Inv Xb [] (dq own ix σ) (upd H s.heap.objs.size (.lst [])) {s with heap:=h1,toks:=s.toks + ([]:List (Str×Value)).length}:=I4'.fw XE;have Bc:Xb.calm=true:=B.calm;have pas:Passes (dD X.prog X.w) Xb E:=λpb σb Hb sb e s1 Ib hc=>Fj (cl:=mE X.env.cells scope.names []) I3' L6 hst hfm hex hp cL cS cC cP cF Ib.fZ hc
 obtain⟨pg,pif,pe⟩:=hin h2.objs.size {s with heap:=h2} (upd H s.heap.objs.size (.lst [])) XE pas
 have fpb:∀{H':Hp},(∀b∈fp,H' b=none)->∀b∈fp,mh Xb [] H' b:=λhz b hb =>
  ⟨hz b hb,aar (aae (there b hb) (by show s.heap.objs.size<=h2.objs.size;rw[sz];exact abN _)),I4.ok.exfs b hb,.inl hb,λx c e=>(I4.ok.exf b hb).2 x c e,(λp hp=>nomatch hp)⟩
 have loop:∀s3:Shared,s3={s with heap:=h1,toks:=s.toks + ([]:List (Str×Value)).length} ->
   codeAny (model X.prog X.w) X.A (.compLoop (.ListComp elt [⟨tg,iter,ifs,0⟩] scope pos) 0 (.ref it) (.ref s.heap.objs.size) cenv) (iO (model X.prog X.w) X.A X.xe Qv (.ref s.heap.objs.size) cenv) s3:=by
  rintro s3 rfl;refine vL (λn s'=>∃i ys H',Inv Xb [] (dq own ix σ) H' s'/\tn i s'.heap/\(∀b∈fp,H' b=none)/\W i n ys H') ?_ m0
   ⟨0,[],_,I4,qD,λb hb=>(L6 b hb).1,w0⟩
  rintro n s5 ⟨i,ys,H5,I5,y8,MZ,w5⟩;obtain⟨hD,t5⟩:=turn i n ys H5 w5;rcases t5 with⟨stop,qn⟩ | ⟨go,hz,Nx,hNx,step⟩
  ·refine bU (T.done Xb rfl rfl rfl Bc i [] s5 _ H5 XE I5 (fpb MZ) y8 stop) λr s6 ⟨hr,I6⟩=>?_
   subst hr;obtain⟨m,hm,_⟩:=I6.loc;have I6':=Bj I3' L6 I6.fZ;exact⟨m,hm,λh' sb=>fin _ H5 _ (I6'.turned (t':=s6.toks) (λb o hb e=>(sb.2 b hb).trans e) I6.free cL (.inr cS) cC cP) qn⟩
  ·refine bU (T.item Xb rfl rfl rfl Bc i [] s5 _ H5 XE I5 (fpb MZ) y8 go) λr s6 ⟨u,hr,h6⟩=>?_
   subst hr;refine bU h6 λ_ s7 ⟨x,H7,I7,r7,y7,Nt,Ul⟩=>?_
   have I7':=I7.pinned (fpb Ul) (T.obj _ _ Nt);refine bU (pg _ s7 _ H7 x u _ I7' r7 (step x H7 y7)) λ_ s8 ⟨σ8,H8,I8,Um,q8⟩=>?_
   refine bU (pif _ s8 σ8 H8 _ I8 q8) λb s9 ⟨H9,I9,q9⟩=>?_
   have again:∀{ys':List V} {H':Hp} {s':Shared},Inv Xb ([]++oB fp s7.heap) σ8 H' s'->Nx ys' H' ->
     ∃m,m < n/\∃i ys H',Inv Xb [] (dq own ix σ) H' s'/\tn i s'.heap/\(∀b∈fp,H' b=none)/\W i m ys H':=by
    intro ys' H' s' I' w';obtain⟨m',hm,w'⟩:=hNx _ _ w';refine⟨m',hm,i + 1,ys',H',(I'.kQ).weak ?_ (rq Um),T.keep _ _ _ Nt λb hb o e=>(I'.pin (b,o) (aaA _ (aaA _ (gc hb e)))).1,λb hb=>?_,w'⟩
    ·rw[I'.len,← I4.len]
    ·obtain⟨o,e,d⟩:=T.obj _ _ Nt b hb;exact(I'.pin (b,o) (aaA _ (aaA _ (gc hb e)))).2.1
   cases b with
   | true =>
    simp only[if_true]at q9 ⊢;refine bU (pe _ s9 σ8 H9 _ I9 q9) λv Uo ⟨y,Q9,Up,Uq,Nu,Ur⟩=>?_
    refine bU (eS _ Uo σ8 Q9 (.ref _) [y] (.ref _) [v] (λ_ H'=>Nx (ys++[y]) H') Up rfl (.cons Uq .nil) ⟨_,ys,y,rfl,rfl,Nu,hz,Ur⟩) λ_ Zx ⟨_,Tb,Us,_,Ut⟩=>?_
    exact again Us Ut
   | false =>
    simp only[Bool.false_eq_true,if_false]at q9 ⊢;exact again I9 q9
 exact codeAny_compStart_list (loop _ rfl) (T.self _ 0 _ _ _ qD (loop _ rfl))
theorem NB{elt tg iter:Expr}{ifs:List Expr}{pos:Pos}{wi:TI}{g:TG}{tt:TT}{te:TE}(own:Nat)(N:List Str)(ix:List Nat)(B:kW X own N ix scope)(hi:PI X tg iter wi)
  (hin:∀(C:Addr) (fp:List Addr) (s:Shared) (H:Hp) (XE:Value->Shared->Prop),Passes (dD X.prog X.w) ((X.jM N scope C fp s H).fw XE) E->PG ((X.jM N scope C fp s H).fw XE) tg g/\Np ((X.jM N scope C fp s H).fw XE) ifs tt/\PE ((X.jM N scope C fp s H).fw XE) elt te)
  (hp:kX X E) (hst:X.stack=X.env::X.outer:=by rfl) (hfm:X.env.frame=some X.env.locals:=by rfl) (hex:X.ex=[]:=by rfl)
  (hs:∀x,foldedSetIterable iter X.env x=pure x:=by intro _;rfl):PE X (.ListComp elt [⟨tg,iter,ifs,0⟩] scope pos) (Qn own ix wi g tt te):=by
 intro pins s σ H Q I h
 have hnames:∀y∈scope.names,y.2=NameKind.local->scope.names.lookup y.1=some .local:=λy hy e=>by
  have:=List.all_eq_true.mp B.loc y hy;rw[e]at this;simpa using this
 rw[eval_ListComp];refine CA rfl hs (jt λy hy e=>(B.has I y hy e).2) B.kind hnames (bU (hi pins s σ H _ I h) λv s1 h1=>bU h1 λitv s2 h2=>?_);obtain⟨it,fp,tn,J,H2,e,I2,T,bM,f2,rd⟩:=h2;subst e;exact Fl (Q:=Q) B (λC s H=>hin C fp s H) hst hfm hex hp I2 T bM f2 rd λD H' s' I' q=>⟨.ref D,H',I',rfl,q⟩
end
section
variable {κ:Type} [DecidableEq κ]
def iX(kvs:List (κ×V))(k:κ):Option V:=(kvs.find? λkv=>decide (kv.1=k)).map (·.2)
def putK(kvs:List (κ×V))(k:κ)(v:V):List (κ×V) :=
 if (kvs.any λkv=>decide (kv.1=k))=true then kvs.map (λkv=>if kv.1=k then(kv.1,v)else kv)else kvs++[(k,v)]
theorem dh{p:κ×V}{r:List (κ×V)}{k:κ}(e:p.1=k):iX (p::r) k=some p.2:=by simp[iX,List.find?_cons,e]
theorem dm{p:κ×V}{r:List (κ×V)}{k:κ}(e:¬ p.1=k):iX (p::r) k=iX r k:=by simp[iX,List.find?_cons,e]
theorem nv(k:κ):∀kvs:List (κ×V),(kvs.any λkv=>decide (kv.1=k))=(iX kvs k).isSome
 | []=>rfl
 | p::r=>by
  rw[ab3];by_cases e:p.1=k
  ·simp only[dh e,decide_eq_true e,Bool.true_or,Option.isSome_some]
  ·rw[dm e,abm e,Bool.false_or];exact nv k r
theorem xR(k j:κ)(y:V):∀kvs:List (κ×V),iX (kvs.map λkv=>if kv.1=k then(kv.1,y)else kv) j=(iX kvs j).map λx=>if j=k then y else x
 | []=>rfl
 | p::r=>by
  have ih:=xR k j y r;rw[abC];by_cases h:p.1=k
  ·rw[aaw h];by_cases e:p.1=j
   ·rw[dh (p:=(p.1,y)) e,dh e,acg,aaw (e.symm.trans h)]
   ·rw[dm (p:=(p.1,y)) e,dm e,ih]
  ·rw[aas h];by_cases e:p.1=j
   ·rw[dh (p:=p) e,dh e,acg,aas (λz=>h (e.trans z))]
   ·rw[dm (p:=p) e,dm e,ih]
theorem uQ(k j:κ)(y:V):∀kvs:List (κ×V),iX kvs k=none->iX (kvs++[(k,y)]) j=if j=k then some y else iX kvs j
 | [],_=>by
  by_cases e:k=j
  ·rw[aaw e.symm];exact dh (p:=(k,y)) e
  ·rw[aas (λz=>e z.symm)];exact dm (p:=(k,y)) e
 | p::r,hn=>by
  rw[List.cons_append];have hk:¬ p.1=k:=λz=>by rw[dh z]at hn;cases hn
  rw[dm hk]at hn;have ih:=uQ k j y r hn;by_cases e:p.1=j
  ·rw[dh e,dh e,aas (λz=>hk (e.trans z))]
  ·rw[dm e,dm e,ih]
theorem Fm(kvs:List (κ×V))(k j:κ)(y:V):iX (putK kvs k y) j=if j=k then some y else iX kvs j:=by
 unfold putK;by_cases a:(kvs.any λkv=>decide (kv.1=k))=true
 ·rw[aaw a,xR];rw[nv]at a;by_cases e:j=k
  ·obtain⟨x,hx⟩:=acw.mp a;rw[aaw e,e,hx,acg,aaw rfl]
  ·rw[aas e]
   cases iX kvs j with
   | none=>rfl
   | some x=>rw[acg,aas e]
 ·rw[aas a];refine uQ k j y kvs ?_;rw[nv]at a
  cases q:iX kvs k with
  | none=>rfl
  | some x=>rw[q]at a;exact(a rfl).elim
theorem p9(kvs:List (κ×V))(k:κ)(v:V):(putK kvs k v).length<=kvs.length + 1:=by
 unfold putK;split
 ·rw[aah];omega
 ·rw[aaZ,aaJ,List.length_nil];omega
theorem jI.CD{o:Option V}{u:Option Value}(r:jI o u):o.isSome=u.isSome:=by
 cases o with
 | none=>cases u with
  | none=>rfl
  | some _=>exact(show False from r).elim
 | some _=>cases u with
  | none=>exact(show False from r).elim
  | some _=>rfl
theorem KV.val{kvs:List (κ×V)}{vs:List (κ×Value)}(r:KV kvs vs)(k:κ):jI (iX kvs k) (valueAt vs k):=by
 unfold KV at r
 induction r with
 | nil=>exact abn
 | @cons p q ps qs h t ih =>
  obtain⟨h1,h2⟩:=h;by_cases e:p.1=k
  ·have e':q.1=k:=h1.symm.trans e;have b:valueAt (q::qs) k=some q.2:=by simp[valueAt,List.find?_cons,e']
   rw[dh e,b];exact h2
  ·have e':¬ q.1=k:=λz=>e (h1.trans z)
   have b:valueAt (q::qs) k=valueAt qs k:=by simp[valueAt,List.find?_cons,e']
   rw[dm e,b];exact ih
theorem KV.any{kvs:List (κ×V)}{vs:List (κ×Value)}(r:KV kvs vs)(k:κ):(kvs.any λkv=>decide (kv.1=k))=vs.any λkv=>decide (kv.1=k):=by
 unfold KV at r
 induction r with
 | nil=>rfl
 | cons h t ih=>rw[ab3,ab3,ih,h.1]
theorem KV.NC{kvs:List (κ×V)}{vs:List (κ×Value)}(r:KV kvs vs)(k:κ){y:V}{u:Value}(ry:RelV y u):
  KV (kvs.map λkv=>if kv.1=k then(kv.1,y)else kv) (vs.map λkv=>if kv.1=k then(kv.1,u)else kv):=by
 unfold KV at r ⊢
 induction r with
 | nil=>exact .nil
 | @cons p q ps qs h t ih =>
  rw[abC,abC];refine .cons ?_ ih;obtain⟨h1,h2⟩:=h;by_cases e:p.1=k
  ·rw[aaw e,aaw (h1.symm.trans e)];exact⟨h1,ry⟩
  ·rw[aas e,aas (λz=>e (h1.trans z))];exact⟨h1,h2⟩
theorem KV.put{kvs:List (κ×V)}{vs:List (κ×Value)}(r:KV kvs vs)(k:κ){y:V}{u:Value}(ry:RelV y u):KV (putK kvs k y) (stored vs k u):=by
 unfold putK stored;rw[r.any k];by_cases e:(vs.any λkv=>decide (kv.1=k))=true
 ·rw[aaw e,aaw e];exact r.NC k ry
 ·rw[aas e,aas e];exact Paired.snoc r ⟨rfl,ry⟩
theorem KV.length{kvs:List (κ×V)}{vs:List (κ×Value)}(r:KV kvs vs):kvs.length=vs.length:=Paired.length r
end
theorem Fo{P:Program}{w:World}{k:Key}{u:Value}(r:RelV (kV k) u):(cZ P w).is k u=true:=by
 cases k with
 | inl i=>obtain⟨t,e⟩:=(show ∃t,u=Value.int i t from r);subst e;exact xr P w i t
 | inr x=>obtain⟨t,e⟩:=(show ∃t,u=Value.str x t from r);subst e;exact p5 P w x t
theorem uR{P:Program}{w:World}:∀{ks:List Key} {us:List Value},Vals (ks.map kV) us->ItemsAre (cZ P w) ks us
 | [],_,r=>by rw[List.map_nil]at r;cases r;exact .nil
 | k::ks,_,r=>by
  rw[abC]at r
  cases r with
  | cons h t=>exact .cons (Fo h) (uR t)
abbrev KT(H:Hp):List (List Key×V)->List (List Key×Addr×Value)->Prop:=Paired λp q=>p.1=q.1/\H q.2.1=some (.tup (p.1.map kV))/\RelV p.2 q.2.2
theorem KT.val{H:Hp}{kvs:List (List Key×V)}{xs:List (List Key×Addr×Value)}(r:KT H kvs xs)(k:List Key):jI (iX kvs k) ((atKey xs k).map (·.2)):=by
 induction r with
 | nil=>exact abn
 | @cons p q ps qs h t ih =>
  obtain⟨h1,_,h2⟩:=h;by_cases e:p.1=k
  ·have e':q.1=k:=h1.symm.trans e;have b:atKey (q::qs) k=some q.2:=by simp[atKey,List.find?_cons,e']
   rw[dh e,b];exact h2
  ·have e':¬ q.1=k:=λz=>e (h1.trans z)
   have b:atKey (q::qs) k=atKey qs k:=by simp[atKey,List.find?_cons,e']
   rw[dm e,b];exact ih
theorem KT.NC{H:Hp}{kvs:List (List Key×V)}{xs:List (List Key×Addr×Value)}(r:KT H kvs xs)(k:List Key){y:V}{u:Value}(ry:RelV y u):
  KT H (kvs.map λkv=>if kv.1=k then(kv.1,y)else kv) (xs.map (putAt k u)):=by
 induction r with
 | nil=>exact .nil
 | @cons p q ps qs h t ih =>
  rw[List.map_cons,List.map_cons];refine .cons ?_ ih;obtain⟨h1,h2,h3⟩:=h;unfold putAt;by_cases e:p.1=k
  ·rw[aaw e,aaw (h1.symm.trans e)];exact⟨h1,h2,ry⟩
  ·rw[aas e,aas (λz=>e (h1.trans z))];exact⟨h1,h2,h3⟩
theorem KT.put{H:Hp}{kvs:List (List Key×V)}{xs:List (List Key×Addr×Value)}(r:KT H kvs xs)(k:List Key){b:Addr}{y:V}{u:Value}(hb:H b=some (.tup (k.map kV)))(ry:RelV y u):
  KT H (putK kvs k y) (storedH xs k b u):=by
 have e:(kvs.any λkv=>decide (kv.1=k))=(atKey xs k).isSome:=by
  rw[nv,(r.val k).CD,Option.isSome_map]
 unfold putK storedH;rw[e];by_cases q:(atKey xs k).isSome=true
 ·rw[aaw q,aaw q];exact r.NC k ry
 ·rw[aas q,aas q];exact Paired.snoc r ⟨rfl,hb,ry⟩
theorem KT.keeps{H H':Hp}{kvs:List (List Key×V)}{xs:List (List Key×Addr×Value)}(r:KT H kvs xs)(ht:∀b ys,H b=some (.tup ys)->H' b=some (.tup ys)):KT H' kvs xs :=
 Paired.MR r λ_ _ z=>⟨z.1,ht _ _ z.2.1,z.2.2⟩
section
variable {P:Program} {w:World} {H:Hp} {h:Heap} {a:Addr}
theorem Me{u:HO}(ok:kO P w H h)(e:Rd H a u):ej P w H h a u:=e.ok ok
theorem Fp{kvs:List (Key×V)}(ok:kO P w H h)(e:Rd H a (.dK kvs)):kvs.length<=sizeLine/\(a == sysModules)=false/\∃vs,KV kvs vs/\h.DictOf (cZ P w) a vs :=
 show ej P w H h a (.dK kvs)from Me ok e
theorem Rj{kvs:List (Key×V)}(ok:kO P w H h)(e:H a=some (.dK kvs)):kvs.length<=sizeLine/\(a == sysModules)=false/\∃vs,KV kvs vs/\h.DictOf (cZ P w) a vs:=Fp ok (.inl e)
theorem zK{ks:List Key}(ok:kO P w H h)(e:H a=some (.tup (ks.map kV))):(tupleKind (cZ P w)).is h ks a:=by
 obtain⟨_,its,r,o,h1,h2,n,h3⟩:=(show ej P w H h a (.tup (ks.map kV))from ok a _ e);exact⟨o,its.toArray,n,h1,h2,h3,by simpa using uR r⟩
theorem Fq{kvs:List (List Key×V)}(ok:kO P w H h)(e:Rd H a (.dT kvs)):kvs.length<=sizeLine/\(a == sysModules)=false /\
  ∃xs,KT H kvs xs/\h.DictOfH (tupleKind (cZ P w)) a xs:=by
 obtain⟨z,y,xs,r,o,es,ep,h1,h2,h3,h4,h5⟩:=(show ej P w H h a (.dT kvs)from Me ok e);refine⟨z,y,xs,r,o,es,ep,h1,h2,h3,h4,λx hx=>?_,h5⟩
 have all:∀{l:List (List Key×V)} {m:List (List Key×Addr×Value)},KT H l m->∀x∈m,(tupleKind (cZ P w)).is h x.1 x.2.1:=by
  intro l m q
  induction q with
  | nil=>intro x hx;exact nomatch hx
  | @cons p q ps qs hq t ih =>
   intro x hx;rcases aaE.mp hx with e | hx
   ·subst e;exact zK ok (by rw[← hq.1];exact hq.2.1)
   ·exact ih x hx
 exact all r x hx
theorem Rk{kvs:List (List Key×V)}(ok:kO P w H h)(e:H a=some (.dT kvs)):kvs.length<=sizeLine/\(a == sysModules)=false /\
  ∃xs,KT H kvs xs/\h.DictOfH (tupleKind (cZ P w)) a xs:=Fq ok (.inl e)
end
def CF(H:Hp)(a:Addr)(y:V)(r:Option V):Prop :=
 (∃kvs k,Rd H a (.dK kvs)/\y=kV k/\r=iX kvs k)∨∃kvs k b,Rd H a (.dT kvs)/\y=.ref b/\H b=some (.tup (k.map kV))/\r=iX kvs k
def CG(H:Hp)(a:Addr)(y v:V)(H':Hp):Prop :=
 (∃kvs k,H a=some (.dK kvs)/\y=kV k/\kvs.length < sizeLine/\H'=upd H a (.dK (putK kvs k v))) ∨
 ∃kvs k b,H a=some (.dT kvs)/\y=.ref b/\H b=some (.tup (k.map kV))/\kvs.length < sizeLine/\H'=upd H a (.dT (putK kvs k v))
theorem CF.k{H:Hp}{a:Addr}{kvs:List (Key×V)}{k:Key}(e:H a=some (.dK kvs)):CF H a (kV k) (iX kvs k):=.inl ⟨kvs,k,.inl e,rfl,rfl⟩
theorem CG.k{H:Hp}{a:Addr}{kvs:List (Key×V)}{k:Key}{v:V}(e:H a=some (.dK kvs))(hl:kvs.length < sizeLine):CG H a (kV k) v (upd H a (.dK (putK kvs k v))):=.inl ⟨kvs,k,e,rfl,hl,rfl⟩
section
variable {X:Cx} {pins:List (Addr×Obj)} {σ:St} {H:Hp} {s:Shared} {a:Addr} {y v:V} {u r:Value} {o:Option V} {A:Around} {E:Value->Shared->Prop}
theorem CH{Q:Value->Shared->Prop}(hu:A.units + 1 < cLine)(I:Inv X pins σ H s)(g:CF H a y (some v))(ry:RelV y u)(h:∀w' s',Inv X pins σ H s'->RelV v w'->Q w' s'):
  wpAny (model X.prog X.w) A (getItem (.ref a) u) Q E s:=by
 rcases g with⟨kvs,k,e,ey,l⟩ | ⟨kvs,k,b,e,ey,eb,l⟩
 ·subst ey;obtain⟨z,hd,vs,rel,dd⟩:=Fp I.hok e;obtain⟨w',hw,rw'⟩:=jI.some_of (v:=v) (o:=valueAt vs k) (by rw[l];exact rel.val k);exact wpAny_getItem_of (Fo ry) dd.mapOf hw (h w' _ (I.tok _) rw')
 ·subst ey;cases (show u=Value.ref b from ry);obtain⟨z,hd,xs,rel,dd⟩:=Fq I.hok e;obtain⟨w',hw,rw'⟩:=jI.some_of (v:=v) (o:=(atKey xs k).map (·.2)) (by rw[l];exact rel.val k);obtain⟨p,hp,Rl⟩:=Option.map_eq_some_iff.mp hw;refine wpAny_getItem_heap (tupleKind_room_in1 hu) (zK I.hok eb) dd hp ?_;rw[Rl];exact h w' _ (I.tok _) rw'
theorem Bp{h':Heap}{t':Nat}{ob:HO}(I:Inv X pins σ H s)(mu:QG (H a))(hs:Heap.SameBut a s.heap h')(he:∃q,h'.get? a=some q)(new:ej X.prog X.w (upd H a ob) h' a ob):
  Inv X pins σ (upd H a ob) {s with heap:=h',toks:=t'} :=
 I.write (x:=a) (e:=a) mu (.inl rfl) (λb q hb z=>(hs.2 b hb).trans z) he new
theorem ND{P:Program}{w:World}{H':Hp}{h':Heap}{kvs:List (Key×V)}{vs:List (Key×Value)}(z:kvs.length<=sizeLine)(hd:(a == sysModules)=false)(rel:KV kvs vs)(dd:h'.DictOf (cZ P w) a vs):
  ej P w H' h' a (.dK kvs):=⟨z,hd,vs,rel,dd⟩
theorem CI{H':Hp}{Q:Unit->Shared->Prop}(hu:A.units + 1 < cLine)(I:Inv X pins σ H s)(g:CG H a y v H')(ry:RelV y u)(rv:RelV v r)(h:∀s',Inv X pins σ H' s'->Q () s'):
  wpAny (model X.prog X.w) A (setItem (.ref a) u r) Q E s:=by
 rcases g with⟨kvs,k,e,ey,l,eH⟩ | ⟨kvs,k,b,e,ey,eb,l,eH⟩
 ·subst ey eH;obtain⟨z,hd,vs,rel,dd⟩:=Rj I.hok e;have hz:vs.length<=sizeLine:=by rw[← rel.length];exact z
  have hl:(putK kvs k v).length<=sizeLine:=by have:=p9 kvs k v;omega
  refine wpAny_setItem_pairs (hsz:=hz) (Fo ry) dd λh' dd' hs=>h _ ?_
  have he:∃q,h'.get? a=some q:=let ⟨q,_,_,hq,_⟩:=dd';⟨q,hq⟩
  exact Bp I (by rw[e];exact abn) hs he (ND hl hd (rel.put k rv) dd')
 ·subst ey eH;cases (show u=Value.ref b from ry);obtain⟨z,hd,xs,rel,dd⟩:=Rk I.hok e;have hz:xs.length<=sizeLine:=by rw[← Paired.length rel];exact z
  have hl:(putK kvs k v).length<=sizeLine:=by have:=p9 kvs k v;omega
  refine wpAny_setItem_heap (hsz:=hz) (tupleKind_room_in1 hu) (zK I.hok eb) dd λh' dd' hs=>h _ ?_
  obtain⟨q,es,ep,hq,h2,h3,h4,_,h5⟩:=dd';refine Bp I (by rw[e];exact abn) hs ⟨q,hq⟩ ⟨hl,hd,_,(rel.put k eb rv).keeps λc ys ec=>?_,q,es,ep,hq,h2,h3,h4,h5⟩;rw[uN (cv ec e (λz=>nomatch z))];exact ec
end
section
variable {X:Cx} {pins:List (Addr×Obj)} {σ:St} {H:Hp} {s:Shared} {a:Addr} {kvs:List (Key×V)} {k:Key} {u:Value} {A:Around} {E:Value->Shared->Prop}
end
def Rm(i:Expr):Prop:=∀ov iv,subscripted i false ov iv=operate [ov,iv] (getItem ov iv)
theorem JA{prog:Program}{w:World}{A:Around}{E:Value->Shared->Prop}{s:Shared}{env:Env}{value slice:Expr}{pos:Pos}{T id:String}{Q:Value->Shared->Prop}
  (hl:typeLookup (.type T) "__getitem__"=pure (some (.builtin id))) (hs:Rm slice)
  (h:wpAny (model prog w) A (eval value env) (λo s₁=>wpAny (model prog w) A (eval slice env) (λi s₂=>s₂.TypeIs o T/\wpAny (model prog w) A (getItem o i) Q E s₂) E s₁) E s) :
  wpAny (model prog w) A (eval (.Subscript value slice pos) env) Q E s:=by
 refine Subscript_ (wpAny_mono h (λo s₁ h₁=>wpAny_mono h₁ (λi s₂ h₂=>?_) λ_ _ x=>x) λ_ _ x=>x);obtain⟨hT,h₂⟩:=h₂;unfold subscriptTail;refine wpAny_bind ?_;rw[getitemInPython_of_ne hT.not_modules];refine wpAny_bind (wpAny_specialOf hT hl ?_)
 have fin:wpAny (model prog w) A (subscripted slice false o i) (λr s₃=>wpAny (model prog w) A (letTemporaryGo value o r >>= λ_=>pure r) Q E s₃) E s₂:=by
  rw[hs o i];exact wpAny_operating (aam h₂ (λr s₃ h₃=>aaa (wpAny_letTemporaryGo (aag h₃))) λ_ _ x=>x)
 first
  | exact aag (aaa fin)
  | exact aaa (aag (aaa fin))
  | exact aaa fin
theorem xS{X:Cx}{pins:List (Addr×Obj)}{σ:St}{H:Hp}{s:Shared}{a:Addr}{y:V}{o:Option V}(I:Inv X pins σ H s)(g:CF H a y o):s.TypeIs (.ref a) "dict":=by
 rcases g with⟨kvs,k,e,_,_⟩ | ⟨kvs,k,b,e,_,_,_⟩
 ·obtain⟨_,_,vs,_,dd⟩:=Fp I.hok e;exact dd.typeIs
 ·obtain⟨_,_,xs,_,dd⟩:=Fq I.hok e;exact dd.typeIs
def Rn(td ty:TE):TE:=λσ H Q=>td σ H λx H1=>ty σ H1 λy H2=>∃a v,x=.ref a/\CF H2 a y (some v)/\Q v H2
def Ro(td ty tv:TE):TS:=λD σ H=>tv σ H λv H1=>td σ H1 λx H2=>ty σ H2 λy H3=>∃a H4,x=.ref a/\CG H3 a y v H4/\D.nx σ H4
section
variable {X:Cx} {o i e value:Expr} {pos pos' tpos:Pos} {td ty tv:TE}
theorem JB(hu:X.A.units + 1 < cLine)(ho:PE X o td)(hi:PE X i ty)(hs:Rm i):PE X (.Subscript o i pos) (Rn td ty):=by
 intro pins s σ H Q I h;refine JA PySem.F.slot_dict_getitem.lookup hs (bU (ho pins s σ H _ I h) λu s1 ⟨x,H1,I1,rx,q1⟩=>bU (hi pins s1 σ H1 _ I1 q1) λiv s2 ⟨y,H2,I2,ry,a,v,ex,g,q2⟩=>?_);subst ex;obtain rfl:u=Value.ref a:=rx;exact⟨xS I2 g,CH hu I2 g ry λw' s3 I3 rw'=>⟨v,H2,I3,rw',q2⟩⟩
theorem vM(hu:X.A.units + 1 < cLine)(ho:PE X o td)(hi:PE X i ty)(hv:PE X value tv)(hs:swapsWith value (some (.Subscript o i pos')) pos.line X.env=pure false):
  PS X (.Assign [.Subscript o i pos'] value pos) (Ro td ty tv):=by
 intro pins s σ H D I h;refine wpAny_Assign_Subscript (bU (hv pins s σ H _ I h) λr s1 ⟨v,H1,I1,rv,q1⟩=>bU (ho pins s1 σ H1 _ I1 q1) λu s2 ⟨x,H2,I2,rx,q2⟩=>bU (hi pins s2 σ H2 _ I2 q2) λiv s3 ⟨y,H3,I3,ry,a,H4,ex,g,q3⟩=>?_) hs;subst ex;obtain rfl:u=Value.ref a:=rx;exact CI hu I3 g ry rv λs4 I4=>⟨σ,H4,I4,q3⟩
end
section
variable {X:Cx} {pos:Pos}
end
structure dR(P:Program)(w:World)(K:aV)(mg:Str->Option Value)(base:Heap)(CX:xo)(C:Addr)(m:Str)(k:Nat)(ps:List Str)(sp:Sp):Prop where
 ex:∃(f:Addr) (fd:FuncData),bL P w K mg base CX k f fd ps sp/\Binds K fd ps []/\Meth K C m f
 cl:Ba K C
structure zL(P:Program)(w:World)(K:aV)(mg:Str->Option Value)(base:Heap)(CX:xo)(C:Addr)(x:Str)(k:Nat)(ps:List Str)(sp:Sp):Prop where
 ex:∃(f:Addr) (fd:FuncData),bL P w K mg base CX k f fd ps sp/\Binds K fd ps []/\Mk K C f/\mg x=some (.ref C)
section
variable {X:Cx} {x m:Str} {k:Nat} {ps:List Str} {sp:Sp} {o e:Expr} {es:List Expr} {ta:TE} {t:TA} {p pos apos:Pos} {C:Addr} {CX:xo} {E:XK} {pl:Sem Bool}
theorem dJ(he:PE X o ta)(h:dR X.prog X.w X.K X.mg X.base CX C m k ps sp)(hx:Passes CX X E)(hr:cw k X.A)(ha:PA X (e::es) t)
  (hst:starEach (e::es) X.env=(false,eval e X.env)::starEach es X.env:=by rfl) (hpl:(backTo pos (starEach es X.env)).any (·.1)=false:=by rfl)
  (ht:eval (.Call (.Attribute o m apos) (e::es) [] pos) X.env=(do
   let ov ← eval o X.env
   standAt apos.atName
   let (f,first) ← holding [ov] (getMethod ov m pl)
   callWith pos f first (backTo pos (starEach (e::es) X.env)) (backToKw pos (keywordEach [] X.env))):=by rfl) :
  PE X (.Call (.Attribute o m apos) (e::es) [] pos) (uz C m sp [] E ta t):=by
 obtain⟨f,fd,F,b,M⟩:=h.ex;exact Jd he h.cl M F hr b .nil hx ha hst hpl ht
theorem Fs(he:PE X o ta)(h:dR X.prog X.w X.K X.mg X.base CX C m k ps sp)(hx:Passes CX X E)(hr:cw k X.A)
  (ht:eval (.Call (.Attribute o m apos) [] [] pos) X.env=(do
   let ov ← eval o X.env
   standAt apos.atName
   let (f,first) ← holding [ov] (getMethod ov m pl)
   callWith pos f first (backTo pos (starEach [] X.env)) (backToKw pos (keywordEach [] X.env))):=by rfl) :
  PE X (.Call (.Attribute o m apos) [] [] pos) (uz C m sp [] E ta vw):=by
 obtain⟨f,fd,F,b,M⟩:=h.ex;exact EL he h.cl M F hr b .nil hx ht
theorem Ft(h:zL X.prog X.w X.K X.mg X.base CX C x k ps sp)(hx:Passes CX X E)(hr:cw (k + 1) X.A)(hg:Gl X x)(ha:PA X (e::es) t)(hdb:(x == ("__debug__" : Str))=false:=by decide)
  (he:starEach (e::es) X.env=(false,eval e X.env)::starEach es X.env:=by rfl) (hpl:(backTo pos (starEach es X.env)).any (·.1)=false:=by rfl) :
  PE X (.Call (.Name x p) (e::es) [] pos) (LZ C sp [] E t):=by
 obtain⟨f,fd,F,b,M,m⟩:=h.ex;exact Je M F hr hg m b .nil hx ha hdb he hpl
end
theorem tU{X:Cx}{st:Stmt}{rest:List Stmt}{t:TS}{D:Ends}{σ:St}{H:Hp}(h:PS X st t)(k:∀R:St->Hp->Prop,(∀σ' H',(∃u,oo X rest u/\u D σ' H')->R σ' H')->t {D with nx:=R} σ H):∃v,oo X (st::rest) v/\v D σ H :=
 ⟨ql t (λD σ H=>∃u,oo X rest u/\u D σ H),qK h (λpins s σ H D I ⟨_,hu,q⟩=>hu pins s σ H D I q),k _ λ_ _ x=>x⟩
theorem Uz{X:Cx}{st:Stmt}{t:TS}{D:Ends}{σ:St}{H:Hp}(h:PS X st t)(k:t D σ H):∃v,oo X [st] v/\v D σ H:=⟨_,qO h,k⟩
structure PEv(X:Cx)(e:Expr)(t:TE):Prop where
 h:PE X e t
theorem vN{X:Cx}{i:Nat}{x:Str}{e:Expr}{pos pos':Pos}{tl:TE}(hN:X.N.Nodup)(hi:X.N[i]?=some x)(hx:Loc X.env.scope x)(he:PE X e tl)(hsw:swapsWith e (some (.Name x pos')) pos.line X.env=pure false)(hf:X.fn x=true∨X.env.scope.names.lookup x=some .local):PS X (.Assign [.Name x pos'] e pos) (Eu tl (qW i)):=bX hN hi hx he hsw hf
def rG(P:Addr->Prop)(H HX:Hp):Prop:=∀c o,¬ P c->H c=some o->HX c=some o
open Classical in
noncomputable def cutH (P:Addr->Prop) (H:Hp):Hp:=λc=>if P c then none else H c
theorem eV{P:Addr->Prop}{H:Hp}{c:Addr}{o:HO}:cutH P H c=some o↔¬ P c/\H c=some o:=by
 unfold cutH;by_cases h:P c
 ·rw[aaw h];exact⟨(λz=>nomatch z),(λz=>absurd h z.1)⟩
 ·rw[aas h];exact⟨λz=>⟨h,z⟩,λz=>z.2⟩
theorem fB{P:Addr->Prop}{H:Hp}:bf (cutH P H) H:=λ_ _ e=>(eV.mp e).2
def aX(K:aV)(P:Addr->Prop)(H:Hp)(v:V)(d:PyData):Prop:=bz K (cutH P H) v d
theorem rG.refl{P:Addr->Prop}{H:Hp}:rG P H H:=λ_ _ _ e=>e
theorem rG.of{P:Addr->Prop}{H H':Hp}(s:bf H H'):rG P H H':=λc o _ e=>s c o e
theorem aX.now{K:aV}{P:Addr->Prop}{H:Hp}{v:V}{d:PyData}(h:aX K P H v d):bz K H v d:=bz.same fB h
theorem j5{P P':Addr->Prop}{H H':Hp}(s:∀c o,¬ P c->H c=some o->¬ P' c/\H' c=some o):bf (cutH P H) (cutH P' H'):=λc o e=>by
 obtain⟨h1,h2⟩:=eV.mp e;exact eV.mpr (s c o h1 h2)
theorem aX.sub{K:aV}{P P':Addr->Prop}{H:Hp}{v:V}{d:PyData}(h:aX K P H v d)(s:∀c,P' c->P c):aX K P' H v d:=bz.same (j5 λc o n e=>⟨λz=>n (s c z),e⟩) h
theorem aX.same{K:aV}{P:Addr->Prop}{H H':Hp}{v:V}{d:PyData}(h:aX K P H v d)(s:bf H H'):aX K P H' v d:=bz.same (j5 λc o n e=>⟨n,s c o e⟩) h
inductive DV where
 | dat (d:PyData) | ref (k:Nat)
def kJ(o:HO):Prop:=(∃xs,o=.lst xs)∨(∃C dx fs,o=.ins C dx fs)∨∃φ,o=.ext φ
structure Ob where
 lies:aV->(Addr->Prop)->Hp->List Addr->Prop
 keep:∀K P H fp P' H',lies K P H fp->(∀c,P c->∃o,H c=some o/\kJ o)->(∀a∈fp,∀o,H a=some o->H' a=some o)->bf (cutH P H) (cutH P' H')->lies K P' H' fp
 mu:∀K P H fp,lies K P H fp->∀a∈fp,∃o,H a=some o/\kJ o
inductive Ce where
 | live (ds:List PyData) | froz (ds:List PyData) | deep (xs:List DV) | obj (o:Ob)
@[reducible] def Ce.lv:Ce->Bool
 | .froz _=>false
 | _=>true
abbrev bY:=List (Option DV)
abbrev aR:=List Ce
def Lv(al:List (List Addr))(st:aR):Addr->Prop:=λc=>∃(k:Nat) (fp:List Addr) (ce:Ce),al[k]?=some fp/\c∈fp/\st[k]?=some ce/\ce.lv=true
def Fb(G:Addr->Prop)(al:List (List Addr))(st:aR):Addr->Prop:=λc=>G c∨Lv al st c
def gZ(K:aV)(P:Addr->Prop)(H:Hp)(al:List (List Addr))(v:V):DV->Prop
 | .dat d=>aX K P H v d
 | .ref k=>∃a r,al[k]?=some (a::r)/\v=.ref a
def cI{α:Type}(R:V->α->Prop)(ys:List V)(xs:List α):Prop:=ys.length=xs.length/\∀(i:Nat) y x,ys[i]?=some y->xs[i]?=some x->R y x
def D4(K:aV)(P:Addr->Prop)(H:Hp)(al:List (List Addr))(fp:List Addr):Ce->Prop
 | .live xs=>∃a ys,fp=[a]/\H a=some (.lst ys)/\cI (aX K P H) ys xs
 | .froz ds=>∃a,fp=[a]/\aX K P H (.ref a) (.list ds)
 | .deep xs=>∃a ys,fp=[a]/\H a=some (.lst ys)/\cI (gZ K P H al) ys xs
 | .obj o=>fp≠[]/\o.lies K P H fp
structure YK where
 Y:Hp->(Addr->Prop)->(Addr->Prop)->Prop
 up:∀H0 A0 G G',(∀c,G c->G' c)->Y H0 A0 G->Y H0 A0 G'
def y0:YK:=⟨λ_ _ _=>True,λ_ _ _ _ _ h=>h⟩
structure KF where
 K:aV
 y:YK
instance:CoeOut KF aV:=⟨KF.K⟩
@[reducible] def k0(K:aV):KF:=⟨K,y0⟩
@[reducible] def kf(X:Cx)(Y:YK):KF:=⟨X.K,Y⟩
structure DI(J:KF)(H0:Hp)(A0:Addr->Prop)(G:Addr->Prop)(al:List (List Addr))(H:Hp)(st:aR):Prop where
 len:al.length=st.length
 nd:al.flatten.Nodup
 ok:∀a∈al.flatten,∃o,H a=some o
 cel:∀(k:Nat) fp c,al[k]?=some fp->st[k]?=some c->D4 J (Fb G al st) H al fp c
 fr:rG A0 H0 H
 nw:∀a∈al.flatten,A0 a∨H0 a=none
 gd:∀a∈al.flatten,¬ G a
 gs:∀c,G c->∃o,H c=some o/\kJ o
 lk:J.y.Y H0 A0 G
def oq(K:aV)(P:Addr->Prop)(H:Hp)(al:List (List Addr))(s:St)(env:bY):Prop:=s.length=env.length/\∀(i:Nat) dv,env[i]?=some (some dv)->∃v,s[i]?=some (some v)/\gZ K P H al v dv
structure Ext(al:List (List Addr))(H:Hp)(st:aR)(al':List (List Addr))(H':Hp)(st':aR):Prop where
 keep:rG (Lv al st) H H'
 pre:∀(k:Nat) a r,al[k]?=some (a::r)->∃r',al'[k]?=some (a::r')
 nws:∀c∈al'.flatten,c∈al.flatten∨H c=none
 lv:∀c,Lv al' st' c->Lv al st c∨H c=none
theorem Ext.refl{al:List (List Addr)}{H:Hp}{st:aR}:Ext al H st al H st:=⟨.refl,λ_ _ r h=>⟨r,h⟩,λ_ h=>.inl h,λ_ h=>.inl h⟩
theorem Ext.free{al al':List (List Addr)}{H H':Hp}{st st':aR}(e:Ext al H st al' H' st'){c:Addr}(h:H' c=none)(hl:¬ Lv al st c):H c=none:=by
 cases q:H c with
 | none=>rfl
 | some o=>rw[e.keep c o hl q]at h;cases h
theorem cJ{al:List (List Addr)}{k:Nat}{fp:List Addr}{a:Addr}(h:al[k]?=some fp)(ha:a∈fp):a∈al.flatten:=abF.mpr ⟨fp,aaG h,ha⟩
theorem Lv.mem{al:List (List Addr)}{st:aR}{c:Addr}(h:Lv al st c):c∈al.flatten:=by
 obtain⟨k,fp,ce,h1,h2,_⟩:=h;exact cJ h1 h2
theorem fC:∀{al:List (List Addr)},al.flatten.Nodup->∀{i j:Nat} {f g:List Addr} {a:Addr},al[i]?=some f->al[j]?=some g->a∈f->a∈g->i=j
 | [],_,i,j,f,g,a,h1,_,_,_=>by simp at h1
 | x::r,nd,i,j,f,g,a,h1,h2,m1,m2=>by
  rw[List.flatten_cons,List.nodup_append]at nd
  cases i with
  | zero =>
   cases j with
   | zero=>rfl
   | succ j =>
    simp at h1 h2;subst h1;exact absurd rfl (nd.2.2 a m1 a (cJ h2 m2))
  | succ i =>
   cases j with
   | zero =>
    simp at h1 h2;subst h2;exact absurd rfl (nd.2.2 a m2 a (cJ h1 m1))
   | succ j =>
    simp at h1 h2;exact congrArg (· + 1) (fC nd.2.1 h1 h2 m1 m2)
section
variable {K:aV} {J:KF} {H0:Hp} {A0:Addr->Prop} {G:Addr->Prop} {al bD cM:List (List Addr)} {H H1 H2:Hp} {st aM bM:aR}
theorem Ext.trans(I1:DI J H0 A0 G bD H1 aM)(a:Ext al H st bD H1 aM)(b:Ext bD H1 aM cM H2 bM):Ext al H st cM H2 bM:=by
 refine⟨λc o n e=>b.keep c o (λz=>?_) (a.keep c o n e),λk x r h=>?_,λc hc=>?_,λc hc=>?_⟩
 ·rcases a.lv c z with y | y
  ·exact n y
  ·rw[y]at e;cases e
 ·obtain⟨r1,h1⟩:=a.pre k x r h;exact b.pre k x r1 h1
 ·rcases b.nws c hc with z | z
  ·exact a.nws c z
  ·by_cases w:Lv al st c
   ·exact .inl w.mem
   ·exact .inr (a.free z w)
 ·rcases b.lv c hc with z | z
  ·exact a.lv c z
  ·by_cases w:Lv al st c
   ·exact .inl w
   ·exact .inr (a.free z w)
theorem j6{G1:Addr->Prop}(g:∀c,G1 c->G c∨H c=none)(e:Ext al H st bD H1 aM):bf (cutH (Fb G al st) H) (cutH (Fb G1 bD aM) H1):=j5 λc o n q=>by
 refine⟨λz=>?_,e.keep c o (λw=>n (.inr w)) q⟩;rcases z with z | z
 ·rcases g c z with w | w
  ·exact n (.inl w)
  ·rw[w]at q;cases q
 ·rcases e.lv c z with w | w
  ·exact n (.inr w)
  ·rw[w]at q;cases q
theorem aX.kY{G1:Addr->Prop}{v:V}{d:PyData}(h:aX K (Fb G al st) H v d)(g:∀c,G1 c->G c∨H c=none)(e:Ext al H st bD H1 aM):aX K (Fb G1 bD aM) H1 v d:=bz.same (j6 g e) h
theorem aX.ext{v:V}{d:PyData}(h:aX K (Fb G al st) H v d)(e:Ext al H st bD H1 aM):aX K (Fb G bD aM) H1 v d:=h.kY (λ_ z=>.inl z) e
theorem gZ.d{P:Addr->Prop}{v:V}{d:PyData}(h:aX K P H v d):gZ K P H al v (.dat d):=h
theorem gZ.kY{G1:Addr->Prop}{v:V}{dv:DV}(h:gZ K (Fb G al st) H al v dv)(g:∀c,G1 c->G c∨H c=none)(e:Ext al H st bD H1 aM):gZ K (Fb G1 bD aM) H1 bD v dv:=by
 cases dv with
 | dat d=>exact aX.kY h g e
 | ref k =>
  obtain⟨a,r,h1,h2⟩:=h;obtain⟨r',h3⟩:=e.pre k a r h1;exact⟨a,r',h3,h2⟩
theorem gZ.ext{v:V}{dv:DV}(h:gZ K (Fb G al st) H al v dv)(e:Ext al H st bD H1 aM):gZ K (Fb G bD aM) H1 bD v dv:=h.kY (λ_ z=>.inl z) e
theorem cI.imp{α:Type}{R R':V->α->Prop}{ys:List V}{xs:List α}(h:cI R ys xs)(f:∀y x,R y x->R' y x):cI R' ys xs:=⟨h.1,λi y x a b=>f y x (h.2 i y x a b)⟩
theorem cI.nil{α:Type}{R:V->α->Prop}:cI R [] []:=⟨rfl,λi y x h=>by simp at h⟩
theorem cI.cons{α:Type}{R:V->α->Prop}{y:V}{x:α}{ys:List V}{xs:List α}(h:R y x)(r:cI R ys xs):cI R (y::ys) (x::xs):=⟨by simp[r.1],λi a b h1 h2=>by
 cases i with
 | zero=>simp at h1 h2;subst h1;subst h2;exact h
 | succ i=>exact r.2 i a b (by simpa using h1) (by simpa using h2)⟩
theorem cI.append{α:Type}{R:V->α->Prop}{ys zs:List V}{xs us:List α}(h:cI R ys xs)(h':cI R zs us):cI R (ys++zs) (xs++us):=by
 refine⟨by simp[h.1,h'.1],λj z u hz hu=>?_⟩;by_cases hj:j < ys.length
 ·rw[aax hj]at hz;rw[aax (by rw[← h.1];exact hj)]at hu;exact h.2 j z u hz hu
 ·rw[aaI (by omega)]at hz;rw[aaI (by rw[← h.1];omega),← h.1]at hu;exact h'.2 _ z u hz hu
theorem cI.take{α:Type}{R:V->α->Prop}{ys:List V}{xs:List α}(h:cI R ys xs)(n:Nat):cI R (ys.take n) (xs.take n):=by
 refine⟨by rw[abq,abq,h.1],λj y k hy hk=>?_⟩;have hj:j < (ys.take n).length:=(ft hy).1;rw[abq]at hj;rw[acx (by omega)]at hy hk;exact h.2 _ y k hy hk
theorem cI.drop{α:Type}{R:V->α->Prop}{ys:List V}{xs:List α}(h:cI R ys xs)(n:Nat):cI R (ys.drop n) (xs.drop n):=by
 refine⟨by rw[acz,acz,h.1],λj y k hy hk=>?_⟩;rw[abL]at hy hk;exact h.2 _ y k hy hk
theorem cI.set{α:Type}{R:V->α->Prop}{ys:List V}{xs:List α}{y:V}{x:α}(h:cI R ys xs)(hy:R y x)(i:Nat):cI R (ys.set i y) (xs.set i x):=by
 refine⟨by rw[aaX,aaX,h.1],λj z u hz hu=>?_⟩;rw[List.getElem?_set]at hz hu;by_cases hj:i=j
 ·subst hj;rw[aaw rfl]at hz hu;split at hz
  ·split at hu
   ·cases hz;cases hu;exact hy
   ·cases hu
  ·cases hz
 ·rw[aas hj]at hz hu;exact h.2 j z u hz hu
theorem cI.at{α:Type}{R:V->α->Prop}{ys:List V}{xs:List α}(h:cI R ys xs){i:Nat}{x:α}(hx:xs[i]?=some x):∃y,ys[i]?=some y/\R y x:=by
 have hi:i < ys.length:=by rw[h.1];exact(ft hx).1
 exact⟨ys[i],jG hi,h.2 i _ x (jG hi) hx⟩
theorem cI.Rp{α β:Type}{R:V->β->Prop}{f:α->β}{ys:List V}{xs:List α}(h:cI R ys (xs.map f)):cI (λy x=>R y (f x)) ys xs:=by
 refine⟨by rw[h.1,aah],λi y x hy hx=>?_⟩;exact h.2 i y (f x) hy (by rw[aaO,hx];rfl)
theorem oq.kY{G1:Addr->Prop}{s:St}{env:bY}(h:oq K (Fb G al st) H al s env)(g:∀c,G1 c->G c∨H c=none)(e:Ext al H st bD H1 aM):oq K (Fb G1 bD aM) H1 bD s env:=⟨h.1,λi dv hi=>by
 obtain⟨v,h1,h2⟩:=h.2 i dv hi;exact⟨v,h1,h2.kY g e⟩⟩
theorem oq.ext{s:St}{env:bY}(h:oq K (Fb G al st) H al s env)(e:Ext al H st bD H1 aM):oq K (Fb G bD aM) H1 bD s env:=h.kY (λ_ z=>.inl z) e
theorem oq.set{P:Addr->Prop}{s:St}{env:bY}{v:V}{dv:DV}(h:oq K P H al s env)(hv:gZ K P H al v dv)(i:Nat):oq K P H al (s.set i (some v)) (env.set i (some dv)):=by
 refine⟨by rw[aaX,aaX];exact h.1,λj u hu=>?_⟩;rw[List.getElem?_set]at hu;by_cases hj:i=j
 ·subst hj;rw[aaw rfl]at hu;split at hu
  ·rename_i hl;cases hu;exact⟨v,by rw[aal (by rw[h.1];exact hl)],hv⟩
  ·cases hu
 ·rw[aas hj]at hu;obtain⟨w,h1,h2⟩:=h.2 j u hu;exact⟨w,by rw[aav hj];exact h1,h2⟩
theorem aX.dZ{P:Addr->Prop}{v:V}{ds:List PyData}(h:aX K P H v (.list ds)):∃(a:Addr) (ys:List V),v=.ref a/\bZ K H a ys/\bZ K (cutH P H) a ys/\cI (aX K P H) ys ds:=by
 have h:bz K (cutH P H) v (.list ds):=h
 cases h with
 | lst hS hl hi=>exact⟨_,_,rfl,fB.seq hS,hS,hl,hi⟩
theorem aX.hV{P:Addr->Prop}{v:V}{ds:List PyData}(h:aX K P H v (.tuple ds)):∃(a:Addr) (ys:List V),v=.ref a/\cX K H a ys/\cX K (cutH P H) a ys/\cI (aX K P H) ys ds:=by
 have h:bz K (cutH P H) v (.tuple ds):=h
 cases h with
 | tup hS hl hi=>exact⟨_,_,rfl,fB.tup hS,hS,hl,hi⟩
theorem aX.bu{P:Addr->Prop}{v:V}{i:Int}(h:aX K P H v (.int i)):v=.int i:=by
 have h:bz K (cutH P H) v (.int i):=h;cases h;rfl
theorem aX.bR{P:Addr->Prop}{v:V}{i:Str}(h:aX K P H v (.str i)):v=.str i:=by
 have h:bz K (cutH P H) v (.str i):=h;cases h;rfl
theorem aX.jN{P:Addr->Prop}{v:V}{i:Bool}(h:aX K P H v (.bool i)):v=.bl i:=by
 have h:bz K (cutH P H) v (.bool i):=h;cases h;rfl
theorem aX.j7{P:Addr->Prop}{v:V}(h:aX K P H v .none):v=.non:=by
 have h:bz K (cutH P H) v .none:=h;cases h;rfl
theorem aX.lst{P:Addr->Prop}{a:Addr}{ys:List V}{ds:List PyData}(n:¬ P a)(h:H a=some (.lst ys))(r:cI (aX K P H) ys ds):aX K P H (.ref a) (.list ds):=bz.lst (bZ.of (eV.mpr ⟨n,h⟩)) r.1 r.2
theorem aX.tup{P:Addr->Prop}{a:Addr}{ys:List V}{ds:List PyData}(n:¬ P a)(h:H a=some (.tup ys))(r:cI (aX K P H) ys ds):aX K P H (.ref a) (.tuple ds):=bz.tup (cX.of (eV.mpr ⟨n,h⟩)) r.1 r.2
theorem Ext.same(s:bf H H1):Ext al H st al H1 st:=⟨.of s,λ_ _ r h=>⟨r,h⟩,λ_ z=>.inl z,λ_ z=>.inl z⟩
theorem Ext.new{a:Addr}{o:HO}(h:H a=none):Ext al H st al (upd H a o) st:=.same λc p e=>by rw[uN (nN e h)];exact e
theorem D4.kY{G1:Addr->Prop}{fp:List Addr}{c:Ce}(h:D4 K (Fb G al st) H al fp c)(g:∀c,G1 c->G c∨H c=none)(e:Ext al H st bD H1 aM)(hP:∀c,Fb G al st c->∃o,H c=some o/\kJ o)(k:c.lv=true->∀a∈fp,∀o,H a=some o->H1 a=some o):D4 K (Fb G1 bD aM) H1 bD fp c:=by
 cases c with
 | live xs =>
  obtain⟨a,ys,h0,h1,h2⟩:=h;exact⟨a,ys,h0,k rfl a (by rw[h0];exact aaY.mpr rfl) _ h1,h2.imp λy x z=>aX.kY z g e⟩
 | froz ds =>
  obtain⟨a,h0,h1⟩:=h;exact⟨a,h0,aX.kY h1 g e⟩
 | deep xs =>
  obtain⟨a,ys,h0,h1,h2⟩:=h;exact⟨a,ys,h0,k rfl a (by rw[h0];exact aaY.mpr rfl) _ h1,h2.imp λy x z=>gZ.kY z g e⟩
 | obj o=>exact⟨h.1,o.keep _ _ _ _ _ _ h.2 hP (k rfl) (j6 g e)⟩
theorem D4.ext{fp:List Addr}{c:Ce}(h:D4 K (Fb G al st) H al fp c)(e:Ext al H st bD H1 aM)(hP:∀c,Fb G al st c->∃o,H c=some o/\kJ o)(k:c.lv=true->∀a∈fp,∀o,H a=some o->H1 a=some o):D4 K (Fb G bD aM) H1 bD fp c:=h.kY (λ_ z=>.inl z) e hP k
theorem DI.nz(I:DI J H0 A0 G al H st){c:Addr}(h:Fb G al st c):∃o,H c=some o/\kJ o:=by
 rcases h with h | ⟨k,fp,ce,h1,h2,h3,h4⟩
 ·exact I.gs c h
 ·have z:=I.cel k fp ce h1 h3
  cases ce with
  | live xs=>obtain⟨a,ys,rfl,g,_⟩:=z;rw[xq h2];exact⟨_,g,.inl ⟨_,rfl⟩⟩
  | froz ds=>cases h4
  | deep xs=>obtain⟨a,ys,rfl,g,_⟩:=z;rw[xq h2];exact⟨_,g,.inl ⟨_,rfl⟩⟩
  | obj o=>exact o.mu _ _ _ _ z.2 c h2
theorem DI.same(I:DI J H0 A0 G al H st)(s:bf H H1):DI J H0 A0 G al H1 st:=⟨I.len,I.nd,(λa ha=>by obtain⟨o,e⟩:=I.ok a ha;exact⟨o,s _ _ e⟩),(λk a c h1 h2=>(I.cel k a c h1 h2).ext (.same s) (λc hc=>I.nz hc) λ_ a _ o e=>s _ _ e),(λc o n e=>s c o (I.fr c o n e)),I.nw,I.gd,(λc hc=>by obtain⟨o,e,m⟩:=I.gs c hc;exact⟨o,s _ _ e,m⟩),I.lk⟩
theorem DI.new(I:DI J H0 A0 G al H st){a:Addr}{o:HO}(h:H a=none):DI J H0 A0 G al (upd H a o) st:=I.same λc p e=>by rw[uN (nN e h)];exact e
theorem DI.JC(I:DI J H0 A0 G al H st){a:Addr}(h:H a=none):¬ Fb G al st a:=by
 intro z;rcases z with z | z
 ·obtain⟨o,e,_⟩:=I.gs a z;rw[h]at e;cases e
 ·obtain⟨o,e⟩:=I.ok a z.mem;rw[h]at e;cases e
theorem DI.n0(I:DI J H0 A0 G al H st){a:Addr}(h:H a=none):A0 a∨H0 a=none:=by
 cases q:H0 a with
 | none=>exact .inr rfl
 | some o =>
  by_cases w:A0 a
  ·exact .inl w
  ·rw[I.fr a o w q]at h;cases h
theorem DI.freeze(I:DI J H0 A0 G al H st){k:Nat}{fp:List Addr}{ds:List PyData}(ha:al[k]?=some fp)(hs:st[k]?=some (.live ds)):∃a,fp=[a]/\Ext al H st al H (st.set k (.froz ds))/\DI J H0 A0 G al H (st.set k (.froz ds))/\aX J (Fb G al (st.set k (.froz ds))) H (.ref a) (.list ds):=by
 have hk:=(ft hs).1
 have E:Ext al H st al H (st.set k (.froz ds)):=⟨.refl,λ_ _ r h=>⟨r,h⟩,λ_ z=>.inl z,λc ⟨j,f,ce,h1,h2,h3,h4⟩=>by
  by_cases e:k=j
  ·subst e;rw[aal hk]at h3;cases h3;cases h4
  ·rw[aav e]at h3;exact .inl ⟨j,f,ce,h1,h2,h3,h4⟩⟩
 obtain⟨a,ys,rfl,g1,g2⟩:=I.cel k fp _ ha hs
 have na:¬ Fb G al (st.set k (.froz ds)) a:=λz=>by
  rcases z with z | ⟨j,f,ce,h1,h2,h3,h4⟩
  ·exact I.gd a (cJ ha (aaY.mpr rfl)) z
  ·have:=fC I.nd ha h1 (aaY.mpr rfl) h2;subst this;rw[aal hk]at h3;cases h3;cases h4
 have F:aX J (Fb G al (st.set k (.froz ds))) H (.ref a) (.list ds):=.lst na g1 (g2.imp λy x z=>aX.ext z E);refine⟨a,rfl,E,⟨by rw[aaX];exact I.len,I.nd,I.ok,λj b c h1 h2=>?_,I.fr,I.nw,I.gd,I.gs,I.lk⟩,F⟩;by_cases e:k=j
 ·subst e;rw[aal hk]at h2;rw[ha]at h1;cases h1;cases h2;exact⟨a,rfl,F⟩
 ·rw[aav e]at h2;exact(I.cel j b c h1 h2).ext E (λc hc=>I.nz hc) λ_ _ _ o q=>q
theorem DI.more(I:DI J H0 A0 G al H st){fp:List Addr}{c:Ce}(fr:∀a∈fp,H a=none)(nd:fp.Nodup)(s:bf H H1)(ok:∀a∈fp,∃o,H1 a=some o)(hc:D4 J (Fb G (al++[fp]) (st++[c])) H1 (al++[fp]) fp c):Ext al H st (al++[fp]) H1 (st++[c])/\DI J H0 A0 G (al++[fp]) H1 (st++[c]):=by
 have nal:∀a∈fp,a∉al.flatten:=λa ha z=>by obtain⟨o,e⟩:=I.ok a z;rw[fr a ha]at e;cases e
 have mem:∀c∈(al++[fp]).flatten,c∈al.flatten∨c∈fp:=λc hc=>by
  rw[List.flatten_append,acQ]at hc;exact abY.mp hc
 have E:Ext al H st (al++[fp]) H1 (st++[c]):=⟨.of s,λk a r h=>⟨r,by rw[aax (ft h).1];exact h⟩,λc hc=>by
   rcases mem c hc with z | z
   ·exact .inl z
   ·exact .inr (fr c z),λc ⟨j,f,ce,h1,h2,h3,h4⟩=>by
  by_cases e:j < al.length
  ·rw[aax e]at h1;rw[aax (by rw[← I.len];exact e)]at h3;exact .inl ⟨j,f,ce,h1,h2,h3,h4⟩
  ·rw[aaI (by omega)]at h1;have:=aaG h1;rw[xq this]at h2;exact .inr (fr c h2)⟩
 refine⟨E,⟨by simp[I.len],?_,λc hc=>?_,λj b c' h1 h2=>?_,λc o n e=>s c o (I.fr c o n e),λc hc=>?_,λc hc=>?_,λc hc=>?_,I.lk⟩⟩
 ·rw[List.flatten_append,acQ,List.nodup_append];exact⟨I.nd,nd,λx hx y hy z=>nal y hy (z ▸ hx)⟩
 ·rcases mem c hc with z | z
  ·obtain⟨o,e⟩:=I.ok c z;exact⟨o,s _ _ e⟩
  ·exact ok c z
 ·by_cases e:j < al.length
  ·rw[aax e]at h1;rw[aax (by rw[← I.len];exact e)]at h2;exact(I.cel j b c' h1 h2).ext E (λc hc=>I.nz hc) λ_ _ _ o q=>s _ _ q
  ·have hj:j=al.length:=by have:=(ft h1).1;simp at this;omega
   subst hj;rw[aaI (aai _),ach]at h1;rw[I.len,aaI (aai _),ach]at h2;cases h1;cases h2;exact hc
 ·rcases mem c hc with z | z
  ·exact I.nw c z
  ·exact I.n0 (fr c z)
 ·rcases mem c hc with z | z
  ·exact I.gd c z
  ·exact λw=>I.JC (fr c z) (.inl w)
 ·obtain⟨o,e,m⟩:=I.gs c hc;exact⟨o,s _ _ e,m⟩
theorem DI.cell(I:DI J H0 A0 G al H st){a:Addr}{ys:List V}{xs:List PyData}(h:H a=none)(hy:cI (aX J (Fb G al st) H) ys xs):Ext al H st (al++[[a]]) (upd H a (.lst ys)) (st++[.live xs])/\DI J H0 A0 G (al++[[a]]) (upd H a (.lst ys)) (st++[.live xs]):=by
 have s:bf H (upd H a (.lst ys)):=λc p e=>by rw[uN (nN e h)];exact e
 refine I.more (λc hc=>by rw[xq hc];exact h) (by simp) s (λc hc=>by rw[xq hc];exact⟨_,uS⟩) ⟨a,ys,rfl,uS,hy.imp λy x z=>bz.same (j5 λc o n q=>⟨λw=>?_,s _ _ q⟩) z⟩;rcases w with w | ⟨j,f,ce,h1,h2,h3,h4⟩
 ·exact n (.inl w)
 ·by_cases e:j < al.length
  ·rw[aax e]at h1;rw[aax (by rw[← I.len];exact e)]at h3;exact n (.inr ⟨j,f,ce,h1,h2,h3,h4⟩)
  ·rw[aaI (by omega)]at h1;have:=aaG h1;rw[xq this]at h2;rw[xq h2,h]at q;cases q
theorem DI.turn(I:DI J H0 A0 G al H st){k:Nat}{a:Addr}{r r':List Addr}{c c':Ce}(ha:al[k]?=some (a::r))(hs:st[k]?=some c)(hl:c.lv=true)(kp:∀b o,b∉a::r->H b=some o->H1 b=some o)(nw:∀b∈r',b∈a::r∨H b=none)(ok:∀b∈a::r',∃o,H1 b=some o)(nd:(a::r').Nodup)(na:∀b∈r',b∉a::r->H b=none)
  (hc:bf (cutH (Fb G al st) H) (cutH (Fb G (al.set k (a::r')) (st.set k c')) H1)->D4 J (Fb G (al.set k (a::r')) (st.set k c')) H1 (al.set k (a::r')) (a::r') c') (mu:∀b∈a::r,∃o,H b=some o/\kJ o):Ext al H st (al.set k (a::r')) H1 (st.set k c')/\DI J H0 A0 G (al.set k (a::r')) H1 (st.set k c'):=by
 have hk:=(ft hs).1;have hka:=(ft ha).1;have lvk:∀b∈a::r,Lv al st b:=λb hb=>⟨k,_,c,ha,hb,hs,hl⟩
 have mem:∀b∈(al.set k (a::r')).flatten,b∈al.flatten∨H b=none:=λb hb=>by
  obtain⟨f,hf,hbf⟩:=abF.mp hb;rcases acv hf with z | z
  ·exact .inl (abF.mpr ⟨f,z,hbf⟩)
  ·rw[z]at hbf;rcases aaE.mp hbf with y | y
   ·rw[y];exact .inl (cJ ha aat)
   ·rcases nw b y with w | w
    ·exact .inl (cJ ha w)
    ·exact .inr w
 have E:Ext al H st (al.set k (a::r')) H1 (st.set k c'):=⟨λb o n e=>kp b o (λz=>n (lvk b z)) e,λj b q h=>by
   by_cases e:k=j
   ·subst e;rw[ha]at h;cases h;exact⟨r',by rw[aal hka]⟩
   ·exact⟨q,by rw[aav e];exact h⟩,mem,λb ⟨j,f,ce,h1,h2,h3,h4⟩=>by
   by_cases e:k=j
   ·subst e;rw[aal hka]at h1;cases h1;rcases aaE.mp h2 with y | y
    ·rw[y];exact .inl (lvk a aat)
    ·rcases nw b y with w | w
     ·exact .inl (lvk b w)
     ·exact .inr w
   ·rw[aav e]at h1 h3;exact .inl ⟨j,f,ce,h1,h2,h3,h4⟩⟩
 have keepOther:∀(j:Nat) f,k≠j->al[j]?=some f->∀b∈f,∀o,H b=some o->H1 b=some o:=λj f e hf b hb o q=>kp b o (λz=>e (fC I.nd ha hf z hb)) q
 have parted:∀b∈(al.set k (a::r')).flatten,b∈a::r'∨∃(j:Nat) (f:List Addr),k≠j/\al[j]?=some f/\b∈f:=λb hb=>by
  obtain⟨f,hf,hbf⟩:=abF.mp hb;obtain⟨j,hj⟩:=aa2 hf;by_cases e:k=j
  ·subst e;rw[aal hka]at hj;cases hj;exact .inl hbf
  ·rw[aav e]at hj;exact .inr ⟨j,f,e,hj,hbf⟩
 refine⟨E,⟨by rw[aaX,aaX];exact I.len,?_,λb hb=>?_,λj f ce h1 h2=>?_,λb o n e=>?_,λb hb=>?_,λb hb=>?_,λb hb=>?_,I.lk⟩⟩
 ·unfold List.Nodup;rw[List.pairwise_flatten,List.pairwise_iff_getElem];have UA:=I.nd;refine⟨λf hf=>?_,λi j hi hj hij x hx y hy=>?_⟩
  ·rcases acv hf with z | z
   ·exact(abU.mp UA).1 f z
   ·rw[z];exact nd
  ·intro e;subst e;have gi:=jG hi;have gj:=jG hj
   have far:∀(j:Nat) f,k≠j->al[j]?=some f->x∈f->x∈a::r'->False:=λj f e hf hxf hx'=>by
    by_cases w:x∈a::r
    ·exact e (fC UA ha hf w hxf)
    ·rcases aaE.mp hx' with z | z
     ·exact w (by rw[z];exact aat)
     ·obtain⟨o,q⟩:=I.ok x (cJ hf hxf);rw[na x z w]at q;cases q
   by_cases e1:k=i
   ·subst e1;have e2:k≠j:=by omega
    rw[aal hka]at gi;rw[aav e2]at gj;exact far j _ e2 gj hy (by rw[aak gi];exact hx)
   ·rw[aav e1]at gi;by_cases e2:k=j
    ·subst e2;rw[aal hka]at gj;exact far i _ e1 gi hx (by rw[aak gj];exact hy)
    ·rw[aav e2]at gj;exact absurd (fC UA gi gj hx hy) (by omega)
 ·rcases parted b hb with z | ⟨j,f,e,hf,hbf⟩
  ·exact ok b z
  ·obtain⟨o,q⟩:=I.ok b (cJ hf hbf);exact⟨o,keepOther j f e hf b hbf o q⟩
 ·by_cases e:k=j
  ·subst e;rw[aal hka]at h1;rw[aal hk]at h2;cases h1;cases h2;exact hc (j6 (λ_ z=>.inl z) E)
  ·rw[aav e]at h1 h2;exact(I.cel j f ce h1 h2).ext E (λc hc=>I.nz hc) λ_ b hb o q=>keepOther j f e h1 b hb o q
 ·by_cases w:b∈a::r
  ·rcases I.nw b (cJ ha w)with y | y
   ·exact absurd y n
   ·rw[y]at e;cases e
  ·exact kp b o w (I.fr b o n e)
 ·rcases mem b hb with z | z
  ·exact I.nw b z
  ·exact I.n0 z
 ·intro z;rcases mem b hb with w | w
  ·exact I.gd b w z
  ·exact I.JC w (.inl z)
 ·obtain⟨o,q,m⟩:=I.gs b hb;refine⟨o,kp b o (λz=>I.gd b (cJ ha z) hb) q,m⟩
theorem DI.put(I:DI J H0 A0 G al H st){k:Nat}{a:Addr}{zs xs:List PyData}{ys:List V}(ha:al[k]?=some [a])(hs:st[k]?=some (.live zs))(hy:cI (aX J (Fb G al st) H) ys xs):Ext al H st al (upd H a (.lst ys)) (st.set k (.live xs))/\DI J H0 A0 G al (upd H a (.lst ys)) (st.set k (.live xs)):=by
 have ea:al.set k [a]=al:=by
  apply List.ext_getElem?;intro j;by_cases e:k=j
  ·subst e;rw[aal (ft ha).1,ha]
  ·rw[aav e]
 obtain⟨b,ws,e0,g1,g2⟩:=I.cel k [a] _ ha hs;cases e0;have z:=I.turn (H1:=upd H a (.lst ys)) (r:=[]) (r':=[]) (c':=.live xs) ha hs rfl (λb o n e=>by rw[uN (λz=>n (by rw[z];exact List.mem_cons_self))];exact e) (λb hb=>nomatch hb) (λb hb=>by rw[xq hb];exact⟨_,uS⟩) (by simp) (λb hb=>nomatch hb) (λs=>⟨a,ys,rfl,uS,hy.imp λy x z=>bz.same s z⟩) (λb hb=>by rw[xq hb];exact⟨_,g1,.inl ⟨_,rfl⟩⟩);rw[ea]at z;exact z
theorem xT{k:Nat}{fp:List Addr}(ha:al[k]?=some fp):al.set k fp=al:=by
 apply List.ext_getElem?;intro j;by_cases e:k=j
 ·subst e;rw[aal (ft ha).1,ha]
 ·rw[aav e]
theorem DI.putD(I:DI J H0 A0 G al H st){k:Nat}{a:Addr}{zs xs:List DV}{ys:List V}(ha:al[k]?=some [a])(hs:st[k]?=some (.deep zs))(hy:cI (gZ J (Fb G al st) H al) ys xs):Ext al H st al (upd H a (.lst ys)) (st.set k (.deep xs))/\DI J H0 A0 G al (upd H a (.lst ys)) (st.set k (.deep xs)):=by
 obtain⟨b,ws,e0,g1,g2⟩:=I.cel k [a] _ ha hs;cases e0
 have z:=I.turn (H1:=upd H a (.lst ys)) (r:=[]) (r':=[]) (c':=.deep xs) ha hs rfl (λb o n e=>by rw[uN (λz=>n (by rw[z];exact List.mem_cons_self))];exact e) (λb hb=>nomatch hb) (λb hb=>by rw[xq hb];exact⟨_,uS⟩) (by simp) (λb hb=>nomatch hb) (λs=>⟨a,ys,rfl,uS,hy.imp λy x z=>by
    cases x with
    | dat d=>exact bz.same s z
    | ref j=>rw[xT ha];exact z⟩) (λb hb=>by rw[xq hb];exact⟨_,g1,.inl ⟨_,rfl⟩⟩)
 rw[xT ha]at z;exact z
theorem DI.Rq(I:DI J H0 A0 G al H st){p:Addr}{xs:List V}(h:cX J H p xs):cX J (cutH (Fb G al st) H) p xs:=by
 have n:∀o,H p=some o->¬ kJ o->¬ Fb G al st p:=λo e m z=>by
  obtain⟨o',e',m'⟩:=I.nz z;rw[e]at e';cases e';exact m m'
 rcases h with(h | ⟨o,h⟩) | h
 ·exact .inl (.inl (eV.mpr ⟨n _ h (λm=>by rcases m with⟨ys,m⟩ | ⟨C,dx,fs,m⟩ | ⟨φ,m⟩<;>cases m),h⟩))
 ·exact .inl (.inr ⟨o,eV.mpr ⟨n _ h (λm=>by rcases m with⟨ys,m⟩ | ⟨C,dx,fs,m⟩ | ⟨φ,m⟩<;>cases m),h⟩⟩)
 ·exact .inr h
end
abbrev DC:=DV->aR->Prop
abbrev DX:=bY->aR->DC->Prop
abbrev ot:=bY->aR->(List DV->aR->Prop)->Prop
abbrev DT:=bY->aR->(Bool->aR->Prop)->Prop
abbrev JD:=DV->DV->aR->DC->Prop
abbrev UB:=List DV->aR->DC->Prop
def Kn(J:KF)(H0:Hp)(A0:Addr->Prop)(G:Addr->Prop)(al:List (List Addr))(H:Hp)(st:aR)(Q:DC)(R:VK):Prop:=∀dv st' al' v H',Ext al H st al' H' st'->DI J H0 A0 G al' H' st'->gZ J (Fb G al' st') H' al' v dv->Q dv st'->R v H'
def Rr(J:KF)(H0:Hp)(A0:Addr->Prop)(G:Addr->Prop)(al:List (List Addr))(H:Hp)(st:aR)(Q:Bool->aR->Prop)(R:Bool->Hp->Prop):Prop:=∀b st' al' H',Ext al H st al' H' st'->DI J H0 A0 G al' H' st'->Q b st'->R b H'
def ZF(J:KF)(H0:Hp)(A0:Addr->Prop)(G:Addr->Prop)(al:List (List Addr))(H:Hp)(st:aR)(Q:List DV->aR->Prop)(R:List V->Hp->Prop):Prop:=∀dvs st' al' vs H',Ext al H st al' H' st'->DI J H0 A0 G al' H' st'->cI (gZ J (Fb G al' st') H' al') vs dvs->Q dvs st'->R vs H'
def AE(J:KF)(t:TE)(e:DX):Prop:=∀(H0:Hp) (A0:Addr->Prop) (G:Addr->Prop) (al:List (List Addr)) (H:Hp) (st:aR) (s:St) (env:bY) (Q:DC) (R:VK),DI J H0 A0 G al H st->oq J (Fb G al st) H al s env->e env st Q->Kn J H0 A0 G al H st Q R->t s H R
def AT(J:KF)(t:TT)(e:DT):Prop:=∀(H0:Hp) (A0:Addr->Prop) (G:Addr->Prop) (al:List (List Addr)) (H:Hp) (st:aR) (s:St) (env:bY) (Q:Bool->aR->Prop) (R:Bool->Hp->Prop),DI J H0 A0 G al H st->oq J (Fb G al st) H al s env->e env st Q->Rr J H0 A0 G al H st Q R->t s H R
def AA(J:KF)(t:TA)(n:Nat)(e:ot):Prop:=∀(H0:Hp) (A0:Addr->Prop) (G:Addr->Prop) (al:List (List Addr)) (H:Hp) (st:aR) (s:St) (env:bY) (Q:List DV->aR->Prop) (R:List V->Hp->Prop),DI J H0 A0 G al H st->oq J (Fb G al st) H al s env->e env st Q->ZF J H0 A0 G al H st (λl s=>l.length=n/\Q l s) R->t s H R
def AO(J:KF)(r:R2)(o:JD):Prop:=∀(H0:Hp) (A0:Addr->Prop) (G:Addr->Prop) (al:List (List Addr)) (H:Hp) (st:aR) (x y:V) (dx dy:DV) (Q:DC) (R:VK),DI J H0 A0 G al H st->gZ J (Fb G al st) H al x dx->gZ J (Fb G al st) H al y dy->o dx dy st Q->Kn J H0 A0 G al H st Q R->r x y H R
def AB(J:KF)(r:List V->Hp->VK->Prop)(o:UB):Prop:=∀(H0:Hp) (A0:Addr->Prop) (G:Addr->Prop) (al:List (List Addr)) (H:Hp) (st:aR) (vs:List V) (ds:List DV) (Q:DC) (R:VK),DI J H0 A0 G al H st->cI (gZ J (Fb G al st) H al) vs ds->o ds st Q->Kn J H0 A0 G al H st Q R->r vs H R
structure cc(X:Cx)(Y:YK)(e:Expr)(d:DX):Prop where
 h:∃t,PE X e t/\AE (kf X Y) t d
structure xU(X:Cx)(Y:YK)(e:Expr)(d:DT):Prop where
 h:∃t,PT X e t/\AT (kf X Y) t d
structure zM(X:Cx)(Y:YK)(e:Expr)(d:DT):Prop where
 h:∃t,PW X e t/\AT (kf X Y) t d
structure vO(X:Cx)(Y:YK)(es:List Expr)(n:Nat)(d:ot):Prop where
 h:∃t,PA X es t/\AA (kf X Y) t n d
section
variable {K:aV} {J:KF} {H0:Hp} {A0:Addr->Prop} {G:Addr->Prop} {al bD cM:List (List Addr)} {H H1 H2:Hp} {st aM bM:aR} {Q:DC} {R:VK}
theorem Kn.here(k:Kn J H0 A0 G al H st Q R)(I:DI J H0 A0 G al H st){v:V}{dv:DV}(h:gZ J (Fb G al st) H al v dv)(q:Q dv st):R v H:=k dv st al v H .refl I h q
theorem Kn.laid(k:Kn J H0 A0 G al H st Q R)(I:DI J H0 A0 G al H st){v:V}{dv:DV}(s:bf H H1)(h:gZ J (Fb G al st) H1 al v dv)(q:Q dv st):R v H1:=k dv st al v H1 (.same s) (I.same s) h q
theorem Kn.go(k:Kn J H0 A0 G al H st Q R)(I:DI J H0 A0 G bD H1 aM)(e:Ext al H st bD H1 aM):Kn J H0 A0 G bD H1 aM Q R:=λdv st' al' v H' e' I' h q=>k dv st' al' v H' (e.trans I e') I' h q
theorem Rr.go{Q:Bool->aR->Prop}{R:Bool->Hp->Prop}(k:Rr J H0 A0 G al H st Q R)(I:DI J H0 A0 G bD H1 aM)(e:Ext al H st bD H1 aM):Rr J H0 A0 G bD H1 aM Q R:=λdv st' al' H' e' I' q=>k dv st' al' H' (e.trans I e') I' q
theorem j8{a:Addr}{o:HO}(h:H a=none):bf H (upd H a o):=λc p e=>by rw[uN (nN e h)];exact e
end
@[reducible] def xV(i:Nat)(env:bY)(st:aR)(Q:DC):Prop:=match env[i]? with
 | some (some dv)=>Q dv st
 | _=>False
@[reducible] def eC(d:PyData)(_:bY)(st:aR)(Q:DC):Prop:=Q (.dat d) st
section
variable {X:Cx} {Y:YK} {a b c e:Expr} {es:List Expr} {pos:Pos} {ea eb ec:DX}
theorem NF{J:KF}{i:Nat}:AE J (Eo i) (xV i):=λH0 A0 G al H st s env Q R I E h k=>by
 unfold xV at h;split at h
 ·rename_i dv hd;obtain⟨v,h1,h2⟩:=E.2 i dv hd;exact⟨v,h1,k.here I h2 h⟩
 ·exact h.elim
theorem JE{J:KF}{v:V}{d:PyData}(h:∀H,bz J H v d):AE J (tC v) (eC d):=λH0 A0 G al H st s env Q R I E q k=>k.here I (.d (h _)) q
theorem ae(i:Nat){x:Str}(hN:X.N[i]?=some x:=by rfl)(hv:S8 X.env.scope x:=by first | exact aac rfl | exact acZ (aac rfl) | exact acZ (acZ rfl))(hd:(x == ("__debug__" : Str))=false:=by decide)
  (hcd:(x == ("__classdict__" : Str))=false:=by decide):cc X Y (.Name x pos) (xV i):=⟨_,Ep hN hv hd hcd,NF⟩
theorem ax{i j}:cc X Y (.Constant (.int i) j pos) (eC (.int i)):=⟨_,pI,JE λ_=>.int i⟩
theorem Mf{i j}:cc X Y (.Constant (.bool i) j pos) (eC (.bool i)):=⟨_,A4,JE λ_=>.bl i⟩
theorem iY{j}:cc X Y (.Constant .none j pos) (eC .none):=⟨_,eJ,JE λ_=>.non⟩
theorem aj{i j}:cc X Y (.Constant (.str i) j pos) (eC (.str i)):=⟨_,aY,JE λ_=>.str i⟩
@[reducible] def tN(o:JD)(ea eb:DX)(env:bY)(st:aR)(Q:DC):Prop:=ea env st λx aM=>eb env aM λy bM=>o x y bM Q
theorem Bq{J:KF}{r:R2}{o:JD}{ta tb:TE}(ho:AO J r o)(ha:AE J ta ea)(hb:AE J tb eb):AE J (Ql r ta tb) (tN o ea eb):=λH0 A0 G al H st s env Q R I E h k=>by
 refine ha H0 A0 G al H st s env _ _ I E h λx aM bD v H1 e1 I1 d1 q1=>?_
 refine hb H0 A0 G bD H1 aM s env _ _ I1 (E.ext e1) q1 λy bM cM u H2 e2 I2 d2 q2=>?_
 exact ho H0 A0 G cM H2 bM v u x y Q R I2 (d1.ext e2) d2 q2 (k.go I2 (e1.trans I1 e2))
theorem rH{op:Operator}{r:R2}{o:JD}(ho:jH X (binaryOp op) r)(ao:AO (kf X Y) r o)(ha:cc X Y a ea)(hb:cc X Y b eb):cc X Y (.BinOp a op b pos) (tN o ea eb):=by
 obtain⟨ta,p1,a1⟩:=ha.h;obtain⟨tb,p2,a2⟩:=hb.h;exact⟨_,da ho p1 p2,Bq ao a1 a2⟩
theorem NG{op:CmpOp}{r:R2}{o:JD}(ho:jH X (compareOp op) r)(ao:AO (kf X Y) r o)(ha:cc X Y a ea)(hb:cc X Y b eb)(hm:behindInMarks op b=false):cc X Y (.Compare a [op] [b] pos) (tN o ea eb):=by
 obtain⟨ta,p1,a1⟩:=ha.h;obtain⟨tb,p2,a2⟩:=hb.h;exact⟨_,vq ho p1 p2 hm,Bq ao a1 a2⟩
theorem oK{f:Value->Value->Sem Value}{r r':R2}(h:jH X f r)(h':jH X f r'):jH X f (λx y H Q=>r x y H Q∨r' x y H Q):=λpins s σ H x y v u Q I rx ry q=>by
 rcases q with q | q
 ·exact h pins s σ H x y v u Q I rx ry q
 ·exact h' pins s σ H x y v u Q I rx ry q
@[reducible] def oI(C:Int->Int->Prop)(g:Int->Int->PyData)(x y:DV)(st:aR)(Q:DC):Prop:=match x,y with
 | .dat (.int i),.dat (.int j)=>C i j/\Q (.dat (g i j)) st
 | _,_=>False
@[reducible] def NH(g:Int->Int->PyData)(x y:DV)(st:aR)(Q:DC):Prop:=match x,y with
 | .dat (.int i),.dat (.int j)=>Q (.dat (g i j)) st
 | _,_=>False
theorem JF{J:KF}{C:Int->Int->Prop}{g:Int->Int->V}{d:Int->Int->PyData}(h:∀i j H,bz J H (g i j) (d i j)):AO J (rI C g) (oI C d):=λH0 A0 G al H st x y dx dy Q R I a b q k=>by
 unfold oI at q;split at q
 ·rw[aX.bu a,aX.bu b];exact⟨_,_,rfl,rfl,q.1,k.here I (.d (h _ _ _)) q.2⟩
 ·exact q.elim
theorem xW{J:KF}{g:Int->Int->V}{d:Int->Int->PyData}(h:∀i j H,bz J H (g i j) (d i j)):AO J (Io g) (NH d):=λH0 A0 G al H st x y dx dy Q R I a b q k=>by
 unfold NH at q;split at q
 ·rw[aX.bu a,aX.bu b];exact⟨_,_,rfl,rfl,k.here I (.d (h _ _ _)) q⟩
 ·exact q.elim
end
@[reducible] def jO(st:aR):DV->Option (List PyData)
 | .dat (.list ds)=>some ds
 | .ref k=>match st[k]? with
  | some (.live ds)=>some ds
  | some (.froz ds)=>some ds
  | _=>none
 | _=>none
@[reducible] def uT(st:aR):DV->Option PyData
 | .dat d=>some d
 | .ref k=>match st[k]? with
  | some (.live ds)=>some (.list ds)
  | some (.froz ds)=>some (.list ds)
  | _=>none
section
variable {K:aV} {J:KF} {H0:Hp} {A0:Addr->Prop} {G:Addr->Prop} {al bD cM:List (List Addr)} {H H1 H2:Hp} {st aM bM:aR} {Q:DC} {R:VK}
theorem CJ{k:Nat}{ds:List PyData}(e:jO st (.ref k)=some ds):st[k]?=some (.live ds)∨st[k]?=some (.froz ds):=by
 have e:(match st[k]? with | some (.live ds)=>some ds | some (.froz ds)=>some ds | _=>none)=some ds:=e
 revert e
 cases st[k]? with
 | none=>intro e;cases e
 | some c=>cases c with
  | live xs=>intro e;cases e;exact .inl rfl
  | froz xs=>intro e;cases e;exact .inr rfl
  | deep xs=>intro e;cases e
  | obj o=>intro e;cases e
theorem CK{k:Nat}{d:PyData}(e:uT st (.ref k)=some d):∃ds,jO st (.ref k)=some ds/\d=.list ds:=by
 have e:(match st[k]? with | some (.live ds)=>some (PyData.list ds) | some (.froz ds)=>some (.list ds) | _=>none)=some d:=e;show ∃ds,(match st[k]? with | some (.live ds)=>some ds | some (.froz ds)=>some ds | _=>none)=some ds/\d=.list ds
 revert e
 cases st[k]? with
 | none=>intro e;cases e
 | some c=>cases c with
  | live xs=>intro e;cases e;exact⟨_,rfl,rfl⟩
  | froz xs=>intro e;cases e;exact⟨_,rfl,rfl⟩
  | deep xs=>intro e;cases e
  | obj o=>intro e;cases e
theorem gZ.NI(I:DI J H0 A0 G al H st){v:V}{x:DV}{ds:List PyData}(h:gZ J (Fb G al st) H al v x)(e:jO st x=some ds):∃(a:Addr) (ys:List V),v=.ref a/\bZ J H a ys/\cI (aX J (Fb G al st) H) ys ds:=by
 cases x with
 | dat d =>
  cases d with
  | list xs=>cases e;obtain⟨a,ys,h1,h2,_,h3⟩:=aX.dZ h;exact⟨a,ys,h1,h2,h3⟩
  | _=>cases e
 | ref k =>
  obtain⟨a,r,h1,h2⟩:=h;rcases CJ e with hs | hs
  ·obtain⟨a',ys,e0,g1,g2⟩:=I.cel k _ _ h1 hs;cases e0;exact⟨a,ys,h2,bZ.of g1,g2⟩
  ·obtain⟨a',e0,g0⟩:=I.cel k _ _ h1 hs;cases e0;obtain⟨b,ys,g1,g2,_,g3⟩:=aX.dZ g0;cases g1;exact⟨a,ys,h2,g2,g3⟩
theorem gZ.Tj(I:DI J H0 A0 G al H st){v:V}{x:DV}{d:PyData}(h:gZ J (Fb G al st) H al v x)(e:uT st x=some d):bz J H v d:=by
 cases x with
 | dat d'=>cases e;exact aX.now h
 | ref k =>
  obtain⟨ds,e1,rfl⟩:=CK e;obtain⟨a,ys,rfl,h2,h3⟩:=h.NI I e1;exact .lst h2 h3.1 λi x d a b=>(h3.2 i x d a b).now
@[reducible] def mq:DV->aR->(PyData->aR->Prop)->Prop
 | .dat d,st,Q=>Q d st
 | .ref k,st,Q=>match st[k]? with
  | some (.froz ds)=>Q (.list ds) st
  | some (.live ds)=>Q (.list ds) (st.set k (.froz ds))
  | _=>False
@[reducible] def fu:List DV->aR->(List PyData->aR->Prop)->Prop
 | [],st,Q=>Q [] st
 | x::r,st,Q=>mq x st λd aM=>fu r aM λds bM=>Q (d::ds) bM
theorem mF(I:DI J H0 A0 G al H st){v:V}{x:DV}{Q:PyData->aR->Prop}(h:gZ J (Fb G al st) H al v x)(q:mq x st Q):∃d aM,Ext al H st al H aM/\DI J H0 A0 G al H aM/\aX J (Fb G al aM) H v d/\Q d aM:=by
 cases x with
 | dat d=>exact⟨d,st,.refl,I,h,q⟩
 | ref k =>
  obtain⟨a,r,h1,rfl⟩:=h;unfold mq at q;dsimp only at q;split at q
  ·rename_i ds hs;obtain⟨a',e0,g0⟩:=I.cel k _ _ h1 hs;cases e0;exact⟨_,st,.refl,I,g0,q⟩
  ·rename_i ds hs;obtain⟨a',e0,E,I',F⟩:=I.freeze h1 hs;cases e0;exact⟨_,_,E,I',F,q⟩
  ·exact q.elim
theorem lX:∀{xs:List DV} {st:aR} {vs:List V} {Q:List PyData->aR->Prop},DI J H0 A0 G al H st->cI (gZ J (Fb G al st) H al) vs xs->fu xs st Q->∃ds aM,Ext al H st al H aM/\DI J H0 A0 G al H aM/\cI (aX J (Fb G al aM) H) vs ds/\Q ds aM
 | [],st,vs,Q,I,h,q=>by
  have:=h.1
  cases vs with
  | nil=>exact⟨[],st,.refl,I,.nil,q⟩
  | cons v r=>simp at this
 | x::xs,st,vs,Q,I,h,q=>by
  have:=h.1
  cases vs with
  | nil=>simp at this
  | cons v r =>
   obtain⟨d,aM,E1,I1,F1,q1⟩:=mF I (h.2 0 v x rfl rfl) q;have h':cI (gZ J (Fb G al aM) H al) r xs:=⟨by simpa using this,λi y z a b=>(h.2 (i + 1) y z (by simpa using a) (by simpa using b)).ext E1⟩;obtain⟨ds,bM,E2,I2,F2,q2⟩:=lX I1 h' q1;exact⟨d::ds,bM,E1.trans I1 E2,I2,.cons (F1.ext E2) F2,q2⟩
end
section
variable {X:Cx} {Y:YK} {a b c e:Expr} {es:List Expr} {pos:Pos} {ea eb ec:DX} {K:aV} {J:KF}
@[reducible] def zN(_:bY)(st:aR)(Q:List DV->aR->Prop):Prop:=Q [] st
@[reducible] def kZ(ea:DX)(r:ot)(env:bY)(st:aR)(Q:List DV->aR->Prop):Prop:=ea env st λx aM=>r env aM λxs bM=>Q (x::xs) bM
theorem NJ:AA J vw 0 zN:=λH0 A0 G al H st s env Q R I E h k=>k [] st al [] H .refl I .nil ⟨rfl,h⟩
theorem JG{ta:TE}{tr:TA}{n:Nat}{r:ot}(ha:AE J ta ea)(hr:AA J tr n r):AA J (EJ ta tr) (n + 1) (kZ ea r):=λH0 A0 G al H st s env Q R I E h k=>by
 refine ha H0 A0 G al H st s env _ _ I E h λx aM bD v H1 e1 I1 d1 q1=>?_
 refine hr H0 A0 G bD H1 aM s env _ _ I1 (E.ext e1) q1 λxs bM cM vs H2 e2 I2 d2 q2=>?_
 exact k (x::xs) bM cM (v::vs) H2 (e1.trans I1 e2) I2 (.cons (d1.ext e2) d2) ⟨by simp[q2.1],q2.2⟩
theorem ah:vO X Y [] 0 zN:=⟨_,pN,NJ⟩
theorem aa{n:Nat}{r:ot}(ha:cc X Y e ea)(hr:vO X Y es n r)(hs:starEach (e::es) X.env=(false,eval e X.env)::starEach es X.env:=by rfl):vO X Y (e::es) (n + 1) (kZ ea r):=by
 obtain⟨ta,p1,a1⟩:=ha.h;obtain⟨tb,p2,a2⟩:=hr.h;exact⟨_,pK p1 p2 hs,JG a1 a2⟩
@[reducible] def JH(t:ot)(env:bY)(st:aR)(Q:DC):Prop:=t env st λxs aM=>fu xs aM λds bM=>Q (.dat (.tuple ds)) bM
@[reducible] def JI(t:ot)(env:bY)(st:aR)(Q:DC):Prop:=t env st λxs aM=>fu xs aM λds bM=>Q (.dat (.list ds)) bM
@[reducible] def xX(t:ot)(env:bY)(st:aR)(Q:DC):Prop:=t env st λxs aM=>fu xs aM λds bM=>Q (.ref bM.length) (bM++[.live ds])
theorem NK{t:TA}{n:Nat}{d:ot}(hn:n<=sizeLine)(h:AA J t n d):AE J (M6 t) (JH d):=λH0 A0 G al H st s env Q R I E q k=>by
 refine h H0 A0 G al H st s env _ _ I E q λxs aM bD vs H1 e1 I1 d1 q1=>?_
 obtain⟨ds,bM,E2,I2,F2,q2⟩:=lX I1 d1 q1.2;refine⟨by rw[d1.1,q1.1];exact hn,λp hp=>?_⟩;have k2:=k.go I2 (e1.trans I1 E2);exact k2.laid I2 (j8 hp) (.d (aX.tup (I2.JC hp) uS (F2.imp λy x z=>z.same (j8 hp)))) q2
theorem NL{t:TA}{n:Nat}{d:ot}(hn:n<=sizeLine)(h:AA J t n d):AE J (M7 t) (JI d):=λH0 A0 G al H st s env Q R I E q k=>by
 refine h H0 A0 G al H st s env _ _ I E q λxs aM bD vs H1 e1 I1 d1 q1=>?_
 obtain⟨ds,bM,E2,I2,F2,q2⟩:=lX I1 d1 q1.2;refine⟨by rw[d1.1,q1.1];exact hn,λp hp=>?_⟩;have k2:=k.go I2 (e1.trans I1 E2);exact k2.laid I2 (j8 hp) (.d (aX.lst (I2.JC hp) uS (F2.imp λy x z=>z.same (j8 hp)))) q2
theorem Kn.cell{H0:Hp}{A0:Addr->Prop}{G:Addr->Prop}{al:List (List Addr)}{H:Hp}{st:aR}{Q:DC}{R:VK}(k:Kn J H0 A0 G al H st Q R)(I:DI J H0 A0 G al H st){p:Addr}{ys:List V}{ds:List PyData}(hp:H p=none)(F:cI (aX J (Fb G al st) H) ys ds)(q:Q (.ref st.length) (st++[.live ds])):R (.ref p) (upd H p (.lst ys)):=by
 obtain⟨E,I'⟩:=I.cell hp F;exact k (.ref st.length) _ _ _ _ E I' ⟨p,[],by rw[← I.len,aaI (aai _),ach];rfl,rfl⟩ q
theorem Kn.list{H0:Hp}{A0:Addr->Prop}{G:Addr->Prop}{al:List (List Addr)}{H:Hp}{st:aR}{Q:DC}{R:VK}(k:Kn J H0 A0 G al H st Q R)(I:DI J H0 A0 G al H st){p:Addr}{ys:List V}{ds:List PyData}(hp:H p=none)(F:cI (aX J (Fb G al st) H) ys ds)(q:Q (.dat (.list ds)) st):R (.ref p) (upd H p (.lst ys)) :=
 k.laid I (j8 hp) (.d (aX.lst (I.JC hp) uS (F.imp λy x z=>z.same (j8 hp)))) q
theorem JJ{t:TA}{n:Nat}{d:ot}(hn:n<=sizeLine)(h:AA J t n d):AE J (M7 t) (xX d):=λH0 A0 G al H st s env Q R I E q k=>by
 refine h H0 A0 G al H st s env _ _ I E q λxs aM bD vs H1 e1 I1 d1 q1=>?_
 obtain⟨ds,bM,E2,I2,F2,q2⟩:=lX I1 d1 q1.2;exact⟨by rw[d1.1,q1.1];exact hn,λp hp=>(k.go I2 (e1.trans I1 E2)).cell I2 hp F2 q2⟩
theorem au{k n:Nat}{d:ot}(h:vO X Y es n d)(hn:n<=sizeLine:=by decide):cc X Y (.Tuple es k pos) (JH d):=by
 obtain⟨t,p,a⟩:=h.h;exact⟨_,dH p,NK hn a⟩
theorem aG{n:Nat}{d:ot}(h:vO X Y es n d)(hn:n<=sizeLine:=by decide):cc X Y (.List es pos) (JI d):=by
 obtain⟨t,p,a⟩:=h.h;exact⟨_,eK p,NL hn a⟩
theorem vP{n:Nat}{d:ot}(h:vO X Y es n d)(hn:n<=sizeLine:=by decide):cc X Y (.List es pos) (xX d):=by
 obtain⟨t,p,a⟩:=h.h;exact⟨_,eK p,JJ hn a⟩
end
theorem mG{n:Nat}(h:n<=1000000):n<=sizeLine:=aaF h (by decide)
section
variable {X:Cx} {Y:YK} {a b c e:Expr} {es:List Expr} {pos:Pos} {ea eb ec:DX} {K:aV} {J:KF}
@[reducible] def Fu(x y:DV)(st:aR)(Q:DC):Prop:=match x,y with
 | .dat (.int i),.dat (.int j)=>Q (.dat (.int (i + j))) st
 | .dat (.str i),.dat (.str j)=>i.length + j.length<=1000000/\Q (.dat (.str (i++j))) st
 | .dat (.tuple i),.dat (.tuple j)=>i.length + j.length<=1000000/\Q (.dat (.tuple (i++j))) st
 | x,y=>match jO st x,jO st y with
  | some i,some j=>i.length + j.length<=1000000/\Q (.dat (.list (i++j))) st
  | _,_=>False
@[reducible] def xY(x y:DV)(st:aR)(Q:DC):Prop:=match jO st x,jO st y with
  | some i,some j=>i.length + j.length<=1000000/\Q (.ref st.length) (st++[.live (i++j)])
  | _,_=>False
@[reducible] def Br(K:aV):R2:=λx y H Q=>Io (λi j=>.int (i + j)) x y H Q∨((∃i j,x=.str i/\y=.str j/\i.length + j.length<=sizeLine/\Q (.str (i++j)) H)∨(L9 K x y H Q∨L8 K x y H Q))
theorem Bs:jH X (binaryOp .Add) (Br X.K):=oK mB (oK zk (oK Jw Bl))
theorem cI.len{α:Type}{R:V->α->Prop}{ys:List V}{xs:List α}(h:cI R ys xs):ys.length=xs.length:=h.1
theorem JK:AO J (Br J) xY:=λH0 A0 G al H st x y dx dy Q R I h1 h2 q k=>by
 unfold xY at q;split at q
 ·rename_i i j e1 e2;obtain⟨a,ys,rfl,g1,g2⟩:=h1.NI I e1;obtain⟨b,zs,rfl,g3,g4⟩:=h2.NI I e2;exact .inr (.inr (.inr ⟨a,b,ys,zs,rfl,rfl,g1,g3,by rw[g2.len,g4.len];exact mG q.1,λp hp=>k.cell I hp (g2.append g4) q.2⟩))
 ·exact q.elim
theorem NM:AO J (Br J) Fu:=λH0 A0 G al H st x y dx dy Q R I h1 h2 q k=>by
 have lists:(match jO st dx,jO st dy with
  | some i,some j=>i.length + j.length<=1000000/\Q (.dat (.list (i++j))) st
  | _,_=>False)->Br J x y H R:=λq=>by
  split at q
  ·rename_i i j e1 e2;obtain⟨a,ys,rfl,g1,g2⟩:=h1.NI I e1;obtain⟨b,zs,rfl,g3,g4⟩:=h2.NI I e2;exact .inr (.inr (.inr ⟨a,b,ys,zs,rfl,rfl,g1,g3,by rw[g2.len,g4.len];exact mG q.1,λp hp=>k.list I hp (g2.append g4) q.2⟩))
  ·exact q.elim
 unfold Fu at q;split at q
 ·rw[aX.bu h1,aX.bu h2];exact .inl ⟨_,_,rfl,rfl,k.here I (.d (.int _)) q⟩
 ·rw[aX.bR h1,aX.bR h2];exact .inr (.inl ⟨_,_,rfl,rfl,mG q.1,k.here I (.d (.str _)) q.2⟩)
 ·obtain⟨a,ys,rfl,g1,_,g2⟩:=aX.hV h1;obtain⟨b,zs,rfl,g3,_,g4⟩:=aX.hV h2;refine .inr (.inr (.inl ⟨a,b,ys,zs,rfl,rfl,g1,g3,by rw[g2.len,g4.len];exact mG q.1,λp H' s hp=>k.laid I s (.d ?_) q.2⟩));have g:=(g2.append g4).imp λy x z=>z.same s
  exact bz.tup ((I.same s).Rq hp) g.1 g.2
 ·exact lists q
theorem bj(ha:cc X Y a ea)(hb:cc X Y b eb):cc X Y (.BinOp a .Add b pos) (tN Fu ea eb):=rH Bs NM ha hb
theorem JL(ha:cc X Y a ea)(hb:cc X Y b eb):cc X Y (.BinOp a .Add b pos) (tN xY ea eb):=rH Bs JK ha hb
theorem mH(ha:cc X Y a ea)(hb:cc X Y b eb):cc X Y (.BinOp a .Sub b pos) (tN (NH λi j=>.int (i - j)) ea eb):=rH j2 (xW λ_ _ _=>.int _) ha hb
def MulOk(i j:Int):Prop:=EA i j∨E8 i j
theorem JM:jH X (binaryOp .Mult) (rI MulOk λi j=>.int (i * j)):=LV λ_ _ _ _ _ _ _ hc q=>mul_int q (by rcases hc with h | h;exact h.ok;exact h.ok)
theorem vQ(ha:cc X Y a ea)(hb:cc X Y b eb):cc X Y (.BinOp a .Mult b pos) (tN (oI MulOk λi j=>.int (i * j)) ea eb):=rH JM (JF λ_ _ _=>.int _) ha hb
def Fv(j:Int):Prop:=0 < j/\j < 18446744073709551616
theorem Fw:jH X (binaryOp .FloorDiv) (rI (λ_ j=>Fv j) λi j=>.int (i / j)):=LV λi j _ _ _ _ _ hc q=>by
 have h1:(0:Int) < j:=hc.1;have h2:j < 18446744073709551616:=hc.2;exact floordiv_int (by omega) (by rw[acs i (by omega)];exact q) (.inl (xJ.ok (i:=i) ⟨by omega,by omega⟩))
theorem c6(ha:cc X Y a ea)(hb:cc X Y b eb):cc X Y (.BinOp a .FloorDiv b pos) (tN (oI (λ_ j=>Fv j) λi j=>.int (i / j)) ea eb):=rH Fw (JF λ_ _ _=>.int _) ha hb
theorem bV(ha:cc X Y a ea)(hb:cc X Y b eb):cc X Y (.BinOp a .Mod b pos) (tN (oI (λ_ j=>0 < j) λi j=>.int (i % j)) ea eb):=rH qX (JF λ_ _ _=>.int _) ha hb
theorem zO(ha:cc X Y a ea)(hb:cc X Y b eb):cc X Y (.BinOp a .Pow b pos) (tN (oI QS λi j=>.int (i ^ j.toNat)) ea eb):=rH M3 (JF λ_ _ _=>.int _) ha hb
@[reducible] def NN(ea:DX)(env:bY)(st:aR)(Q:DC):Prop:=ea env st λx aM=>match x with
 | .dat (.int i)=>Q (.dat (.int (-i))) aM
 | _=>False
theorem Fx(ha:cc X Y a ea):cc X Y (.UnaryOp .USub a pos) (NN ea):=by
 obtain⟨ta,p1,a1⟩:=ha.h;refine⟨_,QQ M4 p1,λH0 A0 G al H st s env Q R I E h k=>a1 H0 A0 G al H st s env _ _ I E h λx aM bD v H1 e1 I1 d1 q1=>?_⟩;split at q1
 ·rw[aX.bu d1];exact⟨_,rfl,(k.go I1 e1).here I1 (.d (.int _)) q1⟩
 ·exact q1.elim
@[reducible] def vS(n:Bool->Bool)(x y:DV)(st:aR)(Q:DC):Prop:=match x,y with
 | .dat (.int i),.dat (.int j)=>Q (.dat (.bool (n (decide (i=j))))) st
 | .dat (.str i),.dat (.str j)=>Q (.dat (.bool (n (decide (i=j))))) st
 | x,y=>match uT st x,uT st y with
  | some i,some j=>(PySem.SeqAt.shaped i=true/\PySem.SeqAt.shaped j=true)/\Q (.dat (.bool (n (PyData.eqv i j)))) st
  | _,_=>False
@[reducible] def UC(K:aV):R2:=λx y H Q=>Xc x y H Q∨Nn K x y H Q
@[reducible] def UD(K:aV):R2:=λx y H Q=>Xd x y H Q∨Q7 K x y H Q
theorem Rt{i j:Int}:decide (V.int i=V.int j)=decide (i=j):=decide_eq_decide.mpr ⟨V.int.inj,λh=>by rw[h]⟩
theorem Ru{i j:Str}:decide (V.str i=V.str j)=decide (i=j):=decide_eq_decide.mpr ⟨V.str.inj,λh=>by rw[h]⟩
theorem Mg:AO J (UC J) (vS id):=λH0 A0 G al H st x y dx dy Q R I h1 h2 q k=>by
 unfold vS at q;split at q
 ·rw[aX.bu h1,aX.bu h2];exact .inl ⟨rfl,k.here I (.d (.bl _)) (by rw[Rt];exact q)⟩
 ·rw[aX.bR h1,aX.bR h2];exact .inl ⟨rfl,k.here I (.d (.bl _)) (by rw[Ru];exact q)⟩
 ·split at q
  ·rename_i i j e1 e2;exact .inr ⟨i,j,h1.Tj I e1,h2.Tj I e2,q.1.1,q.1.2,k.here I (.d (.bl _)) q.2⟩
  ·exact q.elim
theorem Rv:AO J (UD J) (vS not):=λH0 A0 G al H st x y dx dy Q R I h1 h2 q k=>by
 unfold vS at q;split at q
 ·rw[aX.bu h1,aX.bu h2];exact .inl ⟨rfl,k.here I (.d (.bl _)) (by rw[Rt];exact q)⟩
 ·rw[aX.bR h1,aX.bR h2];exact .inl ⟨rfl,k.here I (.d (.bl _)) (by rw[Ru];exact q)⟩
 ·split at q
  ·rename_i i j e1 e2;exact .inr ⟨i,j,h1.Tj I e1,h2.Tj I e2,q.1.1,q.1.2,k.here I (.d (.bl _)) q.2⟩
  ·exact q.elim
theorem Mh(hu:X.A.units + 64 < cLine)(ha:cc X Y a ea)(hb:cc X Y b eb):cc X Y (.Compare a [.Eq] [b] pos) (tN (vS id) ea eb):=NG (oK bF (zA hu)) Mg ha hb (aO _)
@[reducible] def Bt:DV->Bool
 | .dat .none=>true
 | _=>false
@[reducible] def Fy(n:Bool->Bool)(x y:DV)(st:aR)(Q:DC):Prop:=match y with
 | .dat .none=>Q (.dat (.bool (n (Bt x)))) st
 | _=>False
theorem Fz{H:Hp}{P:Addr->Prop}{al:List (List Addr)}{v:V}{x:DV}(h:gZ K P H al v x):decide (v=.non)=Bt x:=by
 cases x with
 | ref k=>obtain⟨a,r,_,rfl⟩:=h;rfl
 | dat d =>
  cases d with
  | none=>rw[aX.j7 h];rfl
  | bool b=>rw[aX.jN h];rfl
  | int i=>rw[aX.bu h];rfl
  | str i=>rw[aX.bR h];rfl
  | list ds=>obtain⟨a,ys,rfl,_⟩:=aX.dZ h;rfl
  | tuple ds=>obtain⟨a,ys,rfl,_⟩:=aX.hV h;rfl
  | dict kv=>have h:bz K (cutH P H) v (.dict kv):=h;cases h
end
section
variable {X:Cx} {Y:YK} {a b c e:Expr} {es:List Expr} {pos:Pos} {ea eb ec:DX} {K:aV} {J:KF}
theorem cI.p7{α:Type}{R:V->α->Prop}{ys:List V}{xs:List α}(h:cI R ys xs){i:Int}{x:α}(hx:p7 xs i=some x):∃y,L2.p7 ys i=some y/\R y x:=by
 unfold L2.p7 at hx ⊢;rw[h.1]
 cases q:ER xs.length i with
 | none=>rw[q]at hx;cases hx
 | some j =>
  rw[q]at hx;exact h.at hx
@[reducible] def nA(st:aR):DV->Option (List PyData)
 | .dat (.tuple ds)=>some ds
 | x=>jO st x
theorem gZ.Rw{H0:Hp}{A0:Addr->Prop}{G:Addr->Prop}{al:List (List Addr)}{H:Hp}{st:aR}(I:DI J H0 A0 G al H st){v:V}{x:DV}{ds:List PyData}(h:gZ J (Fb G al st) H al v x)(e:nA st x=some ds):∃(a:Addr) (ys:List V),v=.ref a/\(bZ J H a ys∨cX J H a ys)/\cI (aX J (Fb G al st) H) ys ds:=by
 unfold nA at e;split at e
 ·cases e;obtain⟨a,ys,h1,h2,_,h3⟩:=aX.hV h;exact⟨a,ys,h1,.inr h2,h3⟩
 ·obtain⟨a,ys,h1,h2,h3⟩:=h.NI I e;exact⟨a,ys,h1,.inl h2,h3⟩
@[reducible] def Rx(x y:DV)(st:aR)(Q:DC):Prop:=match x,y with
 | .dat (.str z),.dat (.int i)=>z.length<=1000000/\∃c,L2.p7 z.cps.toList i=some c/\Q (.dat (.str ⟨#[c]⟩)) st
 | x,.dat (.int i)=>match nA st x with
  | some ds=>∃d,L2.p7 ds i=some d/\Q (.dat d) st
  | none=>False
 | _,_=>False
theorem Ry:AO J (Xf J) Rx:=λH0 A0 G al H st x y dx dy Q R I h1 h2 q k=>by
 unfold Rx at q;split at q
 ·obtain⟨q1,c,q2,q3⟩:=q;rw[aX.bR h1,aX.bu h2];exact .inr (.inr ⟨_,_,c,rfl,rfl,mG q1,q2,k.here I (.d (.str _)) q3⟩)
 ·split at q
  ·rename_i ds e;obtain⟨d,q1,q2⟩:=q;rw[aX.bu h2];obtain⟨a,ys,rfl,g1,g2⟩:=h1.Rw I e;obtain⟨z,g3,g4⟩:=g2.p7 q1;rcases g1 with g1 | g1
   ·exact .inl ⟨a,ys,_,z,rfl,rfl,g1,g3,k.here I (.d g4) q2⟩
   ·exact .inr (.inl ⟨a,ys,_,z,rfl,rfl,g1,g3,k.here I (.d g4) q2⟩)
  ·exact q.elim
 ·exact q.elim
theorem fU(ha:cc X Y a ea)(hb:cc X Y b eb)(hs:vz b):cc X Y (.Subscript a b pos) (tN Rx ea eb):=by
 obtain⟨ta,p1,a1⟩:=ha.h;obtain⟨tb,p2,a2⟩:=hb.h;exact⟨_,aQ ES p1 p2 hs,Bq Ry a1 a2⟩
@[reducible] def nC:PyData->Bool
 | .none=>true
 | .bool _=>true
 | .int _=>true
 | .str _=>true
 | _=>false
theorem Bu{P:Addr->Prop}{H:Hp}{v:V}{d:PyData}(h:aX K P H v d)(f:nC d=true):mr v=true/\∀H',bz K H' v d:=by
 cases d with
 | none=>rw[aX.j7 h];exact⟨rfl,λ_=>.non⟩
 | bool b=>rw[aX.jN h];exact⟨rfl,λ_=>.bl b⟩
 | int i=>rw[aX.bu h];exact⟨rfl,λ_=>.int i⟩
 | str i=>rw[aX.bR h];exact⟨rfl,λ_=>.str i⟩
 | _=>cases f
theorem JN{P P':Addr->Prop}{H H':Hp}{v u:V}{d d':PyData}(h:aX K P H v d)(h':aX K P' H' u d')(f:nC d=true)(f':nC d'=true):Jm v u=PyData.eqv d d':=by
 cases d with
 | none=>rw[aX.j7 h];cases d' with
  | none=>rw[aX.j7 h'];rfl
  | bool b=>rw[aX.jN h'];rfl
  | int i=>rw[aX.bu h'];rfl
  | str i=>rw[aX.bR h'];rfl
  | _=>cases f'
 | bool b=>rw[aX.jN h];cases d' with
  | none=>rw[aX.j7 h'];rfl
  | bool b=>rw[aX.jN h'];rfl
  | int i=>rw[aX.bu h'];rfl
  | str i=>rw[aX.bR h'];rfl
  | _=>cases f'
 | int i=>rw[aX.bu h];cases d' with
  | none=>rw[aX.j7 h'];rfl
  | bool b=>rw[aX.jN h'];rfl
  | int i=>rw[aX.bu h'];rfl
  | str i=>rw[aX.bR h'];rfl
  | _=>cases f'
 | str i=>rw[aX.bR h];cases d' with
  | none=>rw[aX.j7 h'];rfl
  | bool b=>rw[aX.jN h'];rfl
  | int i=>rw[aX.bu h'];rfl
  | str i=>rw[aX.bR h'];rfl
  | _=>cases f'
 | _=>cases f
def inD(x:PyData)(ds:List PyData):Bool:=ds.any λd=>PyData.eqv d x
theorem Mi{P:Addr->Prop}{H:Hp}{v:V}{d:PyData}(h:aX K P H v d)(f:nC d=true):∀{ys:List V} {ds:List PyData},cI (aX K P H) ys ds->ds.all nC=true->ys.all mr=true/\Ta v ys=inD d ds
 | [],[],_,_=>⟨rfl,rfl⟩
 | [],_::_,r,_=>by have:=r.1;simp at this
 | _::_,[],r,_=>by have:=r.1;simp at this
 | y::ys,x::ds,r,g=>by
  rw[List.all_cons,Bool.and_eq_true]at g;have r0:=r.2 0 y x rfl rfl;obtain⟨z1,z2⟩:=Mi h f (ys:=ys) (ds:=ds) ⟨by simpa using r.1,λi p q a b=>r.2 (i + 1) p q (by simpa using a) (by simpa using b)⟩ g.2;unfold Ta inD at z2 ⊢;rw[List.all_cons,List.any_cons,List.any_cons,z1,z2,(Bu r0 g.1).1,JN r0 h g.1 f];exact⟨rfl,rfl⟩
@[reducible] def RA(n:Bool->Bool)(x y:DV)(st:aR)(Q:DC):Prop:=match x with
 | .dat d=>match nA st y with
  | some ds=>(nC d=true/\ds.all nC=true)/\Q (.dat (.bool (n (inD d ds)))) st
  | none=>False
 | _=>False
theorem RB(neg:Bool):AO J (Xg J neg) (RA (if neg then not else id)):=λH0 A0 G al H st x y dx dy Q R I h1 h2 q k=>by
 unfold RA at q;split at q
 ·split at q
  ·rename_i ds e;obtain⟨a,ys,rfl,g1,g2⟩:=h2.Rw I e;obtain⟨z1,z2⟩:=Mi h1 q.1.1 g2 q.1.2;refine⟨a,ys,rfl,g1,(Bu h1 q.1.1).1,z1,k.here I (.d (.bl _)) ?_⟩;rw[z2];cases neg<;>exact q.2
  ·exact q.elim
 ·exact q.elim
abbrev DO:=bY->aR->(Option Int->aR->Prop)->Prop
@[reducible] def FA(_:bY)(st:aR)(Q:Option Int->aR->Prop):Prop:=Q none st
@[reducible] def FC(e:DX)(env:bY)(st:aR)(Q:Option Int->aR->Prop):Prop:=e env st λx aM=>match x with
 | .dat (.int i)=>Q (some i) aM
 | _=>False
structure Tn(X:Cx)(Y:YK)(e:Option Expr)(d:DO):Prop where
 h:∃t,PO X e t/\∀(H0:Hp) (A0:Addr->Prop) (G:Addr->Prop) (al:List (List Addr)) (H:Hp) (st:aR) (s:St) (env:bY) (Q:Option Int->aR->Prop) (R:Option Int->Hp->Prop),DI (kf X Y) H0 A0 G al H st->oq X.K (Fb G al st) H al s env->d env st Q ->
  (∀i st' al' H',Ext al H st al' H' st'->DI (kf X Y) H0 A0 G al' H' st'->Q i st'->R i H')->t s H R
theorem qG:Tn X Y none FA:=⟨_,Bf,λH0 A0 G al H st s env Q R I E q k=>k none st al H .refl I q⟩
theorem qH(ha:cc X Y a ea):Tn X Y (some a) (FC ea):=by
 obtain⟨ta,p1,a1⟩:=ha.h;refine⟨_,Bg p1,λH0 A0 G al H st s env Q R I E q k=>a1 H0 A0 G al H st s env _ _ I E q λx aM bD v H1 e1 I1 d1 q1=>?_⟩;split at q1
 ·rw[aX.bu d1];exact⟨_,rfl,k _ _ _ _ e1 I1 q1⟩
 ·exact q1.elim
def cutD(xs:List PyData)(lo hi:Option Int):List PyData:=(xs.drop (HT.eL xs.length 0 lo)).take (HT.eL xs.length xs.length hi - HT.eL xs.length 0 lo)
theorem cI.cut{P:Addr->Prop}{H:Hp}{ys:List V}{ds:List PyData}(h:cI (aX K P H) ys ds)(lo hi:Option Int):cI (aX K P H) (rb ys lo hi) (cutD ds lo hi):=by
 unfold rb cutD;rw[h.1];exact(h.drop _).take _
@[reducible] def UE(ea:DX)(lo hi:DO)(env:bY)(st:aR)(Q:DC):Prop:=ea env st λx aM=>lo env aM λl bM=>hi env bM λu jJ=>match x with
 | .dat (.str z)=>z.length<=1000000/\Q (.dat (.str (Txt.slice z l u))) jJ
 | .dat (.tuple ds)=>Q (.dat (.tuple (cutD ds l u))) jJ
 | x=>match jO jJ x with
  | some ds=>Q (.dat (.list (cutD ds l u))) jJ
  | none=>False
theorem FE{r r':V->Option Int->Option Int->Hp->VK->Prop}(h:Ip X r)(h':Ip X r'):Ip X (λx l u H Q=>r x l u H Q∨r' x l u H Q):=by
 unfold Ip at h h' ⊢
 intros
 rename_i q;rcases q with q | q
 ·apply h<;>assumption
 ·apply h'<;>assumption
theorem UG:Ip X (λx l u H Q=>Mb x l u H Q∨(Ra X.K x l u H Q∨Q4 X.K x l u H Q)):=FE Jx (FE Jv Jl)
theorem Bv{lo hi:Option Expr}{l u:DO}{p2:Pos}(ha:cc X Y a ea)(hl:Tn X Y lo l)(hh:Tn X Y hi u):cc X Y (.Subscript a (.Slice lo hi none p2) pos) (UE ea l u):=by
 obtain⟨ta,p1,a1⟩:=ha.h;obtain⟨tl,p2,a2⟩:=hl.h;obtain⟨th,p3,a3⟩:=hh.h;refine⟨_,xC UG p1 p2 p3,λH0 A0 G al H st s env Q R I E q k=>a1 H0 A0 G al H st s env _ _ I E q λx aM bD v H1 e1 I1 d1 q1=>?_⟩;refine a2 H0 A0 G bD H1 aM s env _ _ I1 (E.ext e1) q1 λi bM cM H2 e2 I2 q2=>?_
 have xZ:=e1.trans I1 e2;refine a3 H0 A0 G cM H2 bM s env _ _ I2 (E.ext xZ) q2 λj jJ To H3 e3 I3 q3=>?_
 have k3:=k.go I3 (xZ.trans I2 e3);have d3:=(d1.ext e2).ext e3;split at q3
 ·rw[aX.bR d3];exact .inl ⟨_,rfl,mG q3.1,k3.here I3 (.d (.str _)) q3.2⟩
 ·obtain⟨b,ys,rfl,g1,_,g2⟩:=aX.hV d3;refine .inr (.inl ⟨b,ys,rfl,g1,λp H' s hp=>k3.laid I3 s (.d ?_) q3⟩);have g:=(g2.cut i j).imp λy x z=>z.same s
  exact bz.tup ((I3.same s).Rq hp) g.1 g.2
 ·split at q3
  ·rename_i ds e;obtain⟨b,ys,rfl,g1,g2⟩:=d3.NI I3 e;exact .inr (.inr ⟨b,ys,rfl,g1,λp hp=>k3.list I3 hp (g2.cut i j) q3⟩)
  ·exact q3.elim
@[reducible] def D5(ea:DX)(env:bY)(st:aR)(Q:Bool->aR->Prop):Prop:=ea env st λx aM=>match x with
 | .dat (.bool b)=>Q b aM
 | _=>False
@[reducible] def Bw(t u:DT)(env:bY)(st:aR)(Q:Bool->aR->Prop):Prop:=t env st λb aM=>if b=true then u env aM Q else Q false aM
@[reducible] def JO(t u:DT)(env:bY)(st:aR)(Q:Bool->aR->Prop):Prop:=t env st λb aM=>if b=true then Q true aM else u env aM Q
@[reducible] def FF(t:DT)(env:bY)(st:aR)(Q:Bool->aR->Prop):Prop:=t env st λb aM=>Q (!b) aM
theorem zP{t:TE}{e:DX}(h:AE J t e):AT J (EE t) (D5 e):=λH0 A0 G al H st s env Q R I E q k=>h H0 A0 G al H st s env _ _ I E q λx aM bD v H1 e1 I1 d1 q1=>by
 split at q1
 ·rw[aX.jN d1];exact⟨_,rfl,k _ _ _ _ e1 I1 q1⟩
 ·exact q1.elim
theorem oM{op:CmpOp}{r:R2}{o:JD}(ho:jH X (compareOp op) r)(ao:AO (kf X Y) r o)(ha:cc X Y a ea)(hb:cc X Y b eb)(hm:behindInMarks op b=false):xU X Y (.Compare a [op] [b] pos) (D5 (tN o ea eb)):=by
 obtain⟨ta,p1,a1⟩:=ha.h;obtain⟨tb,p2,a2⟩:=hb.h;exact⟨_,tR ho p1 p2 hm,zP (Bq ao a1 a2)⟩
theorem x9(ha:cc X Y a ea)(hb:cc X Y b eb):xU X Y (.Compare a [.Lt] [b] pos) (D5 (tN (NH λi j=>.bool (decide (i < j))) ea eb)):=oM ED (xW λ_ _ _=>.bl _) ha hb (aO _)
theorem mv(ha:cc X Y a ea)(hb:cc X Y b eb):xU X Y (.Compare a [.Gt] [b] pos) (D5 (tN (NH λi j=>.bool (decide (j < i))) ea eb)):=oM LX (xW λ_ _ _=>.bl _) ha hb (aO _)
theorem cy(hu:X.A.units + 64 < cLine)(ha:cc X Y a ea)(hb:cc X Y b eb):xU X Y (.Compare a [.Eq] [b] pos) (D5 (tN (vS id) ea eb)):=oM (oK bF (zA hu)) Mg ha hb (aO _)
theorem Mj(hu:X.A.units + 64 < cLine)(ha:cc X Y a ea)(hb:cc X Y b eb):xU X Y (.Compare a [.NotEq] [b] pos) (D5 (tN (vS not) ea eb)):=oM (oK uu (EY hu)) Rv ha hb (aO _)
theorem Bx(ha:cc X Y a ea)(hb:cc X Y b eb)(hm:behindInMarks .In b=false):xU X Y (.Compare a [.In] [b] pos) (D5 (tN (RA id) ea eb)):=oM uE (RB false) ha hb hm
theorem JP:AO J (λx y H Q=>y=.non/\Q (.bl (!decide (x=.non))) H) (Fy not):=λH0 A0 G al H st x y dx dy Q R I h1 h2 q k=>by
 unfold Fy at q;split at q
 ·exact⟨aX.j7 h2,k.here I (.d (.bl _)) (by rw[Fz h1];exact q)⟩
 ·exact q.elim
theorem jf(ha:cc X Y a ea)(hb:cc X Y b eb):xU X Y (.Compare a [.IsNot] [b] pos) (D5 (tN (Fy not) ea eb)):=oM vp JP ha hb (aO _)
theorem rJ(ha:cc X Y a ea)(he:∀whole,isTrue a X.env whole=(do let v ← whole;standAt a.pos;holding [v] (truthy v)):=by intro _;rfl):xU X Y a (D5 ea):=by
 obtain⟨ta,p1,a1⟩:=ha.h;exact⟨_,zf p1 he,zP a1⟩
variable {rest:List Expr} {ta tb:DT}
theorem rK(ha:xU X Y a ta):xU X Y (.UnaryOp .Not a pos) (FF ta):=by
 obtain⟨t,p1,a1⟩:=ha.h;exact⟨_,zg p1,λH0 A0 G al H st s env Q R I E q k=>a1 H0 A0 G al H st s env _ _ I E q λb aM bD H1 e1 I1 q1=>k _ _ _ _ e1 I1 q1⟩
theorem By(ha:xU X Y a ta):zM X Y (.BoolOp .And [a] pos) ta:=by
 obtain⟨t,p1,a1⟩:=ha.h;exact⟨_,pw_and1 p1,a1⟩
theorem rL(ha:xU X Y a ta):zM X Y (.BoolOp .Or [a] pos) ta:=by
 obtain⟨t,p1,a1⟩:=ha.h;exact⟨_,pw_or1 p1,a1⟩
theorem NO{t u:TT}(h1:AT J t ta)(h2:AT J u tb):AT J (QI t u) (Bw ta tb):=λH0 A0 G al H st s env Q R I E q k=>h1 H0 A0 G al H st s env _ _ I E q λb aM bD H1 e1 I1 q1=>by
 cases b with
 | true=>exact kT (h2 H0 A0 G bD H1 aM s env _ _ I1 (E.ext e1) (by rw[aaw rfl]at q1;exact q1) (k.go I1 e1))
 | false=>exact mi (k _ _ _ _ e1 I1 (by rw[aas aaj]at q1;exact q1))
theorem RC{t u:TT}(h1:AT J t ta)(h2:AT J u tb):AT J (W7 t u) (JO ta tb):=λH0 A0 G al H st s env Q R I E q k=>h1 H0 A0 G al H st s env _ _ I E q λb aM bD H1 e1 I1 q1=>by
 cases b with
 | false=>exact mi (h2 H0 A0 G bD H1 aM s env _ _ I1 (E.ext e1) (by rw[aas aaj]at q1;exact q1) (k.go I1 e1))
 | true=>exact kT (k _ _ _ _ e1 I1 (by rw[aaw rfl]at q1;exact q1))
theorem FG(ha:xU X Y a ta)(hb:zM X Y (.BoolOp .And (b::rest) pos) tb):zM X Y (.BoolOp .And (a::b::rest) pos) (Bw ta tb):=by
 obtain⟨t,p1,a1⟩:=ha.h;obtain⟨u,p2,a2⟩:=hb.h;exact⟨_,pw_and p1 p2,NO a1 a2⟩
theorem uU(ha:xU X Y a ta)(hb:zM X Y (.BoolOp .Or (b::rest) pos) tb):zM X Y (.BoolOp .Or (a::b::rest) pos) (JO ta tb):=by
 obtain⟨t,p1,a1⟩:=ha.h;obtain⟨u,p2,a2⟩:=hb.h;exact⟨_,pw_or p1 p2,RC a1 a2⟩
theorem zM.dt(h:zM X Y a ta):xU X Y a ta:=by
 obtain⟨t,p1,a1⟩:=h.h;exact⟨_,p1.pt,a1⟩
end
theorem ya{α:Type}{R:V->α->Prop}{vs:List V}{x:α}(h:cI R vs [x]):∃v,vs=[v]/\R v x:=by
 have:=h.1
 match vs,this,h with
 | [v],_,h=>exact⟨v,rfl,h.2 0 v x rfl rfl⟩
theorem NP{α:Type}{R:V->α->Prop}{vs:List V}{x y:α}(h:cI R vs [x,y]):∃v u,vs=[v,u]/\R v x/\R u y:=by
 have:=h.1
 match vs,this,h with
 | [v,u],_,h=>exact⟨v,u,rfl,h.2 0 v x rfl rfl,h.2 1 u y rfl rfl⟩
section
variable {X:Cx} {Y:YK} {a b c e:Expr} {es:List Expr} {pos p:Pos} {ea eb ec:DX} {K:aV} {J:KF} {x:Str} {id:String} {n:Nat} {d:ot} {r r':List V->Hp->VK->Prop} {o:UB}
@[reducible] def y9(o:UB)(d:ot)(env:bY)(st:aR)(Q:DC):Prop:=d env st λxs aM=>o xs aM Q
theorem Ml{t:TA}(ho:AB J r o)(h:AA J t n d):AE J (Ug r t) (y9 o d):=λH0 A0 G al H st s env Q R I E q k=>h H0 A0 G al H st s env _ _ I E q λxs aM bD vs H1 e1 I1 d1 q1=>ho H0 A0 G bD H1 aM vs xs Q R I1 d1 q1.2 (k.go I1 e1)
theorem rM(hc:iV X (.builtin id) r)(ho:AB (kf X Y) r o)(hg:Gl X x)(hm:X.mg x=none)(hv:bootBuiltins x=some (.builtin id))(ha:vO X Y (e::es) n d)(hn:x≠"__name__":=by decide)(hdb:(x == ("__debug__" : Str))=false:=by decide)
  (he:starEach (e::es) X.env=(false,eval e X.env)::starEach es X.env:=by rfl) (hpl:(backTo pos (starEach es X.env)).any (·.1)=false:=by rfl):cc X Y (.Call (.Name x p) (e::es) [] pos) (y9 o d):=by
 obtain⟨t,p1,a1⟩:=ha.h;exact⟨_,qZ hc hg hm hv p1 hn hdb he hpl,Ml ho a1⟩
theorem uV{T:String}(hc:iV X (.type T) r)(ho:AB (kf X Y) r o)(hg:Gl X x)(hm:X.mg x=none)(hv:bootBuiltins x=some (.type T))(ha:vO X Y (e::es) n d)(hn:x≠"__name__":=by decide)(hdb:(x == ("__debug__" : Str))=false:=by decide)
  (he:starEach (e::es) X.env=(false,eval e X.env)::starEach es X.env:=by rfl) (hpl:(backTo pos (starEach es X.env)).any (·.1)=false:=by rfl):cc X Y (.Call (.Name x p) (e::es) [] pos) (y9 o d):=by
 obtain⟨t,p1,a1⟩:=ha.h;exact⟨_,lW hc hg hm hv p1 hn hdb he hpl,Ml ho a1⟩
theorem RD{f:Value}(h:iV X f r)(h':iV X f r'):iV X f (λxs H Q=>r xs H Q∨r' xs H Q):=λpins s σ H xs us Q I rv q=>by
 rcases q with q | q
 ·exact h pins s σ H xs us Q I rv q
 ·exact h' pins s σ H xs us Q I rv q
@[reducible] def FH(xs:List DV)(st:aR)(Q:DC):Prop:=match xs with
 | [.dat (.str z)]=>z.length<=1000000/\Q (.dat (.int z.length)) st
 | [x]=>match nA st x with
  | some ds=>Q (.dat (.int ds.length)) st
  | none=>False
 | _=>False
theorem NQ:AB J (λxs H Q=>(∃p ys,xs=[.ref p]/\(bZ J H p ys∨cX J H p ys)/\Q (.int ys.length) H)∨∃z,xs=[.str z]/\z.length<=sizeLine/\Q (.int z.length) H) FH:=λH0 A0 G al H st vs ds Q R I h q k=>by
 unfold FH at q;split at q
 ·obtain⟨v,rfl,h1⟩:=ya h;rw[aX.bR h1];exact .inr ⟨_,rfl,mG q.1,k.here I (.d (.int _)) q.2⟩
 ·split at q
  ·rename_i ds e;obtain⟨v,rfl,h1⟩:=ya h;obtain⟨p,ys,rfl,g1,g2⟩:=h1.Rw I e;exact .inl ⟨p,ys,rfl,g1,k.here I (.d (.int _)) (by rw[g2.len];exact q)⟩
  ·exact q.elim
 ·exact q.elim
theorem oN(hg:Gl X "len")(hm:X.mg "len"=none)(ha:vO X Y [e] n d)(he:starEach [e] X.env=(false,eval e X.env)::starEach [] X.env:=by rfl):cc X Y (.Call (.Name "len" p) [e] [] pos) (y9 FH d):=rM (RD vC vD) NQ hg hm Nj ha (by decide) (by decide) he rfl
@[reducible] def yb(xs:List DV)(st:aR)(Q:DC):Prop:=match xs with
 | [x]=>match nA st x with
  | some ds=>Q (.dat (.list ds)) st
  | none=>False
 | _=>False
theorem JQ:AB J (λxs H Q=>∃p ys,xs=[.ref p]/\(bZ J H p ys∨cX J H p ys)/\∀l,H l=none->Q (.ref l) (upd H l (.lst ys))) yb:=λH0 A0 G al H st vs ds Q R I h q k=>by
 unfold yb at q;split at q
 ·split at q
  ·rename_i ds e;obtain⟨v,rfl,h1⟩:=ya h;obtain⟨p,ys,rfl,g1,g2⟩:=h1.Rw I e;exact⟨p,ys,rfl,g1,λl hl=>k.list I hl g2 q⟩
  ·exact q.elim
 ·exact q.elim
theorem Bz(hg:Gl X "list")(hm:X.mg "list"=none)(ha:vO X Y [e] n d)(he:starEach [e] X.env=(false,eval e X.env)::starEach [] X.env:=by rfl):cc X Y (.Call (.Name "list" p) [e] [] pos) (y9 yb d):=uV j3 JQ hg hm qB ha (by decide) (by decide) he rfl
@[reducible] def CM(xs:List DV)(st:aR)(Q:DC):Prop:=match xs with
 | [.dat (.int i),.dat (.int j)]=>Q (.dat (.int (if j < i then j else i))) st
 | _=>False
theorem NR:AB J (λxs H Q=>∃i j,xs=[.int i,.int j]/\Q (.int (if j < i then j else i)) H) CM:=λH0 A0 G al H st vs ds Q R I h q k=>by
 unfold CM at q;split at q
 ·obtain⟨v,u,rfl,h1,h2⟩:=NP h;rw[aX.bu h1,aX.bu h2];exact⟨_,_,rfl,k.here I (.d (.int _)) q⟩
 ·exact q.elim
theorem NS(hc:X.calm=true)(hg:Gl X "min")(hm:X.mg "min"=none)(ha:vO X Y (e::es) n d)(he:starEach (e::es) X.env=(false,eval e X.env)::starEach es X.env:=by rfl)(hpl:(backTo pos (starEach es X.env)).any (·.1)=false:=by rfl):cc X Y (.Call (.Name "min" p) (e::es) [] pos) (y9 CM d):=rM (Ck hc) NR hg hm Nk ha (by decide) (by decide) he hpl
@[reducible] def FJ(xs:List DV)(st:aR)(Q:DC):Prop:=match xs with
 | [.dat (.int i)]=>Q (.dat (.int i)) st
 | [.dat (.bool b)]=>Q (.dat (.int (if b then 1 else 0))) st
 | _=>False
theorem NT:AB J (λxs H Q=>(∃i,xs=[.int i]/\Q (.int i) H)∨∃k,xs=[.bl k]/\Q (.int (if k then 1 else 0)) H) FJ:=λH0 A0 G al H st vs ds Q R I h q k=>by
 unfold FJ at q;split at q
 ·obtain⟨v,rfl,h1⟩:=ya h;rw[aX.bu h1];exact .inl ⟨_,rfl,k.here I (.d (.int _)) q⟩
 ·obtain⟨v,rfl,h1⟩:=ya h;rw[aX.jN h1];exact .inr ⟨_,rfl,k.here I (.d (.int _)) q⟩
 ·exact q.elim
theorem FK(hg:Gl X "int")(hm:X.mg "int"=none)(ha:vO X Y [e] n d)(he:starEach [e] X.env=(false,eval e X.env)::starEach [] X.env:=by rfl):cc X Y (.Call (.Name "int" p) [e] [] pos) (y9 FJ d):=uV uv NT hg hm zy ha (by decide) (by decide) he rfl
abbrev za:=List PyData->(PyData->Prop)->Prop
def JR(K:aV)(T:za):Sp:=λvs H Q _=>∃(P:Addr->Prop) (ds:List PyData),(∀c,P c->∃o,H c=some o/\kJ o)/\cI (aX K P H) vs ds/\T ds λd=>∀v H',bf H H'->aX K P H' v d->Q v H'
def Iq(K:aV)(sp:Sp)(T:za):Prop:=∀(vs:List V) (H:Hp) (Q:VK) (P:Addr->Prop) (ds:List PyData),(∀c,P c->∃o,H c=some o/\kJ o)->cI (aX K P H) vs ds->T ds (λd=>∀v H',bf H H'->aX K P H' v d->Q v H')->sp vs H Q E0
theorem uW{T:za}:Iq K (JR K T) T:=λvs H Q P ds h1 h2 h3=>⟨P,ds,h1,h2,h3⟩
def vT(T:za):Prop:=∀ds (Q Q':PyData->Prop),(∀d,Q d->Q' d)->T ds Q->T ds Q'
@[reducible] def BA(T:za)(xs:List DV)(st:aR)(Q:DC):Prop:=fu xs st λds aM=>T ds λd=>Q (.dat d) aM
theorem rO{H:Hp}{v:V}{d:PyData}(h:bz K H v d):aX K (λ_=>False) H v d:=bz.same (λc o e=>eV.mpr ⟨λz=>z,e⟩) h
theorem JS{sp:Sp}{T:za}(h:Iq J sp T)(m:vT T):AB J (λvs H Q=>sp (vs++[]) H Q E0) (BA T):=λH0 A0 G al H st vs ds Q R I hp q k=>by
 obtain⟨es,aM,E1,I1,F1,q1⟩:=lX I hp q;rw[aaT];refine h vs H R (Fb G al aM) es (λc hc=>I1.nz hc) F1 (m _ _ _ (λd hd v H' s r=>?_) q1);exact(k.go I1 E1).laid I1 s (.d r) hd
theorem vU{sp:Sp}{t:TA}(h:AB J (λvs H Q=>sp (vs++[]) H Q E0) o)(ha:AA J t n d):AE J (xA sp [] E0 t) (y9 o d):=λH0 A0 G al H st s env Q R I E q k=>ha H0 A0 G al H st s env _ _ I E q λxs aM bD vs H1 e1 I1 d1 q1=>h H0 A0 G bD H1 aM vs xs Q R I1 d1 q1.2 (k.go I1 e1)
theorem bw{kk:Nat}{ps:List Str}{sp:Sp}{T:za}(h:eM X.prog X.w X.K X.mg X.base cb x kk ps sp)(hs:Iq X.K sp T)(m:vT T)(hr:cw kk X.A)(hg:Gl X x)(ha:vO X Y (e::es) n d)(hdb:(x == ("__debug__" : Str))=false:=by decide)
  (he:starEach (e::es) X.env=(false,eval e X.env)::starEach es X.env:=by rfl) (hpl:(backTo pos (starEach es X.env)).any (·.1)=false:=by rfl):cc X Y (.Call (.Name x p) (e::es) [] pos) (y9 (BA T) d):=by
 obtain⟨t,p1,a1⟩:=ha.h;exact⟨_,cT h hr hg p1 hdb he hpl,vU (JS hs m) a1⟩
end
abbrev qp:=bY->aR->(List PyData->(aR->Prop)->aR->Prop)->Prop
def Xp(J:KF)(H0:Hp)(A0:Addr->Prop)(G:Addr->Prop)(al:List (List Addr))(H:Hp)(st:aR)(Jj:It)(xs:List PyData)(ok:aR->Prop):Prop:=∀(G1:Addr->Prop) (bD:List (List Addr)) (H1:Hp) (aM:aR) (i:Nat),(∀c,G1 c->G c∨H c=none)->Ext al H st bD H1 aM->DI J H0 A0 G1 bD H1 aM->ok aM ->
 (∀d,xs[i]?=some d->Jj.go i H1/\∀x H2,Jj.yld i H1 x H2->bf H1 H2/\aX J (Fb G1 bD aM) H2 x d)/\(xs.length<=i->i<=xs.length->Jj.stop i H1)
def AI(J:KF)(wi:TI)(di:qp):Prop:=∀(H0:Hp) (A0:Addr->Prop) (G:Addr->Prop) (al:List (List Addr)) (H:Hp) (st:aR) (s:St) (env:bY) (Q:List PyData->(aR->Prop)->aR->Prop) (R:It->Hp->Prop),DI J H0 A0 G al H st->oq J (Fb G al st) H al s env->di env st Q ->
 (∀Jj xs ok st' al' H',Ext al H st al' H' st'->DI J H0 A0 G al' H' st'->Xp J H0 A0 G al' H' st' Jj xs ok->Q xs ok st'->R Jj H')->wi s H R
structure Qo(X:Cx)(Y:YK)(tg iter:Expr)(d:qp):Prop where
 h:∃wi,PI X tg iter wi/\AI (kf X Y) wi d
def UH(K:aV)(tl:TE):TI:=λσ H R=>tl σ H λx H1=>∃a,x=.ref a/\(((∃xs,bZ K H1 a xs)/\R (Im K a) H1)∨((∃xs,cX K H1 a xs)/\R (Qk K a) H1))
theorem Mm{X:Cx}{tg l:Expr}{tl:TE}(hl:PE X l tl):PI X tg l (UH X.K tl):=by
 intro pins s σ H R I h;refine bU (hl pins s σ H _ I h) λv s1 ⟨x,H1,I1,r1,q1⟩=>?_
 obtain⟨a,e,q⟩:=q1;subst e;cases r1
 have fin:∀b∈[s1.heap.objs.size],mh X pins H1 b:=λb hb=>by
  have e:b=s1.heap.objs.size:=by simpa using hb
  subst e;exact I1.MX (aai _) (I1.hok.fresh (aai _))
 rcases q with⟨⟨xs,hq⟩,q⟩ | ⟨⟨xs,hq⟩,q⟩
 ·obtain⟨its,rv,p,hz⟩:=I1.list hq;refine wpAny_pyIter_list p.isList ?_;exact⟨s1.heap.objs.size,[s1.heap.objs.size],_,_,H1,rfl,I1.kept (t':=s1.toks) λb o e=>aaf _ e,uq a _,⟨_,aaC _ rfl,rfl,rfl⟩,fin,q⟩
 ·obtain⟨its,rv,p,hz⟩:=I1.tuple hq;refine wpAny_pyIter_tuple (show s1.heap.IsTuple a its.toArray from p) ?_;exact⟨s1.heap.objs.size,[s1.heap.objs.size],_,_,H1,rfl,I1.kept (t':=s1.toks) λb o e=>aaf _ e,zh a _,⟨_,aaC _ rfl,rfl,rfl⟩,fin,q⟩
section
variable {X:Cx} {Y:YK} {tg a b c e:Expr} {es:List Expr} {pos p:Pos} {ea eb ec:DX} {K:aV} {J:KF} {n:Nat} {d:ot}
theorem aX.seq{P:Addr->Prop}{H:Hp}{v:V}{d:PyData}{ds:List PyData}(h:aX K P H v d)(e:d=.list ds∨d=.tuple ds):∃q a ys,v=.ref a/\Xi q K (cutH P H) a ys/\Xi q K H a ys/\cI (aX K P H) ys ds:=by
 rcases e with rfl | rfl
 ·obtain⟨a,ys,h1,h2,h3,h4⟩:=aX.dZ h;exact⟨true,a,ys,h1,h3,h2,h4⟩
 ·obtain⟨a,ys,h1,h2,h3,h4⟩:=aX.hV h;exact⟨false,a,ys,h1,h3,h2,h4⟩
@[reducible] def JT(ea:DX)(env:bY)(st:aR)(Q:List PyData->(aR->Prop)->aR->Prop):Prop:=ea env st λx aM=>mq x aM λd bM=>match d with
 | .list ds=>Q ds (λ_=>True) bM
 | .tuple ds=>Q ds (λ_=>True) bM
 | _=>False
theorem NU{t:TE}(h:AE J t ea):AI J (UH J t) (JT ea):=λH0 A0 G al H st s env Q R I E q k=>h H0 A0 G al H st s env _ _ I E q λx aM bD v H1 e1 I1 d1 q1=>by
 obtain⟨d,bM,E2,I2,F2,q2⟩:=mF I1 d1 q1
 obtain⟨ds,ed,q2⟩:∃ds,(d=.list ds∨d=.tuple ds)/\Q ds (λ_=>True) bM:=by
  split at q2
  ·exact⟨_,.inl rfl,q2⟩
  ·exact⟨_,.inr rfl,q2⟩
  ·exact q2.elim
 obtain⟨w,a,ys,rfl,g1,g2,g3⟩:=F2.seq ed;refine⟨a,rfl,?_⟩;have xZ:=e1.trans I1 E2
 cases w with
 | true =>
  refine .inl ⟨⟨ys,g2⟩,k (Im J a) ds _ bM bD H1 xZ I2 (λG1 To H3 jJ i hG e3 I3 _=>⟨λd hd=>?_,λh1 _=>?_⟩) q2⟩
  ·have s3:=(j6 hG e3).seq g1;obtain⟨y,hy,_⟩:=g3.at hd;refine⟨⟨ys,y,fB.seq s3,hy⟩,λx H4 ⟨e4,z⟩=>?_⟩;subst e4;have:=z ys (fB.seq s3);exact⟨.refl _,(g3.2 i x d this hd).kY hG e3⟩
  ·exact⟨ys,fB.seq ((j6 hG e3).seq g1),by rw[g3.1];exact h1⟩
 | false =>
  refine .inr ⟨⟨ys,g2⟩,k (Qk J a) ds _ bM bD H1 xZ I2 (λG1 To H3 jJ i hG e3 I3 _=>⟨λd hd=>?_,λh1 _=>?_⟩) q2⟩
  ·have s3:=(j6 hG e3).tup g1;obtain⟨y,hy,_⟩:=g3.at hd;refine⟨⟨ys,y,fB.tup s3,hy⟩,λx H4 ⟨e4,z⟩=>?_⟩;subst e4;have:=z ys (fB.tup s3);exact⟨.refl _,(g3.2 i x d this hd).kY hG e3⟩
  ·exact⟨ys,fB.tup ((j6 hG e3).tup g1),by rw[g3.1];exact h1⟩
theorem rP(h:cc X Y a ea):Qo X Y tg a (JT ea):=by
 obtain⟨t,p1,a1⟩:=h.h;exact⟨_,Mm p1,NU a1⟩
def zQ(lo:Int)(m:Nat):List PyData:=(List.range m).map λ(k:Nat)=>PyData.int (lo + (k:Int))
theorem jP{lo:Int}{m:Nat}:(zQ lo m).length=m:=by unfold zQ;rw[List.length_map,List.length_range]
theorem vV{lo:Int}{m i:Nat}{d:PyData}(h:(zQ lo m)[i]?=some d):i < m/\d=.int (lo + (i:Int)):=by
 have hi:=(ft h).1;rw[jP]at hi;unfold zQ at h;rw[List.getElem?_map,List.getElem?_range hi]at h;cases h;exact⟨hi,rfl⟩
@[reducible] def vW(d:ot)(env:bY)(st:aR)(Q:List PyData->(aR->Prop)->aR->Prop):Prop:=d env st λxs aM=>match xs with
 | [.dat (.int j)]=>(-(2 ^ 62)<=j/\j < 2 ^ 62)/\Q (zQ 0 j.toNat) (λ_=>True) aM
 | _=>False
theorem JU{H0:Hp}{A0:Addr->Prop}{G:Addr->Prop}{al:List (List Addr)}{H:Hp}{st:aR}{lo:Int}{m:Nat}{ok:aR->Prop}:Xp J H0 A0 G al H st (MY lo m) (zQ lo m) ok:=λG1 bD H1 aM i hG e1 I1 _=>by
 refine⟨λd hd=>?_,λh1 _=>by rw[jP]at h1;exact h1⟩;obtain⟨hi,rfl⟩:=vV hd;refine⟨hi,λx H2 ⟨e,z⟩=>?_⟩;subst e;subst z;exact⟨.refl _,.int _⟩
theorem oO(hg:Gl X "range")(hm:X.mg "range"=none)(ha:vO X Y [a] n d)(hs:starEach [a] X.env=[(false,eval a X.env)]:=by rfl):Qo X Y tg (.Call (.Name "range" p) [a] [] pos) (vW d):=by
 obtain⟨t,p1,a1⟩:=ha.h;refine⟨_,ur hg hm p1 hs,λH0 A0 G al H st s env Q R I E q k=>a1 H0 A0 G al H st s env _ _ I E q λxs aM bD vs H1 e1 I1 d1 q1=>?_⟩;have q1:=q1.2;split at q1
 ·obtain⟨v,rfl,h1⟩:=ya d1;rw[aX.bu h1];exact⟨_,rfl,q1.1.1,q1.1.2,k _ _ _ aM bD H1 e1 I1 JU q1.2⟩
 ·exact q1.elim
abbrev qI:=DV->bY->aR->(bY->aR->Prop)->Prop
abbrev yc:=List PyData->bY->aR->(bY->aR->Prop)->Prop
def Mn(J:KF)(H0:Hp)(A0:Addr->Prop)(G:Addr->Prop)(al:List (List Addr))(H:Hp)(st:aR)(Q:bY->aR->Prop)(R:St->Hp->Prop):Prop:=∀env' st' al' s' H',Ext al H st al' H' st'->DI J H0 A0 G al' H' st'->oq J (Fb G al' st') H' al' s' env'->Q env' st'->R s' H'
theorem Mn.go{H0:Hp}{A0:Addr->Prop}{G:Addr->Prop}{al bD:List (List Addr)}{H H1:Hp}{st aM:aR}{Q:bY->aR->Prop}{R:St->Hp->Prop}(k:Mn J H0 A0 G al H st Q R)(I:DI J H0 A0 G bD H1 aM)(e:Ext al H st bD H1 aM):Mn J H0 A0 G bD H1 aM Q R:=λdv st' al' s' H' e' I' h q=>k dv st' al' s' H' (e.trans I e') I' h q
def AG(J:KF)(g:TG)(dg:qI):Prop:=∀(H0:Hp) (A0:Addr->Prop) (G:Addr->Prop) (al:List (List Addr)) (H:Hp) (st:aR) (s:St) (env:bY) (v:V) (dv:DV) (Q:bY->aR->Prop) (R:St->Hp->Prop),DI J H0 A0 G al H st->oq J (Fb G al st) H al s env->gZ J (Fb G al st) H al v dv->dg dv env st Q->Mn J H0 A0 G al H st Q R->g v s H R
def Tp(J:KF)(g:Il)(dg:yc):Prop:=∀(H0:Hp) (A0:Addr->Prop) (G:Addr->Prop) (al:List (List Addr)) (H:Hp) (st:aR) (s:St) (env:bY) (vs:List V) (ds:List PyData) (Q:bY->aR->Prop) (R:St->Hp->Prop),DI J H0 A0 G al H st->oq J (Fb G al st) H al s env->cI (aX J (Fb G al st) H) vs ds->dg ds env st Q->Mn J H0 A0 G al H st Q R->g vs s H R
structure Qp(X:Cx)(Y:YK)(tg:Expr)(d:qI):Prop where
 h:∃g,PG X tg g/\AG (kf X Y) g d
structure JV(X:Cx)(Y:YK)(tg:List Expr)(d:yc):Prop where
 h:∃g,QK X tg g/\Tp (kf X Y) g d
@[reducible] def gN(i:Nat)(dv:DV)(env:bY)(st:aR)(Q:bY->aR->Prop):Prop:=Q (env.set i (some dv)) st
@[reducible] def BB(ds:List PyData)(env:bY)(st:aR)(Q:bY->aR->Prop):Prop:=match ds with
 | []=>Q env st
 | _=>False
@[reducible] def rQ(g:qI)(r:yc)(ds:List PyData)(env:bY)(st:aR)(Q:bY->aR->Prop):Prop:=match ds with
 | d::ds=>g (.dat d) env st λenv' st'=>r ds env' st' Q
 | []=>False
@[reducible] def gT(n:Nat)(r:yc)(dv:DV)(env:bY)(st:aR)(Q:bY->aR->Prop):Prop:=match dv with
 | .dat (.tuple ds)=>ds.length=n/\r ds env st Q
 | _=>False
theorem CN{i:Nat}:AG J (qW i) (gN i):=λH0 A0 G al H st s env v dv Q R I E h q k=>k _ _ al _ H .refl I (E.set h i) q
theorem fD{i:Nat}{x:Str}(hN:X.N.Nodup)(hi:X.N[i]?=some x)(hx:Loc X.env.scope x)(hf:X.fn x=true∨X.env.scope.names.lookup x=some .local:=by first | exact .inl rfl | exact .inr rfl | assumption):Qp X Y (.Name x pos) (gN i):=⟨_,gH hN hi hx hf,CN⟩
theorem vX:JV X Y [] BB:=⟨_,IY,λH0 A0 G al H st s env vs ds Q R I E h q k=>by
 unfold BB at q;split at q
 ·have:=h.1
  cases vs with
  | nil=>exact⟨rfl,k _ _ al _ H .refl I E q⟩
  | cons v r=>simp at this
 ·exact q.elim⟩
theorem FL{g:TG}{u:Il}{dg:qI}{r:yc}(a1:AG J g dg)(a2:Tp J u r):Tp J (LU g u) (rQ dg r):=λH0 A0 G al H st s env vs ds Q R I E h q k=>by
 unfold rQ at q;split at q
 ·rename_i d ds';have:=h.1
  cases vs with
  | nil=>simp at this
  | cons v vs' =>
   have h':cI (aX J (Fb G al st) H) vs' ds':=⟨by simpa using this,λi p q a b=>h.2 (i + 1) p q (by simpa using a) (by simpa using b)⟩;refine⟨v,vs',rfl,a1 H0 A0 G al H st s env v (.dat d) _ _ I E (.d (h.2 0 v d rfl rfl)) q λenv' st' al' s' H' e' I' E' q'=>?_⟩;exact a2 H0 A0 G al' H' st' s' env' vs' ds' Q R I' E' (h'.imp λy x z=>z.ext e') q' (k.go I' e')
 ·exact q.elim
theorem jQ{g:qI}{r:yc}(h1:Qp X Y e g)(h2:JV X Y es r)(hs:(assignEach (e::es) X.env).map (·.2)=assign e X.env::(assignEach es X.env).map (·.2):=by rfl):JV X Y (e::es) (rQ g r):=by
 obtain⟨t,p1,a1⟩:=h1.h;obtain⟨u,p2,a2⟩:=h2.h;exact⟨_,Et p1 p2 hs,FL a1 a2⟩
theorem UI{m:Nat}{u:Il}{r:yc}(a1:Tp J u r):AG J (QM J m u) (gT m r):=λH0 A0 G al H st s env v dv Q R I E h q k=>by
 unfold gT at q;split at q
 ·obtain⟨a,ys,rfl,g1,_,g2⟩:=aX.hV h;exact⟨a,ys,rfl,g1,by rw[g2.1];exact q.1,a1 H0 A0 G al H st s env ys _ Q R I E g2 q.2 k⟩
 ·exact q.elim
theorem zR{kx m:Nat}{r:yc}(hc:X.calm=true)(h:JV X Y es r)(hn:(assignEach es X.env).length=m:=by rfl)(hst:(assignEach es X.env).findIdx? (·.1)=none:=by rfl):Qp X Y (.Tuple es kx pos) (gT m r):=by
 obtain⟨u,p1,a1⟩:=h.h;exact⟨_,MV hc p1 hn hst,UI a1⟩
@[reducible] def gS(eo ei:DX)(dv:DV)(env:bY)(st:aR)(Q:bY->aR->Prop):Prop:=eo env st λo aM=>ei env aM λi bM=>match o,i with
 | .ref k,.dat (.int j)=>mq dv bM λd jJ=>match jJ[k]? with
  | some (.live ds)=>∃m,ER ds.length j=some m/\Q env (jJ.set k (.live (ds.set m d)))
  | _=>False
 | _,_=>False
theorem UJ{to ti:TE}{eo ei:DX}(h1:AE J to eo)(h2:AE J ti ei):AG J (QN to ti L5) (gS eo ei):=λH0 A0 G al H st s env v dv Q R I E h q k=>by
 refine h1 H0 A0 G al H st s env _ _ I E q λo aM bD vo H1 e1 I1 d1 q1=>?_
 refine h2 H0 A0 G bD H1 aM s env _ _ I1 (E.ext e1) q1 λi bM cM vi H2 e2 I2 d2 q2=>?_
 have xZ:=e1.trans I1 e2;split at q2
 ·rename_i kk j;obtain⟨d,jJ,E3,I3,F3,q3⟩:=mF I2 (h.ext xZ) q2;split at q3
  ·rename_i ds hs;obtain⟨m,qm,q4⟩:=q3;obtain⟨a,r0,ha,rfl⟩:=(d1.ext e2).ext E3;obtain⟨a',ys,e0,g1,g2⟩:=I3.cel kk _ _ ha hs;cases e0;rw[aX.bu d2];have UK:=xZ.trans I2 E3;obtain⟨E4,I4⟩:=I3.put ha hs (g2.set F3 m);refine⟨a,ys,j,m,rfl,rfl,g1,by rw[g2.1];exact qm,?_⟩;have RE:=UK.trans I3 E4;exact k _ _ _ _ _ RE I4 (E.ext RE) q4
  ·exact q3.elim
 ·exact q2.elim
theorem FN{o i:Expr}{eo ei:DX}(h1:cc X Y o eo)(h2:cc X Y i ei)(ha:∀v,assign (.Subscript o i pos) X.env v=(do
   let ov ← holding [v] (eval o X.env)
   let iv ← holding [v,ov] (eval i X.env)
   standAt pos
   holding [v,ov,iv] (setItem ov iv v)
   release [v,ov,iv] []):=by intro _;rfl):Qp X Y (.Subscript o i pos) (gS eo ei):=by
 obtain⟨t,p1,a1⟩:=h1.h;obtain⟨u,p2,a2⟩:=h2.h;exact⟨_,oz p1 p2 set_list ha,UJ a1 a2⟩
end
def RF(J:KF)(e:DX):TE:=λs H R=>∃(H0:Hp) (A0:Addr->Prop) (G:Addr->Prop) (al:List (List Addr)) (st:aR) (env:bY) (Q:DC),DI J H0 A0 G al H st/\oq J (Fb G al st) H al s env/\e env st Q/\Kn J H0 A0 G al H st Q R
def FO(J:KF)(e:DT):TT:=λs H R=>∃(H0:Hp) (A0:Addr->Prop) (G:Addr->Prop) (al:List (List Addr)) (st:aR) (env:bY) (Q:Bool->aR->Prop),DI J H0 A0 G al H st/\oq J (Fb G al st) H al s env/\e env st Q/\Rr J H0 A0 G al H st Q R
theorem cc.pe{X:Cx}{Y:YK}{e:Expr}{d:DX}(h:cc X Y e d):PE X e (RF (kf X Y) d):=by
 obtain⟨t,p,a⟩:=h.h;intro pins s σ H Q I ⟨H0,A0,G,al,st,env,Q',I',E,q,k⟩;exact p pins s σ H Q I (a H0 A0 G al H st σ env Q' Q I' E q k)
structure Tr(X:Cx)(Y:YK)(ifs:List Expr)(d:DT):Prop where
 h:Np X ifs (FO (kf X Y) d)
@[reducible] def BC(_:bY)(st:aR)(Q:Bool->aR->Prop):Prop:=Q true st
theorem zS{X:Cx}:Tr X Y [] BC:=⟨λpins s σ H Q I ⟨H0,A0,G,al,st,env,Q',I',E,q,k⟩=>qC pins s σ H Q I (k true st al H .refl I' q)⟩
def GB(own:Nat)(g:TG):Prop:=∀v s H R R',(∀(s2:St) (H2:Hp),s2.drop own=s.drop own->R s2 H2->R' s2 H2)->g v s H R->g v s H R'
theorem NV{own i:Nat}(h:i < own):GB own (qW i):=λv s H R R' f q=>f _ _ (by rw[List.drop_set_of_lt h]) q
@[reducible] def yd(own:Nat)(ix:List Nat)(env:bY):bY:=List.replicate own none++ix.map λi=>(env[i]?).getD none
def UL(fin:List PyData->aR->DC->Prop)(dg:qI)(dt:DT)(de:DX)(xs:List PyData)(ok:aR->Prop)(env:bY)(aM:aR)(Q:DC):Prop:=(ok aM/\xs.length<=1000000)/\∃I:Nat->List PyData->Prop,I 0 [] /\
 (∀i ys d,I i ys->xs[i]?=some d->dg (.dat d) env aM λgm bM=>bM=aM/\dt gm aM λb jJ=>jJ=aM/\if b=true then de gm aM λy qD=>mq y qD λdy y8=>y8=aM/\I (i + 1) (ys++[dy])else I (i + 1) ys)/\∀ys,I xs.length ys->fin ys aM Q
@[reducible] def FP(fin:List PyData->aR->DC->Prop)(own:Nat)(ix:List Nat)(di:qp)(dg:qI)(dt:DT)(de:DX)(env:bY)(st:aR)(Q:DC):Prop:=di env st λxs ok aM=>UL fin dg dt de xs ok (yd own ix env) aM Q
theorem RG{fin:List PyData->aR->DC->Prop}{dg:qI}{dt:DT}{de:DX}{xs:List PyData}{env:bY}{aM:aR}{Q:DC}(I:Nat->List PyData->Prop)(hl:xs.length<=1000000)(h0:I 0 [])
  (hs:∀i ys d,xs[i]?=some d->I i ys->dg (.dat d) env aM λgm bM=>bM=aM/\dt gm aM λb jJ=>jJ=aM/\if b=true then de gm aM λy qD=>mq y qD λdy y8=>y8=aM/\I (i + 1) (ys++[dy])else I (i + 1) ys) (hd:∀ys,I xs.length ys->fin ys aM Q):UL fin dg dt de xs (λ_=>True) env aM Q:=⟨⟨trivial,hl⟩,I,h0,λi ys d a b=>hs i ys d b a,hd⟩
@[reducible] def JW:List PyData->aR->DC->Prop:=λys st Q=>Q (.dat (.list ys)) st
theorem oq.jM{K:aV}{P:Addr->Prop}{H:Hp}{al:List (List Addr)}{s:St}{env:bY}(h:oq K P H al s env)(own:Nat)(ix:List Nat):oq K P H al (dq own ix s) (yd own ix env):=by
 refine⟨by simp[dq],λi dv hi=>?_⟩;by_cases l:i < own
 ·rw[List.getElem?_append_left (by simpa using l),List.getElem?_replicate,if_pos l]at hi;cases hi
 ·rw[List.getElem?_append_right (by simp;omega),List.length_replicate,List.getElem?_map]at hi
  cases q:ix[i - own]? with
  | none=>rw[q]at hi;cases hi
  | some j =>
   rw[q]at hi;have hi:some ((env[j]?).getD none)=some (some dv):=hi
   have e:env[j]?=some (some dv):=by
    cases w:env[j]? with
    | none=>rw[w]at hi;cases hi
    | some u=>rw[w]at hi;exact hi
   obtain⟨v,h1,h2⟩:=h.2 j dv e;refine⟨v,?_,h2⟩;unfold dq;rw[List.getElem?_append_right (by simp;omega),List.length_replicate,List.getElem?_map,q];show some ((s[j]?).getD none)=_;rw[h1];rfl
theorem DI.FQ{J:KF}{H0:Hp}{A0:Addr->Prop}{G:Addr->Prop}{al:List (List Addr)}{H:Hp}{st:aR}(I:DI J H0 A0 G al H st){D:Addr}{ys:List V}(h:H D=none):Ext al H st al (upd H D (.lst ys)) st/\DI J H0 A0 (λc=>G c∨c=D) al (upd H D (.lst ys)) st:=by
 have E:Ext al H st al (upd H D (.lst ys)) st:=.new h
 have g:∀c,(G c∨c=D)->G c∨H c=none:=λc hc=>by
  rcases hc with z | z
  ·exact .inl z
  ·rw[z];exact .inr h
 have keep:∀c o,H c=some o->upd H D (.lst ys) c=some o:=λc o e=>by rw[uN (nN e h)];exact e
 have I1:=I.new (o:=.lst ys) h;refine⟨E,I.len,I.nd,I1.ok,λk a c h1 h2=>(I.cel k a c h1 h2).kY g E (λc hc=>I.nz hc) λ_ b _ o q=>keep _ _ q,I1.fr,I.nw,λa ha hc=>?_,λc hc=>?_,J.y.up _ _ _ _ (λc hc=>.inl hc) I.lk⟩
 ·rcases hc with z | z
  ·exact I.gd a ha z
  ·obtain⟨o,e⟩:=I.ok a ha;rw[z,h]at e;cases e
 ·rcases hc with z | z
  ·exact I1.gs c z
  ·rw[z];exact⟨_,uS,.inl ⟨_,rfl⟩⟩
theorem DI.grow{J:KF}{H0:Hp}{A0:Addr->Prop}{G:Addr->Prop}{al:List (List Addr)}{H:Hp}{st:aR}{D:Addr}{ys zs:List V}(I:DI J H0 A0 (λc=>G c∨c=D) al H st)(h:H D=some (.lst zs))(n0:A0 D∨H0 D=none):DI J H0 A0 (λc=>G c∨c=D) al (upd H D (.lst ys)) st/\∀v d,aX J (Fb (λc=>G c∨c=D) al st) H v d->aX J (Fb (λc=>G c∨c=D) al st) (upd H D (.lst ys)) v d:=by
 have sm:bf (cutH (Fb (λc=>G c∨c=D) al st) H) (cutH (Fb (λc=>G c∨c=D) al st) (upd H D (.lst ys))):=j5 λc o n e=>⟨n,by rw[uN (λz=>n (.inl (.inr z)))];exact e⟩
 have rd:∀v d,aX J (Fb (λc=>G c∨c=D) al st) H v d->aX J (Fb (λc=>G c∨c=D) al st) (upd H D (.lst ys)) v d:=λv d z=>bz.same sm z
 have nD:∀a∈al.flatten,a≠D:=λa ha z=>I.gd a ha (.inr z)
 refine⟨⟨I.len,I.nd,λa ha=>?_,λk fp c h1 h2=>?_,λc o n e=>?_,I.nw,I.gd,λc hc=>?_,I.lk⟩,rd⟩
 ·rw[uN (nD a ha)];exact I.ok a ha
 ·have z:=I.cel k fp c h1 h2;have na:∀a∈fp,a≠D:=λa ha=>nD a (cJ h1 ha)
  cases c with
  | live xs =>
   obtain⟨a,ws,e0,g1,g2⟩:=z;exact⟨a,ws,e0,by rw[uN (na a (by rw[e0];exact aaY.mpr rfl))];exact g1,g2.imp λy x q=>rd y x q⟩
  | froz ds=>obtain⟨a,e0,g0⟩:=z;exact⟨a,e0,rd _ _ g0⟩
  | deep xs =>
   obtain⟨a,ws,e0,g1,g2⟩:=z;refine⟨a,ws,e0,by rw[uN (na a (by rw[e0];exact aaY.mpr rfl))];exact g1,g2.imp λy x q=>?_⟩
   cases x with
   | dat d=>exact rd _ _ q
   | ref j=>exact q
  | obj o=>exact⟨z.1,o.keep _ _ _ _ _ _ z.2 (λc hc=>I.nz hc) (λa ha o e=>by rw[uN (na a ha)];exact e) sm⟩
 ·by_cases w:c=D
  ·rw[w]at n e;rcases n0 with y | y
   ·exact absurd y n
   ·rw[y]at e;cases e
  ·rw[uN w];exact I.fr c o n e
 ·by_cases w:c=D
  ·rw[w];exact⟨_,uS,.inl ⟨_,rfl⟩⟩
  ·rw[uN w];exact I.gs c hc
section
variable {X:Cx} {Y:YK} {tg a b c e:Expr} {es:List Expr} {pos p:Pos} {ea eb ec:DX} {K:aV} {J:KF} {n:Nat} {d:ot}
theorem Ext.Xq{al:List (List Addr)}{H:Hp}{st:aR}{D:Addr}{ys:List V}{bD:List (List Addr)}{H1:Hp}{aM:aR}(e:Ext al H st bD H1 aM)(hD:H D=none):Ext al H st bD (upd H1 D (.lst ys)) aM:=⟨λc o n q=>by rw[uN (λz=>by rw[z,hD]at q;cases q)];exact e.keep c o n q,e.pre,e.nws,e.lv⟩
def NW(J:KF)(fin:List PyData->aR->DC->Prop):Prop:=∀(H0:Hp) (A0:Addr->Prop) (G:Addr->Prop) (al:List (List Addr)) (H:Hp) (st:aR) (Q:DC) (R:VK) (D:Addr) (cM:List (List Addr)) (H2:Hp) (vs:List V) (ys:List PyData),DI J H0 A0 G al H st->H D=none->Kn J H0 A0 G al H st Q R->fin ys st Q->DI J H0 A0 (λc=>G c∨c=D) cM H2 st->Ext al H st cM H2 st->H2 D=some (.lst vs)->cI (aX J (Fb (λc=>G c∨c=D) cM st) H2) vs ys->R (.ref D) H2
theorem RH{fin:List PyData->aR->DC->Prop}(hf:NW J fin)
  {own:Nat} {ix:List Nat} {wi:TI} {g:TG} {di:qp} {dg:qI} {dt:DT} {de:DX} (hi:AI J wi di) (hg:AG J g dg) (gb:GB own g):AE J (Qn own ix wi g (FO J dt) (RF J de)) (FP fin own ix di dg dt de):=λH0 A0 G al H st s env Q R I E q k=>by
 refine hi H0 A0 G al H st s env _ _ I E q λJj xs ok aM bD H1 e1 I1 ir q1=>?_
 intro D hD;obtain⟨⟨hok,hlen⟩,Iv,i0,istep,ifin⟩:=q1;have k1:=k.go I1 e1;have E1:=E.ext e1
 have gG:∀c,(G c∨c=D)->G c∨H1 c=none:=λc hc=>by
  rcases hc with z | z
  ·exact .inl z
  ·rw[z];exact .inr hD
 have n0:=I1.n0 hD;obtain⟨EB,IB⟩:=I1.FQ (ys:=[]) hD;refine⟨λi m ys H2=>(m=xs.length - i/\i<=xs.length/\ys.length<=i)/\∃ds cM,Iv i ds/\H2 D=some (.lst ys)/\cI (aX J (Fb (λc=>G c∨c=D) cM aM) H2) ys ds/\DI J H0 A0 (λc=>G c∨c=D) cM H2 aM/\Ext bD H1 aM cM H2 aM,⟨_,⟨rfl,abl _,abl _⟩,[],bD,i0,uS,.nil,IB,EB⟩,?_⟩;rintro i m ys H2 ⟨⟨em,hil,hyl⟩,ds,cM,hI,gD,hP,I2,E2⟩;refine⟨gD,?_⟩;have IR:=ir (λc=>G c∨c=D) cM H2 aM i gG E2 I2 hok;by_cases hx:i < xs.length
 ·right
  obtain⟨d0,FR⟩:∃d0,xs[i]?=some d0:=⟨xs[i],jG hx⟩;obtain⟨go,yl⟩:=IR.1 d0 FR;refine⟨go,aaR (aaF hyl hil) (aaR hlen (by decide)),λys' H'=>∃m',m' < m/\(m'=xs.length - (i + 1)/\i + 1<=xs.length/\ys'.length<=i + 1)/\∃ds cM,Iv (i + 1) ds/\H' D=some (.lst ys')/\cI (aX J (Fb (λc=>G c∨c=D) cM aM) H') ys' ds/\DI J H0 A0 (λc=>G c∨c=D) cM H' aM/\Ext bD H1 aM cM H' aM,λys' H' ⟨m',lt,w⟩=>⟨m',lt,w⟩,λx H3 hy=>?_⟩;obtain⟨s3,r3⟩:=yl x H3 hy;have I3:=I2.same s3;have E3:Ext bD H1 aM cM H3 aM:=E2.trans I2 (.same s3);have P3:=hP.imp λy x z=>z.same s3
  have g3:=s3 _ _ gD;have UM:=(E1.kY gG E3).jM own ix;refine gb x _ H3 _ _ ?_ (hg H0 A0 (λc=>G c∨c=D) cM H3 aM _ _ x (.dat d0) _ (λσ2 H4=>FO J dt σ2 H4 λb H5=>if b=true then RF J de σ2 H5 λv H6=>H6 D=some (.lst ys)/\∃m',m' < m/\(m'=xs.length - (i + 1)/\i + 1<=xs.length/\(ys++[v]).length<=i + 1)/\∃ds cM,Iv (i + 1) ds/\upd H6 D (.lst (ys++[v])) D=some (.lst (ys++[v]))/\cI (aX J (Fb (λc=>G c∨c=D) cM aM) (upd H6 D (.lst (ys++[v])))) (ys++[v]) ds/\DI J H0 A0 (λc=>G c∨c=D) cM (upd H6 D (.lst (ys++[v]))) aM/\Ext bD H1 aM cM (upd H6 D (.lst (ys++[v]))) aM else ∃m',m' < m/\(m'=xs.length - (i + 1)/\i + 1<=xs.length/\ys.length<=i + 1)/\∃ds cM,Iv (i + 1) ds/\H5 D=some (.lst ys)/\cI (aX J (Fb (λc=>G c∨c=D) cM aM) H5) ys ds/\DI J H0 A0 (λc=>G c∨c=D) cM H5 aM/\Ext bD H1 aM cM H5 aM) I3 UM (.d r3) (istep i ds d0 hI FR) λgm bM NX s2 H4 e4 I4 RJ q4=>?_)
  ·intro s2 H4 ed q4;refine⟨?_,q4⟩;rw[ed];unfold dq;rw[List.drop_left' (by simp)]
  ·obtain⟨rfl,q4⟩:=q4;refine⟨H0,A0,_,NX,bM,gm,_,I4,RJ,q4,λb jJ RK H5 e5 I5 q5=>?_⟩;obtain⟨rfl,q5⟩:=q5;have NY:=e4.trans I4 e5;have E5:=E3.trans I3 NY;have nL:∀(al':List (List Addr)) (H':Hp),DI J H0 A0 (λc=>G c∨c=D) al' H' jJ->¬ Lv al' jJ D:=λal' H' I' z=>I'.gd D z.mem (.inr rfl)
   have g5:=NY.keep D _ (nL _ _ I3) g3;have P5:=P3.imp λy x z=>aX.ext z NY
   cases b with
   | false =>
    rw[aas aaj]at q5;exact mi ⟨xs.length - (i + 1),by omega,⟨rfl,hx,by omega⟩,ds,RK,q5,g5,P5,I5,E5⟩
   | true =>
    rw[aaw rfl]at q5;refine kT ⟨H0,A0,_,RK,jJ,gm,_,I5,RJ.ext e5,q5,λy qD NZ v H6 e6 I6 d6 q6=>?_⟩;obtain⟨dy,y8,E7,I7,F7,rfl,q7⟩:=mF I6 d6 q6;have UN:=e6.trans I6 E7;have E6:=E5.trans I5 UN;have g6:=UN.keep D _ (nL _ _ I5) g5;have P6:=P5.imp λy x z=>aX.ext z UN
    obtain⟨I8,N0⟩:=I7.grow (ys:=ys++[v]) g6 n0;refine⟨g6,xs.length - (i + 1),by omega,⟨rfl,hx,by simp;omega⟩,ds++[dy],NZ,q7,uS,?_,I8,E6.Xq hD⟩;exact(P6.imp λy x z=>N0 y x z).append (.cons (N0 _ _ F7) .nil)
 ·left
  have ei:i=xs.length:=by omega
  subst ei;exact⟨IR.2 (aai _) (aai _),hf H0 A0 G bD H1 aM Q R D cM H2 ys ds I1 hD k1 (ifin ds hI) I2 E2 gD hP⟩
end
section
variable {X:Cx} {Y:YK} {tg a b c e:Expr} {es:List Expr} {pos p:Pos} {ea eb ec:DX} {K:aV} {J:KF} {n:Nat} {d:ot} {scope:Scope}
theorem DI.less{H0:Hp}{A0:Addr->Prop}{G G':Addr->Prop}{al:List (List Addr)}{H:Hp}{st:aR}(I:DI J H0 A0 G' al H st)(s:∀c,G c->G' c)(y:J.y.Y H0 A0 G):DI J H0 A0 G al H st:=by
 have sub:∀c,Fb G al st c->Fb G' al st c:=λc z=>by
  rcases z with z | z
  ·exact .inl (s c z)
  ·exact .inr z
 have sm:bf (cutH (Fb G' al st) H) (cutH (Fb G al st) H):=j5 λc o n e=>⟨λz=>n (sub c z),e⟩
 refine⟨I.len,I.nd,I.ok,λk fp c h1 h2=>?_,I.fr,I.nw,λa ha z=>I.gd a ha (s a z),λc hc=>I.gs c (s c hc),y⟩;have z:=I.cel k fp c h1 h2
 cases c with
 | live xs=>obtain⟨a,ws,e0,g1,g2⟩:=z;exact⟨a,ws,e0,g1,g2.imp λy x q=>bz.same sm q⟩
 | froz ds=>obtain⟨a,e0,g0⟩:=z;exact⟨a,e0,bz.same sm g0⟩
 | deep xs =>
  obtain⟨a,ws,e0,g1,g2⟩:=z;refine⟨a,ws,e0,g1,g2.imp λy x q=>?_⟩
  cases x with
  | dat d=>exact bz.same sm q
  | ref j=>exact q
 | obj o=>exact⟨z.1,o.keep _ _ _ _ _ _ z.2 (λc hc=>I.nz hc) (λ_ _ _ e=>e) sm⟩
theorem RL:NW J JW:=λH0 A0 G al H st Q R D cM H2 vs ys I hD k q I2 E2 g P=>by
 have sub:∀c,Fb G cM st c->Fb (λc=>G c∨c=D) cM st c:=λc z=>by
  rcases z with z | z
  ·exact .inl (.inl z)
  ·exact .inr z
 have nD:¬ Fb G cM st D:=λz=>by
  rcases z with z | z
  ·exact I.JC hD (.inl z)
  ·exact I2.gd D z.mem (.inr rfl)
 exact k (.dat (.list ys)) st cM _ H2 E2 (I2.less (λc z=>.inl z) I.lk) (.d (aX.lst nD g (P.imp λy x z=>aX.sub z sub))) q
@[reducible] def UO:Nat->List Nat->qp->qI->DT->DX->DX:=FP JW
theorem N1{fin:List PyData->aR->DC->Prop}(hf:NW (kf X Y) fin)
  {elt iter:Expr} {ifs:List Expr} {g:TG} {di:qp} {dg:qI} {dt:DT} {de:DX} (own:Nat) (N:List Str) (ix:List Nat) (B:kW X own N ix scope) (hi:Qo X Y tg iter di)
  (hg:∀(C:Addr) (fp:List Addr) (s:Shared) (H:Hp),PG (X.jM N scope C fp s H) tg g) (ag:AG (kf X Y) g dg) (gb:GB own g)
  (hin:∀(C:Addr) (fp:List Addr) (s:Shared) (H:Hp),Tr (X.jM N scope C fp s H) Y ifs dt/\cc (X.jM N scope C fp s H) Y elt de)
  (hs:∀x,foldedSetIterable iter X.env x=pure x:=by intro _;rfl):cc X Y (.ListComp elt [⟨tg,iter,ifs,0⟩] scope pos) (FP fin own ix di dg dt de):=by
 obtain⟨wi,p1,a1⟩:=hi.h;exact⟨_,L7 own N ix B p1 (λC fp s H=>⟨hg C fp s H,(hin C fp s H).1.h,(hin C fp s H).2.pe⟩) hs,RH hf a1 ag gb⟩
theorem Mo{elt iter:Expr}{ifs:List Expr}{g:TG}{di:qp}{dg:qI}{dt:DT}{de:DX}(own:Nat)(N:List Str)(ix:List Nat)(B:kW X own N ix scope)(hi:Qo X Y tg iter di)
  (hg:∀(C:Addr) (fp:List Addr) (s:Shared) (H:Hp),PG (X.jM N scope C fp s H) tg g) (ag:AG (kf X Y) g dg) (gb:GB own g)
  (hin:∀(C:Addr) (fp:List Addr) (s:Shared) (H:Hp),Tr (X.jM N scope C fp s H) Y ifs dt/\cc (X.jM N scope C fp s H) Y elt de)
  (hs:∀x,foldedSetIterable iter X.env x=pure x:=by intro _;rfl):cc X Y (.ListComp elt [⟨tg,iter,ifs,0⟩] scope pos) (UO own ix di dg dt de):=N1 RL own N ix B hi hg ag gb hin hs
@[reducible] def N2(st:aR)(k:Nat):Bool:=match st[k]? with
 | some (.live _)=>true
 | some (.froz _)=>true
 | some (.deep _)=>true
 | _=>false
@[reducible] def vY(eo:DX)(dx:ot)(env:bY)(st:aR)(Q:DC):Prop:=eo env st λo aM=>match o with
 | .ref k=>N2 aM k=true/\dx env aM λxs bM=>match xs with
  | [x]=>match bM[k]? with
   | some (.deep ys)=>ys.length < 1000000/\Q (.dat .none) (bM.set k (.deep (ys++[x])))
   | _=>mq x bM λd jJ=>match jJ[k]? with
    | some (.live ds)=>ds.length < 1000000/\Q (.dat .none) (jJ.set k (.live (ds++[d])))
    | _=>False
  | _=>False
 | _=>False
theorem vZ{H0:Hp}{A0:Addr->Prop}{G:Addr->Prop}{al:List (List Addr)}{H:Hp}{st:aR}(I:DI J H0 A0 G al H st){v:V}{k:Nat}(h:gZ J (Fb G al st) H al v (.ref k))(hl:N2 st k=true):∃a ys,v=.ref a/\bZ J H a ys:=by
 obtain⟨a,r,h1,rfl⟩:=h;have hk:k < st.length:=by rw[← I.len];exact(ft h1).1
 have hs:=jG hk;have z:=I.cel k _ _ h1 hs;refine⟨a,?_⟩
 cases q:st[k]with
 | live ds=>rw[q]at z;obtain⟨a',ys,e0,g,_⟩:=z;cases e0;exact⟨ys,rfl,bZ.of g⟩
 | deep ds=>rw[q]at z;obtain⟨a',ys,e0,g,_⟩:=z;cases e0;exact⟨ys,rfl,bZ.of g⟩
 | froz ds =>
  rw[q]at z;obtain⟨a',e0,g0⟩:=z;cases e0;obtain⟨b,ys,g1,g2,_⟩:=aX.dZ g0;cases g1;exact⟨ys,rfl,g2⟩
 | obj o =>
  unfold N2 at hl;rw[hs,q]at hl;cases hl
theorem ye{H:Hp}{v:V}(h:∃a ys,v=.ref a/\bZ K H a ys):Ui K "list" v H:=by
 obtain⟨a,ys,rfl,g⟩:=h;exact .inl ⟨rfl,ys,g⟩
theorem dU{apos cpos:Pos}{o:Expr}{eo:DX}(ho:cc X Y o eo)(ha:vO X Y (e::es) n d)(hbase:attributeBase o "append" X.env (eval o X.env)=eval o X.env:=by rfl)
  (hfew:((backTo cpos (starEach (e::es) X.env)).all (λx=>!x.1)&&(backToKw cpos (keywordEach [] X.env)).all (λx=>x.1.isSome)
   && decide ((e::es).length + ([]:List Keyword).length + (if ([]:List Keyword).isEmpty then 0 else 1) < 30))=true:=by rfl)
  (hline:(apos.endLine == cpos.line)=true:=by rfl) (hs:starEach (e::es) X.env=(false,eval e X.env)::starEach es X.env:=by rfl) (hplain:(backTo cpos (starEach es X.env)).any (·.1)=false:=by rfl) :
  cc X Y (.Call (.Attribute o "append" apos) (e::es) [] cpos) (vY eo d):=by
 obtain⟨t,p1,a1⟩:=ho.h;obtain⟨u,p2,a2⟩:=ha.h;refine⟨_,rg aa1 aa6 aa7 eS p1 p2 hbase hfew hline hs hplain,λH0 A0 G al H st s env Q R I E q k=>a1 H0 A0 G al H st s env _ _ I E q λx aM bD v H1 e1 I1 d1 q1=>?_⟩;split at q1
 ·rename_i kk;refine⟨ye (vZ I1 d1 q1.1),a2 H0 A0 G bD H1 aM s env _ _ I1 (E.ext e1) q1.2 λxs bM cM vs H2 e2 I2 d2 q2=>?_⟩;have q2:=q2.2;split at q2
  ·obtain⟨w,rfl,hw⟩:=ya d2;have xZ:=e1.trans I1 e2;split at q2
   ·rename_i zs hs;obtain⟨a,r0,ha,rfl⟩:=d1.ext e2;obtain⟨a',ys,e0,g1,g2⟩:=I2.cel kk _ _ ha hs;cases e0;obtain⟨E4,I4⟩:=I2.putD ha hs (g2.append (.cons hw .nil));exact⟨a,ys,w,rfl,rfl,g1,by rw[g2.1];exact aae q2.1 (by decide),(k.go I2 xZ) _ _ _ _ _ E4 I4 (.d .non) q2.2⟩
   ·obtain⟨dd,jJ,E3,I3,F3,q3⟩:=mF I2 hw q2;split at q3
    ·rename_i ds hs;have RM:=xZ.trans I2 E3;obtain⟨a,r0,ha,rfl⟩:=(d1.ext e2).ext E3;obtain⟨a',ys,e0,g1,g2⟩:=I3.cel kk _ _ ha hs;cases e0;obtain⟨E4,I4⟩:=I3.put ha hs (g2.append (.cons F3 .nil));exact⟨a,ys,w,rfl,rfl,g1,by rw[g2.1];exact aae q3.1 (by decide),(k.go I3 RM) _ _ _ _ _ E4 I4 (.d .non) q3.2⟩
    ·exact q3.elim
  ·exact q2.elim
 ·exact q1.elim
structure fE where
 nx:bY->aR->Prop
 rt:DC
 bk:bY->aR->Prop:=λ_ _=>False
 ct:bY->aR->Prop:=λ_ _=>False
abbrev DS:=fE->bY->aR->Prop
structure CO(J:KF)(H0:Hp)(A0:Addr->Prop)(G:Addr->Prop)(al:List (List Addr))(H:Hp)(st:aR)(DD:fE)(D:Ends):Prop where
 nx:Mn J H0 A0 G al H st DD.nx D.nx
 rt:Kn J H0 A0 G al H st DD.rt D.rt
 bk:Mn J H0 A0 G al H st DD.bk D.bk
 ct:Mn J H0 A0 G al H st DD.ct D.ct
theorem CO.go{H0:Hp}{A0:Addr->Prop}{G:Addr->Prop}{al bD:List (List Addr)}{H H1:Hp}{st aM:aR}{DD:fE}{D:Ends}(k:CO J H0 A0 G al H st DD D)(I:DI J H0 A0 G bD H1 aM)(e:Ext al H st bD H1 aM):CO J H0 A0 G bD H1 aM DD D:=⟨k.nx.go I e,k.rt.go I e,k.bk.go I e,k.ct.go I e⟩
def AS(J:KF)(t:TS)(s:DS):Prop:=∀(H0:Hp) (A0:Addr->Prop) (G:Addr->Prop) (al:List (List Addr)) (H:Hp) (st:aR) (σ:St) (env:bY) (DD:fE) (D:Ends),DI J H0 A0 G al H st->oq J (Fb G al st) H al σ env->s DD env st->CO J H0 A0 G al H st DD D->t D σ H
structure D6(X:Cx)(Y:YK)(D7:Stmt)(s:DS):Prop where
 h:∃t,PS X D7 t/\AS (kf X Y) t s
structure yf(X:Cx)(Y:YK)(stms:List Stmt)(s:DS):Prop where
 h:∃t,oo X stms t/\AS (kf X Y) t s
@[reducible] def BD(DD:fE)(env:bY)(st:aR):Prop:=DD.nx env st
@[reducible] def FT(s u:DS)(DD:fE)(env:bY)(st:aR):Prop:=s {DD with nx:=u DD} env st
@[reducible] def FU(e:DX)(DD:fE)(env:bY)(st:aR):Prop:=e env st λ_ aM=>DD.nx env aM
@[reducible] def N3(e:DX)(DD:fE)(env:bY)(st:aR):Prop:=e env st DD.rt
@[reducible] def UP(c:DT)(s u:DS)(DD:fE)(env:bY)(st:aR):Prop:=c env st λb aM=>if b=true then s DD env aM else u DD env aM
@[reducible] def CP(e:DX)(g:qI)(DD:fE)(env:bY)(st:aR):Prop:=e env st λdv aM=>g dv env aM DD.nx
def Mp(g:qI)(s:DS)(DD:fE)(xs:List PyData)(ok:aR->Prop)(env:bY)(st:aR):Prop:=∃W:Nat->bY->aR->Prop,W 0 env st/\∀i env st,i<=xs.length->W i env st->ok st/\(i=xs.length->DD.nx env st)/\∀d,xs[i]?=some d->g (.dat d) env st λenv' st'=>s {DD with nx:=W (i + 1),ct:=W (i + 1),bk:=DD.nx} env' st'
@[reducible] def N4(di:qp)(g:qI)(s:DS)(DD:fE)(env:bY)(st:aR):Prop:=di env st λxs ok aM=>Mp g s DD xs ok env aM
theorem nE{g:qI}{s:DS}{DD:fE}{xs:List PyData}{ok:aR->Prop}{env:bY}{st:aR}(W:Nat->bY->aR->Prop)(h0:W 0 env st)(hok:∀i env st,W i env st->ok st)
  (hs:∀i env st d,xs[i]?=some d->W i env st->g (.dat d) env st λenv' st'=>s {DD with nx:=W (i + 1),ct:=W (i + 1),bk:=DD.nx} env' st') (hd:∀env st,W xs.length env st->DD.nx env st):Mp g s DD xs ok env st :=
 ⟨W,h0,λi env st _ w=>⟨hok i env st w,λe=>hd env st (e ▸ w),λd h=>hs i env st d h w⟩⟩
variable {D7:Stmt} {stms rest:List Stmt} {s u:DS}
theorem JX:AS J kP BD:=λH0 A0 G al H st σ env DD D I E h k=>k.nx env st al σ H .refl I E h
theorem FV{t r:TS}(h1:AS J t s)(h2:AS J r u):AS J (ql t r) (FT s u):=λH0 A0 G al H st σ env DD D I E h k=>h1 H0 A0 G al H st σ env _ _ I E h ⟨λenv' st' al' σ' H' e' I' E' q'=>h2 H0 A0 G al' H' st' σ' env' DD D I' E' q' (k.go I' e'),k.rt,k.bk,k.ct⟩
theorem aP:yf X Y [] BD:=⟨_,ba,JX⟩
theorem aE(h1:D6 X Y D7 s)(h2:yf X Y rest u):yf X Y (D7::rest) (FT s u):=by
 obtain⟨t,p1,a1⟩:=h1.h;obtain⟨r,p2,a2⟩:=h2.h;exact⟨_,qK p1 p2,FV a1 a2⟩
theorem aF(h1:D6 X Y D7 s):yf X Y [D7] s:=by
 obtain⟨t,p1,a1⟩:=h1.h;exact⟨_,qO p1,a1⟩
theorem iw(he:cc X Y e ea)(hs:swapsWith e none pos.line X.env=pure false:=by rfl):D6 X Y (.Expr e pos) (FU ea):=by
 obtain⟨t,p1,a1⟩:=he.h;exact⟨_,cO p1 hs,λH0 A0 G al H st σ env DD D I E h k=>a1 H0 A0 G al H st σ env _ _ I E h λdv aM bD v H1 e1 I1 d1 q1=>k.nx env aM bD σ H1 e1 I1 (E.ext e1) q1⟩
theorem bc(he:cc X Y e ea):D6 X Y (.Return (some e) pos) (N3 ea):=by
 obtain⟨t,p1,a1⟩:=he.h;exact⟨_,aW p1,λH0 A0 G al H st σ env DD D I E h k=>a1 H0 A0 G al H st σ env _ _ I E h k.rt⟩
theorem bg{c:Expr}{tc:DT}{x y:List Stmt}(hc:xU X Y c tc)(ha:yf X Y x s)(hb:yf X Y y u):D6 X Y (.If c x y pos) (UP tc s u):=by
 obtain⟨t,p1,a1⟩:=hc.h;obtain⟨r,p2,a2⟩:=ha.h;obtain⟨w,p3,a3⟩:=hb.h;refine⟨_,bA p1 p2 p3,λH0 A0 G al H st σ env DD D I E h k=>a1 H0 A0 G al H st σ env _ _ I E h λb aM bD H1 e1 I1 q1=>?_⟩
 cases b with
 | true=>exact kT (a2 H0 A0 G bD H1 aM σ env DD D I1 (E.ext e1) (by rw[aaw rfl]at q1;exact q1) (k.go I1 e1))
 | false=>exact mi (a3 H0 A0 G bD H1 aM σ env DD D I1 (E.ext e1) (by rw[aas aaj]at q1;exact q1) (k.go I1 e1))
theorem zT{t:TE}{g:TG}{dg:qI}(h1:AE J t ea)(h2:AG J g dg):AS J (Eu t g) (CP ea dg):=λH0 A0 G al H st σ env DD D I E h k=>h1 H0 A0 G al H st σ env _ _ I E h λdv aM bD v H1 e1 I1 d1 q1=>h2 H0 A0 G bD H1 aM σ env v dv _ _ I1 (E.ext e1) d1 q1 (k.nx.go I1 e1)
theorem aI{i:Nat}{x:Str}{pos':Pos}(hN:X.N.Nodup)(hi:X.N[i]?=some x)(hx:Loc X.env.scope x)(he:cc X Y e ea)(hs:swapsWith e (some (.Name x pos')) pos.line X.env=pure false:=by rfl)(hf:X.fn x=true∨X.env.scope.names.lookup x=some .local:=by first | exact .inl rfl | exact .inr rfl | assumption):D6 X Y (.Assign [.Name x pos'] e pos) (CP ea (gN i)):=by
 obtain⟨t,p1,a1⟩:=he.h;exact⟨_,bX hN hi hx p1 hs hf,zT a1 CN⟩
theorem rR{g:qI}(he:cc X Y e ea)(hg:Qp X Y tg g)(hs:swapsWithSole [tg] e pos.line X.env=pure false:=by rfl)(hw:swappedStores [tg] e X.env=pure none:=by rfl)(h1:(assignEach [tg] X.env).map (·.2)=[assign tg X.env]:=by rfl):D6 X Y (.Assign [tg] e pos) (CP ea g):=by
 obtain⟨t,p1,a1⟩:=he.h;obtain⟨gg,p2,a2⟩:=hg.h;exact⟨_,oA p1 p2 hs hw h1,zT a1 a2⟩
theorem rS{iter:Expr}{body:List Stmt}{di:qp}{g:qI}(hp:PassesOwn (model X.prog X.w) X.A X.env X.xe)(hc:X.calm=true)(hi:Qo X Y tg iter di)(hg:Qp X Y tg g)(hb:yf X Y body s)(hs:∀x,foldedSetIterable iter X.env x=pure x:=by intro _;rfl):D6 X Y (.For tg iter body [] pos) (N4 di g s):=by
 obtain⟨t,p1,a1⟩:=hi.h;obtain⟨gg,p2,a2⟩:=hg.h;obtain⟨r,p3,a3⟩:=hb.h;refine⟨_,vn hp hc p1 p2 p3 hs,λH0 A0 G al H st σ env DD D I E h k=>a1 H0 A0 G al H st σ env _ _ I E h λJj xs ok aM bD H1 e1 I1 ir q1=>?_⟩;obtain⟨W,w0,step⟩:=q1;refine⟨λi m σ' H'=>(m=xs.length - i/\i<=xs.length)/\∃env' st' al',Ext bD H1 aM al' H' st'/\DI (kf X Y) H0 A0 G al' H' st'/\oq X.K (Fb G al' st') H' al' σ' env'/\W i env' st',⟨_,⟨rfl,abl _⟩,env,aM,bD,.refl,I1,E.ext e1,w0⟩,?_⟩;rintro i m σ2 H2 ⟨⟨em,hil⟩,gm,bM,cM,e2,I2,E2,w2⟩;obtain⟨hok,hnx,hst⟩:=step i gm bM hil w2;have IR:=ir G cM H2 bM i (λc z=>.inl z) e2 I2 hok;have xZ:=e1.trans I1 e2;by_cases hx:i < xs.length
 ·obtain⟨d0,FR⟩:∃d0,xs[i]?=some d0:=⟨xs[i],jG hx⟩;obtain⟨go,yl⟩:=IR.1 d0 FR;refine .inr ⟨go,λσ' H'=>∃m',m' < m/\(m'=xs.length - (i + 1)/\i + 1<=xs.length)/\∃env' st' al',Ext bD H1 aM al' H' st'/\DI (kf X Y) H0 A0 G al' H' st'/\oq X.K (Fb G al' st') H' al' σ' env'/\W (i + 1) env' st',λσ' H' z=>z,λx H3 hy=>?_⟩;obtain⟨s3,r3⟩:=yl x H3 hy;have I3:=I2.same s3;have Xr:Ext cM H2 bM cM H3 bM:=.same s3;refine a2 H0 A0 G cM H3 bM σ2 gm x (.dat d0) _ _ I3 (E2.ext Xr) (.d r3) (hst d0 FR) λUQ qD NX σ4 H4 e4 I4 E4 q4=>?_
  have UR:=Xr.trans I3 e4;have RE:=e2.trans I2 UR;refine a3 H0 A0 G NX H4 qD σ4 UQ _ _ I4 E4 q4 ⟨?_,k.rt.go I4 (xZ.trans I2 UR),k.nx.go I4 (xZ.trans I2 UR),?_⟩
  ·intro env' st' al' σ' H' e' I' E' w';exact⟨xs.length - (i + 1),by omega,⟨rfl,hx⟩,env',st',al',RE.trans I4 e',I',E',w'⟩
  ·intro env' st' al' σ' H' e' I' E' w';exact⟨xs.length - (i + 1),by omega,⟨rfl,hx⟩,env',st',al',RE.trans I4 e',I',E',w'⟩
 ·have ei:i=xs.length:=by omega
  exact .inl ⟨IR.2 (by omega) (by omega),k.nx gm bM cM σ2 H2 xZ I2 E2 (hnx ei)⟩
def rT(X:Cx)(Y:YK)(body:List Stmt)(DD:fE)(env:bY)(st:aR):Prop:=∃s,yf X Y body s/\s DD env st
theorem aH{DD:fE}{env:bY}{st:aR}(h:D6 X Y D7 s)(k:∀R:bY->aR->Prop,(∀env' st',rT X Y rest DD env' st'->R env' st')->s {DD with nx:=R} env st):rT X Y (D7::rest) DD env st:=by
 obtain⟨t,p1,a1⟩:=h.h;refine⟨FT s (λDD env st=>rT X Y rest DD env st),⟨ql t (λD σ H=>∃r,oo X rest r/\r D σ H),qK p1 (λpins s σ H D I ⟨_,hu,q⟩=>hu pins s σ H D I q),FV a1 λH0 A0 G al H st σ env DD D I E h k=>?_⟩,k _ λ_ _ z=>z⟩;obtain⟨s2,⟨r,p2,a2⟩,q⟩:=h;exact⟨r,p2,a2 H0 A0 G al H st σ env DD D I E q k⟩
theorem du{DD:fE}{env:bY}{st:aR}(h:D6 X Y D7 s)(k:s DD env st):rT X Y [D7] DD env st:=⟨s,aF h,k⟩
theorem uX{N:List Str}{body:List Stmt}{vs:List V}{ds:List PyData}{H:Hp}{Q:VK}{P:Addr->Prop}(hP:∀c,P c->∃o,H c=some o/\kJ o)(hv:cI (aX X.K P H) vs ds)(hy:Y.Y H (λ_=>False) P)
  (h:rT X Y body {nx:=λ_ _=>∀v H',bf H H'->aX X.K P H' v .none->Q v H',rt:=λdv st=>mq dv st λd _=>∀v H',bf H H'->aX X.K P H' v d->Q v H'} (ds.map (λd=>some (DV.dat d))++List.replicate (N.length - ds.length) none) []) :
  ∃t,oo X body t/\t {nx:=λ_ H'=>Q .non H',rt:=Q} (start N vs) H:=by
 obtain⟨s,⟨t,p1,a1⟩,q⟩:=h;have lv:∀c,¬ Lv [] [] c:=λc ⟨k,xs,ce,h,_⟩=>by simp at h
 have I:DI (kf X Y) H (λ_=>False) P [] H []:=⟨rfl,List.nodup_nil,λ_ h=>by simp at h,λk a c h=>by simp at h,λc o _ e=>e,λ_ h=>by simp at h,λ_ h=>by simp at h,hP,hy⟩
 have fb:∀c,Fb P [] [] c->P c:=λc z=>by
  rcases z with z | z
  ·exact z
  ·exact absurd z (lv c)
 refine⟨t,p1,a1 H (λ_=>False) P [] H [] _ _ _ _ I ⟨by unfold start;simp[hv.1],λi dv hi=>?_⟩ q ⟨λenv' st' al' σ' H' e' I' E' q'=>?_,λdv st' al' v H' e' I' d' q'=>?_,λenv' st' al' σ' H' e' I' E' q'=>q'.elim,λenv' st' al' σ' H' e' I' E' q'=>q'.elim⟩⟩
 ·by_cases l:i < ds.length
  ·rw[List.getElem?_append_left (by simpa using l),List.getElem?_map,jG l]at hi;cases hi;obtain⟨y,hy,hr⟩:=hv.at (jG l);refine⟨y,?_,.d (aX.sub hr fb)⟩;unfold start;rw[List.getElem?_append_left (by rw[List.length_map,hv.1];exact l),List.getElem?_map,hy];rfl
  ·rw[List.getElem?_append_right (by simp;omega)]at hi;rw[List.getElem?_replicate]at hi;split at hi
   ·cases hi
   ·cases hi
 ·exact q' .non H' (λc o e=>I'.fr c o id e) .non
 ·obtain⟨d,bM,_,I2,F,q2⟩:=mF I' d' q';exact q2 v H' (λc o e=>I'.fr c o id e) (aX.sub F λc z=>.inl z)
theorem fF{N:List Str}{body:List Stmt}{vs:List V}{ds:List PyData}{H:Hp}{Q:VK}{P:Addr->Prop}(hP:∀c,P c->∃o,H c=some o/\kJ o)(hv:cI (aX X.K P H) vs ds)
  (h:rT X y0 body {nx:=λ_ _=>∀v H',bf H H'->aX X.K P H' v .none->Q v H',rt:=λdv st=>mq dv st λd _=>∀v H',bf H H'->aX X.K P H' v d->Q v H'} (ds.map (λd=>some (DV.dat d))++List.replicate (N.length - ds.length) none) []) :
  ∃t,oo X body t/\t {nx:=λ_ H'=>Q .non H',rt:=Q} (start N vs) H:=uX hP hv trivial h
end
@[reducible] def RN:DV->String
 | .dat .none=>"NoneType"
 | .dat (.bool _)=>"bool"
 | .dat (.int _)=>"int"
 | .dat (.str _)=>"str"
 | .dat (.list _)=>"list"
 | .dat (.tuple _)=>"tuple"
 | .dat (.dict _)=>"dict"
 | .ref _=>"list"
def IsT(K:aV)(n:String)(f:String->Bool):Prop:=∀t∈(["NoneType","bool","int","str","list","tuple"]:List String),PySem.W.kitOne K (.type t) (.type n)=some (f t)
@[reducible] def JY:String->Bool:=λt=>t == "int"||t == "bool"
@[reducible] def qa(n:String):String->Bool:=λt=>t == n
@[reducible] def N5(f:String->Bool)(ea:DX)(env:bY)(st:aR)(Q:DC):Prop:=ea env st λx aM=>match x with
 | .dat d=>Q (.dat (.bool (f (RN (.dat d))))) aM
 | .ref k=>N2 aM k=true/\Q (.dat (.bool (f "list"))) aM
theorem gZ.ty{K:aV}{P:Addr->Prop}{al:List (List Addr)}{H:Hp}{v:V}{d:PyData}(h:gZ K P H al v (.dat d)):Js K H v (RN (.dat d))/\RN (.dat d)∈(["NoneType","bool","int","str","list","tuple"]:List String):=by
 cases d with
 | none=>rw[aX.j7 h];exact⟨.non,by simp⟩
 | bool b=>rw[aX.jN h];exact⟨.bl _,by simp⟩
 | int b=>rw[aX.bu h];exact⟨.int _,by simp⟩
 | str b=>rw[aX.bR h];exact⟨.str _,by simp⟩
 | list ds=>obtain⟨b,ys,rfl,g2,_⟩:=aX.dZ h;exact⟨.lst g2,by simp⟩
 | tuple ds=>obtain⟨b,ys,rfl,g2,_⟩:=aX.hV h;exact⟨.tup g2,by simp⟩
 | dict kv=>have h:bz K _ v (.dict kv):=h;cases h
theorem v3{X:Cx}{Y:YK}{a:Expr}{ea:DX}{pos p p2:Pos}{T:Str}{n:String}{f:String->Bool}(hf:IsT X.K n f)(hg:Gl X "isinstance")(hm:X.mg "isinstance"=none)(ZG:Gl X T)(ZH:X.mg T=none)(hb:bootBuiltins T=some (.type n))(ha:cc X Y a ea)(hn:T≠"__name__":=by decide)(hd:(T == ("__debug__" : Str))=false:=by decide)
  (h1:starEach [a,.Name T p2] X.env=(false,eval a X.env)::starEach [.Name T p2] X.env:=by rfl):cc X Y (.Call (.Name "isinstance" p) [a,.Name T p2] [] pos) (N5 f ea):=by
 obtain⟨t,p1,a1⟩:=ha.h;refine⟨_,qZ EZ hg hm tQ (pK p1 (pK (IX (v:=.ty n) ZG ZH hb rfl hn hd) pN rfl) h1) (by decide) (by decide) h1 rfl,λH0 A0 G al H st s env Q R I E q k=>a1 H0 A0 G al H st s env _ _ I E q λx aM bD v H1 e1 I1 d1 q1=>?_⟩;split at q1
 ·obtain⟨ty,mem⟩:=d1.ty;exact⟨v,n,_,_,rfl,ty,hf _ mem,(k.go I1 e1).here I1 (.d (.bl _)) q1⟩
 ·obtain⟨b,ys,rfl,g⟩:=vZ I1 d1 q1.1;exact⟨_,n,"list",_,rfl,.lst g,hf _ (by simp),(k.go I1 e1).here I1 (.d (.bl _)) q1.2⟩
theorem v7{K:aV}{n:String}{f:String->Bool}(h1:PySem.W.kitOne K (.type "NoneType") (.type n)=some (f "NoneType"))(h2:PySem.W.kitOne K (.type "bool") (.type n)=some (f "bool"))(h3:PySem.W.kitOne K (.type "int") (.type n)=some (f "int"))(h4:PySem.W.kitOne K (.type "str") (.type n)=some (f "str"))(h5:PySem.W.kitOne K (.type "list") (.type n)=some (f "list"))(h6:PySem.W.kitOne K (.type "tuple") (.type n)=some (f "tuple")):IsT K n f:=λt ht=>by
 simp only[List.mem_cons,List.not_mem_nil,or_false]at ht;rcases ht with rfl | rfl | rfl | rfl | rfl | rfl<;>assumption
@[reducible] def wa(o1 o2:JD)(ea eb ec:DX)(env:bY)(st:aR)(Q:DC):Prop:=ea env st λx aM=>eb env aM λy bM=>o1 x y bM λz jJ=>match z with
 | .dat (.bool b)=>if b=true then ec env jJ λw qD=>o2 y w qD Q else Q (.dat (.bool false)) jJ
 | _=>False
theorem FW{J:KF}{r r':R2}{o1 o2:JD}{ta tb tc:TE}{ea eb ec:DX}(h1:AO J r o1)(h2:AO J r' o2)(ha:AE J ta ea)(hb:AE J tb eb)(hc:AE J tc ec):AE J (EF r r' ta tb tc) (wa o1 o2 ea eb ec):=λH0 A0 G al H st s env Q R I E q k=>by
 refine ha H0 A0 G al H st s env _ _ I E q λx aM bD v H1 e1 I1 d1 q1=>?_
 refine hb H0 A0 G bD H1 aM s env _ _ I1 (E.ext e1) q1 λy bM cM u H2 e2 I2 d2 q2=>?_
 have xZ:=e1.trans I1 e2;refine h1 H0 A0 G cM H2 bM v u x y _ _ I2 (d1.ext e2) d2 q2 λz jJ To w H3 e3 I3 d3 q3=>?_
 have RM:=xZ.trans I2 e3;split at q3
 ·rename_i b;rw[aX.jN d3];refine⟨_,rfl,?_⟩
  cases b with
  | false=>exact mi ((k.go I3 RM).here I3 (.d (.bl _)) (by rw[aas aaj]at q3;exact q3))
  | true =>
   rw[aaw rfl]at q3;refine kT (hc H0 A0 G To H3 jJ s env _ _ I3 (E.ext RM) q3 λw qD NX u4 H4 e4 I4 d4 q4=>?_);exact h2 H0 A0 G NX H4 qD u u4 y w Q R I4 ((d2.ext e3).ext e4) d4 q4 (k.go I4 (RM.trans I3 e4))
 ·exact q3.elim
theorem FX{X:Cx}{Y:YK}{a b c:Expr}{ea eb ec:DX}{pos:Pos}{op op':CmpOp}{r r':R2}{o1 o2:JD}(ho:jH X (compareOp op) r)(ho':jH X (compareOp op') r')(h1:AO (kf X Y) r o1)(h2:AO (kf X Y) r' o2)(ha:cc X Y a ea)(hb:cc X Y b eb)(hc:cc X Y c ec)
  (hm:lastMarks [op,op'] [b,c]=false:=by with_unfolding_all rfl):xU X Y (.Compare a [op,op'] [b,c] pos) (D5 (wa o1 o2 ea eb ec)):=by
 obtain⟨ta,p1,a1⟩:=ha.h;obtain⟨tb,p2,a2⟩:=hb.h;obtain⟨tc,p3,a3⟩:=hc.h;exact⟨_,EG ho ho' p1 p2 p3 hm,zP (FW h1 h2 a1 a2 a3)⟩
theorem ef{c:Prop}[Decidable c]{A B:Prop}(h1:c->A)(h2:¬ c->B):if decide c=true then A else B:=by
 by_cases e:c
 ·rw[aaw (abT e)];exact h1 e
 ·rw[aas (λz=>e (of_decide_eq_true z))];exact h2 e
theorem zU{α:Type}{xs:List α}{j:Nat}{x:α}(h:xs[j]?=some x):p7 xs (j:Int)=some x:=by
 have hl:=(ft h).1;unfold p7 ER;rw[if_pos (by omega),if_pos (by omega)];show xs[((j:Nat):Int).toNat]?=some x;rw[Int.toNat_natCast];exact h
theorem lZ{α:Type}{xs:List α}{n:Int}(h:(xs.length:Int)=n)(h0:0 < n)(i:Int):∃x,x∈xs/\p7 xs (i % n)=some x:=by
 have a:=Int.emod_nonneg i (b:=n) (by omega);have b:=Int.emod_lt_of_pos i h0;obtain⟨j,hj⟩:∃j:Nat,i % n=(j:Int):=⟨(i % n).toNat,by omega⟩;have hl:j < xs.length:=by omega
 rw[hj];exact⟨xs[j],ab7 hl,zU (jG hl)⟩
theorem yg{K:aV}{P:Addr->Prop}{H:Hp}{ns:List Int}:cI (aX K P H) (ns.map V.int) (ns.map PyData.int):=⟨by simp,λi y x hy hx=>by
 rw[aaO]at hy hx
 cases q:ns[i]? with
 | none=>rw[q]at hy;cases hy
 | some n=>rw[q]at hy hx;cases hy;cases hx;exact .int _⟩
theorem BE{α β:Type}{f:α->β}{l:List α}{j:Nat}{a:α}(h:l[j]?=some a):p7 (l.map f) (j:Int)=some (f a):=zU (by rw[aaO,h];rfl)
@[reducible] def N6(n:Nat)(ea:DX)(env:bY)(st:aR)(Q:DC):Prop:=ea env st λx aM=>match nA aM x with
 | some ds=>match ds[n]? with
  | some d=>Q (.dat d) aM
  | none=>False
 | none=>False
theorem av{X:Cx}{Y:YK}{a:Expr}{ea:DX}{pos p:Pos}{n:Nat}{j}(ha:cc X Y a ea)(hs:vz (.Constant (.int (n:Int)) j p):=by exact λ_ _=>rfl):cc X Y (.Subscript a (.Constant (.int (n:Int)) j p) pos) (N6 n ea):=by
 obtain⟨ta,p1,a1⟩:=ha.h;refine⟨_,aQ ES p1 pI hs,λH0 A0 G al H st s env Q R I E q k=>a1 H0 A0 G al H st s env _ _ I E q λx aM bD v H1 e1 I1 d1 q1=>?_⟩;split at q1
 ·rename_i ds e;split at q1
  ·rename_i d hd;obtain⟨b,ys,rfl,g1,g2⟩:=d1.Rw I1 e;obtain⟨z,g3,g4⟩:=g2.p7 (zU hd);have kk:=(k.go I1 e1).here I1 (.d g4) q1;rcases g1 with g1 | g1
   ·exact .inl ⟨b,ys,_,z,rfl,rfl,g1,g3,kk⟩
   ·exact .inr (.inl ⟨b,ys,_,z,rfl,rfl,g1,g3,kk⟩)
  ·exact q1.elim
 ·exact q1.elim
structure Sh(n:Nat)(d:PyData):Prop where
 cl:d.canLay0=true
 dp:d.depth<=n
theorem Sh.up{n m:Nat}{d:PyData}(h:Sh n d)(l:n<=m):Sh m d:=⟨h.cl,aaF h.dp l⟩
theorem oP{n:Nat}{i:Int}:Sh n (.int i):=⟨rfl,abl _⟩
theorem j9{n:Nat}{x:Str}(h:PyData.canLay0 (.str x)=true:=by decide +kernel):Sh n (.str x):=⟨h,abl _⟩
theorem rV{n:Nat}:∀{ds:List PyData},(∀d∈ds,Sh n d)->PyData.canLayAll0 ds=true/\PyData.depthAll ds<=n
 | [],_=>⟨rfl,abl _⟩
 | d::r,h=>by
  obtain⟨h1,h2⟩:=rV (ds:=r) λx hx=>h x (aaB _ hx)
  have hd:=h d aat;refine⟨?_,?_⟩
  ·show(PyData.canLay0 d&&PyData.canLayAll0 r)=true;rw[hd.cl,h1];rfl
  ·show max (PyData.depth d) (PyData.depthAll r)<=n;exact Nat.max_le.mpr ⟨hd.dp,h2⟩
theorem eG{n:Nat}{ds:List PyData}(h:∀d∈ds,Sh n d):Sh (n + 1) (.list ds):=⟨(rV h).1,acB (rV h).2⟩
theorem rW{n:Nat}{ds:List PyData}(h:∀d∈ds,Sh n d):Sh (n + 1) (.tuple ds):=⟨(rV h).1,acB (rV h).2⟩
theorem bJ{n:Nat}:∀d∈([]:List PyData),Sh n d:=λ_ h=>nomatch h
theorem aK{n:Nat}{x:PyData}{ds:List PyData}(h:Sh n x)(r:∀d∈ds,Sh n d):∀d∈x::ds,Sh n d:=λd hd=>by
 rcases aaE.mp hd with z | z
 ·rw[z];exact h
 ·exact r d z
theorem zV{α:Type}{n:Nat}{f:α->PyData}{l:List α}(h:∀a∈l,Sh n (f a)):∀d∈l.map f,Sh n d:=λd hd=>by
 obtain⟨a,ha,rfl⟩:=acG.mp hd;exact h a ha
theorem Sh.ok{n:Nat}{d:PyData}(h:Sh n d)(l:n<=64:=by decide):PySem.SeqAt.shaped d=true:=by
 show(d.canLay0&&decide (d.depth<=64))=true;rw[h.cl,abT (aaF h.dp l)];rfl
theorem Sh.self{n:Nat}{d:PyData}(h:Sh n d):PyData.eqv d d=true:=PySem.SeqAt.eqv_refl _ h.cl
def sub{α:Type}:List Nat->List α->List α
 | [],_=>[]
 | k::ks,xs=>match xs[k]? with
  | some x=>x::sub ks xs
  | none=>sub ks xs
def nk{α:Type}:List Nat->List α->List α->List α
 | k::ks,y::ys,xs=>nk ks ys (xs.set k y)
 | _,_,xs=>xs
theorem yh{α:Type}{k:Nat}{ks:List Nat}{xs:List α}{x:α}(h:xs[k]?=some x):sub (k::ks) xs=x::sub ks xs:=by
 show(match xs[k]? with | some x=>x::sub ks xs | none=>sub ks xs)=_;rw[h]
theorem dW{α:Type}{xs:List α}:∀{ks:List Nat},(∀k∈ks,k < xs.length)->∀(i:Nat) (y:α),(sub ks xs)[i]?=some y↔∃k,ks[i]?=some k/\xs[k]?=some y
 | [],_,i,y=>⟨λh=>by simp[sub]at h,λ⟨k,h,_⟩=>by simp at h⟩
 | k::ks,h,i,y=>by
  rw[yh (jG (h k aat))]
  cases i with
  | zero =>
   rw[abK];exact⟨λe=>⟨k,rfl,by rw[jG (h k aat)];exact e⟩,λ⟨j,e,q⟩=>by rw[abK]at e;cases e;rw[jG (h k aat)]at q;exact q⟩
  | succ i =>
   rw[ab2,ab2];exact dW (λj hj=>h j (aaB _ hj)) i y
theorem sub_len{α:Type}{xs:List α}:∀{ks:List Nat},(∀k∈ks,k < xs.length)->(sub ks xs).length=ks.length
 | [],_=>rfl
 | k::ks,h=>by
  rw[yh (jG (h k aat)),aaJ,aaJ,sub_len λj hj=>h j (aaB _ hj)]
theorem wb{α:Type}:∀{ks:List Nat} {ys xs:List α},(nk ks ys xs).length=xs.length
 | [],[],_=>rfl
 | [],_::_,_=>rfl
 | _::_,[],_=>rfl
 | k::ks,y::ys,xs=>by
  show(nk ks ys (xs.set k y)).length=_;rw[wb,aaX]
theorem fG{α:Type}:∀{ks:List Nat} {ys xs:List α} {j:Nat},j∉ks->(nk ks ys xs)[j]?=xs[j]?
 | [],[],_,_,_=>rfl
 | [],_::_,_,_,_=>rfl
 | _::_,[],_,_,_=>rfl
 | k::ks,y::ys,xs,j,h=>by
  show(nk ks ys (xs.set k y))[j]?=_;rw[fG λz=>h (aaB _ z),aav λe=>h (by rw[← e];exact aat)]
theorem zW{α:Type}:∀{ks:List Nat} {ys xs:List α} {i k:Nat} {y:α},ks.Nodup->ks[i]?=some k->ys[i]?=some y->k < xs.length->(nk ks ys xs)[k]?=some y
 | [],_,_,i,k,y,_,h,_,_=>by simp at h
 | _::_,[],_,i,k,y,_,_,h,_=>by simp at h
 | k0::ks,y0::ys,xs,i,k,y,nd,h1,h2,h3=>by
  show(nk ks ys (xs.set k0 y0))[k]?=_
  cases i with
  | zero =>
   rw[abK]at h1 h2;cases h1;cases h2;rw[fG (acK.mp nd).1,aal h3]
  | succ i =>
   rw[ab2]at h1 h2;exact zW (acK.mp nd).2 h1 h2 (by rw[aaX];exact h3)
def Ce.nd:Ce->Prop
 | .deep _=>False
 | _=>True
section
variable {K:aV} {J:KF} {H0 H H1:Hp} {A0 G:Addr->Prop} {al bD:List (List Addr)} {st aM:aR} {ks:List Nat}
def Gc(G:Addr->Prop)(al:List (List Addr))(st:aR)(ks:List Nat):Addr->Prop:=λc=>Fb G al st c/\c∉(sub ks al).flatten
theorem rX(hk:∀k∈ks,k < al.length){c:Addr}:c∈(sub ks al).flatten↔∃k f,k∈ks/\al[k]?=some f/\c∈f:=by
 constructor
 ·intro h;obtain⟨f,hf,hc⟩:=abF.mp h;obtain⟨i,hi⟩:=aa2 hf;obtain⟨k,h1,h2⟩:=(dW hk i f).mp hi;exact⟨k,f,aaG h1,h2,hc⟩
 ·rintro⟨k,f,h1,h2,h3⟩;obtain⟨i,hi⟩:=aa2 h1;exact cJ ((dW hk i f).mpr ⟨k,hi,h2⟩) h3
theorem wc(I:DI J H0 A0 G al H st)(hk:∀k∈ks,k < al.length){c:Addr}(h:Lv (sub ks al) (sub ks st) c):Lv al st c:=by
 obtain⟨i,f,ce,h1,h2,h3,h4⟩:=h;obtain⟨k,e1,e2⟩:=(dW hk i f).mp h1;obtain⟨k',e3,e4⟩:=(dW (λj hj=>by rw[← I.len];exact hk j hj) i ce).mp h3;rw[e1]at e3;cases e3;exact⟨k,f,ce,e2,h2,e4,h4⟩
theorem BG(I:DI J H0 A0 G al H st)(hk:∀k∈ks,k < al.length){c:Addr}(h:Fb (Gc G al st ks) (sub ks al) (sub ks st) c):Fb G al st c:=by
 rcases h with z | z
 ·exact z.1
 ·exact .inr (wc I hk z)
theorem D4.Mq{P P':Addr->Prop}{fp:List Addr}{c:Ce}{al al':List (List Addr)}(h:D4 K P H al fp c)(n:c.nd)(s:∀c,P' c->P c)(hP:∀c,P c->∃o,H c=some o/\kJ o):D4 K P' H al' fp c:=by
 cases c with
 | live xs =>
  obtain⟨a,ys,e1,e2,e3⟩:=h;exact⟨a,ys,e1,e2,e3.imp λy x r=>r.sub s⟩
 | froz ds =>
  obtain⟨a,e1,e2⟩:=h;exact⟨a,e1,e2.sub s⟩
 | deep xs=>exact n.elim
 | obj o=>exact⟨h.1,o.keep K P H fp P' H h.2 hP (λ_ _ _ e=>e) (j5 λc o n e=>⟨λz=>n (s c z),e⟩)⟩
theorem DI.lend(I:DI J H0 A0 G al H st)(nd:ks.Nodup)(hk:∀k∈ks,k < al.length)(nn:∀k∈ks,∀c,st[k]?=some c->c.nd):DI (k0 J.K) H (λc=>c∈(sub ks al).flatten) (Gc G al st ks) (sub ks al) H (sub ks st):=by
 have hk':∀k∈ks,k < st.length:=λj hj=>by rw[← I.len];exact hk j hj
 refine⟨by rw[sub_len hk,sub_len hk'],?_,λb hb=>?_,λi f ce h1 h2=>?_,.refl,λb hb=>.inl hb,λb hb z=>z.2 hb,λb hb=>I.nz hb.1,trivial⟩
 ·unfold List.Nodup;rw[List.pairwise_flatten,List.pairwise_iff_getElem];refine⟨λf hf=>?_,λi j hi hj hij x hx y hy e=>?_⟩
  ·obtain⟨i,hi⟩:=aa2 hf;obtain⟨k,_,h2⟩:=(dW hk i f).mp hi;exact(abU.mp I.nd).1 f (aaG h2)
  ·subst e;obtain⟨k1,a1,b1⟩:=(dW hk i _).mp (jG hi);obtain⟨k2,a2,b2⟩:=(dW hk j _).mp (jG hj);have q:=fC I.nd b1 b2 hx hy;subst q;obtain⟨p1,q1⟩:=ft a1;obtain⟨p2,q2⟩:=ft a2;exact absurd (q1.trans q2.symm) ((List.pairwise_iff_getElem.mp nd) i j p1 p2 hij)
 ·obtain⟨k,f,_,h2,h3⟩:=(rX hk).mp hb;exact I.ok b (cJ h2 h3)
 ·obtain⟨k,e1,e2⟩:=(dW hk i f).mp h1;obtain⟨k',e3,e4⟩:=(dW hk' i ce).mp h2;rw[e1]at e3;cases e3;exact(I.cel k f ce e2 e4).Mq (nn k (aaG e1) ce e4) (λc hc=>BG I hk hc) λc hc=>I.nz hc
theorem DI.back(I:DI J H0 A0 G al H st)(nd:ks.Nodup)(hk:∀k∈ks,k < al.length)(Jj:DI (k0 J.K) H (λc=>c∈(sub ks al).flatten) (Gc G al st ks) bD H1 aM)(e:Ext (sub ks al) H (sub ks st) bD H1 aM)(hl:ks.length<=bD.length)(nn:∀i < ks.length,∀c,aM[i]?=some c->c.nd):
  Ext al H st (nk ks bD al) H1 (nk ks aM st)/\DI J H0 A0 G (nk ks bD al) H1 (nk ks aM st)/\∀c,Fb G (nk ks bD al) (nk ks aM st) c->Fb (Gc G al st ks) bD aM c:=by
 have hk':∀k∈ks,k < st.length:=λj hj=>by rw[← I.len];exact hk j hj
 have JZ:∀k∈ks,∃(i:Nat) (f:List Addr) (c:Ce),ks[i]?=some k/\i < ks.length/\bD[i]?=some f/\aM[i]?=some c/\(nk ks bD al)[k]?=some f/\(nk ks aM st)[k]?=some c:=λk h=>by
  obtain⟨i,hi⟩:=aa2 h;obtain⟨hil,_⟩:=ft hi;have h1:=jG (l:=bD) (i:=i) (by omega);have h2:=jG (l:=aM) (i:=i) (by rw[← Jj.len];omega);exact⟨i,_,_,hi,hil,h1,h2,zW nd hi h1 (hk k h),zW nd hi h2 (hk' k h)⟩
 have lentIn:∀{c:Addr},c∈(sub ks al).flatten->c∈al.flatten:=λh=>by
  obtain⟨k,f,_,h2,h3⟩:=(rX hk).mp h;exact cJ h2 h3
 have outs:∀{j:Nat} {f:List Addr} {c:Addr},j∉ks->al[j]?=some f->c∈f->c∉(sub ks al).flatten:=λhj hf hc h=>by
  obtain⟨k,g,h1,h2,h3⟩:=(rX hk).mp h;exact hj (by rw[fC I.nd hf h2 hc h3];exact h1)
 have parted:∀b∈(nk ks bD al).flatten,(∃(i:Nat) (f:List Addr),i < ks.length/\bD[i]?=some f/\b∈f)∨∃(j:Nat) (f:List Addr),j∉ks/\al[j]?=some f/\b∈f:=λb hb=>by
  obtain⟨f,hf,hbf⟩:=abF.mp hb;obtain⟨j,hj⟩:=aa2 hf;by_cases m:j∈ks
  ·obtain⟨i,g,c,_,h2,h3,_,h5,_⟩:=JZ j m;rw[h5]at hj;cases hj;exact .inl ⟨i,f,h2,h3,hbf⟩
  ·rw[fG m]at hj;exact .inr ⟨j,f,m,hj,hbf⟩
 have mem:∀b∈(nk ks bD al).flatten,b∈al.flatten∨H b=none:=λb hb=>by
  rcases parted b hb with⟨i,f,_,h2,h3⟩ | ⟨j,f,_,h2,h3⟩
  ·rcases e.nws b (cJ h2 h3)with z | z
   ·exact .inl (lentIn z)
   ·exact .inr z
  ·exact .inl (cJ h2 h3)
 have keepOut:∀{b:Addr} {o:HO},b∉(sub ks al).flatten->H b=some o->H1 b=some o:=λn q=>Jj.fr _ _ n q
 have E:Ext al H st (nk ks bD al) H1 (nk ks aM st):=⟨λb o n q=>e.keep b o (λz=>n (wc I hk z)) q,λj a r h=>by
   by_cases m:j∈ks
   ·obtain⟨i,f,c,h1,_,h3,_,h5,_⟩:=JZ j m;obtain⟨r',q⟩:=e.pre i a r ((dW hk i _).mpr ⟨j,h1,h⟩);rw[h3]at q;cases q;exact⟨r',h5⟩
   ·exact⟨r,by rw[fG m];exact h⟩,mem,λb ⟨j,f,ce,h1,h2,h3,h4⟩=>by
   by_cases m:j∈ks
   ·obtain⟨i,g,c,_,_,q3,q4,q5,q6⟩:=JZ j m;rw[q5]at h1;cases h1;rw[q6]at h3;cases h3;rcases e.lv b ⟨i,f,ce,q3,h2,q4,h4⟩with z | z
    ·exact .inl (wc I hk z)
    ·exact .inr z
   ·rw[fG m]at h1 h3;exact .inl ⟨j,f,ce,h1,h2,h3,h4⟩⟩
 have fb:∀c,Fb G (nk ks bD al) (nk ks aM st) c->Fb (Gc G al st ks) bD aM c:=λc h=>by
  rcases h with z | ⟨j,f,ce,h1,h2,h3,h4⟩
  ·exact .inl ⟨.inl z,λy=>I.gd c (lentIn y) z⟩
  ·by_cases m:j∈ks
   ·obtain⟨i,g,c',_,_,q3,q4,q5,q6⟩:=JZ j m;rw[q5]at h1;cases h1;rw[q6]at h3;cases h3;exact .inr ⟨i,f,ce,q3,h2,q4,h4⟩
   ·rw[fG m]at h1 h3;exact .inl ⟨.inr ⟨j,f,ce,h1,h2,h3,h4⟩,outs m h1 h2⟩
 refine⟨E,⟨by rw[wb,wb];exact I.len,?_,λb hb=>?_,λj f ce h1 h2=>?_,λb o n q=>?_,λb hb=>?_,λb hb z=>?_,λb hb=>?_,I.lk⟩,fb⟩
 ·unfold List.Nodup;rw[List.pairwise_flatten,List.pairwise_iff_getElem]
  have far:∀(i j:Nat) f g x,bD[i]?=some f->j∉ks->al[j]?=some g->x∈f->x∈g->False:=λi j f g x h1 h2 h3 h4 h5=>by
   rcases e.nws x (cJ h1 h4)with z | z
   ·exact outs h2 h3 h5 z
   ·obtain⟨o,q⟩:=I.ok x (cJ h3 h5);rw[z]at q;cases q
  refine⟨λf hf=>?_,λi j hi hj hij x hx y hy w=>?_⟩
  ·obtain⟨j,hj⟩:=aa2 hf;by_cases m:j∈ks
   ·obtain⟨i,g,c,_,_,h3,_,h5,_⟩:=JZ j m;rw[h5]at hj;cases hj;exact(abU.mp Jj.nd).1 f (aaG h3)
   ·rw[fG m]at hj;exact(abU.mp I.nd).1 f (aaG hj)
  ·subst w;have gi:=jG hi;have gj:=jG hj;by_cases m1:i∈ks
   ·obtain⟨i1,f1,c1,a1,_,b1,_,d1,_⟩:=JZ i m1;rw[d1]at gi;have hx':x∈f1:=by rw[aak gi];exact hx
    by_cases m2:j∈ks
    ·obtain⟨i2,f2,c2,a2,_,b2,_,d2,_⟩:=JZ j m2;rw[d2]at gj;have hy':x∈f2:=by rw[aak gj];exact hy
     have q:=fC Jj.nd b1 b2 hx' hy';subst q;rw[a1]at a2;cases a2;omega
    ·rw[fG m2]at gj;exact far i1 j f1 _ x b1 m2 gj hx' hy
   ·rw[fG m1]at gi;by_cases m2:j∈ks
    ·obtain⟨i2,f2,c2,a2,_,b2,_,d2,_⟩:=JZ j m2;rw[d2]at gj;have hy':x∈f2:=by rw[aak gj];exact hy
     exact far i2 i f2 _ x b2 m1 gi hy' hx
    ·rw[fG m2]at gj;exact absurd (fC I.nd gi gj hx hy) (by omega)
 ·rcases parted b hb with⟨i,f,_,h2,h3⟩ | ⟨j,f,h1,h2,h3⟩
  ·exact Jj.ok b (cJ h2 h3)
  ·obtain⟨o,q⟩:=I.ok b (cJ h2 h3);exact⟨o,keepOut (outs h1 h2 h3) q⟩
 ·by_cases m:j∈ks
  ·obtain⟨i,g,c,_,q2,q3,q4,q5,q6⟩:=JZ j m;rw[q5]at h1;cases h1;rw[q6]at h2;cases h2;exact(Jj.cel i f ce q3 q4).Mq (nn i q2 ce q4) fb λc hc=>Jj.nz hc
  ·rw[fG m]at h1 h2;exact(I.cel j f ce h1 h2).ext E (λc hc=>I.nz hc) λ_ b hb o q=>keepOut (outs m h1 hb) q
 ·by_cases w:b∈(sub ks al).flatten
  ·rcases I.nw b (lentIn w)with y | y
   ·exact absurd y n
   ·rw[y]at q;cases q
  ·exact keepOut w (I.fr b o n q)
 ·rcases mem b hb with z | z
  ·exact I.nw b z
  ·exact I.n0 z
 ·rcases mem b hb with w | w
  ·exact I.gd b w z
  ·exact I.JC w (.inl z)
 ·obtain⟨o,q,m⟩:=I.gs b hb;exact⟨o,keepOut (λw=>I.gd b (lentIn w) hb) q,m⟩
end
abbrev J0:=List DV->aR->(PyData->aR->Prop)->Prop
def BH(K:aV)(G:Addr->Prop)(al:List (List Addr))(H:Hp)(st:aR)(Q:VK)(d:PyData)(st':aR):Prop:=∀(v:V) (H':Hp) (al':List (List Addr)) (own:aR),DI (k0 K) H (λc=>c∈al.flatten) G al' H' (st'++own)->Ext al H st al' H' (st'++own)->aX K (Fb G al' (st'++own)) H' v d->Q v H'
def US(K:aV)(T:J0):Sp:=λvs H Q _=>∃(G:Addr->Prop) (al:List (List Addr)) (st:aR) (xs:List DV),DI (k0 K) H (λc=>c∈al.flatten) G al H st/\cI (gZ K (Fb G al st) H al) vs xs/\T xs st (BH K G al H st Q)
def FY(K:aV)(sp:Sp)(T:J0):Prop:=∀(vs:List V) (H:Hp) (Q:VK) (G:Addr->Prop) (al:List (List Addr)) (st:aR) (xs:List DV),DI (k0 K) H (λc=>c∈al.flatten) G al H st->cI (gZ K (Fb G al st) H al) vs xs->T xs st (BH K G al H st Q)->sp vs H Q E0
theorem FZ{K:aV}{T:J0}:FY K (US K T) T:=λ_ _ _ G al st xs h1 h2 h3=>⟨G,al,st,xs,h1,h2,h3⟩
def BI(T:J0):Prop:=∀xs st (Q Q':PyData->aR->Prop),(∀d s,Q d s->Q' d s)->T xs st Q->T xs st Q'
@[reducible] def zX:List Bool->List DV->Option (List Nat)
 | [],[]=>some []
 | true::js,.ref k::xs=>match zX js xs with
  | some ks=>some (k::ks)
  | none=>none
 | false::js,.dat _::xs=>zX js xs
 | _,_=>none
@[reducible] def zY:Nat->List Bool->List DV->List DV
 | p,true::js,_::xs=>.ref p::zY (p + 1) js xs
 | p,false::js,x::xs=>x::zY p js xs
 | _,_,_=>[]
@[reducible] def Qq:aR->Bool
 | []=>true
 | .deep _::_=>false
 | _::r=>Qq r
@[reducible] def oQ(js:List Bool)(T:J0)(xs:List DV)(st:aR)(Q:DC):Prop:=match zX js xs with
 | some ks=>ks.Nodup/\(∀k∈ks,k < st.length)/\Qq (sub ks st)=true/\T (zY 0 js xs) (sub ks st) λd aM=>aM.length=ks.length/\Qq aM=true/\Q (.dat d) (nk ks aM st)
 | none=>False
theorem rY:∀{st:aR},Qq st=true->∀(i:Nat) c,st[i]?=some c->c.nd
 | [],_,i,c,h=>by simp at h
 | .deep _::_,h,_,_,_=>by cases h
 | .live x::r,h,i,c,e=>by
  cases i with
  | zero=>cases e;trivial
  | succ i=>exact rY (st:=r) h i c (by simpa using e)
 | .froz x::r,h,i,c,e=>by
  cases i with
  | zero=>cases e;trivial
  | succ i=>exact rY (st:=r) h i c (by simpa using e)
 | .obj x::r,h,i,c,e=>by
  cases i with
  | zero=>cases e;trivial
  | succ i=>exact rY (st:=r) h i c (by simpa using e)
theorem BJ{α:Type}:∀{ks:List Nat} {ys zs xs:List α},ys.length=ks.length->nk ks (ys++zs) xs=nk ks ys xs
 | [],[],[],_,_=>rfl
 | [],[],_::_,_,_=>rfl
 | [],_::_,_,_,h=>by simp at h
 | _::_,[],_,_,h=>by simp at h
 | k::ks,y::ys,zs,xs,h=>by
  show nk ks (ys++zs) (xs.set k y)=nk ks ys (xs.set k y);exact BJ (by simpa using h)
section
variable {K:aV} {J:KF} {H0 H H1:Hp} {A0 G:Addr->Prop} {al bD:List (List Addr)} {st aM:aR} {ks:List Nat}
theorem zZ(I:DI J H0 A0 G al H st)(hk:∀k∈ks,k < al.length):∀{js:List Bool} {xs:List DV} {vs:List V} {r:List Nat} {p:Nat},cI (gZ J (Fb G al st) H al) vs xs->zX js xs=some r->(∀i,r[i]?=ks[p + i]?)->cI (gZ J (Fb (Gc G al st ks) (sub ks al) (sub ks st)) H (sub ks al)) vs (zY p js xs)
 | [],[],vs,r,p,h,e,q=>by
  cases vs with
  | nil=>exact .nil
  | cons _ _=>have:=h.1;simp at this
 | true::js,.ref k::xs,vs,r,p,h,e,q=>by
  have e:(match zX js xs with | some ks=>some (k::ks) | none=>none)=some r:=e;split at e
  ·rename_i r' e';cases e
   cases vs with
   | nil=>have:=h.1;simp at this
   | cons v vs =>
    obtain⟨a,f,h1,h2⟩:=h.2 0 v _ rfl rfl;have hp:ks[p]?=some k:=by have:=q 0;rw[abK]at this;exact this.symm
    refine .cons ⟨a,f,(dW hk p _).mpr ⟨k,hp,h1⟩,h2⟩ (zZ I hk (p:=p + 1) ⟨by simpa using h.1,λi y x a b=>h.2 (i + 1) y x (by simpa using a) (by simpa using b)⟩ e' λi=>?_);have:=q (i + 1);rw[List.getElem?_cons_succ]at this;rw[this]
    congr 1
    omega
  ·cases e
 | false::js,.dat d::xs,vs,r,p,h,e,q=>by
  cases vs with
  | nil=>have:=h.1;simp at this
  | cons v vs =>
   have hd:aX J (Fb G al st) H v d:=h.2 0 v _ rfl rfl;exact .cons (.d (hd.sub λc hc=>BG I hk hc)) (zZ I hk (p:=p) ⟨by simpa using h.1,λi y x a b=>h.2 (i + 1) y x (by simpa using a) (by simpa using b)⟩ e q)
 | [],_::_,_,_,_,_,e,_=>by cases e
 | true::_,[],_,_,_,_,e,_=>by cases e
 | false::_,[],_,_,_,_,e,_=>by cases e
 | true::_,.dat _::_,_,_,_,_,e,_=>by cases e
 | false::_,.ref _::_,_,_,_,_,e,_=>by cases e
theorem Ga{sp:Sp}{T:J0}{js:List Bool}(h:FY J.K sp T)(m:BI T):AB J (λvs H Q=>sp (vs++[]) H Q E0) (oQ js T):=λH0 A0 G al H st vs xs Q R I hp q k=>by
 unfold oQ at q;split at q
 ·rename_i ks e;obtain⟨nd,hk',nn,q⟩:=q;have hk:∀k∈ks,k < al.length:=λj hj=>by rw[I.len];exact hk' j hj
  rw[aaT]
  have ZI:∀k∈ks,∀c,st[k]?=some c->c.nd:=λj hj c hc=>by
   obtain⟨i,hi⟩:=aa2 hj;exact rY nn i c ((dW hk' i c).mpr ⟨j,hi,hc⟩)
  refine h vs H R (Gc G al st ks) (sub ks al) (sub ks st) (zY 0 js xs) (I.lend nd hk ZI) (zZ I hk hp e λi=>by rw[Nat.zero_add]) (m _ _ _ _ (λd aM hd v H' al' own Jj e F=>?_) q);obtain⟨hl,n1,hq⟩:=hd;have l1:ks.length<=al'.length:=by rw[Jj.len,aaZ];omega
  obtain⟨E,I2,fb⟩:=I.back nd hk Jj e l1 λi hi c hc=>rY n1 i c (by rw[aax (by omega)]at hc;exact hc)
  rw[BJ hl]at E I2 fb;exact k (.dat d) _ _ v H' E I2 (.d (F.sub fb)) hq
 ·exact q.elim
end
section
variable {X:Cx} {Y:YK} {x:Str} {e:Expr} {es:List Expr} {p pos:Pos} {n:Nat} {d:ot}
theorem gO{kk:Nat}{ps:List Str}{sp:Sp}{T:J0}{js:List Bool}(h:eM X.prog X.w X.K X.mg X.base cb x kk ps sp)(hs:FY X.K sp T)(m:BI T)(hr:cw kk X.A)(hg:Gl X x)(ha:vO X Y (e::es) n d)(hdb:(x == ("__debug__" : Str))=false:=by decide)
  (he:starEach (e::es) X.env=(false,eval e X.env)::starEach es X.env:=by rfl) (hpl:(backTo pos (starEach es X.env)).any (·.1)=false:=by rfl):cc X Y (.Call (.Name x p) (e::es) [] pos) (y9 (oQ js T) d):=by
 obtain⟨t,p1,a1⟩:=ha.h;exact⟨_,cT h hr hg p1 hdb he hpl,vU (Ga hs m) a1⟩
theorem uY{N:List Str}{body:List Stmt}{vs:List V}{xs:List DV}{H:Hp}{Q:VK}{G:Addr->Prop}{al:List (List Addr)}{st:aR}(I:DI (kf X y0) H (λc=>c∈al.flatten) G al H st)(hv:cI (gZ X.K (Fb G al st) H al) vs xs)
  (h:rT X y0 body {nx:=λ_ bM=>BH X.K G al H st Q .none (bM.take st.length),rt:=λdv bM=>mq dv bM λd jJ=>BH X.K G al H st Q d (jJ.take st.length)} (xs.map some++List.replicate (N.length - xs.length) none) st) :
  ∃t,oo X body t/\t {nx:=λ_ H'=>Q .non H',rt:=Q} (start N vs) H:=by
 obtain⟨s,⟨t,p1,a1⟩,q⟩:=h;refine⟨t,p1,a1 H (λc=>c∈al.flatten) G al H st _ _ _ _ I ⟨by unfold start;simp[hv.1],λi dv hi=>?_⟩ q ⟨λenv' st' al' σ' H' e' I' E' q'=>?_,λdv st' al' v H' e' I' d' q'=>?_,λenv' st' al' σ' H' e' I' E' q'=>q'.elim,λenv' st' al' σ' H' e' I' E' q'=>q'.elim⟩⟩
 ·by_cases l:i < xs.length
  ·rw[List.getElem?_append_left (by simpa using l),List.getElem?_map,jG l]at hi;cases hi;obtain⟨y,hy,hr⟩:=hv.at (jG l);refine⟨y,?_,hr⟩;unfold start;rw[List.getElem?_append_left (by rw[List.length_map,hv.1];exact l),List.getElem?_map,hy];rfl
  ·rw[List.getElem?_append_right (by simp;omega)]at hi;rw[List.getElem?_replicate]at hi;split at hi
   ·cases hi
   ·cases hi
 ·refine q' .non H' al' (st'.drop st.length) ?_ ?_ .non
  ·rw[abz];exact I'
  ·rw[abz];exact e'
 ·obtain⟨d,bM,E2,I2,F,q2⟩:=mF I' d' q';refine q2 v H' al' (bM.drop st.length) ?_ ?_ ?_
  ·rw[abz];exact I2
  ·rw[abz];exact e'.trans I' E2
  ·rw[abz];exact F
end
theorem jg{s u:DS}{DD:fE}{env:bY}{st:aR}(k:∀R:bY->aR->Prop,(∀env' st',u DD env' st'->R env' st')->s {DD with nx:=R} env st):FT s u DD env st:=k (u DD) (λ_ _ h=>h)
abbrev Qr:=List (Str×PyData)
def RO(K:aV)(P:Addr->Prop)(H:Hp)(dd:Option Addr)(fs:Qr):Prop:=fs=[]∨∃dx vs,dd=some dx/\H dx=some (.ext (XD dx vs))/\¬ P dx/\vs.map (·.1)=fs.map (·.1)/\cI (aX K P H) (vs.map (·.2)) (fs.map (·.2))
def yx(K:aV)(E:XK)(P0:Addr->Prop)(Ex:Addr->Qr->Prop):YK:=⟨λH0 A0 G=>(∀c,P0 c->G c)/\∀C fs dd H',Ex C fs->rG A0 H0 H'->RO K P0 H' dd fs->E (.ref C) dd H',λ_ _ _ _ s h=>⟨λc z=>s c (h.1 c z),h.2⟩⟩
abbrev Xs:=List PyData->(PyData->Prop)->(Addr->Qr->Prop)->Prop
def ZJ(K:aV)(T:Xs):Sp:=λvs H Q E=>∃(P:Addr->Prop) (ds:List PyData),(∀c,P c->∃o,H c=some o/\kJ o)/\cI (aX K P H) vs ds/\T ds (λd=>∀v H',bf H H'->aX K P H' v d->Q v H') (λC fs=>∀dd H',bf H H'->RO K P H' dd fs->E (.ref C) dd H')
section
variable {K:aV} {E:XK} {P0:Addr->Prop} {Ex:Addr->Qr->Prop}
end
section
variable {X:Cx} {a b c e:Expr} {es:List Expr} {pos p:Pos} {n:Nat} {d:ot} {x:Str} {E:XK} {P0:Addr->Prop} {Ex:Addr->Qr->Prop}
@[reducible] def wd(C:Addr)(Ex:Addr->Qr->Prop)(_:fE)(_:bY)(_:aR):Prop:=Ex C []
theorem uZ{C:Addr}{np cpos:Pos}{bx:Bool}(hz:Rz X E)(hg:Gl X x)(hm:X.mg x=some (.ref C))(q:PySem.W.excIn X.K C (rA bx) (vG bx)=true)(hc:X.calm=true)(hd:(x == ("__debug__" : Str))=false:=by decide)(hpl:backTo cpos (starEach [] X.env)=[]:=by rfl):D6 X (yx X.K E P0 Ex) (.Raise (some (.Call (.Name x np) [] [] cpos)) none pos) (wd C Ex) :=
 ⟨_,oF hz hg hm q hc hd hpl,λH0 A0 G al H st σ env DD D I En q k=>I.lk.2 C [] none H q I.fr (.inl rfl)⟩
theorem CQ{N:List Str}{body:List Stmt}{vs:List V}{ds:List PyData}{H:Hp}{Q:VK}{P:Addr->Prop}(hP:∀c,P c->∃o,H c=some o/\kJ o)(hv:cI (aX X.K P H) vs ds)(hE:∀C fs,Ex C fs->∀dd H',bf H H'->RO X.K P H' dd fs->E (.ref C) dd H')
  (h:rT X (yx X.K E P Ex) body {nx:=λ_ _=>∀v H',bf H H'->aX X.K P H' v .none->Q v H',rt:=λdv st=>mq dv st λd _=>∀v H',bf H H'->aX X.K P H' v d->Q v H'} (ds.map (λd=>some (DV.dat d))++List.replicate (N.length - ds.length) none) []) :
  ∃t,oo X body t/\t {nx:=λ_ H'=>Q .non H',rt:=Q} (start N vs) H :=
 uX (Y:=yx X.K E P Ex) hP hv ⟨λ_ z=>z,λC fs dd H' e k x=>hE C fs e dd H' (λc o q=>k c o id q) x⟩ h
end
section
variable {X:Cx} {Y:YK} {a b c e:Expr} {es:List Expr} {pos p:Pos} {ea eb ec:DX} {K:aV} {J:KF} {n:Nat} {d:ot}
@[reducible] def nF(xs:List DV)(st:aR)(Q:DC):Prop:=match xs with
 | [.dat (.int i),.dat (.int j)]=>(0 < j/\j < 1073741824)/\Q (.dat (.tuple [.int (i / j),.int (i % j)])) st
 | _=>False
theorem CS:AB J (λxs H Q=>∃i j,xs=[.int i,.int j]/\Ez i j/\∀p,H p=none->Q (.ref p) (upd H p (.tup [.int (i / j),.int (i % j)]))) nF:=λH0 A0 G al H st vs ds Q R I h q k=>by
 unfold nF at q;split at q
 ·obtain⟨v,u,rfl,h1,h2⟩:=NP h;rw[aX.bu h1,aX.bu h2];refine⟨_,_,rfl,q.1,λp hp=>?_⟩;exact k.laid I (j8 hp) (.d (aX.tup (I.JC hp) uS (.cons (.int _) (.cons (.int _) .nil)))) q.2
 ·exact q.elim
theorem oR(hg:Gl X "divmod")(hm:X.mg "divmod"=none)(ha:vO X Y (e::es) n d)(he:starEach (e::es) X.env=(false,eval e X.env)::starEach es X.env:=by rfl)(hpl:(backTo pos (starEach es X.env)).any (·.1)=false:=by rfl):cc X Y (.Call (.Name "divmod" p) (e::es) [] pos) (y9 nF d):=rM xy CS hg hm (by rfl) ha (by decide) (by decide) he hpl
@[reducible] def z7(eo:DX)(dx:ot)(env:bY)(st:aR)(Q:DC):Prop:=eo env st λo aM=>match o with
 | .ref k=>N2 aM k=true/\dx env aM λxs bM=>match xs with
  | [.dat (.int i)]=>match bM[k]? with
   | some (.live ds)=>∃j dd,seqIndex? i ds.length=some j/\ds[j]?=some dd/\-9223372036854775808<=i/\i < 9223372036854775808/\Q (.dat dd) (bM.set k (.live (ds.eraseIdx j)))
   | _=>False
  | _=>False
 | _=>False
theorem CT{α:Type}{R:V->α->Prop}{ys:List V}{xs:List α}(h:cI R ys xs)(j:Nat):cI R (ys.eraseIdx j) (xs.eraseIdx j):=by
 rw[ace,ace];exact(h.take j).append (h.drop (j + 1))
theorem Gb{apos cpos:Pos}{o:Expr}{eo:DX}(ho:cc X Y o eo)(ha:vO X Y (e::es) n d)(hbase:attributeBase o "pop" X.env (eval o X.env)=eval o X.env:=by rfl)
  (hfew:((backTo cpos (starEach (e::es) X.env)).all (λx=>!x.1)&&(backToKw cpos (keywordEach [] X.env)).all (λx=>x.1.isSome)
   && decide ((e::es).length + ([]:List Keyword).length + (if ([]:List Keyword).isEmpty then 0 else 1) < 30))=true:=by rfl)
  (hline:(apos.endLine == cpos.line)=true:=by rfl) (hs:starEach (e::es) X.env=(false,eval e X.env)::starEach es X.env:=by rfl) (hplain:(backTo cpos (starEach es X.env)).any (·.1)=false:=by rfl) :
  cc X Y (.Call (.Attribute o "pop" apos) (e::es) [] cpos) (z7 eo d):=by
 obtain⟨t,p1,a1⟩:=ho.h;obtain⟨u,p2,a2⟩:=ha.h;refine⟨_,rg aa1 PySem.F.slot_list_pop PySem.F.type_list_pop EU p1 p2 hbase hfew hline hs hplain,λH0 A0 G al H st s env Q R I E q k=>a1 H0 A0 G al H st s env _ _ I E q λx aM bD v H1 e1 I1 d1 q1=>?_⟩;split at q1
 ·rename_i kk;refine⟨ye (vZ I1 d1 q1.1),a2 H0 A0 G bD H1 aM s env _ _ I1 (E.ext e1) q1.2 λxs bM cM vs H2 e2 I2 d2 q2=>?_⟩;have q2:=q2.2;split at q2
  ·obtain⟨w,rfl,hw⟩:=ya d2;rw[aX.bu hw];split at q2
   ·rename_i ds hs;obtain⟨j,dd,h1,h2,h3,h4,q3⟩:=q2;obtain⟨a,r0,ha,rfl⟩:=d1.ext e2;obtain⟨a',ys,e0,g1,g2⟩:=I2.cel kk _ _ ha hs;cases e0;obtain⟨y,hy,ry⟩:=g2.at h2;obtain⟨E4,I4⟩:=I2.put ha hs (CT g2 j);exact⟨a,ys,_,j,y,rfl,rfl,g1,h3,h4,by rw[g2.1];exact h1,hy,(k.go I2 (e1.trans I1 e2)) _ _ _ _ _ E4 I4 (.d (ry.ext E4)) q3⟩
   ·exact q2.elim
  ·exact q2.elim
 ·exact q1.elim
end
abbrev yi:=bY->aR->(List DV->(aR->Prop)->aR->Prop)->Prop
def ZK(J:KF)(H0:Hp)(A0:Addr->Prop)(G:Addr->Prop)(al:List (List Addr))(H:Hp)(st:aR)(Jj:It)(xs:List DV)(ok:aR->Prop):Prop:=∀(G1:Addr->Prop) (bD:List (List Addr)) (H1:Hp) (aM:aR) (i:Nat),(∀c,G1 c->G c∨H c=none)->Ext al H st bD H1 aM->DI J H0 A0 G1 bD H1 aM->ok aM ->
 (∀d,xs[i]?=some d->Jj.go i H1/\∀x H2,Jj.yld i H1 x H2->bf H1 H2/\gZ J (Fb G1 bD aM) H2 bD x d)/\(xs.length<=i->i<=xs.length->Jj.stop i H1)
def UT(J:KF)(wi:TI)(di:yi):Prop:=∀(H0:Hp) (A0:Addr->Prop) (G:Addr->Prop) (al:List (List Addr)) (H:Hp) (st:aR) (s:St) (env:bY) (Q:List DV->(aR->Prop)->aR->Prop) (R:It->Hp->Prop),DI J H0 A0 G al H st->oq J (Fb G al st) H al s env->di env st Q ->
 (∀Jj xs ok st' al' H',Ext al H st al' H' st'->DI J H0 A0 G al' H' st'->ZK J H0 A0 G al' H' st' Jj xs ok->Q xs ok st'->R Jj H')->wi s H R
structure RP(X:Cx)(Y:YK)(tg iter:Expr)(d:yi):Prop where
 h:∃wi,PI X tg iter wi/\UT (kf X Y) wi d
section
variable {X:Cx} {Y:YK} {tg a b c e:Expr} {es:List Expr} {pos p:Pos} {ea eb ec:DX} {K:aV} {J:KF} {n:Nat} {d:ot} {scope:Scope}
@[reducible] def J5(di:qp)(env:bY)(st:aR)(Q:List DV->(aR->Prop)->aR->Prop):Prop:=di env st λxs ok aM=>Q (xs.map DV.dat) ok aM
theorem N7{wi:TI}{di:qp}(h:AI J wi di):UT J wi (J5 di):=λH0 A0 G al H st s env Q R I E q k=>h H0 A0 G al H st s env _ _ I E q λJj xs ok st' al' H' e1 I1 ir q1=>k Jj _ ok st' al' H' e1 I1 (λG1 bD H1 aM i hG e2 I2 o2=>by
 obtain⟨z1,z2⟩:=ir G1 bD H1 aM i hG e2 I2 o2;refine⟨λd hd=>?_,by rw[aah];exact z2⟩;rw[aaO]at hd
 cases w:xs[i]? with
 | none=>rw[w]at hd;cases hd
 | some y =>
  rw[w]at hd;cases hd;exact z1 y w) q1
theorem N8{di:qp}(h:Qo X Y tg a di):RP X Y tg a (J5 di):=by
 obtain⟨w,p1,a1⟩:=h.h;exact⟨_,p1,N7 a1⟩
def Xu(fin:List DV->aR->DC->Prop)(dg:qI)(dt:DT)(de:DX)(xs:List DV)(ok:aR->Prop)(env:bY)(aM:aR)(Q:DC):Prop:=xs.length<=1000000/\∃I:Nat->List DV->aR->Prop,I 0 [] aM/\(∀i ys st,I i ys st->ok st) /\
 (∀i ys st d,I i ys st->xs[i]?=some d->dg d env st λgm bM=>dt gm bM λb jJ=>if b=true then de gm jJ λy qD=>I (i + 1) (ys++[y]) qD else I (i + 1) ys jJ)/\∀ys st,I xs.length ys st->fin ys st Q
@[reducible] def J6(fin:List DV->aR->DC->Prop)(own:Nat)(ix:List Nat)(di:yi)(dg:qI)(dt:DT)(de:DX)(env:bY)(st:aR)(Q:DC):Prop:=di env st λxs ok aM=>Xu fin dg dt de xs ok (yd own ix env) aM Q
@[reducible] def BK:List DV->aR->DC->Prop:=λys st Q=>∃ds:List PyData,ys=ds.map DV.dat/\Q (.dat (.list ds)) st
def rZ(J:KF)(fin:List DV->aR->DC->Prop):Prop:=∀(H0:Hp) (A0:Addr->Prop) (G:Addr->Prop) (al:List (List Addr)) (H:Hp) (st:aR) (Q:DC) (R:VK) (D:Addr) (cM:List (List Addr)) (H2:Hp) (bM:aR) (vs:List V) (ys:List DV),DI J H0 A0 G al H st->H D=none->Kn J H0 A0 G al H st Q R->fin ys bM Q->DI J H0 A0 (λc=>G c∨c=D) cM H2 bM->Ext al H st cM H2 bM->H2 D=some (.lst vs)->cI (gZ J (Fb (λc=>G c∨c=D) cM bM) H2 cM) vs ys->R (.ref D) H2
theorem N9:rZ J BK:=λH0 A0 G al H st Q R D cM H2 bM vs ys I hD k q I2 E2 g P=>by
 obtain⟨ds,rfl,q⟩:=q
 have sub:∀c,Fb G cM bM c->Fb (λc=>G c∨c=D) cM bM c:=λc z=>by
  rcases z with z | z
  ·exact .inl (.inl z)
  ·exact .inr z
 have nD:¬ Fb G cM bM D:=λz=>by
  rcases z with z | z
  ·exact I.JC hD (.inl z)
  ·exact I2.gd D z.mem (.inr rfl)
 exact k (.dat (.list ds)) bM cM _ H2 E2 (I2.less (λc z=>.inl z) I.lk) (.d (aX.lst nD g ((cI.Rp P).imp λy x z=>aX.sub z sub))) q
theorem gZ.RQ{P:Addr->Prop}{H H':Hp}{al:List (List Addr)}{v:V}{dv:DV}(h:gZ J P H al v dv)(s:bf H H'):gZ J P H' al v dv:=by
 cases dv with
 | dat d=>exact aX.same h s
 | ref k=>exact h
theorem Oa{fin:List DV->aR->DC->Prop}(hf:rZ J fin)
  {own:Nat} {ix:List Nat} {wi:TI} {g:TG} {di:yi} {dg:qI} {dt:DT} {de:DX} (hi:UT J wi di) (hg:AG J g dg) (gb:GB own g):AE J (Qn own ix wi g (FO J dt) (RF J de)) (J6 fin own ix di dg dt de):=λH0 A0 G al H st s env Q R I E q k=>by
 refine hi H0 A0 G al H st s env _ _ I E q λJj xs ok aM bD H1 e1 I1 ir q1=>?_
 intro D hD;obtain⟨hlen,Iv,i0,hok,istep,ifin⟩:=q1;have k1:=k.go I1 e1;have E1:=E.ext e1
 have gG:∀c,(G c∨c=D)->G c∨H1 c=none:=λc hc=>by
  rcases hc with z | z
  ·exact .inl z
  ·rw[z];exact .inr hD
 have n0:=I1.n0 hD;obtain⟨EB,IB⟩:=I1.FQ (ys:=[]) hD;refine⟨λi m ys H2=>(m=xs.length - i/\i<=xs.length/\ys.length<=i)/\∃ds cM bM,Iv i ds bM/\H2 D=some (.lst ys)/\cI (gZ J (Fb (λc=>G c∨c=D) cM bM) H2 cM) ys ds/\DI J H0 A0 (λc=>G c∨c=D) cM H2 bM/\Ext bD H1 aM cM H2 bM,⟨_,⟨rfl,abl _,abl _⟩,[],bD,aM,i0,uS,.nil,IB,EB⟩,?_⟩;rintro i m ys H2 ⟨⟨em,hil,hyl⟩,ds,cM,sx,hI,gD,hP,I2,E2⟩;refine⟨gD,?_⟩;have IR:=ir (λc=>G c∨c=D) cM H2 sx i gG E2 I2 (hok _ _ _ hI);by_cases hx:i < xs.length
 ·right
  obtain⟨d0,FR⟩:∃d0,xs[i]?=some d0:=⟨xs[i],jG hx⟩;obtain⟨go,yl⟩:=IR.1 d0 FR;refine⟨go,aaR (aaF hyl hil) (aaR hlen (by decide)),λys' H'=>∃m',m' < m/\(m'=xs.length - (i + 1)/\i + 1<=xs.length/\ys'.length<=i + 1)/\∃ds cM bM,Iv (i + 1) ds bM/\H' D=some (.lst ys')/\cI (gZ J (Fb (λc=>G c∨c=D) cM bM) H' cM) ys' ds/\DI J H0 A0 (λc=>G c∨c=D) cM H' bM/\Ext bD H1 aM cM H' bM,λys' H' ⟨m',lt,w⟩=>⟨m',lt,w⟩,λx H3 hy=>?_⟩;obtain⟨s3,r3⟩:=yl x H3 hy;have I3:=I2.same s3;have E3:Ext bD H1 aM cM H3 sx:=E2.trans I2 (.same s3);have P3:=hP.imp λy x z=>z.RQ s3
  have g3:=s3 _ _ gD;have UM:=(E1.kY gG E3).jM own ix;refine gb x _ H3 _ _ ?_ (hg H0 A0 (λc=>G c∨c=D) cM H3 sx _ _ x d0 _ (λσ2 H4=>FO J dt σ2 H4 λb H5=>if b=true then RF J de σ2 H5 λv H6=>H6 D=some (.lst ys)/\∃m',m' < m/\(m'=xs.length - (i + 1)/\i + 1<=xs.length/\(ys++[v]).length<=i + 1)/\∃ds cM bM,Iv (i + 1) ds bM/\upd H6 D (.lst (ys++[v])) D=some (.lst (ys++[v]))/\cI (gZ J (Fb (λc=>G c∨c=D) cM bM) (upd H6 D (.lst (ys++[v]))) cM) (ys++[v]) ds/\DI J H0 A0 (λc=>G c∨c=D) cM (upd H6 D (.lst (ys++[v]))) bM/\Ext bD H1 aM cM (upd H6 D (.lst (ys++[v]))) bM else ∃m',m' < m/\(m'=xs.length - (i + 1)/\i + 1<=xs.length/\ys.length<=i + 1)/\∃ds cM bM,Iv (i + 1) ds bM/\H5 D=some (.lst ys)/\cI (gZ J (Fb (λc=>G c∨c=D) cM bM) H5 cM) ys ds/\DI J H0 A0 (λc=>G c∨c=D) cM H5 bM/\Ext bD H1 aM cM H5 bM) I3 UM r3 (istep i ds sx d0 hI FR) λgm bM NX s2 H4 e4 I4 RJ q4=>?_)
  ·intro s2 H4 ed q4;refine⟨?_,q4⟩;rw[ed];unfold dq;rw[List.drop_left' (by simp)]
  ·refine⟨H0,A0,_,NX,bM,gm,_,I4,RJ,q4,λb jJ RK H5 e5 I5 q5=>?_⟩;have NY:=e4.trans I4 e5;have E5:=E3.trans I3 NY;have nL:∀(al':List (List Addr)) (H':Hp) (st':aR),DI J H0 A0 (λc=>G c∨c=D) al' H' st'->¬ Lv al' st' D:=λal' H' st' I' z=>I'.gd D z.mem (.inr rfl)
   have g5:=NY.keep D _ (nL _ _ _ I3) g3;have P5:=P3.imp λy x z=>gZ.ext z NY
   cases b with
   | false =>
    rw[aas aaj]at q5;exact mi ⟨xs.length - (i + 1),by omega,⟨rfl,hx,by omega⟩,ds,RK,jJ,q5,g5,P5,I5,E5⟩
   | true =>
    rw[aaw rfl]at q5;refine kT ⟨H0,A0,_,RK,jJ,gm,_,I5,RJ.ext e5,q5,λy qD NZ v H6 e6 I6 d6 q6=>?_⟩;have E6:=E5.trans I5 e6;have g6:=e6.keep D _ (nL _ _ _ I5) g5;have P6:=P5.imp λy x z=>gZ.ext z e6
    obtain⟨I8,N0⟩:=I6.grow (ys:=ys++[v]) g6 n0
    have rv':∀w dv,gZ J (Fb (λc=>G c∨c=D) NZ qD) H6 NZ w dv->gZ J (Fb (λc=>G c∨c=D) NZ qD) (upd H6 D (.lst (ys++[v]))) NZ w dv:=λw dv z=>by
     cases dv with
     | dat d=>exact N0 _ _ z
     | ref k=>exact z
    refine⟨g6,xs.length - (i + 1),by omega,⟨rfl,hx,by simp;omega⟩,ds++[y],NZ,qD,q6,uS,?_,I8,E6.Xq hD⟩;exact(P6.imp λy x z=>rv' y x z).append (.cons (rv' _ _ d6) .nil)
 ·left
  have ei:i=xs.length:=by omega
  subst ei;exact⟨IR.2 (aai _) (aai _),hf H0 A0 G bD H1 aM Q R D cM H2 sx ys ds I1 hD k1 (ifin ds sx hI) I2 E2 gD hP⟩
theorem CU{fin:List DV->aR->DC->Prop}(hf:rZ (kf X Y) fin)
  {i:Nat} {x:Str} {pos' spos:Pos} (hN:X.N.Nodup) (hxi:X.N[i]?=some x) (hx:Loc X.env.scope x) {elt iter:Expr} {ifs:List Expr} {g:TG} {di:yi} {dg:qI} {dt:DT} {de:DX} (own:Nat) (N:List Str) (ix:List Nat) (B:kW X own N ix scope) (hi:RP X Y tg iter di)
  (hg:∀(C:Addr) (fp:List Addr) (s:Shared) (H:Hp),PG (X.jM N scope C fp s H) tg g) (ag:AG (kf X Y) g dg) (gb:GB own g)
  (hin:∀(C:Addr) (fp:List Addr) (s:Shared) (H:Hp),Tr (X.jM N scope C fp s H) Y ifs dt/\cc (X.jM N scope C fp s H) Y elt de)
  (hsw:swapsWith (.ListComp elt [⟨tg,iter,ifs,0⟩] scope pos) (some (.Name x pos')) spos.line X.env=pure true:=by rfl) (hs:∀x,foldedSetIterable iter X.env x=pure x:=by intro _;rfl)
  (hfn:X.fn x=true∨X.env.scope.names.lookup x=some .local:=by first | exact .inl rfl | exact .inr rfl):D6 X Y (.Assign [.Name x pos'] (.ListComp elt [⟨tg,iter,ifs,0⟩] scope pos) spos) (CP (J6 fin own ix di dg dt de) (gN i)):=by
 obtain⟨wi,p1,a1⟩:=hi.h;exact⟨_,xI hN hxi hx own N ix B p1 (λC fp s H=>⟨hg C fp s H,(hin C fp s H).1.h,(hin C fp s H).2.pe⟩) hsw hs hfn,zT (Oa hf a1 ag gb) CN⟩
end
abbrev we(h:Heap)(z TI TO:Addr)(f0:Value)(b:Bool):Prop :=
 h.get? z=some {cls:=.type "zip",dict:=none,data:=.fields #[f0,.bool b,.bool false,.ref TI,.ref TO],slots:=#[]}
section
variable {prog:Program} {w:World} {A:Around} {E:Value->Shared->Prop} {s:Shared}
theorem qq{a:Addr}{Q:Option Obj->Shared->Prop}(h:Q (s.heap.get? a) s):wpAny (model prog w) A (loadIfAlive a) Q E s:=λ_ _ _=>h
theorem yj{z TI TO T:Addr}{bb:Bool}{oT:Obj}{Q:Bool->Shared->Prop}(hz:we s.heap z TI TO (rawInt T) bb)(hT:s.heap.get? T=some oT)
  (h:∀h₁,we h₁ z TI TO (rawInt T) true->h₁.objs.size=s.heap.objs.size->(∀c o,c≠z->s.heap.get? c=some o->h₁.get? c=some o)->Q false {s with heap:=h₁}) :
  wpAny (model prog w) A (Builtin.SmallTypes.ownedTupleIsFree (.ref z)) Q E s:=by
 unfold Builtin.SmallTypes.ownedTupleIsFree;refine wpAny_bind (wpAny_field hz rfl (x:=rawInt T) rfl ?_);show wpAny _ _ (loadIfAlive T >>= _) _ _ _;refine wpAny_bind (qq ?_);rw[hT];show wpAny _ _ (field (.ref z) 1 >>= _) _ _ _;refine wpAny_bind (wpAny_field hz rfl (x:=.bool bb) rfl ?_)
 cases bb with
 | true=>exact aag (h s.heap hz rfl λc o _ e=>e)
 | false =>
  show wpAny _ _ (setField (.ref z) 1 (.bool true) >>= _) _ _ _;refine wpAny_bind (wpAny_setField_rec hz (by simp) λh₁ hz₁ hs₁=>wpAny_pure ?_);exact h h₁ hz₁ hs₁.1 λc o n e=>hs₁.extBut _ _ n e
theorem r6{z TI TO i1 i2 l1 l2 T:Addr}{bb:Bool}{oT:Obj}{k1 k2:Nat}{xs ys:Array Value}{x y:Value}{Q:Value->Shared->Prop}(D:ZipApart z TI TO i1 i2 l1 l2)
  (hz:we s.heap z TI TO (rawInt T) bb) (hTI:IsPair s.heap TI (.ref i1) (.ref i2)) (hT:s.heap.get? T=some oT)
  (h1:s.heap.IsListIter i1 l1 k1) (h2:s.heap.IsListIter i2 l2 k2) (Ir:s.heap.IsList l1 xs) (Nw:s.heap.IsList l2 ys) (hx:xs[k1]?=some x) (hy:ys[k2]?=some y)
  (hQ:∀h',we h' z TI TO (rawInt T) true->h'.IsListIter i1 l1 (k1 + 1)->h'.IsListIter i2 l2 (k2 + 1)->IsPair h' s.heap.objs.size x y->h'.objs.size=s.heap.objs.size + 1 ->
   (∀c o,c≠z->c≠i1->c≠i2->s.heap.get? c=some o->h'.get? c=some o)->Q (.ref s.heap.objs.size) {s with heap:=h'}) :
  wpAny (model prog w) A (Builtin.«zip.__next__» ⟨[.ref z],[]⟩) (λfin s'=>∃v,fin=.done (.ret v)/\Q v s') E s:=by
 show wpAny _ _ (field (.ref z) 2 >>= _) _ _ _;refine wpAny_bind (wpAny_field hz rfl (x:=.bool false) rfl ?_);show wpAny _ _ (field (.ref z) 3 >>= _) _ _ _;refine wpAny_bind (wpAny_field hz rfl (x:=.ref TI) rfl ?_);refine wpAny_bind (wpAny_seqItems hTI rfl ?_);show wpAny _ _ (Builtin.SmallTypes.ownedTupleIsFree (.ref z) >>= _) _ _ _;refine wpAny_bind (yj hz hT λh₁ hz₁ z₁ k₁=>?_);simp only[Bool.false_eq_true,if_false];refine wpAny_bind ?_;simp only[← Array.forIn_toList,List.forIn_cons,List.forIn_nil];have h1₁:h₁.IsListIter i1 l1 k1:=h1.at λo e=>k₁ _ o D.i1z e
 have h2₁:h₁.IsListIter i2 l2 k2:=h2.at λo e=>k₁ _ o D.i2z e
 refine aaa (aaa (aa3 ?_));show wpAny _ _ (Builtin.SmallTypes.nextOf (.ref i1) >>= _) _ _ _;have hl1₁:h₁.IsList l1 xs:=Ir.at λo e=>k₁ _ o D.l1z e
 have hl2₁:h₁.IsList l2 ys:=Nw.at λo e=>k₁ _ o D.l2z e
 refine aaa (wpAny_nextOf_list_item h1₁ hl1₁ hx λh₂ h1₂ hs₂=>aag ?_);refine aag ?_;show wpAny _ _ ((holding [x] (Builtin.SmallTypes.nextOf (.ref i2) >>= λv=>pure (some v)) >>= _) >>= _) _ _ _;refine aaa (aaa (aa3 ?_));refine aaa (wpAny_nextOf_list_item (h2₁.extBut hs₂.extBut D.i12.symm) (hl2₁.extBut hs₂.extBut D.l2i1) hy λh₃ h2₃ hs₃=>aag ?_);refine aag ?_;refine aag ?_;show wpAny _ _ (newTuple [x,y] >>= _) _ _ _;refine aaa (wpAny_newTuple ?_);have sz:h₃.objs.size=s.heap.objs.size:=by rw[hs₃.1,hs₂.1,z₁]
 have zl:z < h₃.objs.size:=by rw[sz,← z₁];exact aab hz₁
 refine aag ⟨_,rfl,?_⟩;show Q (.ref h₃.objs.size) _;have up:∀c o,h₃.get? c=some o->(h₃.push {cls:=.type "tuple",data:=.seq #[x,y]}).get? c=some o:=λc o e=>aaf _ e
 have hT:=aaC h₃ (o:={cls:=.type "tuple",data:=.seq #[x,y]}) rfl;rw[sz]at hT ⊢;refine hQ _ (up _ _ (hs₃.extBut _ _ D.i2z.symm (hs₂.extBut _ _ D.i1z.symm hz₁))) ((h1₂.extBut hs₃.extBut D.i12).at λo e=>up _ o e) (h2₃.at λo e=>up _ o e) hT (by rw[abR,sz]) λc o c1 c2 c3 e=>up c o (hs₃.extBut _ _ c3 (hs₂.extBut _ _ c2 (k₁ c o c1 e)))
theorem tV{z TI TO i1 i2 l1 l2 T:Addr}{bb:Bool}{oT:Obj}{k1 k2:Nat}{xs ys:Array Value}{Q:Fin->Shared->Prop}(hh:A.handled=none)(D:ZipApart z TI TO i1 i2 l1 l2)
  (hz:we s.heap z TI TO (rawInt T) bb) (hTI:IsPair s.heap TI (.ref i1) (.ref i2)) (hT:s.heap.get? T=some oT)
  (h1:s.heap.IsListIter i1 l1 k1) (Ir:s.heap.IsList l1 xs) (hx:xs[k1]?=none)
  (hE:∀h' e,(∀c o,c≠z->c≠i1->s.heap.get? c=some o->h'.get? c=some o)->(∃o,h'.get? e=some o/\o.cls=.type "StopIteration")->E (.ref e) {s with heap:=h'}) :
  wpAny (model prog w) A (Builtin.«zip.__next__» ⟨[.ref z],[]⟩) Q E s:=by
 show wpAny _ _ (field (.ref z) 2 >>= _) _ _ _;refine wpAny_bind (wpAny_field hz rfl (x:=.bool false) rfl ?_);show wpAny _ _ (field (.ref z) 3 >>= _) _ _ _;refine wpAny_bind (wpAny_field hz rfl (x:=.ref TI) rfl ?_);refine wpAny_bind (wpAny_seqItems hTI rfl ?_);show wpAny _ _ (Builtin.SmallTypes.ownedTupleIsFree (.ref z) >>= _) _ _ _;refine wpAny_bind (yj hz hT λh₁ hz₁ z₁ k₁=>?_);simp only[Bool.false_eq_true,if_false];refine wpAny_bind ?_;simp only[← Array.forIn_toList,List.forIn_cons,List.forIn_nil];refine wpAny_bind (wpAny_bind (wpAny_holding ?_));show wpAny _ _ (Builtin.SmallTypes.nextOf (.ref i1) >>= _) _ _ _;refine wpAny_bind (wpAny_nextOf_list_end hh (h1.at λo e=>k₁ _ o D.i1z e) (Ir.at λo e=>k₁ _ o D.l1z e) hx λh₂ e hs₂ he=>?_);exact hE h₂ e (λc o c1 c2 x=>hs₂ _ _ c2 (k₁ c o c1 x)) he
theorem z8{z TI TO i1 i2 l1 l2 T:Addr}{bb:Bool}{oT:Obj}{k1 k2:Nat}{xs ys:Array Value}{x y:Value}{Q:Option Value->Shared->Prop}(D:ZipApart z TI TO i1 i2 l1 l2)
  (hz:we s.heap z TI TO (rawInt T) bb) (hTI:IsPair s.heap TI (.ref i1) (.ref i2)) (hT:s.heap.get? T=some oT)
  (h1:s.heap.IsListIter i1 l1 k1) (h2:s.heap.IsListIter i2 l2 k2) (Ir:s.heap.IsList l1 xs) (Nw:s.heap.IsList l2 ys) (hx:xs[k1]?=some x) (hy:ys[k2]?=some y)
  (hQ:∀h',we h' z TI TO (rawInt T) true->h'.IsListIter i1 l1 (k1 + 1)->h'.IsListIter i2 l2 (k2 + 1)->IsPair h' s.heap.objs.size x y->h'.objs.size=s.heap.objs.size + 1 ->
   (∀c o,c≠z->c≠i1->c≠i2->s.heap.get? c=some o->h'.get? c=some o)->Q (some (.ref s.heap.objs.size)) {s with heap:=h'}) :
  wpAny (model prog w) A (pyNext (.ref z)) Q E s:=by
 have hT':s.TypeIs (.ref z) "zip":=⟨_,hz,rfl⟩;unfold pyNext;exact wpAny_bind (wpAny_attempt (wpAny_callSpecial?_slot (name:=Str.ofString "__next__") hT' F.slot_zip_next
  (acA F.slot_zip_next hT' F.entry_zip_next
   (r6 D hz hTI hT h1 h2 Ir Nw hx hy λh' a1 a2 a3 a4 a5 a6=>aag (hQ h' a1 a2 a3 a4 a5 a6)) (F.args_zip_next_1 _))))
theorem sf{z TI TO i1 i2 l1 l2 T:Addr}{bb:Bool}{oT:Obj}{k1 k2:Nat}{xs ys:Array Value}{Q:Option Value->Shared->Prop}(hh:A.handled=none)(D:ZipApart z TI TO i1 i2 l1 l2)
  (hz:we s.heap z TI TO (rawInt T) bb) (hTI:IsPair s.heap TI (.ref i1) (.ref i2)) (hT:s.heap.get? T=some oT)
  (h1:s.heap.IsListIter i1 l1 k1) (Ir:s.heap.IsList l1 xs) (hx:xs[k1]?=none)
  (hQ:∀h',(∀c o,c≠z->c≠i1->s.heap.get? c=some o->h'.get? c=some o)->Q none {s with heap:=h'}):wpAny (model prog w) A (pyNext (.ref z)) Q E s:=by
 have hT':s.TypeIs (.ref z) "zip":=⟨_,hz,rfl⟩;unfold pyNext;refine wpAny_bind (wpAny_attempt (wpAny_callSpecial?_slot (name:=Str.ofString "__next__") hT' F.slot_zip_next
  (acA F.slot_zip_next hT' F.entry_zip_next (tV (k2:=k2) (ys:=ys) hh D hz hTI hT h1 Ir hx λh' e hk he=>?_) (F.args_zip_next_1 _))))
 obtain⟨o,ho,hc⟩:=he;refine aaa (wpAny_isInstance (T:="StopIteration") (b:=true) ⟨o,ho,hc⟩ isSubtype_stop ?_);exact aag (hQ _ hk)
end
namespace FD
theorem kG:entryFor table "dict.update.loop"=some Builtin.«dict.update.loop»:=entryFor_of_tree (by kernel_rfl)
theorem eI:plainId "dict.update.loop"=true:=by decide +kernel
end FD
structure J7(d z TI TO i1 i2 l1 l2:Addr)(xs ys:Array Value)(i:Nat)(h:Heap):Prop where
 zip:(IsZip h z TI TO .none/\∃a b,IsPair h TO a b)∨∃(T:Addr) (bb:Bool) (oT:Obj),we h z TI TO (rawInt T) bb/\h.get? T=some oT/\T≠z/\T≠i1/\T≠i2/\T≠d
 ti:IsPair h TI (.ref i1) (.ref i2)
 i1:h.IsListIter i1 l1 i
 i2:h.IsListIter i2 l2 i
 l1:h.IsList l1 xs
 l2:h.IsList l2 ys
section
variable {prog:Program} {w:World} {K:Type} [DecidableEq K] {knd:KeyKind prog w K} {A:Around} {E:Value->Shared->Prop} {s:Shared} {R:Result->Shared->Prop}
variable {d z TI TO i1 i2 l1 l2:Addr} {xs ys:Array Value}
theorem J7.next{i:Nat}{x y:Value}{Q:Option Value->Shared->Prop}(D:ZipApart z TI TO i1 i2 l1 l2)(nd:d≠z/\d≠TI/\d≠TO/\d≠i1/\d≠i2/\d≠l1/\d≠l2)(Z:J7 d z TI TO i1 i2 l1 l2 xs ys i s.heap)(hd:d < s.heap.objs.size)(hx:xs[i]?=some x)(hy:ys[i]?=some y)
  (hQ:∀h',J7 d z TI TO i1 i2 l1 l2 xs ys (i + 1) h'->IsPair h' s.heap.objs.size x y->(∀c o,c≠z->c≠TO->c≠i1->c≠i2->s.heap.get? c=some o->h'.get? c=some o)->Q (some (.ref s.heap.objs.size)) {s with heap:=h'}) :
  wpAny (model prog w) A (pyNext (.ref z)) Q E s:=by
 rcases Z.zip with⟨hz,a,b,hTO⟩ | ⟨T,bb,oT,hz,hT,t1,t2,t3,t4⟩
 ·refine wpAny_pyNext_zip_item D hz Z.ti hTO Z.i1 Z.i2 Z.l1 Z.l2 hx hy λh' a1 a2 a3 a4 a5 a6 a7=>hQ h' ⟨.inr ⟨_,false,_,a1,a5,?_,?_,?_,?_⟩,a7 _ _ D.TIz D.TITO D.TIi1 D.TIi2 Z.ti,a3,a4,Z.l1.at λo e=>a7 _ o D.l1z D.l1TO D.l1i1 D.l1i2 e,Z.l2.at λo e=>a7 _ o D.l2z D.l2TO D.l2i1 D.l2i2 e⟩ a5 a7
  ·exact aa5 (aab hz)
  ·exact aa5 (by obtain⟨_,e,_⟩:=Z.i1;exact aab e)
  ·exact aa5 (by obtain⟨_,e,_⟩:=Z.i2;exact aab e)
  ·exact aa5 hd
 ·refine z8 D hz Z.ti hT Z.i1 Z.i2 Z.l1 Z.l2 hx hy λh' a1 a3 a4 a5 a6 a7=>hQ h' ⟨.inr ⟨T,true,oT,a1,a7 _ _ t1 t2 t3 hT,t1,t2,t3,t4⟩,a7 _ _ D.TIz D.TIi1 D.TIi2 Z.ti,a3,a4,Z.l1.at λo e=>a7 _ o D.l1z D.l1i1 D.l1i2 e,Z.l2.at λo e=>a7 _ o D.l2z D.l2i1 D.l2i2 e⟩ a5 λc o c1 _ c3 c4 e=>a7 c o c1 c3 c4 e
theorem J7.done{i:Nat}{Q:Option Value->Shared->Prop}(hh:A.handled=none)(D:ZipApart z TI TO i1 i2 l1 l2)(Z:J7 d z TI TO i1 i2 l1 l2 xs ys i s.heap)(hx:xs[i]?=none)
  (hQ:∀h',(∀c o,c≠z->c≠TO->c≠i1->c≠i2->s.heap.get? c=some o->h'.get? c=some o)->Q none {s with heap:=h'}) :
  wpAny (model prog w) A (pyNext (.ref z)) Q E s:=by
 rcases Z.zip with⟨hz,a,b,hTO⟩ | ⟨T,bb,oT,hz,hT,t1,t2,t3,t4⟩
 ·exact wpAny_pyNext_zip_end hh D hz Z.ti hTO Z.i1 Z.i2 Z.l1 Z.l2 (.inl hx) hQ
 ·exact sf (k2:=i) (ys:=ys) hh D hz Z.ti hT Z.i1 Z.l1 hx λh' k=>hQ h' λc o c1 _ c3 _ e=>k c o c1 c3 e
theorem J7.keep{i:Nat}{h h':Heap}(D:ZipApart z TI TO i1 i2 l1 l2)(nd:d≠z/\d≠TI/\d≠TO/\d≠i1/\d≠i2/\d≠l1/\d≠l2)(Z:J7 d z TI TO i1 i2 l1 l2 xs ys i h)(k:∀c o,c≠d->h.get? c=some o->h'.get? c=some o):J7 d z TI TO i1 i2 l1 l2 xs ys i h':=by
 obtain⟨n1,n2,n3,n4,n5,n6,n7⟩:=nd;refine⟨?_,k _ _ n2.symm Z.ti,Z.i1.at λo e=>k _ o n4.symm e,Z.i2.at λo e=>k _ o n5.symm e,Z.l1.at λo e=>k _ o n6.symm e,Z.l2.at λo e=>k _ o n7.symm e⟩;rcases Z.zip with⟨hz,a,b,hTO⟩ | ⟨T,bb,oT,hz,hT,t1,t2,t3,t4⟩
 ·exact .inl ⟨k _ _ n1.symm hz,a,b,k _ _ n3.symm hTO⟩
 ·exact .inr ⟨T,bb,oT,k _ _ n1.symm hz,k _ _ t4 hT,t1,t2,t3,t4⟩
theorem CV(hh:A.handled=none)(D:ZipApart z TI TO i1 i2 l1 l2)(nd:d≠z/\d≠TI/\d≠TO/\d≠i1/\d≠i2/\d≠l1/\d≠l2){kvs:List (K×Value)}(hn:(kvs.map (·.1)).Nodup)(hxs:xs.size=kvs.length)(hys:ys.size=kvs.length)
  (hkv:∀(i:Nat) kv,kvs[i]?=some kv->∃x,xs[i]?=some x/\knd.is kv.1 x=true/\ys[i]?=some kv.2) (hz:kvs.length<=1000) :
  ∀(k i:Nat) (t:Tok) (s:Shared),kvs.length - i=k->i<=kvs.length->J7 d z TI TO i1 i2 l1 l2 xs ys i s.heap->s.heap.DictOf knd d (kvs.take i) ->
   (∀h' tk,h'.DictOf knd d kvs->(∀c o,c≠z->c≠TO->c≠i1->c≠i2->c≠d->s.heap.get? c=some o->h'.get? c=some o)->R (.ok (.ret .none)) {s with heap:=h',toks:=tk}) ->
   codeAny (model prog w) A (.builtin "dict.update.loop" ⟨[.ref d,.ref z,.int i t,.none],[]⟩) R s:=by
 intro k
 induction k with
 | zero =>
  intro i t s hk hi Z hD hR;have hin:i=kvs.length:=by omega
  subst hin;refine codeAny_builtin FD.kG ?_;rw[Around.under_plainId FD.eI _];show wpAny _ A.in1 (pyNext (.ref z) >>= _) _ _ s;refine wpAny_bind (Z.done (by simp[hh]) D (Array.getElem?_eq_none (by omega)) λh' k=>?_);show wpAny _ A.in1 (Builtin.Dict.addKeywords d [] >>= λ_=>ret Value.none) _ _ _;rw[List.take_length]at hD;refine wpAny_bind (wpAny_pure (wpAny_pure (hR h' s.toks ?_ λc o c1 c2 c3 c4 _ e=>k c o c1 c2 c3 c4 e)));obtain⟨o,es,ep,ho,rest⟩:=hD;exact⟨o,es,ep,k _ _ nd.1 nd.2.2.1 nd.2.2.2.1 nd.2.2.2.2.1 ho,rest⟩
 | succ k ih =>
  intro i t s hk hi Z hD hR;have hlt:i < kvs.length:=by omega
  have hkvi:kvs[i]?=some kvs[i]:=jG hlt;obtain⟨x,hx,hkey,hy⟩:=hkv i _ hkvi;generalize kvs[i]=kv at hkvi hkey hy;have hdl:d < s.heap.objs.size:=by obtain⟨o,es,ep,ho,rest⟩:=hD;exact aab ho
  refine codeAny_builtin FD.kG ?_;rw[Around.under_plainId FD.eI _];show wpAny _ A.in1 (pyNext (.ref z) >>= _) _ _ s;refine aaa (Z.next D nd hdl hx hy λh' Z' hP k1=>?_)
  have hD':h'.DictOf knd d (kvs.take i):=by
   obtain⟨o,es,ep,ho,rest⟩:=hD;exact⟨o,es,ep,k1 _ _ nd.1 nd.2.2.1 nd.2.2.2.1 nd.2.2.2.2.1 ho,rest⟩
  refine wpAny_bind (wpAny_holding ?_);refine wpAny_bind (wpAny_tryCatch ?_);show wpAny _ _ (Builtin.Dict.pairItems (.ref s.heap.objs.size)) _ _ _;unfold Builtin.Dict.pairItems;refine wpAny_bind (wpAny_typeOf (T:="tuple") ⟨_,hP,rfl⟩ ?_);show wpAny _ _ (seqItems? (.ref s.heap.objs.size) >>= _) _ _ _;refine wpAny_bind (wpAny_seqItems hP rfl (wpAny_pure ?_));show wpAny _ _ (holding [x,kv.2] (dictSet d x kv.2)) _ _ _;refine wpAny_holding ?_;unfold dictSet;refine wpAny_holding (wpAny_bind (knd.pyHash (k:=kv.1) hkey ?_));have hlen:(kvs.take i).length<=sizeLine:=by rw[List.length_take,sizeLine_eq];omega
  refine wpAny_dictSetHashed_pairs (s:={s with heap:=h',toks:=s.toks + 1}) hkey hD' (λh2 Xv Jc=>?_) hlen
  have hst:stored (kvs.take i) kv.1 kv.2=kvs.take (i + 1):=by
   have hm:=merged_take_succ ([]:List (K×Value)) kvs i kv hkvi;have Xw:∀j,((kvs.take j).map (·.1)).Nodup:=λj=>by rw[List.map_take];exact(List.take_sublist _ _).nodup hn
   rw[merged_nil_of_nodup _ (Xw i),merged_nil_of_nodup _ (Xw (i + 1))]at hm;exact hm.symm
  rw[hst]at Xv;refine aag ⟨plainId_quiet FD.eI _,?_⟩;have k2:∀c o,c≠d->h'.get? c=some o->h2.get? c=some o:=λc o n e=>Jc.extBut _ _ n e
  refine ih (i + 1) 0 {s with heap:=h2,toks:=s.toks + 1} (by omega) hlt (Z'.keep D nd k2) Xv λh3 tk ZL k3=>hR h3 tk ZL λc o c1 c2 c3 c4 c5 e=>k3 c o c1 c2 c3 c4 c5 (k2 c o c5 (k1 c o c1 c2 c3 c4 e))
end
namespace FD
theorem sk:typeLookup (.type "zip") "__getattr__"=pure none:=by rw[typeLookup_type,builtinLookup_eq_fast];kernel_rfl
theorem yk:typeLookup (.type "zip") "keys"=pure none:=by rw[typeLookup_type,builtinLookup_eq_fast];kernel_rfl
theorem wg:entryFor table "zip.__getattribute__"=some Builtin.«object.__getattribute__»:=entryFor_alias (id':="object.__getattribute__") (by kernel_rfl) (by decide +kernel) (by decide +kernel) (by kernel_rfl)
end FD
set_option maxHeartbeats 4000000 in
theorem so(a:Addr)(fs:Array Value)(sl:Array (Option Value))(u:Tok):
  Meets (Builtin.«object.__getattribute__» ⟨[.ref a,.str "keys" u],[]⟩) (λA R s=>s.heap.get? a=some {cls:=.type "zip",dict:=none,data:=.fields fs,slots:=sl}/\raisesAttr (.ref a) "keys" A R s) :=
 Meets.of_wp λprog w A R s hs=>by
  have hmiss:=FD.yk;have hname:(["__module__","__name__","__qualname__","__doc__","__annotations__"]:List Str).contains "keys"=false:=by decide +kernel
  obtain⟨hp,g,d,tk,os⟩:=s;obtain⟨hx,hs⟩:=hs;have hT:(⟨hp,g,d,tk,os⟩:Shared).TypeIs (.ref a) "zip":=⟨_,hx,rfl⟩;unfold Builtin.«object.__getattribute__»;repeat (any_goals (first | assumption | wp_step))
  try simp only[hname,Bool.false_eq_true,if_false]
  repeat (any_goals (first | assumption | wp_step))
  exact wpAny_raiseAttrError hs.1 hs.2 (attrMsg_fits (by decide +kernel) (by decide))
set_option maxHeartbeats 4000000 in
theorem Gd{prog:Program}{w:World}{A:Around}{E:Value->Shared->Prop}{s:Shared}{a:Addr}{fs:Array Value}{sl:Array (Option Value)}{Q:Option Value->Shared->Prop}(hx:s.heap.get? a=some {cls:=.type "zip",dict:=none,data:=.fields fs,slots:=sl})(hA:A.handled=none)
  (h:∀h' tk,(∀b ob,s.heap.get? b=some ob->h'.get? b=some ob)->Q none {s with heap:=h',toks:=tk}):wpAny (model prog w) A (getAttr? (.ref a) "keys") Q E s:=by
 obtain⟨hp,g,d,tk,os⟩:=s;have hT:∀tk',(⟨hp,g,d,tk',os⟩:Shared).TypeIs (.ref a) "zip":=λ_=>⟨_,hx,rfl⟩
 have f1:=sub_AttributeError;have f3:=F.slot_zip_getattribute.lookup;have f4:=F.slot_zip_getattribute.bind (.ref a);have f5:=FD.sk;unfold getAttr? getAttrBy? getAttrBy
 repeat (any_goals (first | assumption | exact hT _ | ((with_reducible show wpAny _ _ (call (Value.builtin "zip.__getattribute__") _ _) _ _ _);refine call_meets F.slot_zip_getattribute (hT _) FD.wg (F.args_zip_getattribute_2 _ _) (so a fs sl _) ⟨hx,hA,λh' tk' e hx'=>?_⟩) | wp_step))
 obtain⟨t',u',he⟩:=hx'.there;have kp:=hx'.keeps;show wpAny _ _ (getattributeRaised _ _ _ _ _ _ _) _ _ _;unfold getattributeRaised
 repeat (any_goals (first | assumption | wp_step))
 exact h _ _ kp
section
variable {prog:Program} {w:World} {K:Type} [DecidableEq K] {knd:KeyKind prog w K} {A:Around} {E:Value->Shared->Prop} {s:Shared} {z TI TO i1 i2 l1 l2:Addr} {xs ys:Array Value}
theorem tW{a b:Value}{kvs:List (K×Value)}{Q:Value->Shared->Prop}(hh:A.handled=none)(D:ZipApart z TI TO i1 i2 l1 l2)(hz:IsZip s.heap z TI TO .none)(hTI:IsPair s.heap TI (.ref i1) (.ref i2))(hTO:IsPair s.heap TO a b)
  (h1:s.heap.IsListIter i1 l1 0) (h2:s.heap.IsListIter i2 l2 0) (Ir:s.heap.IsList l1 xs) (Nw:s.heap.IsList l2 ys) (hn:(kvs.map (·.1)).Nodup) (hxs:xs.size=kvs.length) (hys:ys.size=kvs.length)
  (hkv:∀(i:Nat) kv,kvs[i]?=some kv->∃x,xs[i]?=some x/\knd.is kv.1 x=true/\ys[i]?=some kv.2) (hsz:kvs.length<=1000)
  (h:∀h' tk,h'.DictOf knd s.heap.objs.size kvs->(∀c o,c≠z->c≠TO->c≠i1->c≠i2->s.heap.get? c=some o->h'.get? c=some o)->Q (.ref s.heap.objs.size) {s with heap:=h',toks:=tk}) :
  wpAny (model prog w) A (call (.type "dict") [.ref z]) Q E s:=by
 refine callType_codes (Q₁:=λobj s₁=>obj=.ref s.heap.objs.size/\s₁={s with heap:=s.heap.push {cls:=.type "dict",data:=.dict #[]}}) F.kt_called_dict (F.kt_typeCall_dict_1 _) F.entry_dict_init (kt_code_dict_new _ ⟨rfl,rfl⟩) ?_;rintro obj s₁ ⟨rfl,rfl⟩;have up:∀c o,s.heap.get? c=some o->(s.heap.push {cls:=.type "dict",data:=.dict #[]}).get? c=some o:=λc o e=>aaf _ e
 have hnew:(s.heap.push {cls:=.type "dict",data:=.dict #[]}).DictOf knd s.heap.objs.size []:=Heap.DictOf.new s.heap;have ne:∀c o,s.heap.get? c=some o->s.heap.objs.size≠c:=λc o e=>aa5 (aab e)
 have nd:s.heap.objs.size≠z/\s.heap.objs.size≠TI/\s.heap.objs.size≠TO/\s.heap.objs.size≠i1/\s.heap.objs.size≠i2/\s.heap.objs.size≠l1/\s.heap.objs.size≠l2 :=
  ⟨ne _ _ hz,ne _ _ hTI,ne _ _ hTO,(by obtain⟨_,e,_⟩:=h1;exact ne _ _ e),(by obtain⟨_,e,_⟩:=h2;exact ne _ _ e),(by obtain⟨_,e,_⟩:=Ir;exact ne _ _ e),(by obtain⟨_,e,_⟩:=Nw;exact ne _ _ e)⟩
 refine⟨hnew.typeIs,F.args_dict_init_2 _ _,?_⟩;unfold Builtin.«dict.__init__»;refine wpAny_bind ?_;unfold Builtin.Dict.selfAndRest;refine wpAny_bind (wpAny_notOrdered_dict hnew.typeIs ?_);show wpAny _ _ (pure (s.heap.objs.size,[Value.ref z])) _ _ _;refine wpAny_pure ?_;show wpAny _ _ (Builtin.Dict.updateFrom "dict.__init__" s.heap.objs.size (.ref z) [] .none) _ _ _;unfold Builtin.Dict.updateFrom;refine wpAny_bind (wpAny_typeOf (T:="zip") ⟨_,up _ _ hz,rfl⟩ ?_);rw[if_pos (by decide)];refine wpAny_bind (Gd (up _ _ hz) (by simp[hh]) λh1' tk1 k1=>?_);show wpAny _ _ (rule _ >>= _) _ _ _;refine wpAny_bind (wpAny_rule ?_);refine wpAny_bind (wpAny_pyIter_zip (k1 _ _ (up _ _ hz)) ?_);refine wpAny_pure ⟨plainId_quiet FD.eI _,?_⟩;refine CV (knd:=knd) (by simp[hh]) D nd hn hxs hys hkv hsz kvs.length 0 0 _ (by omega) (Nat.zero_le _) ⟨.inl ⟨k1 _ _ (up _ _ hz),a,b,k1 _ _ (up _ _ hTO)⟩,k1 _ _ (up _ _ hTI),h1.at λo e=>k1 _ o (up _ _ e),h2.at λo e=>k1 _ o (up _ _ e),Ir.at λo e=>k1 _ o (up _ _ e),Nw.at λo e=>k1 _ o (up _ _ e)⟩ ?_ ?_
 ·obtain⟨o,es,ep,ho,rest⟩:=hnew;exact⟨o,es,ep,k1 _ _ ho,rest⟩
 ·intro h' tk hD kk;exact⟨rfl,h h' tk hD λc o c1 c2 c3 c4 e=>kk c o c1 c2 c3 c4 (ne _ _ e).symm (k1 _ _ (up _ _ e))⟩
end
section
variable {X:Cx} {a b:Expr} {ta:TA} {p p2 pos zpos:Pos}
def Oc(K:aV)(ta:TA):TE:=λσ H Q=>ta σ H λvs H1=>∃(l1 l2:Addr) (ks:List Str) (ys:List V),vs=[.ref l1,.ref l2]/\bZ K H1 l1 (ks.map V.str)/\bZ K H1 l2 ys/\ks.Nodup/\ys.length=ks.length/\ks.length<=1000/\∀d,H1 d=none->Q (.ref d) (upd H1 d (.dK ((ks.zip ys).map λp=>(Sum.inr p.1,p.2))))
theorem Ge(hgd:Gl X "dict")(hmd:X.mg "dict"=none)(hgz:Gl X "zip")(hmz:X.mg "zip"=none)(hc:X.calm=true)(ha:PA X [a,b] ta)(hs:starEach [a,b] X.env=[(false,eval a X.env),(false,eval b X.env)]:=by rfl)(Jc:starEach [b] X.env=[(false,eval b X.env)]:=by rfl)
  (Xx:starEach [.Call (.Name "zip" p2) [a,b] [] zpos] X.env=[(false,eval (.Call (.Name "zip" p2) [a,b] [] zpos) X.env)]:=by rfl) :
  PE X (.Call (.Name "dict" p) [.Call (.Name "zip" p2) [a,b] [] zpos] [] pos) (Oc X.K ta):=by
 intro pins s σ H Q I h;refine Call_ (oy I hgd hmd Jr (abu ?_ (by rw[Xx];rfl) rfl));rw[Xx];refine aco ?_;refine Call_ (oy I hgz hmz Nm (abu (bU (ha zpos pins s σ H _ I h) λus s1 ⟨vs,H1,I1,r1,q1⟩=>?_) (by rw[hs,Jc]) (by rw[Jc];rfl)));obtain⟨l1,l2,ks,ys,rfl,s1',s2',nd,hl,RS,q⟩:=q1;obtain⟨u1,u2,rfl,ZM,ZN⟩:=vals2 r1;cases ZM;cases ZN;obtain⟨ZO,r1,p1,_⟩:=I1.list s1';obtain⟨Od,r2,p2',_⟩:=I1.list s2';refine call_zip_2 p1.isList p2'.isList λh' hz hTI hTO h1 h2 hsz kk=>?_
 refine acu ?_;have lu:ZO.length=ks.length:=by rw[← r1.length,aah]
 have lv:Od.length=ks.length:=by rw[← r2.length,hl]
 have n1:=p1.lt;have n2:=p2'.lt;have ez:(ks.zip Od).length=ks.length:=by rw[List.length_zip];omega
 refine tW (knd:=cZ X.prog X.w) (kvs:=(ks.zip Od).map λp=>(Sum.inr p.1,p.2)) (show X.A.handled=none from I1.ok.hd hc) ⟨?_,?_,?_,?_,?_,?_,?_,?_,?_,?_,?_,?_,?_,?_,?_,?_,?_,?_⟩ hz hTI hTO h1 h2 (p1.isList.at λo e=>kk _ o e) (p2'.isList.at λo e=>kk _ o e) ?_ ?_ ?_ ?_ ?_ ?_
 all_goals first | exact aar (Nat.add_lt_add_left (by decide) _) | exact aa5 (Nat.add_lt_add_left (by decide) _) | exact aar (acJ (by decide)) | exact aa5 (acJ (by decide)) | exact aar (aae n1 (abG _ _)) | exact aar (aae n2 (abG _ _)) | exact aar n1 | exact aar n2 | skip
 ·have e:((ks.zip Od).map λp=>((Sum.inr p.1:Key),p.2)).map (·.1)=ks.map Sum.inr:=by
   rw[abV,show((λx:Key×Value=>x.1) ∘ λp:Str×Value=>(Sum.inr p.1,p.2))=Sum.inr ∘ Prod.fst from rfl,← abV,List.map_fst_zip (by omega)]
  rw[e];exact List.Pairwise.map _ (λa b h z=>h (acL z)) nd
 ·rw[List.length_map,ez];simpa using lu
 ·rw[List.length_map,ez];simpa using lv
 ·intro i kv hi;rw[aaO]at hi
  cases hzp:(ks.zip Od)[i]? with
  | none=>rw[hzp]at hi;cases hi
  | some pr =>
   rw[hzp]at hi;cases hi;obtain⟨g1,g2⟩:=List.getElem?_zip_eq_some.mp hzp;obtain⟨u,hu,ru⟩:=r1.get (i:=i) (x:=.str pr.1) (by rw[List.getElem?_map,g1];rfl);obtain⟨t,rfl⟩:=ru;exact⟨_,by simpa using hu,p5 _ _ _ _,by simpa using g2⟩
 ·rw[aah,ez];exact RS
 intro h'' tk hD kp
 have kp':∀c o,s1.heap.get? c=some o->h''.get? c=some o:=λc o e=>by
  have hc:=aab e;have ne:∀k,c≠s1.heap.objs.size + k:=λk=>aar (aae hc (abG _ _))
  exact kp c o (ne 4) (ne 3) (ne 0) (ne 1) (kk c o e)
 have hD':h''.DictOf (cZ X.prog X.w) (s1.heap.objs.size + 5) ((ks.zip Od).map λp=>(Sum.inr p.1,p.2)):=by
  have e:h'.objs.size=s1.heap.objs.size + 5:=hsz;rw[← e];exact hD
 have hkv:∀(ks:List Str) (ys:List V) (us:List Value),Vals ys us->KV ((ks.zip ys).map λp=>((Sum.inr p.1:Key),p.2)) ((ks.zip us).map λp=>((Sum.inr p.1:Key),p.2)):=by
  intro ks
  induction ks with
  | nil=>intro ys us _;exact .nil
  | cons k r ih =>
   intro ys us hv
   cases hv with
   | nil=>exact .nil
   | cons h t=>exact .cons ⟨rfl,h⟩ (ih _ _ t)
 have hnew:ej X.prog X.w (upd H1 (s1.heap.objs.size + 5) (.dK ((ks.zip ys).map λp=>(Sum.inr p.1,p.2)))) h'' (s1.heap.objs.size + 5) (.dK ((ks.zip ys).map λp=>(Sum.inr p.1,p.2))):=by
  show((ks.zip ys).map λp=>((Sum.inr p.1:Key),p.2)).length<=sizeLine/\((s1.heap.objs.size + 5:Nat) == sysModules)=false/\_;refine⟨?_,?_,_,hkv ks ys Od r2,hD'⟩
  ·rw[aah,List.length_zip,acn];omega
  ·have hb:sysModules < s1.heap.objs.size:=Nat.lt_trans (by decide) (I1.mod.glob.keeps I1.bk).lt;exact beq_false_of_ne (aa5 (aae hb (abG _ _)))
 refine⟨.ref (s1.heap.objs.size + 5),_,I1.laid (t':=tk) kp' (abG _ 5) hnew,?_,q _ (I1.hok.fresh (abG _ 5))⟩;show Value.ref h'.objs.size=Value.ref (s1.heap.objs.size + 5);rw[show h'.objs.size=s1.heap.objs.size + 5 from hsz]
end
section
variable {X:Cx} {CW:Addr} {cx n:Str} {i:Nat} {b₀:Stmt} {suite orelse:List Stmt} {np hpos pos:Pos} {tb te:TS}
end
section
variable {X:Cx} {Y:YK} {CW:Addr} {cx n x:Str} {i:Nat} {b₀:Stmt} {suite orelse:List Stmt} {np hpos pos:Pos} {s se:DS} {nn:Nat} {d:ot} {e:Expr} {es:List Expr}
end
theorem dn{K:aV}{M:Model}{A:Around}{E:Value->Shared->Prop}{h:Heap}{g:Array GenState}{d:Drawn}{t:Nat}{os:OsState}{a C CW:Addr}{oe:Obj}{Q:Bool->Shared->Prop}{b:Bool}(X:K.In h)(he:h.get? a=some oe)(hcls:oe.cls=.ref C)
  (q:PySem.W.ktsIn K CW "BaseException"=true) (m:PySem.W.mroIn K C (.ref CW)=some b) (hq:Q b ⟨h,g,d,t,os⟩):wpAny M A (excMatches (.ref a) (.ref CW)) Q E ⟨h,g,d,t,os⟩:=by
 obtain⟨nm,qn,N,bs,bm,hdct,sn,sub,ab,col,dd,k0,k1,k2,k3,k5,newId,hC,hbase,_⟩:=PySem.W.kts_cls X q;have hcB:(Value.ref CW::bm).contains (.type "BaseException")=true:=by rw[acq,hbase,ac1]
 have f:=tc_notTuple;have L:=PySem.W.looks_mroIn (M:=M) X m;unfold excMatches;cases b<;>repeat (first | (with_reducible refine wpAny_loadPart_at he ?_;rw[hcls]) | with_reducible refine wpAny_loadPart_at hC ?_ | (with_reducible refine wpAny_isSubtype_exc hC ?_;rw[hcB]) | with_reducible refine L.at ?_ | wp_step)
 all_goals exact hq
structure J8(X:Cx)(pins:List (Addr×Obj))(σ:St)(H0 H:Hp)(a C t:Addr)(dd:Option Addr)(B:Heap)(s0 s1:Shared)(h:Heap):Prop where
 hst:X.stack=X.env::X.outer
 hf:X.env.frame=some X.env.locals
 hex:X.ex=[]
 I0:Inv X pins σ H0 s0
 ho:s1.os=s0.os
 hb:AllBare s1.gens
 F:Ma X.prog X.w (X.env::X.outer) H0 H s0.heap B a (.ref C) (.ref t) s1.heap
 fl:Heap.FlyingW B (X.env::X.outer) a (.ref C) (.ref t) h
 sm:s1.heap.UpToSlots h
 di:fA h a dd
section
variable {X:Cx} {pins:List (Addr×Obj)} {σ:St} {H0 H:Hp} {a C t:Addr} {dd:Option Addr} {B h:Heap} {s0 s1:Shared}
theorem J8.inv(L:J8 X pins σ H0 H a C t dd B s0 s1 h){h':Heap}(st:B.StaysIn h')(u:s1.heap.UpToSlots h')(tk:Nat):Inv X pins σ H {s1 with heap:=h',toks:=tk}:=by
 refine L.I0.A2 (ch:=[]) L.ho ?_ (L.F.hok.kept st) L.hb (λb z=>nomatch z);show Un (iK X.stack) [] H0 H s0.heap h';rw[L.hst];exact L.F.Xn st u
theorem J8.now(L:J8 X pins σ H0 H a C t dd B s0 s1 h)(tk:Nat):Inv X pins σ H {s1 with heap:=h,toks:=tk}:=L.inv L.fl.1 L.sm tk
theorem J8.Ts(L:J8 X pins σ H0 H a C t dd B s0 s1 h)(b:Addr)(hB:B.get? b=none)(hn:b∉iK (X.env::X.outer)):X.s₀.heap.get? b=none:=by
 cases e:X.s₀.heap.get? b with
 | none=>rfl
 | some o =>
  obtain⟨o1,e1⟩:=L.I0.base.there b o e (by rw[L.hex];exact λz=>nomatch z);obtain⟨o3,e3⟩:=L.F.there b o1 e1 hn;rw[hB]at e3;cases e3
theorem J8.Ri(L:J8 X pins σ H0 H a C t dd B s0 s1 h){b:Addr}{o:Obj}{vs:Array Value}(e1:h.get? b=some o)(e2:o.data=.fields vs):b∉iK (X.env::X.outer):=λhm=>by
 obtain⟨_,o',ho',hn'⟩:=L.fl.2.2.1.mem hm;rw[e1]at ho';cases ho';exact hn' _ e2
end
def tX(X:Cx)(hs:List ExceptHandler)(th:Ends->St->XK):Prop:=∀(pins:List (Addr×Obj)) (σ:St) (H0 H:Hp) (D:Ends) (a C t:Addr) (dd:Option Addr) (B:Heap) (s0 s1:Shared) (h:Heap),
 J8 X pins σ H0 H a C t dd B s0 s1 h->th D σ (.ref C) dd H->wpAny (model X.prog X.w) X.A (handleBy (.ref a) X.env hs) (SP X pins D) X.xe {s1 with heap:=h}
def Gf(E:XK):Ends->St->XK:=λ_ _=>E
def RT(K:aV)(CW:Addr)(i:Nat)(tb:TS)(rest:Ends->St->XK):Ends->St->XK:=λD σ cls dd H2=>∃C,cls=.ref C/\((PySem.W.mroIn K C (.ref CW)=some true /\
 ∀a,H2 a=none->tb {nx:=λσ' H'=>D.nx (σ'.set i none) H',rt:=D.rt,bk:=λσ' H'=>D.bk (σ'.set i none) H',ct:=λσ' H'=>D.ct (σ'.set i none) H'} (σ.set i (some (.ref a))) (upd H2 a (.ext (Md C a dd)))) ∨
 (PySem.W.mroIn K C (.ref CW)=some false/\rest D σ cls dd H2))
def UU(K:aV)(CW:Addr)(tb:TS)(rest:Ends->St->XK):Ends->St->XK:=λD σ cls dd H2=>∃C,cls=.ref C/\((PySem.W.mroIn K C (.ref CW)=some true/\tb D σ H2)∨(PySem.W.mroIn K C (.ref CW)=some false/\rest D σ cls dd H2))
section
variable {X:Cx} {CW:Addr} {cx n:Str} {i:Nat} {b₀:Stmt} {suite:List Stmt} {np hpos pos:Pos} {tb:TS} {hs:List ExceptHandler} {th:Ends->St->XK} {E:XK}
theorem z9(hp:kX X E):tX X [] (Gf E):=by
 intro pins σ H0 H D a C t dd B s0 s1 h L hE;refine wpAny_handleBy_nil ?_;obtain⟨f1,f2,f3,oe,vs,T,oT,ts,he,hcls,hd,h1,hnT,hTe,hT,hdT,h3⟩:=id L.fl;have hz:3 < ts.size:=(Array.getElem?_eq_some_iff.mp h3).1;unfold PySem.passOn;refine wpAny_bind (wpAny_field he hd h1 ?_);rw[if_neg (by intro z;cases z)];unfold setFlight;refine wpAny_bind (wpAny_bind (wpAny_field he hd h1 ?_));rw[if_pos (by rfl),L.hf];refine wpAny_setField hT hdT hz ?_;refine wpAny_throw ?_;have other:∀b,b≠T->(h.update T (Obj.mapFields (·.setIfInBounds 3 (rawInt X.env.locals)))).get? b=h.get? b:=λb hb=>Heap.get?_update_other _ _ (Ne.symm hb)
 have self':=abi (Obj.mapFields (·.setIfInBounds 3 (rawInt X.env.locals))) hT (aca (abZ hdT _));have st:B.StaysIn (h.update T (Obj.mapFields (·.setIfInBounds 3 (rawInt X.env.locals)))):=λb o hbo=>(other b λq=>by rw[q,hnT]at hbo;cases hbo).trans (f1 b o hbo)
 have up:s1.heap.UpToSlots (h.update T (Obj.mapFields (·.setIfInBounds 3 (rawInt X.env.locals)))):=λb o hb hnf=>by
  obtain⟨sl,q⟩:=L.sm b o hb hnf;refine⟨sl,(other b λz=>?_).trans q⟩;rw[z,hT]at q;have e:=aak q;rw[e]at hdT;exact hnf ts hdT
 have I':=L.inv st up s1.toks;obtain⟨od,gd,qd⟩:=L.di;exact hp pins σ H _ a C t T dd I' ⟨hTe,oe,vs,_,_,(other a (Ne.symm hTe)).trans he,hcls.1,hcls.2,hd,h1,self',Obj.data_mapFields hdT _,by simp[hz]⟩ ⟨od,(other a (Ne.symm hTe)).trans gd,qd⟩ L.F.new (kO.has L.F.hok hnT)
  (L.Ts a f2 (L.Ri he hd)) (L.Ts T hnT (L.Ri hT hdT)) hE
theorem J9:tX X [] (Gf E0):=λ_ _ _ _ _ _ _ _ _ _ _ _ _ _ h=>h.elim
theorem Gg(hg:Gl X cx)(hm:X.mg cx=some (.ref CW))(q:PySem.W.ktsIn X.K CW "BaseException"=true)(hN:X.N.Nodup)(hi:X.N[i]?=some n)(hk:X.env.kindOf n=some .local)(hs':∀a E,oo (X.hand a E) (b₀::suite) tb)(hr:tX X hs th)
  (hd:(cx == ("__debug__" : Str))=false:=by decide):tX X (.ExceptHandler (some (.Name cx np)) (some n) (b₀::suite) hpos::hs) (RT X.K CW i tb th):=by
 intro pins σ H0 H D a C t dd B s0 s1 h L hE;obtain⟨C',hC',hE⟩:=hE;cases hC';have I5:=L.now s1.toks;obtain⟨oe,vs,g1,g2,g3,g4⟩:=L.fl.first;refine ack (acb ?_) (by intro q;cases q);refine gF (X:=X.hand a λ_ _=>False) (I5.hand a _) hg hm ?_ hd;rcases hE with⟨hsub,hE⟩ | ⟨hsub,hE⟩;rotate_left
 ·exact dn I5.jb g1 g2 q hsub (hr pins σ H0 H D a C t dd B s0 s1 h L hE)
 refine dn I5.jb g1 g2 q hsub (codeAny_handlers_suite_as ?_);have Oe:∀A3:Around,wpAny (model X.prog X.w) A3 (setFlight (.ref a) none) (λ_ s'=>∃h6,s'={s1 with heap:=h6}/\Heap.FlyingW B (X.env::X.outer) a (.ref C) (.ref t) h6/\h.UpToSlots h6) (λ_ _=>False) {s1 with heap:=h}:=λA3=>lands_againW (s:={s1 with heap:=h}) L.fl λh6 Aa Ka=>⟨h6,rfl,Aa,Ka⟩
 refine aam (dI (fz (.ref a) none) (Oe _)) (λ_ s6 z6=>?_) λ_ _ z=>z.elim
 obtain⟨⟨h6,rfl,Aa,Ka⟩,UW⟩:=z6;obtain⟨UX,Tt,Xy,_⟩:fA h6 a dd:=L.di.dk UW;have I6:=L.inv Aa.1 (L.sm.trans Ka) s1.toks;obtain⟨oe,vs,g1,g2,g3,g4⟩:=Aa.first;have nH:H a=none:=L.F.new;have nB:B.get? a=none:=Aa.2.1
 have nf:a∉iK (X.env::X.outer):=λhm=>by
  obtain⟨_,o,ho',hn'⟩:=Aa.2.2.1.mem hm;rw[g1]at ho';cases ho';exact hn' _ g3
 have hL:a≠X.env.locals:=λz=>nf ((bt L.hf).mpr (.inl z))
 have hfs:a∉X.fs:=λz=>nf ((bt L.hf).mpr (.inr z))
 have old:∀b o,s0.heap.get? b=some o->b≠a:=λb o e z=>by
  subst z;obtain⟨o',e'⟩:=L.F.there b o e nf;rw[nB]at e';cases e'
 have hcc:∀x c,X.env.cells.lookup x=some c->c≠a:=λx c e z=>by
  obtain⟨v,o,ho',hd'⟩:=I6.cell x c e;have Co:h6.get? c=some o:=ho';rw[z,g1]at Co;cases Co;rw[g3]at hd';cases hd'
 have hpp:∀p∈X.pn++pins,p.1≠a:=λp hp z=>by
  have:=(L.I0.pin p hp).1;exact old _ _ this z
 have qd:oe.dict=dd:=by
  have z:h6.get? a=some oe:=g1;rw[Tt]at z;cases z;exact Xy
 have I7:=I6.adopt (φ:=Md C a dd) nH (L.Ts a nB nf) hL hfs hcc hpp ⟨⟨oe,vs,g1,g2,g3,qd⟩,⟨oe,g1⟩,λu v ⟨o,ws,q1,q2,q3,q4⟩ k=>⟨o,ws,k o q1,q2,q3,q4⟩⟩;refine ow I7 hN hi (.inl hk) (v:=.ref a) rfl (λs8 I8 _=>?_) (.inr hk);refine aam (hs' a _ pins s8 _ _ _ (I8.hand a _) (hE a nH)) (λfl s9 h9=>?_) (λ_ _ z=>z)
 cases fl with
 | next =>
  obtain⟨σ',H9,I9,q9⟩:=h9;exact Bo (I9.gf L.I0.ok) hN hi hk λs' I'=>⟨_,H9,I',q9⟩
 | brk =>
  obtain⟨σ',H9,I9,q9⟩:=h9;exact Bo (I9.gf L.I0.ok) hN hi hk λs' I'=>⟨_,H9,I',q9⟩
 | cont =>
  obtain⟨σ',H9,I9,q9⟩:=h9;exact Bo (I9.gf L.I0.ok) hN hi hk λs' I'=>⟨_,H9,I',q9⟩
 | ret u =>
  obtain⟨v,σ',H9,I9,r9,q9⟩:=h9;exact Bo (I9.gf L.I0.ok) hN hi hk λs' I'=>⟨v,_,H9,I',r9,q9⟩
theorem RU(hg:Gl X cx)(hm:X.mg cx=some (.ref CW))(q:PySem.W.ktsIn X.K CW "BaseException"=true)(hs':∀a E,oo (X.hand a E) (b₀::suite) tb)(hr:tX X hs th)
  (hd:(cx == ("__debug__" : Str))=false:=by decide):tX X (.ExceptHandler (some (.Name cx np)) none (b₀::suite) hpos::hs) (UU X.K CW tb th):=by
 intro pins σ H0 H D a C t dd B s0 s1 h L hE;obtain⟨C',hC',hE⟩:=hE;cases hC';have I5:=L.now s1.toks;obtain⟨oe,vs,g1,g2,g3,g4⟩:=L.fl.first;refine ack (acb ?_) (by intro q;cases q);refine gF (X:=X.hand a λ_ _=>False) (I5.hand a _) hg hm ?_ hd;rcases hE with⟨hsub,hE⟩ | ⟨hsub,hE⟩;rotate_left
 ·exact dn I5.jb g1 g2 q hsub (hr pins σ H0 H D a C t dd B s0 s1 h L hE)
 refine dn I5.jb g1 g2 q hsub (codeAny_handlers_suite ?_);refine lands_againW (s:={s1 with heap:=h}) L.fl λh6 Aa Ka=>?_
 have I6:=L.inv Aa.1 (L.sm.trans Ka) s1.toks;refine aam (hs' a _ pins _ _ _ _ (I6.hand a _) hE) (λfl s9 h9=>?_) (λ_ _ z=>z)
 cases fl with
 | next =>
  obtain⟨σ',H9,I9,q9⟩:=h9;exact⟨σ',H9,I9.gf L.I0.ok,q9⟩
 | brk =>
  obtain⟨σ',H9,I9,q9⟩:=h9;exact⟨σ',H9,I9.gf L.I0.ok,q9⟩
 | cont =>
  obtain⟨σ',H9,I9,q9⟩:=h9;exact⟨σ',H9,I9.gf L.I0.ok,q9⟩
 | ret u =>
  obtain⟨v,σ',H9,I9,r9,q9⟩:=h9;exact⟨v,σ',H9,I9.gf L.I0.ok,r9,q9⟩
def Xz(X:Cx)(hs:List ExceptHandler)(pins:List (Addr×Obj))(D:Ends):Value->Shared->Prop:=λe s₁=>wpAny (model X.prog X.w) X.A (noteFrame e X.env) (λ_ s₂=>wpAny (model X.prog X.w) X.A (setFlight e none) (λ_ s₃=>wpAny (model X.prog X.w) X.A (handleBy e X.env hs) (SP X pins D) X.xe s₃) X.xe s₂) X.xe s₁
theorem Kb{pins:List (Addr×Obj)}{σ:St}{H:Hp}{s s1:Shared}{D:Ends}{e:Value}(hd:tX X hs th)(hst:X.stack=X.env::X.outer)(hf:X.env.frame=some X.env.locals)(hex:X.ex=[])
  (I:Inv X pins σ H s) (hc:dD X.prog X.w X.stack H s (th D σ) e s1):Xz X hs pins D e s1:=by
 obtain⟨a,C,t,H',B,dd,rfl,ho,hb,F,hdd,hE⟩:=hc;have hfr:X.A.frames=some (X.env::X.outer):=by rw[← hst];exact I.ok.frames
 have F0:Ma X.prog X.w (X.env::X.outer) H H' s.heap B a (.ref C) (.ref t) s1.heap:=by rw[← hst];exact F
 have lib1:=wpAny_looks_onW (M:=model X.prog X.w) (A:=X.A) (E:=X.xe) (s:=s1) (Q:=λ_ s'=>∃h4,s'={s1 with heap:=h4}/\Heap.HeldW B (X.env::X.outer) a (.ref C) (.ref t) X.env.locals h4/\s1.heap.UpToSlots h4) hfr hf F0.fly λh4 kF NA=>⟨h4,rfl,kF,NA⟩
 refine aam (dI (qF (.ref a) X.env) lib1) (λ_ s4 z4=>?_) λ_ _ z=>z
 obtain⟨⟨h4,rfl,kF,NA⟩,Ux⟩:=z4;have lib2:=wpAny_landsW (M:=model X.prog X.w) (A:=X.A) (E:=X.xe) (s:={s1 with heap:=h4}) (Q:=λ_ s'=>∃h5,s'={s1 with heap:=h5}/\Heap.FlyingW B (X.env::X.outer) a (.ref C) (.ref t) h5/\h4.UpToSlots h5) kF λh5 RV Of=>⟨h5,rfl,RV,Of⟩
 refine aam (dI (fz (.ref a) none) lib2) (λ_ s5 z5=>?_) λ_ _ z=>z
 obtain⟨⟨h5,rfl,RV,Of⟩,ZP⟩:=z5;exact hd pins σ H H' D a C t dd B s s1 h5 ⟨hst,hf,hex,I,ho,hb,F0,RV,NA.trans Of,(hdd.dk Ux).dk ZP⟩ hE
end
def Arr(X:Cx)(pins:List (Addr×Obj))(σ:St)(E:XK)(E':Value->Shared->Prop):Prop:=∀(H0:Hp) (s0:Shared) (e:Value) (s':Shared),Inv X pins σ H0 s0->dD X.prog X.w X.stack H0 s0 E e s'->E' e s'
def Og(X:Cx)(e:Expr)(t:XK->TE):Prop:=∀(E':Value->Shared->Prop) (pins:List (Addr×Obj)) (s:Shared) (σ:St) (H:Hp) (Q:VK) (E:XK),Arr X pins σ E E'->Inv X pins σ H s->t E σ H Q->wpAny (model X.prog X.w) X.A (eval e X.env) (EP X pins σ Q) E' s
def Tu(X:Cx)(es:List Expr)(t:XK->TA):Prop:=∀(pos:Pos) (E':Value->Shared->Prop) (pins:List (Addr×Obj)) (s:Shared) (σ:St) (H:Hp) (Q:List V->Hp->Prop) (E:XK),Arr X pins σ E E'->Inv X pins σ H s->t E σ H Q->wpAny (model X.prog X.w) X.A (spliced (backTo pos (starEach es X.env))) (AP X pins σ Q) E' s
def Qs(X:Cx)(body:List Stmt)(t:XK->TS):Prop:=∀(E':Value->Shared->Prop) (pins:List (Addr×Obj)) (s:Shared) (σ:St) (H:Hp) (D:Ends) (E:XK),Arr X pins σ E E'->Inv X pins σ H s->t E D σ H->wpAny (model X.prog X.w) X.A (execs body X.env) (SP X pins D) E' s
section
variable {X:Cx} {e o:Expr} {es:List Expr} {te:TE} {t:TA} {tx:XK->TE} {ts:XK->TA} {pos cpos apos epos p:Pos} {body:List Stmt} {tb:XK->TS}
theorem Oh(h:∀E',PE (X.fw E') e te):Og X e (λ_=>te):=λE' pins s σ H Q _ _ I q=>bU (h E' pins s σ H Q (I.fw E') q) λ_ _ ⟨x,H1,I1,r,z⟩=>⟨x,H1,I1.fZ,r,z⟩
theorem Gh{x:Str}{k:Nat}{ps:List Str}{sp:Sp}(h:eM X.prog X.w X.K X.mg X.base (dD X.prog X.w) x k ps sp)(hr:cw k X.A)(hg:Gl X x)(ha:∀E',PA (X.fw E') (e::es) t)(hdb:(x == ("__debug__" : Str))=false:=by decide)
  (he:starEach (e::es) X.env=(false,eval e X.env)::starEach es X.env:=by rfl) (hpl:(backTo cpos (starEach es X.env)).any (·.1)=false:=by rfl):Og X (.Call (.Name x p) (e::es) [] cpos) (λE=>xA sp [] E t):=by
 intro E' pins s σ H Q E hx I hw;obtain⟨f,fd,F,b,kp,m⟩:=h.ex;refine abb (gF (X:=X.fw E') (I.fw E') hg m ?_ hdb);refine abh (h₀:=X.base) I.ok.mod.kin kp (bU (ha E' cpos pins s σ H _ (I.fw E') hw) λus s1 ⟨vs,H1,I1,r,q1⟩=>⟨I1.jb,?_⟩) he hpl;have I1':=I1.fZ;have hl:(us++[]).length=ps.length:=by rw[← (r.append (show Vals [] []from .nil)).length];exact F.len _ _ _ _ q1
 refine acf (abS (F.run X.A X.stack s1 H1 ⟨us,[]⟩ (us++[]) (vs++[]) _ _ hr I1'.EK (b s1 us I1'.jb hl) (r.append .nil) q1) λr s' hq=>?_)
 cases r with
 | error e=>exact hx _ _ e s' I1' hq
 | ok fl =>
  cases fl with
  | ret u=>exact I1'.after hq
  | next=>exact False.elim hq
  | brk=>exact False.elim hq
  | cont=>exact False.elim hq
theorem sq{m:Str}{k:Nat}{ps:List Str}{sp:Sp}{C:Addr}{ta:TE}{pl:Sem Bool}(ho:∀E',PE (X.fw E') o ta)(h:dR X.prog X.w X.K X.mg X.base (dD X.prog X.w) C m k ps sp)(hr:cw k X.A)(ha:∀E',PA (X.fw E') (e::es) t)
  (hst:starEach (e::es) X.env=(false,eval e X.env)::starEach es X.env:=by rfl) (hpl:(backTo pos (starEach es X.env)).any (·.1)=false:=by rfl)
  (ht:eval (.Call (.Attribute o m apos) (e::es) [] pos) X.env=(do
   let ov ← eval o X.env
   standAt apos.atName
   let (f,first) ← holding [ov] (getMethod ov m pl)
   callWith pos f first (backTo pos (starEach (e::es) X.env)) (backToKw pos (keywordEach [] X.env))):=by rfl) :
  Og X (.Call (.Attribute o m apos) (e::es) [] pos) (λE=>uz C m sp [] E ta t):=by
 intro E' pins s σ H Q E hx I hw;obtain⟨f,fd,F,b,M⟩:=h.ex;refine ab9 (pl:=pl) (bU (ho E' pins s σ H _ (I.fw E') hw) λu s1 ⟨x,H1,I1,rx,a,dx,fs,ex,ea,l,q⟩=>?_) ht;subst ex;obtain rfl:u=Value.ref a:=rx;refine mC (X:=X.fw E') I1 ea h.cl M l ?_;refine abh (first:=[.ref a]) (h₀:=X.base) I.ok.mod.kin M.kp (bU (ha E' pos pins s1 σ H1 _ I1 q) λus s2 ⟨vs,H2,I2,r,q2⟩=>⟨I2.jb,?_⟩) hst hpl;have I1':=I2.fZ;have r2:Vals (V.ref a::(vs++[])) ((Value.ref a::us)++[]):=.cons rfl (r.append .nil);have hl:((Value.ref a::us)++[]).length=ps.length:=by rw[← r2.length];exact F.len _ _ _ _ q2
 refine acf (abS (F.run X.A X.stack s2 H2 ⟨Value.ref a::us,[]⟩ ((Value.ref a::us)++[]) (V.ref a::(vs++[])) _ _ hr I1'.EK (b s2 (Value.ref a::us) I1'.jb hl) r2 q2) λr s' hq=>?_)
 cases r with
 | error e=>exact hx _ _ e s' I1' hq
 | ok fl =>
  cases fl with
  | ret u=>exact I1'.after hq
  | next=>exact False.elim hq
  | brk=>exact False.elim hq
  | cont=>exact False.elim hq
theorem Kc:Tu X [] (λ_=>vw):=λ_ _ _ _ _ H _ _ _ I h=>acu ⟨[],H,I,.nil,h⟩
theorem ym(ha:Og X e tx)(hr:Tu X es ts)(hs:starEach (e::es) X.env=(false,eval e X.env)::starEach es X.env:=by rfl):Tu X (e::es) (λE=>EJ (tx E) (ts E)):=by
 intro pos E' pins s σ H Q E hx I h;rw[hs];show wpAny _ _ (spliced ((false,eval e X.env)::backTo pos (starEach es X.env))) _ _ s;refine aco (bU (ha E' pins s σ H _ E hx I h) λu s1 ⟨x,H1,I1,r1,q1⟩=>?_);exact bU (hr pos E' pins s1 σ H1 _ E hx I1 q1) λus s2 ⟨xs,H2,I2,r2,q2⟩=>⟨x::xs,H2,I2,.cons r1 r2,q2⟩
theorem Ke{x1}(h:Tu X es ts):Og X (.Tuple es x1 pos) (λE=>M6 (ts E)):=by
 intro E' pins s σ H Q E hx I hq;refine wpAny_Tuple_spliced (bU (h pos E' pins s σ H _ E hx I hq) λus s1 ⟨xs,H1,I1,r,z,q⟩=>⟨by rw[← r.length];exact z,?_⟩);have hf:H1 s1.heap.objs.size=none:=I1.hok.fresh (aai _);refine⟨.ref s1.heap.objs.size,upd H1 s1.heap.objs.size (.tup xs),I1.laid (t':=s1.toks) (λb u e=>aaf _ e) (aai _) ?_,rfl,q _ hf⟩;exact⟨z,us,r,⟨_,aaC _ rfl,rfl,_,rfl⟩⟩
theorem BL(h:Og X e tx):Qs X [.Return (some e) pos] (λE=>MS (tx E)):=by
 intro E' pins s σ H D E hx I hw;refine abW (bU (wpAny_Return_some (Q:=SP X pins D) (bU (h E' pins s σ H _ E hx I hw) λv s1 ⟨x,H1,I1,r1,q1⟩=>⟨x,σ,H1,I1,r1,q1⟩)) λfl s1 h1=>?_)
 cases fl with
 | next=>exact abw h1
 | brk=>exact h1
 | cont=>exact h1
 | ret u=>exact h1
theorem Gi:Qs X [.Return none pos] (λ_=>QJ):=by
 intro E' pins s σ H D E hx I hw;exact abW (wpAny_Return_none ⟨.non,σ,H,I,rfl,hw⟩)
theorem Kf:Qs X [] (λ_=>kP):=λE' pins s σ H D E hx I hw=>abw ⟨σ,H,I,hw⟩
theorem yn(h:Og X e tx)(hb:Qs X body tb)(hsw:swapsWith e none epos.line X.env=pure false:=by rfl):Qs X (.Expr e epos::body) (λE=>ql (LR (tx E)) (tb E)):=by
 intro E' pins s σ H D E hx I hw;refine abW (wpAny_Expr_any (bU (h E' pins s σ H _ E hx I hw) λv s1 ⟨x,H1,I1,r1,q1⟩=>?_) I.quiet hsw);exact hb E' pins s1 σ H1 D E hx I1 q1
def RX(t:XK->TS)(th:Ends->St->XK):TS:=λD σ H=>t (th D σ) D σ H
theorem qJ{h₀:ExceptHandler}{hs:List ExceptHandler}{th:Ends->St->XK}(hb:Qs X body tb)(hd:tX X (h₀::hs) th)(hst:X.stack=X.env::X.outer:=by rfl)(hf:X.env.frame=some X.env.locals:=by rfl)(hex:X.ex=[]:=by rfl):
  PS X (.Try body (h₀::hs) [] [] pos) (RX tb th):=by
 intro pins s σ H D I hw;refine wpAny_Try_except ?_;refine aam (hb (Xz X (h₀::hs) pins D) pins s σ H D (th D σ) (λH0 s0 e s' I0 hc=>Kb hd hst hf hex I0 hc) I hw) (λfl s1 h1=>?_) λ_ _ z=>z
 cases fl with
 | next=>exact abw h1
 | brk=>exact h1
 | cont=>exact h1
 | ret u=>exact h1
end
theorem fV{P:Program}{w:World}{K:aV}{mg:Str->Option Value}{base:Heap}{CX:xo}{k:Nat}{f:Addr}{fd:FuncData}{ps:List Str}{sp:Sp}(h:∀vs H Q E,sp vs H Q E->False):bL P w K mg base CX k f fd ps sp :=
 ⟨λvs H Q E z=>(h vs H Q E z).elim,λ_ _ _ H _ _ vs Q E _ _ _ _ z=>(h vs H Q E z).elim⟩
theorem Oi{A:Around}{k:Nat}{v:Option Value}(hr:cw k A):(A.mark v).units + 1 < cLine:=show A.units + 1 < cLine from Bi hr
abbrev yo:=List PyData->(List PyData->Prop)->Prop
def BM(K:aV)(P:Addr->Prop)(H:Hp)(Q:VK)(zs:List PyData):Prop:=∀(a:Addr) (ys:List V) (H':Hp),bf H H'->H a=none->H' a=some (.lst ys)->cI (aX K (λc=>P c∨c=a) H') ys zs->Q (.ref a) H'
def RY(K:aV)(T:yo):Sp:=λvs H Q _=>∃(P:Addr->Prop) (ds:List PyData),(∀c,P c->∃o,H c=some o/\kJ o)/\cI (aX K P H) vs ds/\T ds (BM K P H Q)
def BN(K:aV)(sp:Sp)(T:yo):Prop:=∀(vs:List V) (H:Hp) (Q:VK) (P:Addr->Prop) (ds:List PyData),(∀c,P c->∃o,H c=some o/\kJ o)->cI (aX K P H) vs ds->T ds (BM K P H Q)->sp vs H Q E0
theorem RZ{K:aV}{T:yo}:BN K (RY K T) T:=λ_ _ _ P ds h1 h2 h3=>⟨P,ds,h1,h2,h3⟩
def Gj(T:yo):Prop:=∀ds (Q Q':List PyData->Prop),(∀z,Q z->Q' z)->T ds Q->T ds Q'
@[reducible] def qL(T:yo)(xs:List DV)(st:aR)(Q:DC):Prop:=fu xs st λds aM=>T ds λzs=>Q (.ref aM.length) (aM++[.live zs])
theorem CY{J:KF}{sp:Sp}{T:yo}(h:BN J.K sp T)(m:Gj T):AB J (λvs H Q=>sp (vs++[]) H Q E0) (qL T):=λH0 A0 G al H st vs ds Q R I hp q k=>by
 obtain⟨es,aM,E1,I1,F1,q1⟩:=lX I hp q;rw[aaT];refine h vs H R (Fb G al aM) es (λc hc=>I1.nz hc) F1 (m _ _ _ (λzs hz a ys H' s na ga r=>?_) q1)
 have hs:∀c,Fb G (al++[[a]]) (aM++[.live zs]) c->Fb G al aM c∨c=a:=λc hc=>by
  rcases hc with z | ⟨j,f,ce,e1,e2,e3,e4⟩
  ·exact .inl (.inl z)
  ·by_cases l:j < al.length
   ·rw[aax l]at e1;rw[aax (by rw[← I1.len];exact l)]at e3;exact .inl (.inr ⟨j,f,ce,e1,e2,e3,e4⟩)
   ·have hj:j=al.length:=by
     have:=(ft e1).1;rw[List.length_append]at this;simp at this;omega
    subst hj;rw[aaI (aai _),ach]at e1;cases e1;exact .inr (xq e2)
 obtain⟨E2,I2⟩:=I1.more (fp:=[a]) (c:=.live zs) (λb hb=>by rw[xq hb];exact na) (by simp) s (λb hb=>⟨.lst ys,by rw[xq hb];exact ga⟩) ⟨a,ys,rfl,ga,r.imp λy x z=>z.sub hs⟩;exact k (.ref aM.length) _ _ (.ref a) H' (E1.trans I1 E2) I2 ⟨a,[],by rw[← I1.len,List.getElem?_append_right (Nat.le_refl _),Nat.sub_self];rfl,rfl⟩ hz
section
variable {X:Cx} {Y:YK} {x:Str} {e:Expr} {es:List Expr} {p pos:Pos} {n:Nat} {d:ot}
theorem CZ{kk:Nat}{ps:List Str}{sp:Sp}{T:yo}(h:eM X.prog X.w X.K X.mg X.base cb x kk ps sp)(hs:BN X.K sp T)(m:Gj T)(hr:cw kk X.A)(hg:Gl X x)(ha:vO X Y (e::es) n d)(hdb:(x == ("__debug__" : Str))=false:=by decide)
  (he:starEach (e::es) X.env=(false,eval e X.env)::starEach es X.env:=by rfl) (hpl:(backTo pos (starEach es X.env)).any (·.1)=false:=by rfl):cc X Y (.Call (.Name x p) (e::es) [] pos) (y9 (qL T) d):=by
 obtain⟨t,p1,a1⟩:=ha.h;exact⟨_,cT h hr hg p1 hdb he hpl,vU (CY hs m) a1⟩
@[reducible] def Oj(T:List PyData->Prop)(dv:DV)(st:aR):Prop:=match dv with
 | .ref k=>match st[k]? with
  | some (.live zs)=>T zs
  | _=>False
 | _=>False
theorem Ab{N:List Str}{body:List Stmt}{vs:List V}{ds:List PyData}{H:Hp}{Q:VK}{P:Addr->Prop}(hP:∀c,P c->∃o,H c=some o/\kJ o)(hv:cI (aX X.K P H) vs ds)
  (h:rT X y0 body {nx:=λ_ _=>False,rt:=Oj (BM X.K P H Q)} (ds.map (λd=>some (DV.dat d))++List.replicate (N.length - ds.length) none) []) :
  ∃t,oo X body t/\t {nx:=λ_ H'=>Q .non H',rt:=Q} (start N vs) H:=by
 obtain⟨s,⟨t,p1,a1⟩,q⟩:=h;have I:DI (kf X y0) H (λ_=>False) P [] H []:=⟨rfl,List.nodup_nil,λ_ h=>by simp at h,λk a c h=>by simp at h,λc o _ e=>e,λ_ h=>by simp at h,λ_ h=>by simp at h,hP,trivial⟩;refine⟨t,p1,a1 H (λ_=>False) P [] H [] _ _ _ _ I ⟨by unfold start;simp[hv.1],λi dv hi=>?_⟩ q ⟨λenv' st' al' σ' H' e' I' E' q'=>q'.elim,λdv st' al' v H' e' I' d' q'=>?_,λenv' st' al' σ' H' e' I' E' q'=>q'.elim,λenv' st' al' σ' H' e' I' E' q'=>q'.elim⟩⟩
 ·by_cases l:i < ds.length
  ·rw[List.getElem?_append_left (by simpa using l),List.getElem?_map,jG l]at hi;cases hi;obtain⟨y,hy,hr⟩:=hv.at (jG l);refine⟨y,?_,?_⟩
   ·unfold start;rw[List.getElem?_append_left (by rw[List.length_map,hv.1];exact l),List.getElem?_map,hy];rfl
   ·exact hr.sub λc hc=>by
     rcases hc with z | ⟨k,f,ce,h,_⟩
     ·exact z
     ·simp at h
  ·rw[List.getElem?_append_right (by simp;omega)]at hi;rw[List.getElem?_replicate]at hi;split at hi
   ·cases hi
   ·cases hi
 ·cases dv with
  | dat d=>exact q'.elim
  | ref k =>
   obtain⟨a,r,ha,rfl⟩:=d';have q':(match st'[k]? with | some (.live zs)=>BM X.K P H Q zs | _=>False):=q';split at q'
   ·rename_i zs hs;obtain⟨a',ys,e1,e2,e3⟩:=I'.cel k _ _ ha hs;cases e1;have ma:a∈al'.flatten:=cJ ha aat
    have na:H a=none:=by
     rcases I'.nw a ma with z | z
     ·exact z.elim
     ·exact z
    refine q' a ys H' (λc o e=>I'.fr c o (λz=>z) e) na e2 (e3.imp λy x z=>z.sub λc hc=>?_);rcases hc with z | rfl
    ·exact .inl z
    ·exact .inr ⟨k,_,_,ha,aat,hs,rfl⟩
   ·exact q'.elim
theorem Kg{body:List Stmt}{t:TS}{DD:fE}{env:bY}{st:aR}(h:oo X body t)(q:∀(H0:Hp) (A0 G:Addr->Prop) (al:List (List Addr)) (H:Hp) (σ:St) (D:Ends),DI (kf X Y) H0 A0 G al H st->oq X.K (Fb G al st) H al σ env->CO (kf X Y) H0 A0 G al H st DD D->t D σ H):rT X Y body DD env st :=
 ⟨λDD env st=>∀(H0:Hp) (A0 G:Addr->Prop) (al:List (List Addr)) (H:Hp) (σ:St) (D:Ends),DI (kf X Y) H0 A0 G al H st->oq X.K (Fb G al st) H al σ env->CO (kf X Y) H0 A0 G al H st DD D->t D σ H,⟨t,h,λH0 A0 G al H st σ env DD D I E q k=>q H0 A0 G al H σ D I E k⟩,q⟩
end
theorem tY:entryFor table "proto.unchain"=some Builtin.«proto.unchain»:=entryFor_of_tree (by kernel_rfl)
section
variable {prog:Program} {w:World} {A:Around} {E:Value->Shared->Prop} {s:Shared}
theorem Gk{e:Value}{a:Addr}{o:Obj}{vs:Array Value}{Q:Value->Shared->Prop}(ho:s.heap.get? a=some o)(hd:o.data=.fields vs)(h2:vs[2]?=some .none)(h:Q .none s):
  wpAny (model prog w) A (runValue (.builtin "proto.unchain" ⟨[e,.ref a,.ref a,.bool false],[]⟩)) Q E s:=by
 refine runValue_entry tY ?_;show wpAny _ _ (field (.ref a) 2 >>= _) _ _ _;refine aaa (wpAny_field ho hd h2 ?_);exact aag ⟨_,rfl,h⟩
theorem tZ{α:Type}{e a:Addr}{o oe:Obj}{vs ws:Array Value}{Q:α->Shared->Prop}(hh:A.handled=some (.ref a))(hne:a≠e)(ho:s.heap.get? a=some o)(hd:o.data=.fields vs)(h2:vs[2]?=some .none)(he:s.heap.get? e=some oe)(hde:oe.data=.fields ws)(hz:2 < ws.size)
  (h:E (.ref e) {s with heap:=s.heap.update e (Obj.mapFields (·.setIfInBounds 2 (.ref a)))}):wpAny (model prog w) A (raiseNew (.ref e):Sem α) Q E s:=by
 unfold raiseNew;refine wpAny_bind (wpAny_handled ?_);rw[hh];dsimp only;rw[if_pos (by simp[hne])];refine wpAny_bind (wpAny_holding (Gk ho hd h2 ?_));refine wpAny_bind (?_:wpAny _ _ (setField (.ref e) 2 (.ref a)) _ _ _);exact wpAny_setField he hde hz (wpAny_throw h)
end
section
variable {prog:Program} {w:World} {A:Around} {E:Value->Shared->Prop} {env:Env} {nm qn:Str} {C Nc:Addr} {bs bm:List Value} {hdct:Bool} {sn:List Str} {sub:List Value} {ab:Bool} {col:Option Bool} {dd:Option Addr} {k0 k1 k2 k3 k5:Option Value} {newId:String}
theorem Ac{s:Shared}{x:Sem Value}{Q:Flow->Shared->Prop}{a:Addr}(hb:bm.contains (.type "BaseException")=true)(hh:A.handled=some (.ref a))
  (h:wpAny (model prog w) A x (λv s1=>∃e t0 dx o vs,v=.ref e/\s1.heap.get? C=some (excClassObj nm qn C Nc bs bm hdct sn sub ab col dd k0 k1 k2 k3 k5 newId) /\
   s1.heap.get? e=some {cls:=.ref C,dict:=dx,data:=.fields #[.ref t0,.none,.none,.none,.bool false,.none]}/\a≠e/\s1.heap.get? a=some o/\o.data=.fields vs/\vs[2]?=some .none/\E (.ref e) {s1 with heap:=s1.heap.update e (Obj.mapFields (·.setIfInBounds 2 (.ref a)))}) E s):wpAny (model prog w) A (raiseStmt env (some x) none) Q E s:=by
 have hB:(Value.ref C::bm).contains (.type "BaseException")=true:=by rw[acq,hb,ac1]
 unfold raiseStmt;refine wpAny_bind (wpAny_mono h (λv s1 z=>?_) λ_ _ z=>z);obtain⟨e,t0,dx,o,vs,rfl,gC,ge,hne,ga,gd,g2,hE⟩:=z;obtain⟨hp,g,d,tk,os⟩:=s1
 repeat (first | with_reducible refine aaK ge ?_ | (with_reducible refine acj gC ?_;rw[hB]) | with_reducible refine aaK gC ?_ | wp_step)
 exact tZ hh hne ga gd g2 ge rfl (show(2:Nat) < 6 by decide) hE
end
def XA(X:Cx)(c:Addr)(E:XK)(E':Value->Shared->Prop):Prop:=∀(pins:List (Addr×Obj)) (σ:St) (H:Hp) (s:Shared) (a C dx:Addr),Inv X pins σ H s->X.s₀.heap.objs.size<=a->H a=some (.ext (XP C a (some dx)))->E (.ref C) (some dx) (del H a)->E' (.ref a) {s with heap:=s.heap.update a (Obj.mapFields (·.setIfInBounds 2 (.ref c)))}
def XB(X:Cx)(E:XK):Prop:=∀c:Addr,XA X c E (notedBy (model X.prog X.w) (X.A.mark (some (.ref c))) X.env (cameBackBy (model X.prog X.w) X.A X.env X.xe))
section
variable {P:Program} {w:World} {K:aV} {mg:Str->Option Value} {base:Heap} {N:List Str} {qual:Str} {scope:Scope} {f:Addr} {cd:Value} {A:Around} {outer:List Env} {s₀:Shared} {H₀:Hp} {E:XK}
theorem Ol:XB (kI (dD P w) P w K mg base N qual scope f cd A outer s₀ H₀ E) E:=by
 intro c pins σ H s a C dx I Uw hHa hE
 let env:=envOfC qual scope s₀.heap.objs.size f cd
 have hf:env.frame=some s₀.heap.objs.size:=rfl;have Rg:s₀.heap.objs.size<=a:=Uw;obtain⟨⟨t0,hg⟩,_,_⟩:=I.hok a _ hHa;have hst:=I.stack
 have nfa:a∉iK (env::outer):=λhb=>by
  have:=I.jc a hb;rw[this]at hHa;cases hHa
 let hid:=a::iK (env::outer)
 let u:Obj->Obj:=Obj.mapFields (·.setIfInBounds 2 (.ref c))
 have other:∀b,b≠a->(s.heap.update a u).get? b=s.heap.get? b:=λb hb=>abO _ _ (abX hb)
 have UY:=abi u hg (aca (abZ rfl _));have hin:∀v∈(env::outer),∀b,v.frame=some b->b∈hid:=λv hv b hb=>aaB _ (abv.mpr ⟨v,hv,hb⟩)
 have UZ:s.heap.FunFrames (hideAll s.heap hid) (env::outer):=acm hst hin;have hBa:(hideAll s.heap hid).get? a=none:=acF _ aat;have hBs:(hideAll s.heap hid).StaysIn (s.heap.update a u):=λb o q=>(other b λz=>by rw[z,hBa]at q;cases q).trans (of_hideAll _ q)
 have hFF:(s.heap.update a u).FunFrames (hideAll s.heap hid) (env::outer):=UZ.of_keeps λb o hb hnf=>⟨o,(other b λz=>by rw[z,hg]at hb;cases hb;exact hnf _ rfl).trans hb,rfl⟩
 have lib1:wpAny (model P w) ((kI (dD P w) P w K mg base N qual scope f cd A outer s₀ H₀ E).A.mark (some (.ref c))) (noteFrame (.ref a) env) (λ_ s'=>∃h',s'={s with heap:=h'}/\Heap.NotedW (hideAll s.heap hid) (env::outer) a (.ref C) (.ref t0) (rawInt s₀.heap.objs.size) (s.heap.update a u) h') (λ_ _=>False) {s with heap:=s.heap.update a u}:=by
  unfold noteFrame;simp only[hf];refine wpAny_bind (wpAny_field UY (Obj.data_mapFields rfl _) (x:=.none) rfl ?_);rw[if_neg (by decide)];exact wpAny_entryW (I.ok.frames) hFF hf UY hBs hBa (Obj.data_mapFields rfl _) (by rw[Array.size_setIfInBounds];exact(show(1:Nat) < 6 by decide)) (a0:=.ref t0) rfl λh' L=>⟨h',rfl,L⟩
 refine aam (dI (qF (.ref a) env) lib1) (λ_ s' z=>?_) λ_ _ z=>z.elim
 obtain⟨⟨h1,rfl,n1,n2,n3,n4⟩,ZQ⟩:=z;obtain⟨oe,vs,T,oT,ts,te,tc,td,tv,tn,tne,tT,tdT,t3⟩:=n3;have tz:3 < ts.size:=(Array.getElem?_eq_some_iff.mp t3).1;unfold cameBackBy;refine wpAny_bind (wpAny_field te td tv ?_);rw[if_neg (by intro z;cases z)];unfold setFlight;refine wpAny_bind (wpAny_field te td tv ?_);rw[if_pos (by rfl)];refine wpAny_setField tT tdT tz ?_;have Gm:∀b,b≠T->(h1.update T (Obj.mapFields (·.setIfInBounds 3 (rawInt s₀.heap.objs.size)))).get? b=h1.get? b:=λb hb=>Heap.get?_update_other _ _ (Ne.symm hb)
 have selT:=abi (Obj.mapFields (·.setIfInBounds 3 (rawInt s₀.heap.objs.size))) tT (aca (abZ tdT _))
 have noT:∀b o,h1.get? b=some o->(∀vs,o.data≠.fields vs)->b≠T:=λb o hb hnf z=>by
  rw[z,tT]at hb;cases hb;exact hnf ts tdT
 have m1:(hideAll s.heap hid).StaysIn (h1.update T (Obj.mapFields (·.setIfInBounds 3 (rawInt s₀.heap.objs.size)))):=λb o q=>(Gm b λz=>by rw[z,tn]at q;cases q).trans (n1 b o q)
 have m2:(h1.update T (Obj.mapFields (·.setIfInBounds 3 (rawInt s₀.heap.objs.size)))).FunFrames (hideAll s.heap hid) (env::outer):=n2.of_keeps λb o hb hnf=>⟨o,(Gm b (noT b o hb hnf)).trans hb,rfl⟩
 have m3:(h1.update T (Obj.mapFields (·.setIfInBounds 3 (rawInt s₀.heap.objs.size)))).TracedAtW (hideAll s.heap hid) a (.ref C) (.ref t0) (rawInt s₀.heap.objs.size):=⟨oe,vs,T,_,_,(Gm a (Ne.symm tne)).trans te,tc,td,tv,tn,tne,selT,Obj.data_mapFields tdT _,by simp[tz]⟩
 have ZR:fA (h1.update T (Obj.mapFields (·.setIfInBounds 3 (rawInt s₀.heap.objs.size)))) a (some dx):=by
  obtain⟨od,gd,qd,cd⟩:fA h1 a (some dx):=fA.dk ⟨_,UY,rfl,λz=>nomatch z⟩ ZQ;exact⟨od,(Gm a (abX tne)).trans gd,qd,cd⟩
 show wpAny _ _ (leaving env (.ref a)) _ _ _;unfold leaving;refine wpAny_bind (wpAny_noteFrame_againW hf m3 ?_);have lib2:=wpAny_landsW (M:=model P w) (A:=(kI (dD P w) P w K mg base N qual scope f cd A outer s₀ H₀ E).A) (E:=λ_ _=>False) (s:={s with heap:=h1.update T (Obj.mapFields (·.setIfInBounds 3 (rawInt s₀.heap.objs.size)))}) (Q:=λ_ s'=>∃h5,s'={s with heap:=h5}/\Heap.FlyingW (hideAll s.heap hid) (env::outer) a (.ref C) (.ref t0) h5/\(h1.update T (Obj.mapFields (·.setIfInBounds 3 (rawInt s₀.heap.objs.size)))).UpToSlots h5) ⟨m1,hBa,m2,m3⟩ λh5 RV Of=>⟨h5,rfl,RV,Of⟩
 refine aam (dI (fz (.ref a) none) lib2) (λ_ s' z=>?_) λ_ _ z=>z.elim
 obtain⟨⟨h2,rfl,⟨k1,_,⟨_,_,k2⟩,k3⟩,Of⟩,dk⟩:=z
 have ni:∀b o,s₀.heap.get? b=some o->b∉iK outer->b∉hid:=λb o q nb hb=>by
  rcases aaE.mp hb with z | z
  ·exact absurd (aab q) (by rw[z];exact Nat.not_lt.mpr Rg)
  ·rcases (bt hf).mp z with z | z
   ·exact absurd (aab q) (by rw[z];exact aaN _)
   ·exact nb z
 refine⟨a,C,t0,del H a,_,some dx,rfl,I.os,I.bare,⟨λb o q n nb=>?_,λb o q nb=>?_,λb o q hb=>?_,λb o q n=>?_,λb xs q=>?_,λb o u q=>?_,λb ps q=>?_,λb u q=>?_,⟨k1,hBa,k2,k3⟩⟩,ZR.dk dk,hE⟩
 ·exact aba _ (I.base.keep b o q n nb (by intro z;cases z)) (ni b o q nb)
 ·obtain⟨o',q'⟩:=I.base.there b o q (by intro z;cases z);exact⟨o',aba _ q' (ni b o q nb)⟩
 ·obtain⟨sl,q'⟩:=I.base.slot b o q (I.ok.frf b hb) hb (by intro z;cases z);have hm:=(bt hf).mpr (.inr hb);obtain⟨_,o',ho',hn⟩:=hst.mem hm;rw[q']at ho';have e1:=aak ho';obtain⟨Tc,q1⟩:=n4 b _ ((other b λz=>nfa (z ▸ hm)).trans q') (by rw[e1];exact hn);have Ju:∀vs,o.data≠.fields vs:=by rw[← e1]at hn;exact hn
  obtain⟨sl',q2⟩:=Of b _ ((Gm b (noT b _ q1 Ju)).trans q1) Ju;exact⟨sl',q2⟩
 ·have:=I.base.free b o q n (by intro z;cases z);unfold del;split
  ·rfl
  ·exact this
 ·have:=I.base.tups b xs q;rw[dY (cv this hHa (by intro z;cases z))];exact this
 ·have:=I.base.fu b o u q;rw[dY (cv this hHa (by intro z;cases z))];exact this
 ·obtain⟨m1,e1⟩:=I.base.tbls b ps q;exact⟨m1,by rw[dY (cv e1 hHa (by intro z;cases z))];exact e1⟩
 ·have hba:b≠a:=λz=>by subst z;rw[xP]at q;cases q
  rw[dY hba]at q
  have nf:∀c v,H c=some v->c≠a->c∉hid:=λc v q' hca hb=>by
   rcases aaE.mp hb with z | z
   ·exact hca z
   ·have:=I.jc c z;rw[this]at q';cases q'
  have no:∀c,H c=some (.own b)->c≠a:=λc q'=>cv q' hHa (by intro z;cases z)
  refine(I.hok b u q).qT (λc v hc q'=>aba _ q' ?_) (λc q'=>by rw[dY (no c q')];exact q') λc xs q'=>by rw[dY (cv q' hHa (by intro z;cases z))];exact q'
  rcases hc with z | z
  ·rw[z];exact nf b u q hba
  ·exact nf c _ z (no c z)
end
def R0(a:Addr):Heap->Prop:=λh=>∃o vs,h.get? a=some o/\o.data=.fields vs/\vs[2]?=some .none
def BO(a C:Addr)(fs:List Str)(E:XK)(t:TA):TS:=λ_ σ H=>t σ H λvs H1=>H1 a=some (.ext (R0 a))/\vs.length=fs.length/\∀dx H2,H1 dx=none->bf H1 H2->H2 dx=some (.ext (XD dx (fs.zip vs)))->E (.ref C) (some dx) H2
def U0(K:aV)(CW:Addr)(C:Addr)(fs:List Str)(E:XK)(t:TA)(rest:Ends->St->XK):Ends->St->XK:=λD σ cls dd H2=>∃C1,cls=.ref C1/\((PySem.W.mroIn K C1 (.ref CW)=some true/\dd=none/\∀a,H2 a=none->BO a C fs E t D σ (upd H2 a (.ext (R0 a))))∨(PySem.W.mroIn K C1 (.ref CW)=some false/\rest D σ cls dd H2))
section
variable {X:Cx} {CW C a:Addr} {fs:List Str} {cx x:Str} {np ZS hpos cpos pos:Pos} {e:Expr} {es:List Expr} {t:TA} {E:XK} {E':Value->Shared->Prop} {hs:List ExceptHandler} {th:Ends->St->XK}
theorem C0(hz:XA X a E E')(M:vH X.prog X.w X.K X.mg X.base C fs)(hr:cw 2 X.A)(hg:Gl X x)(hm:X.mg x=some (.ref C))(ok:X.Ok)(ha:PA (X.hand a E') (e::es) t)(hdb:(x == ("__debug__" : Str))=false:=by decide)
  (he:starEach (e::es) X.env=(false,eval e X.env)::starEach es X.env:=by rfl) (hpl:(backTo cpos (starEach es X.env)).any (·.1)=false:=by rfl) :
  PS (X.hand a E') (.Raise (some (.Call (.Name x np) (e::es) [] cpos)) none pos) (BO a C fs E t):=by
 intro pins s σ H D I h;obtain⟨f,fd,M',F',b⟩:=M.ini;obtain⟨bx,hbx⟩:=M'.ex;obtain⟨bm,N,nm,qn,bs,sn,sub,ab,col,dd,k0,k1,k2,k3,k5,mN,hC,hn,T,_⟩:=nt I.mod.kin hbx;rw[arm_exec_Raise];refine aaa (abA (Ac (a:=a) (C:=C) (nm:=nm) (qn:=qn) (Nc:=N) (bs:=bs) (bm:=bm) (hdct:=true) (sn:=sn) (sub:=sub) (ab:=ab) (col:=col) (dd:=dd) (k0:=k0) (k1:=k1) (k2:=k2) (k3:=k3) (k5:=k5) (newId:=vG bx) (T.hasType (X:="BaseException") (b:=true) (rC bx)) rfl ?_));refine aaa (aam (?_:wpAny (model X.prog X.w) (X.hand a E').A (eval (.Call (.Name x np) (e::es) [] cpos) X.env) _ E' s) (λv s1 z=>aaa (abA (aag z))) λ_ _ z=>z);refine abb (gF (X:=X.hand a E') I hg hm ?_ hdb);refine abh (h₀:=X.base) I.ok.mod.kin M'.kp (bU (ha cpos pins s σ H _ I h) λus s1 ⟨vs,H1,I1,r,Om,hl,q⟩=>⟨I1.jb,?_⟩) he hpl;refine aam (uO (X:=X.hand a E') (dvs:=[]) M' F' (cm:=false) ⟨(λz=>nomatch z),hr.dp,hr.un,hr.gd⟩ b .nil rh I1 r (by rw[hl,acn];have:=M.le;omega) (Q:=λv H2=>∃a1 dx,v=.ref a1/\s1.heap.objs.size<=a1/\H2 a1=some (.ext (XP C a1 (some dx)))/\a≠a1/\H2 a=some (.ext (R0 a))/\E (.ref C) (some dx) (del H2 a1)) λa1 hsz hn'=>⟨a1,C,vs++[],rfl,by rw[aaT];exact hl,M.s,M.no,uS,λdx hd hda=>⟨rfl,a1,dx,rfl,hsz,uS,nN Om hn',?_,?_⟩⟩) (λu s' z=>?_) λ_ _ z=>z
 ·rw[uN hda]at hd;have n1:=nN Om hn';rw[uN n1,uN (nN Om hd),uN n1];exact Om
 ·rw[uN hda]at hd;refine q dx _ hd (λc o z=>?_) ?_
  ·rw[dY (nN z hn'),uN (nN z hn'),uN (nN z hd),uN (nN z hn')];exact z
  ·rw[dY hda,uN hda,uS,aaT]
 ·obtain⟨v,H2,I2,rv,a1,dx,rfl,hsz,hHa,hne,hHc,hE⟩:=z;cases rv;obtain⟨⟨t0,g0⟩,_,_⟩:=I2.hok a1 _ hHa;obtain⟨⟨o,ws,c1,c2,c3⟩,_,_⟩:=I2.hok a _ hHc;exact⟨a1,t0,_,o,ws,rfl,I2.bk _ _ hC,g0,hne,c1,c2,c3,hz pins σ H2 s' a1 C dx (I2.gf ok) (aaF I1.sz hsz) hHa hE⟩
theorem Oo(hg:Gl X cx)(hm:X.mg cx=some (.ref CW))(q:PySem.W.ktsIn X.K CW "BaseException"=true)(hz:XB X E)(M:vH X.prog X.w X.K X.mg X.base C fs)(hrm:cw 2 X.A)(hgx:Gl X x)(hmx:X.mg x=some (.ref C))(ha:∀a E',PA (X.hand a E') (e::es) t)(hr:tX X hs th)
  (hd:(cx == ("__debug__" : Str))=false:=by decide) (hdb:(x == ("__debug__" : Str))=false:=by decide)
  (he:starEach (e::es) X.env=(false,eval e X.env)::starEach es X.env:=by rfl) (hpl:(backTo cpos (starEach es X.env)).any (·.1)=false:=by rfl) :
  tX X (.ExceptHandler (some (.Name cx np)) none [.Raise (some (.Call (.Name x ZS) (e::es) [] cpos)) none pos] hpos::hs) (U0 X.K CW C fs E t th):=by
 intro pins σ H0 H D a C1 t1 dd B s0 s1 h L hE;obtain⟨C',hC',hE⟩:=hE;cases hC';have I5:=L.now s1.toks;obtain⟨oe,vs,g1,g2,g3,g4⟩:=L.fl.first;refine ack (acb ?_) (by intro q;cases q);refine gF (X:=X.hand a λ_ _=>False) (I5.hand a _) hg hm ?_ hd;rcases hE with⟨hsub,rfl,hE⟩ | ⟨hsub,hE⟩;rotate_left
 ·exact dn I5.jb g1 g2 q hsub (hr pins σ H0 H D a C1 t1 dd B s0 s1 h L hE)
 refine dn I5.jb g1 g2 q hsub (codeAny_handlers_suite ?_);have Oe:∀A3:Around,wpAny (model X.prog X.w) A3 (setFlight (.ref a) none) (λ_ s'=>∃h6,s'={s1 with heap:=h6}/\Heap.FlyingW B (X.env::X.outer) a (.ref C1) (.ref t1) h6/\h.UpToSlots h6) (λ_ _=>False) {s1 with heap:=h}:=λA3=>lands_againW (s:={s1 with heap:=h}) L.fl λh6 Aa Ka=>⟨h6,rfl,Aa,Ka⟩
 refine aam (dI (fz (.ref a) none) (Oe _)) (λ_ s6 z6=>?_) λ_ _ z=>z.elim
 obtain⟨⟨h6,rfl,Aa,Ka⟩,UW⟩:=z6;obtain⟨UX,Tt,Xy,ZT⟩:fA h6 a none:=L.di.dk UW;obtain⟨ws,gw,ZU⟩:=ZT rfl;have I6:=L.inv Aa.1 (L.sm.trans Ka) s1.toks;obtain⟨oe,vs,g1,g2,g3,g4⟩:=Aa.first;have nH:H a=none:=L.F.new;have nB:B.get? a=none:=Aa.2.1
 have nf:a∉iK (X.env::X.outer):=λhm=>by
  obtain⟨_,o,ho',hn'⟩:=Aa.2.2.1.mem hm;rw[g1]at ho';cases ho';exact hn' _ g3
 have hL:a≠X.env.locals:=λz=>nf ((bt L.hf).mpr (.inl z))
 have hfs:a∉X.fs:=λz=>nf ((bt L.hf).mpr (.inr z))
 have old:∀b o,s0.heap.get? b=some o->b≠a:=λb o e z=>by
  subst z;obtain⟨o',e'⟩:=L.F.there b o e nf;rw[nB]at e';cases e'
 have hcc:∀x c,X.env.cells.lookup x=some c->c≠a:=λx c e z=>by
  obtain⟨v,o,ho',hd'⟩:=I6.cell x c e;have Co:h6.get? c=some o:=ho';rw[z,g1]at Co;cases Co;rw[g3]at hd';cases hd'
 have hpp:∀p∈X.pn++pins,p.1≠a:=λp hp z=>by
  have:=(L.I0.pin p hp).1;exact old _ _ this z
 have I7:=I6.adopt (φ:=R0 a) nH (L.Ts a nB nf) hL hfs hcc hpp ⟨⟨UX,ws,Tt,gw,ZU⟩,⟨UX,Tt⟩,λu v ⟨o,ws,q1,q2,q3⟩ k=>⟨o,ws,k o q1,q2,q3⟩⟩;refine aam (qO (C0 (hz a) M hrm hgx hmx L.I0.ok (ha a _) hdb he hpl) pins _ σ _ D (I7.hand a _) (hE a nH)) (λfl s9 h9=>?_) (λ_ _ z=>z)
 cases fl with
 | next =>
  obtain⟨σ',H9,I9,q9⟩:=h9;exact⟨σ',H9,I9.gf L.I0.ok,q9⟩
 | brk =>
  obtain⟨σ',H9,I9,q9⟩:=h9;exact⟨σ',H9,I9.gf L.I0.ok,q9⟩
 | cont =>
  obtain⟨σ',H9,I9,q9⟩:=h9;exact⟨σ',H9,I9.gf L.I0.ok,q9⟩
 | ret u =>
  obtain⟨v,σ',H9,I9,r9,q9⟩:=h9;exact⟨v,σ',H9,I9.gf L.I0.ok,r9,q9⟩
end
end L2
local macro_rules | `(tactic| walk_at "cond")=>`(tactic| first | rfl | decide | omega | (show (0:Int) < _; decide) | (show (0:Int) < _; omega) | exact ⟨by decide,by decide⟩ | exact ⟨by omega,by omega⟩ | exact Or.inl ⟨by decide,by decide⟩ | exact Or.inr ⟨by decide,by decide⟩ | exact Or.inl ⟨by omega,by omega⟩ | exact Or.inr ⟨by omega,by omega⟩ | assumption)
local macro_rules | `(tactic| walk_at "rd1")=>`(tactic| first
 | refine⟨_,rfl,?_⟩
 | refine⟨_,_,rfl,rfl,?_⟩
 | (refine And.intro ?_ ?_;walk_at "cond"))
local macro_rules | `(tactic| walk_at "vc")=>`(tactic| try dsimp only [L2.BD,L2.FT,L2.FU,L2.N3,L2.UP,L2.CP,L2.xV,L2.eC,L2.tN,L2.oI,L2.NH,L2.Fu,L2.xY,L2.NN,L2.vS,L2.Bt,L2.Fy,L2.nA,L2.jO,L2.uT,L2.Rx,L2.N6,L2.nC,L2.RA,L2.FA,L2.FC,L2.UE,L2.D5,L2.Bw,L2.JO,L2.FF,L2.y9,L2.FH,L2.yb,L2.CM,L2.FJ,L2.nF,L2.z7,L2.J5,L2.J6,L2.BK,L2.BA,L2.oQ,L2.qL,L2.Oj,L2.wd,List.zip_cons_cons,List.zip_nil_left,List.zip_nil_right,L2.zX,L2.zY,L2.Qq,L2.sub,L2.nk,List.take_succ_cons,List.take_zero,L2.mq,L2.fu,L2.zN,L2.kZ,L2.JH,L2.JI,L2.xX,L2.JT,L2.vW,L2.gN,L2.BB,L2.rQ,L2.gT,L2.gS,L2.N2,L2.vY,L2.UO,L2.FP,L2.N4,L2.JW,L2.N5,L2.RN,L2.JY,L2.qa,L2.wa,L2.yd,L2.BC,id_eq,List.map_cons,List.map_nil,List.replicate,List.getElem?_cons_zero,List.getElem?_cons_succ,List.set_cons_zero,List.set_cons_succ,List.nil_append,List.cons_append,List.length_cons,List.length_nil,Nat.zero_add,Nat.reduceAdd,Option.getD_some,Option.getD_none,List.getElem?_nil])
local macro_rules | `(tactic| walk_at "vs")=>`(tactic| try dsimp only [L2.BD,L2.FU,L2.N3,L2.UP,L2.CP,L2.xV,L2.eC,L2.tN,L2.oI,L2.NH,L2.Fu,L2.xY,L2.NN,L2.vS,L2.Bt,L2.Fy,L2.nA,L2.jO,L2.uT,L2.Rx,L2.N6,L2.nC,L2.RA,L2.FA,L2.FC,L2.UE,L2.D5,L2.Bw,L2.JO,L2.FF,L2.y9,L2.FH,L2.yb,L2.CM,L2.FJ,L2.nF,L2.z7,L2.J5,L2.J6,L2.BK,L2.BA,L2.oQ,L2.qL,L2.Oj,L2.wd,List.zip_cons_cons,List.zip_nil_left,List.zip_nil_right,L2.zX,L2.zY,L2.Qq,L2.sub,L2.nk,List.take_succ_cons,List.take_zero,L2.mq,L2.fu,L2.zN,L2.kZ,L2.JH,L2.JI,L2.xX,L2.JT,L2.vW,L2.gN,L2.BB,L2.rQ,L2.gT,L2.gS,L2.N2,L2.vY,L2.UO,L2.FP,L2.N4,L2.JW,L2.N5,L2.RN,L2.JY,L2.qa,L2.wa,L2.yd,L2.BC,id_eq,List.map_cons,List.map_nil,List.replicate,List.getElem?_cons_zero,List.getElem?_cons_succ,List.set_cons_zero,List.set_cons_succ,List.nil_append,List.cons_append,List.length_cons,List.length_nil,Nat.zero_add,Nat.reduceAdd,Option.getD_some,Option.getD_none,List.getElem?_nil])
local macro_rules | `(tactic| walk_at "rd")=>`(tactic| repeat walk_at "rd1")
set_option maxHeartbeats 4000000
local macro_rules | `(tactic| walk_at "sc")=>`(tactic| exact ⟨rfl,rfl,rfl,by decide +kernel,rfl,by decide +kernel,by decide +kernel⟩)
namespace Mine
open PySem L2
theorem ZV{α:Type}{P:List α->Prop}(h:P []):∀us:List α,us.length=0->P us:=λus hl=>by
 cases us with
 | nil=>exact h
 | cons a r=>exact absurd hl (abH _)
theorem Kh{α:Type}{P:List α->Prop}(h:∀a0:α,P [a0]):∀us:List α,us.length=1->P us:=λus hl=>by
 cases us with
 | nil=>exact absurd hl.symm (abH _)
 | cons a r=>exact ZV (P:=λr=>P (a::r)) (h a) r (ab0 hl)
theorem ln2{α:Type}{P:List α->Prop}(h:∀a0 a1:α,P [a0,a1]):∀us:List α,us.length=2->P us:=λus hl=>by
 cases us with
 | nil=>exact absurd hl.symm (abH _)
 | cons a r=>exact Kh (P:=λr=>P (a::r)) (λa1=>h a a1) r (ab0 hl)
theorem wj{α:Type}{P:List α->Prop}(h:∀a0 a1 a2:α,P [a0,a1,a2]):∀us:List α,us.length=3->P us:=λus hl=>by
 cases us with
 | nil=>exact absurd hl.symm (abH _)
 | cons a r=>exact ln2 (P:=λr=>P (a::r)) (λa1 a2=>h a a1 a2) r (ab0 hl)
theorem Iu{α:Type}{P:List α->Prop}(h:∀a0 a1 a2 a3:α,P [a0,a1,a2,a3]):∀us:List α,us.length=4->P us:=λus hl=>by
 cases us with
 | nil=>exact absurd hl.symm (abH _)
 | cons a r=>exact wj (P:=λr=>P (a::r)) (λa1 a2 a3=>h a a1 a2 a3) r (ab0 hl)
theorem ZW{α:Type}{P:List α->Prop}(h:∀a0 a1 a2 a3 a4:α,P [a0,a1,a2,a3,a4]):∀us:List α,us.length=5->P us:=λus hl=>by
 cases us with
 | nil=>exact absurd hl.symm (abH _)
 | cons a r=>exact Iu (P:=λr=>P (a::r)) (λa1 a2 a3 a4=>h a a1 a2 a3 a4) r (ab0 hl)
theorem U1{α:Type}{xs:List α}(h:xs.length=1):∃a0,xs=[a0]:=Kh (P:=λxs=>∃a0,xs=[a0]) (λa0=>⟨a0,rfl⟩) xs h
theorem XC{α:Type}{xs:List α}(h:xs.length=2):∃a0 a1,xs=[a0,a1]:=ln2 (P:=λxs=>∃a0 a1,xs=[a0,a1]) (λa0 a1=>⟨a0,a1,rfl⟩) xs h
theorem ZX{α:Type}{xs:List α}(h:xs.length=3):∃a0 a1 a2,xs=[a0,a1,a2]:=wj (P:=λxs=>∃a0 a1 a2,xs=[a0,a1,a2]) (λa0 a1 a2=>⟨a0,a1,a2,rfl⟩) xs h
theorem XF{α:Type}{xs:List α}(h:xs.length=4):∃a0 a1 a2 a3,xs=[a0,a1,a2,a3]:=Iu (P:=λxs=>∃a0 a1 a2 a3,xs=[a0,a1,a2,a3]) (λa0 a1 a2 a3=>⟨a0,a1,a2,a3,rfl⟩) xs h
def tf(p:Program)(i:Nat):Stmt:=p.main.body.getD i (.Pass ⟨0,0,0,0⟩)
def top(i:Nat):Stmt:=tf PySem.Challenge.pw_stackwarden_k68_tries_and_depth i
abbrev la:Stmt:=top 46
abbrev mI:Stmt:=top 31
abbrev lg:Stmt:=top 35
abbrev oS:Stmt:=top 36
abbrev mJ:Stmt:=top 37
abbrev lh:Stmt:=top 38
abbrev ju:Stmt:=top 39
abbrev mK:Stmt:=top 40
abbrev mL:Stmt:=top 41
abbrev oU:Stmt:=top 42
abbrev lj:Stmt:=top 43
abbrev sr:Stmt:=top 44
abbrev oV:Stmt:=top 45
abbrev ka:Stmt:=top 32
abbrev mM:Stmt:=top 33
abbrev kb:Stmt:=top 34
abbrev oW:Stmt:=top 5
abbrev kc:Stmt:=top 6
abbrev jv:Stmt:=top 20
abbrev mO:Stmt:=top 21
abbrev gn:Stmt:=iC (top 28) 12
abbrev hZ:Stmt:=iC (top 28) 3
abbrev eg:Stmt:=iC (top 28) 5
abbrev cU:Stmt:=iC (top 28) 6
abbrev oX:Stmt:=top 14
abbrev oY:Stmt:=top 16
abbrev mP:Stmt:=top 15
abbrev c7:Stmt:=iC (top 28) 7
abbrev fH:Stmt:=iC (top 26) 0
abbrev eN:Stmt:=iC (top 28) 4
abbrev dM:Stmt:=iC (top 28) 10
abbrev c8:Stmt:=iC (top 28) 9
abbrev gp:Stmt:=iC (top 28) 8
abbrev ia:Stmt:=iC (top 27) 0
abbrev ib:Stmt:=iC (top 28) 2
abbrev gq:Stmt:=iC (top 28) 1
abbrev eO:Stmt:=iC (top 28) 0
abbrev ll:Stmt:=top 29
abbrev nG:Stmt:=top 47
structure aA(K:aV)(C:Addr):Prop where
 cl:Ba K C
 qM:dG K C "depth"
 nI:dG K C "known"
structure aC(K:aV)(C:Addr):Prop where
 cl:Ba K C
 va:dG K C "program"
 Ad:dG K C "said"
 su:dG K C "left"
structure aw(K:aV)(C:Addr):Prop where
 cl:Ba K C
 Oq:dG K C "make"
 Gn:dG K C "fields"
abbrev md:Stmt:=inner (top 23)
abbrev oZ:Stmt:=inner (top 24)
inductive Kd where
 | any | num | whole (c:Nat) | raw (c m:Nat)
 deriving DecidableEq
def wk:Kd->List PyData
 | .any=>[.str "any"]
 | .num=>[.str "number"]
 | .whole c=>[.str "whole",.int c]
 | .raw c m=>[.str "raw",.int c,.int m]
abbrev Iw:=List (Option Nat×List Kd)
structure Wf(ms:Iw):Prop where
 ne:0 < ms.length
 few:ms.length<=8
 first:∀m,ms[0]?=some m->m.1=none
 ahead:∀(i:Nat) m,ms[i]?=some m->0 < i->∃j,m.1=some j/\j < i
def U2(ms:Iw)(c:Nat):Option Nat:=(ms[c]?).bind (·.1)
def R3(ms:Iw):Nat->Nat->List Nat
 | 0,_=>[]
 | n + 1,c=>c::(match U2 ms c with | none=>[] | some j=>R3 ms n j)
def Ae(ms:Iw)(c:Nat):List Nat:=R3 ms (c + 1) c
def rest(ms:Iw):Option Nat->List Nat
 | none=>[]
 | some j=>Ae ms j
def U3(zs:List Nat):Kd->Prop
 | .any=>True
 | .num=>True
 | .whole c=>c < zs.length
 | .raw c m=>∃z,zs[c]?=some z/\m < 2 ^ z
theorem aT{H:Hp}{p:Addr}(h:H p=none)(o:HO):bf H (upd H p o):=λb u q=>by rw[uN (nN q h)];exact q
structure ZY(sh:List (Option Nat×Nat))(zs:List Nat):Prop where
 len:sh.length=zs.length
 ne:0 < sh.length
 s0:sh[0]?=some (none,0)
 z0:zs[0]?=some 0
 six:∀z∈zs,z<=6
 go:∀(i:Nat) (s:Option Nat×Nat),0 < i->sh[i]?=some s->∃j z,s.1=some j/\j < i/\zs[j]?=some z/\zs[i]?=some (z + s.2)
structure Good(ms:Iw)(zs:List Nat):Prop where
 wf:Wf ms
 len:ms.length=zs.length
 ZZ:∀m,ms[0]?=some m->m.2=[]
 z0:zs[0]?=some 0
 six:∀z∈zs,z<=6
 go:∀(i:Nat) m,0 < i->ms[i]?=some m->∃j z,m.1=some j/\j < i/\zs[j]?=some z/\zs[i]?=some (z + m.2.length)
 kds:∀(i:Nat) m,ms[i]?=some m->∀k∈m.2,U3 zs k
def ownOf(ms:Iw)(c:Nat):List Kd:=match ms[c]? with | some m=>m.2 | none=>[]
def yp(ms:Iw):List Nat->List Kd
 | []=>[]
 | e::r=>yp ms r++ownOf ms e
def fields(ms:Iw)(c:Nat):List Kd:=yp ms (Ae ms c)
theorem eT.append{K:aV}{H:Hp}:∀{xs ys:List V} {ds es:List PyData},eT K H xs ds->eT K H ys es->eT K H (xs++ys) (ds++es)
 | [],_,[],_,_,r=>r
 | [],_,_::_,_,h,_=>nomatch h.1
 | _::_,_,[],_,h,_=>nomatch h.1
 | x::xs,ys,d::ds,es,h,r=>eT.cons (h.2 0 x d rfl rfl) (eT.append ⟨by simpa using h.1,λi a b h1 h2=>h.2 (i + 1) a b (by simpa using h1) (by simpa using h2)⟩ r)
abbrev sv(ks:List Kd):List PyData:=ks.map λk=>PyData.tuple (wk k)
def below(ms:Iw):Kd->Kd->Bool
 | _,.any=>true
 | .num,.num=>true
 | .whole c,.whole d=>decide (d∈Ae ms c)
 | .raw c m,.raw d n=>decide (c=d)&&decide (m&&&n=n)
 | _,_=>false
theorem Ot(k:Kd):PySem.SeqAt.shaped (.tuple (wk k))=true:=by
 cases k<;>(simp only[wk,PySem.SeqAt.shaped,PyData.canLay0,PyData.canLayAll0,PyData.depth,PyData.depthAll];decide +kernel)
theorem bz.hV{K:aV}{H:Hp}{v:V}{ds:List PyData}(h:bz K H v (.tuple ds)):∃(a:Addr) (xs:List V),v=.ref a/\cX K H a xs/\eT K H xs ds:=by
 cases h with
 | tup h hl hi=>exact⟨_,_,rfl,h,hl,hi⟩
theorem bz.bu{K:aV}{H:Hp}{v:V}{i:Int}(h:bz K H v (.int i)):v=.int i:=by cases h;rfl
def fT(n:Int):Prop:=-2147483648<=n/\n<=2147483647
def cN(n:Int):Int:=(n + 2147483648) % 4294967296 - 2147483648
def rk(sign:Str)(a b:Int):Int :=
 if sign="add" then cN (a + b)else if sign="sub" then cN (a - b)else if sign="mul" then cN (a * b)
 else if sign="less" then(if a < b then 1 else 0)else if sign="same" then(if a=b then 1 else 0)else if sign="div" then cN (a.fdiv b)else a.fmod b
def parts(sign:Str):Prop:=sign="div"∨sign="rem"
instance (sign:Str):Decidable (parts sign):=by unfold parts;exact inferInstance
theorem BP(n:Int):-2147483648<=cN n/\cN n<=2147483647/\(n - cN n) % 4294967296=0:=by
 unfold cN;omega
theorem dv:¬ parts "add"/\¬ parts "sub"/\¬ parts "mul"/\¬ parts "less"/\¬ parts "same":=by decide +kernel
theorem Ou(a b:Int):rk "add" a b=cN (a + b):=by unfold rk;rw[if_pos rfl]
theorem Gp(a b:Int):rk "sub" a b=cN (a - b):=by unfold rk;rw[if_neg (by decide +kernel),if_pos rfl]
theorem Ov(a b:Int):rk "mul" a b=cN (a * b):=by unfold rk;rw[if_neg (by decide +kernel),if_neg (by decide +kernel),if_pos rfl]
theorem Ki(a b:Int):rk "less" a b=if a < b then 1 else 0:=by unfold rk;rw[if_neg (by decide +kernel),if_neg (by decide +kernel),if_neg (by decide +kernel),if_pos rfl]
theorem Kj(a b:Int):rk "same" a b=if a=b then 1 else 0:=by unfold rk;rw[if_neg (by decide +kernel),if_neg (by decide +kernel),if_neg (by decide +kernel),if_neg (by decide +kernel),if_pos rfl]
theorem Ow(a b:Int):rk "div" a b=cN (a.fdiv b):=by unfold rk;rw[if_neg (by decide +kernel),if_neg (by decide +kernel),if_neg (by decide +kernel),if_neg (by decide +kernel),if_neg (by decide +kernel),if_pos rfl]
theorem Ox(a b:Int):rk "rem" a b=a.fmod b:=by unfold rk;rw[if_neg (by decide +kernel),if_neg (by decide +kernel),if_neg (by decide +kernel),if_neg (by decide +kernel),if_neg (by decide +kernel),if_neg (by decide +kernel)]
theorem bz.dZ{K:aV}{H:Hp}{v:V}{ds:List PyData}(h:bz K H v (.list ds)):∃(a:Addr) (xs:List V),v=.ref a/\bZ K H a xs/\eT K H xs ds:=by
 cases h with
 | lst h hl hi=>exact⟨_,_,rfl,h,hl,hi⟩
theorem yq{H H':Hp}{a:Addr}(s:bf H H')(hn:H a=none)(o:HO):bf H (upd H' a o):=λc p e=>by
 rw[uN (nN e hn)];exact s c p e
def Oy(t:Str×Kd):PyData:=.tuple [.str t.1,.tuple (wk t.2)]
def A9(h:List Kd×Kd):PyData:=.tuple [.list (sv h.1),.tuple (wk h.2)]
def kK(b sd:Addr)(bud:Int):List (Str×V):=[("program",.ref b),("said",.ref sd),("left",.int bud)]
def C2(p:Int)(d:Addr):List (Str×V):=[("depth",.int p),("known",.ref d)]
theorem R4{f:Str}{v:V}{r:List (Str×V)}:List.lookup f ((f,v)::r)=some v:=by simp
theorem Oz{f g:Str}{v:V}{r:List (Str×V)}(h:¬ g=f):List.lookup g ((f,v)::r)=List.lookup g r:=by
 have hb:(g == f)=false:=by simpa using h
 simp[List.lookup,hb]
theorem Z0{f:Str}{v w:V}{r:List (Str×V)}:df f w ((f,v)::r)=(f,w)::r:=by
 show(if f=f then _ else _)=_;rw[aaw rfl]
theorem OA{f g:Str}{v w:V}{r:List (Str×V)}(h:¬ f=g):df g w ((f,v)::r)=(f,v)::df g w r:=by
 show(if f=g then _ else _)=_;rw[aas h]
theorem nJ{p:Int}{d:Addr}:(C2 p d).lookup ("known" : Str)=some (.ref d):=by
 unfold C2;rw[Oz (by decide +kernel),R4]
theorem OB{p:Int}{d:Addr}:df "known" (.ref d) (df "depth" (.int p) [])=C2 p d:=by
 have e1:df "depth" (.int p) []=([("depth",.int p)]:List (Str×V)):=rfl;rw[e1,OA (by decide +kernel)];rfl
theorem Af{b sd:Addr}{bud:Int}:(kK b sd bud).lookup ("program" : Str)=some (.ref b):=R4
theorem BQ{b sd:Addr}{bud:Int}:(kK b sd bud).lookup ("said" : Str)=some (.ref sd):=by
 unfold kK;rw[Oz (by decide +kernel),R4]
theorem wm{b sd:Addr}{bud:Int}:(kK b sd bud).lookup ("left" : Str)=some (.int bud):=by
 unfold kK;rw[Oz (by decide +kernel),Oz (by decide +kernel),R4]
theorem bN{b sd:Addr}{bud:Int}{m:Str}(h:¬ m∈(["program","said","left"]:List Str)):(kK b sd bud).lookup m=none:=by
 simp only[List.mem_cons,List.not_mem_nil,or_false,not_or]at h;unfold kK;rw[Oz h.1,Oz h.2.1,Oz h.2.2];rfl
theorem OC{b sd:Addr}{bud:Int}:df "left" (.int bud) (df "said" (.ref sd) (df "program" (.ref b) []))=kK b sd bud:=by
 have e1:df "program" (.ref b) []=([("program",.ref b)]:List (Str×V)):=rfl;have e2:df "said" (.ref sd) ([("program",.ref b)]:List (Str×V))=([("program",.ref b),("said",.ref sd)]:List (Str×V)):=by rw[OA (by decide +kernel)];rfl
 rw[e1,e2,OA (by decide +kernel),OA (by decide +kernel)];rfl
theorem wo(v:Int){m:Int}{n:Nat}(e:m=(n:Int))(h:0 < n):∃c:Nat,v % m=(c:Int)/\c < n:=by
 subst e;have a:=Int.emod_nonneg v (show(n:Int)≠0 by omega);have b:=Int.emod_lt_of_pos v (show(0:Int) < (n:Int)by omega);exact⟨(v % (n:Int)).toNat,by omega,by omega⟩
theorem Mr{α:Type}{fin:List PyData->aR->DC->Prop}{dg:qI}{dt:DT}{de:DX}{xs:List PyData}{env:bY}{aM:aR}{Q:DC}(as:List α)(g f:α->PyData)(hx:xs=as.map g)(hl:as.length<=1000000)
  (hs:∀(i:Nat) a,as[i]?=some a->∀(P:PyData->Prop) (N:Prop),P (f a)->dg (.dat (g a)) env aM λgm bM=>bM=aM/\dt gm aM λb jJ=>jJ=aM/\if b=true then de gm aM λy qD=>mq y qD λdy y8=>y8=aM/\P dy else N)
  (hd:fin (as.map f) aM Q):UL fin dg dt de xs (λ_=>True) env aM Q:=by
 subst hx;refine RG (λi ys=>ys=(as.take i).map f) (by rw[List.length_map];exact hl) (by simp) (λi ys d hd' hy=>?_) (λys hy=>?_)
 ·rw[aaO]at hd'
  cases w:as[i]? with
  | none=>rw[w]at hd';cases hd'
  | some a =>
   rw[w]at hd';cases hd';refine hs i a w (λdy=>ys++[dy]=(as.take (i + 1)).map f) (ys=(as.take (i + 1)).map f) ?_;rw[hy,List.take_add_one,w,abM];rfl
 ·rw[aah,List.take_length]at hy;rw[hy];exact hd
structure iZ where
 tk:List (Str×Kd)
 gv:Kd
 bd:List PyData
 an:PyData
 nm:List Str
def zb(p:iZ):PyData:=.tuple [.list (p.tk.map Oy),.tuple (wk p.gv),.list p.bd,p.an]
def OD(ms:PyData)(ps:List iZ):PyData:=.tuple [ms,.list (ps.map zb)]
def Ag(ps:List iZ):List (List Kd×Kd):=ps.map λp=>(p.tk.map (·.2),p.gv)
structure eP where
 said:List Int
 left:Int
 env:Str->Option Int
inductive Res where
 | val (k:Int) | vals (ks:List Int) | ok | fault (k:Int) | gave (k:Int) | weary | rcd (ks:List Int)
def Res.OE:Res->Bool
 | .rcd _=>true
 | _=>false
def Res.bad:Res->Bool
 | .fault _=>true
 | .gave _=>true
 | .weary=>true
 | _=>false
inductive Tk where
 | E (t:PyData) | Es (ts:List PyData) | Cl (p:Nat) (ts:List PyData) | Tw (op:Str) (a b:PyData) | G (p:Nat) (ks:List Int) | Ss (ts:List PyData) | S (t:PyData) | N (t:PyData) | W (c:PyData) (b:List PyData) | T (a:List PyData) (x:Str) (b:List PyData)
def Tk.XH:Tk->Bool
 | .E _=>true
 | .Es _=>true
 | .Cl _ _=>true
 | .Tw _ _ _=>true
 | _=>false
def jR(x:Str)(k:Int)(e:Str->Option Int):Str->Option Int:=λy=>if y=x then some k else e y
def Kk(op:Str):Prop:=op="add"∨op="sub"∨op="mul"∨op="less"∨op="same"∨parts op
inductive Act(m:List Str):PyData->PyData->Int->eP->Res->eP->Prop where
 | let' {x:Str} {kd e:PyData} {k:Int} {s:eP}:x∈m->Act m (.tuple [.str "let",.str x,kd,e]) e k s .ok {s with env:=jR x k s.env}
 | set {x:Str} {e:PyData} {k:Int} {s:eP}:x∈m->Act m (.tuple [.str "set",.str x,e]) e k s .ok {s with env:=jR x k s.env}
 | say {e:PyData} {k:Int} {s:eP}:s.said.length < 1000000->Act m (.tuple [.str "say",e]) e k s .ok {s with said:=s.said++[k]}
 | toss {e:PyData} {k:Int} {s:eP}:Act m (.tuple [.str "toss",e]) e k s (.fault k) s
 | drop {e:PyData} {k:Int} {s:eP}:Act m (.tuple [.str "drop",e]) e k s .ok s
 | give {e:PyData} {k:Int} {s:eP}:Act m (.tuple [.str "give",e]) e k s (.gave k) s
inductive Arg:PyData->PyData->Prop where
 | let' {x:Str} {kd e:PyData}:Arg (.tuple [.str "let",.str x,kd,e]) e
 | set {x:Str} {e:PyData}:Arg (.tuple [.str "set",.str x,e]) e
 | say {e:PyData}:Arg (.tuple [.str "say",e]) e
 | toss {e:PyData}:Arg (.tuple [.str "toss",e]) e
 | drop {e:PyData}:Arg (.tuple [.str "drop",e]) e
 | give {e:PyData}:Arg (.tuple [.str "give",e]) e
inductive Qt:PyData->Prop where
 | if' {c:PyData} {a b:List PyData}:Qt (.tuple [.str "if",c,.list a,.list b])
 | wh {c:PyData} {b:List PyData}:Qt (.tuple [.str "while",c,.list b])
 | tr {x:Str} {a b:List PyData}:Qt (.tuple [.str "try",.list a,.str x,.list b])
def envOf(ns:List Str)(ks:List Int):Str->Option Int:=λx=>((ns.zip ks).find? λq=>decide (q.1=x)).map (·.2)
inductive Ev(ps:List iZ):Nat->Int->List Str->Tk->eP->Res->eP->Prop where
 | num {n d m k s}:Ev ps (n + 1) d m (.E (.tuple [.str "num",.int k])) s (.val k) s
 | var {n d m x k} {s:eP}:s.env x=some k->Ev ps (n + 1) d m (.E (.tuple [.str "var",.str x])) s (.val k) s
 | callE {n d m p ts s r s'}:ts.length<=100->Ev ps n d m (.Cl p ts) s r s'->Ev ps (n + 1) d m (.E (.tuple [.str "call",.int (p:Nat),.list ts])) s r s'
 | two {n d m op a b s r s'}:Kk op->Ev ps n d m (.Tw op a b) s r s'->Ev ps (n + 1) d m (.E (.tuple [.str op,a,b])) s r s'
 | nil {n d m s}:Ev ps (n + 1) d m (.Es []) s (.vals []) s
 | cons {n d m t ts k ks s s1 s2}:Ev ps n d m (.E t) s (.val k) s1->Ev ps (n + 1) d m (.Es ts) s1 (.vals ks) s2->Ev ps (n + 1) d m (.Es (t::ts)) s (.vals (k::ks)) s2
 | consB {n d m t ts r s s1}:Ev ps n d m (.E t) s r s1->r.bad=true->Ev ps (n + 1) d m (.Es (t::ts)) s r s1
 | consC {n d m t ts k r s s1 s2}:Ev ps n d m (.E t) s (.val k) s1->Ev ps (n + 1) d m (.Es ts) s1 r s2->r.bad=true->Ev ps (n + 1) d m (.Es (t::ts)) s r s2
 | clB {n d m p ts r s s1}:Ev ps n d m (.Es ts) s r s1->r.bad=true->Ev ps (n + 1) d m (.Cl p ts) s r s1
 | clW {n d m p ts ks s s1}:Ev ps n d m (.Es ts) s (.vals ks) s1->s1.left<=0->Ev ps (n + 1) d m (.Cl p ts) s .weary s1
 | clD {n d m p ts ks s s1}:Ev ps n d m (.Es ts) s (.vals ks) s1->0 < s1.left->12<=d->Ev ps (n + 1) d m (.Cl p ts) s (.fault 2) {s1 with left:=s1.left - 1}
 | clG {n d m p ts ks r s s1 s2}:Ev ps n d m (.Es ts) s (.vals ks) s1->0 < s1.left->d < 12->Ev ps n (d + 1) [] (.G p ks) {s1 with left:=s1.left - 1} r s2->Ev ps (n + 1) d m (.Cl p ts) s r {s2 with env:=s1.env}
 | gB {n d m p ks r s s1 s2} {q:iZ}:ps[p]?=some q->ks.length=q.tk.length->Ev ps n d q.nm (.Ss q.bd) {s with env:=envOf (q.tk.map (·.1)) ks} .ok s1->Ev ps n d q.nm (.E q.an) s1 r s2->r.OE=false->Ev ps (n + 1) d m (.G p ks) s r s2
 | gG {n d m p ks k s s1} {q:iZ}:ps[p]?=some q->ks.length=q.tk.length->Ev ps n d q.nm (.Ss q.bd) {s with env:=envOf (q.tk.map (·.1)) ks} (.gave k) s1->Ev ps (n + 1) d m (.G p ks) s (.val k) s1
 | gX {n d m p ks r s s1} {q:iZ}:ps[p]?=some q->ks.length=q.tk.length->Ev ps n d q.nm (.Ss q.bd) {s with env:=envOf (q.tk.map (·.1)) ks} r s1->r.bad=true->(∀k,r≠.gave k)->Ev ps (n + 1) d m (.G p ks) s r s1
 | twB {n d m op a b r s s1}:Ev ps n d m (.Es [a,b]) s r s1->r.bad=true->Ev ps (n + 1) d m (.Tw op a b) s r s1
 | twG {n d m op a b k l s s1}:Ev ps n d m (.Es [a,b]) s (.vals [k,l]) s1->(parts op->l≠0)->fT k->fT l->Ev ps (n + 1) d m (.Tw op a b) s (.val (rk op k l)) s1
 | ssN {n d m s}:Ev ps (n + 1) d m (.Ss []) s .ok s
 | ssC {n d m t ts r s s1 s2}:Ev ps n d m (.S t) s .ok s1->Ev ps (n + 1) d m (.Ss ts) s1 r s2->Ev ps (n + 1) d m (.Ss (t::ts)) s r s2
 | ssB {n d m t ts r s s1}:Ev ps n d m (.S t) s r s1->r.bad=true->Ev ps (n + 1) d m (.Ss (t::ts)) s r s1
 | sG {n d m t e k r s s1 s2}:Ev ps n d m (.E e) s (.val k) s1->Act m t e k s1 r s2->Ev ps (n + 1) d m (.S t) s r s2
 | sB {n d m t e r s s1}:Arg t e->Ev ps n d m (.E e) s r s1->r.bad=true->Ev ps (n + 1) d m (.S t) s r s1
 | sN {n d m t r s s1}:Qt t->Ev ps n d m (.N t) s r s1->Ev ps (n + 1) d m (.S t) s r s1
 | ifG {n d m c a b k r s s1 s2}:Ev ps n d m (.E c) s (.val k) s1->Ev ps n d m (.Ss (if k=0 then b else a)) s1 r s2->Ev ps (n + 1) d m (.N (.tuple [.str "if",c,.list a,.list b])) s r s2
 | D2 {n d m c a b r s s1}:Ev ps n d m (.E c) s r s1->r.bad=true->Ev ps (n + 1) d m (.N (.tuple [.str "if",c,.list a,.list b])) s r s1
 | wh {n d m c b r s s1}:Ev ps (n + 1) d m (.W c b) s r s1->Ev ps (n + 1) d m (.N (.tuple [.str "while",c,.list b])) s r s1
 | w0 {n d m c b s s1}:Ev ps n d m (.E c) s (.val 0) s1->Ev ps (n + 1) d m (.W c b) s .ok s1
 | wB {n d m c b r s s1}:Ev ps n d m (.E c) s r s1->r.bad=true->Ev ps (n + 1) d m (.W c b) s r s1
 | wL {n d m c b k r s s1 s2}:Ev ps n d m (.E c) s (.val k) s1->k≠0->Ev ps n d m (.Ss b) s1 r s2->r.bad=true->Ev ps (n + 1) d m (.W c b) s r s2
 | wS {n d m c b k s s1 s2}:Ev ps n d m (.E c) s (.val k) s1->k≠0->Ev ps n d m (.Ss b) s1 .ok s2->s2.left<=0->Ev ps (n + 1) d m (.W c b) s .weary s2
 | wM {n d m c b k r s s1 s2 s3}:Ev ps n d m (.E c) s (.val k) s1->k≠0->Ev ps n d m (.Ss b) s1 .ok s2->0 < s2.left->Ev ps (n + 1) d m (.W c b) {s2 with left:=s2.left - 1} r s3->Ev ps (n + 1) d m (.W c b) s r s3
 | tr {n d m a x b r s s1}:Ev ps n d m (.T a x b) s r s1->Ev ps (n + 1) d m (.N (.tuple [.str "try",.list a,.str x,.list b])) s r s1
 | tG {n d m a x b r s s1}:Ev ps n d m (.Ss a) s r s1->(∀k,r≠.fault k)->Ev ps (n + 1) d m (.T a x b) s r s1
 | tF {n d m a x b k r s s1 s2}:Ev ps n d m (.Ss a) s (.fault k) s1->x∈m->Ev ps n d m (.Ss b) {s1 with env:=jR x k s1.env} r s2->Ev ps (n + 1) d m (.T a x b) s r s2
 | twF {n d m op a b k s s1}:Ev ps n d m (.Es [a,b]) s (.vals [k,0]) s1->parts op->fT k->Ev ps (n + 1) d m (.Tw op a b) s (.fault 1) s1
set_option inductive.autoPromoteIndices false
inductive Iy(ps:List iZ)(n:Nat)(d:Int)(m:List Str):PyData->eP->Res->eP->Prop where
 | num {k s}:Iy ps n d m (.tuple [.str "num",.int k]) s (.val k) s
 | var {x k} {s:eP}:s.env x=some k->Iy ps n d m (.tuple [.str "var",.str x]) s (.val k) s
 | callE {p ts s r s'}:ts.length<=100->Ev ps n d m (.Cl p ts) s r s'->Iy ps n d m (.tuple [.str "call",.int (p:Nat),.list ts]) s r s'
 | two {op a b s r s'}:Kk op->Ev ps n d m (.Tw op a b) s r s'->Iy ps n d m (.tuple [.str op,a,b]) s r s'
inductive sy(ps:List iZ)(n:Nat)(d:Int)(m:List Str):List PyData->eP->Res->eP->Prop where
 | nil {s}:sy ps n d m [] s (.vals []) s
 | cons {t ts k ks s s1 s2}:Ev ps n d m (.E t) s (.val k) s1->Ev ps (n + 1) d m (.Es ts) s1 (.vals ks) s2->sy ps n d m (t::ts) s (.vals (k::ks)) s2
 | consB {t ts r s s1}:Ev ps n d m (.E t) s r s1->r.bad=true->sy ps n d m (t::ts) s r s1
 | consC {t ts k r s s1 s2}:Ev ps n d m (.E t) s (.val k) s1->Ev ps (n + 1) d m (.Es ts) s1 r s2->r.bad=true->sy ps n d m (t::ts) s r s2
inductive t6(ps:List iZ)(n:Nat)(d:Int)(m:List Str):Nat->List PyData->eP->Res->eP->Prop where
 | clB {p ts r s s1}:Ev ps n d m (.Es ts) s r s1->r.bad=true->t6 ps n d m p ts s r s1
 | clW {p ts ks s s1}:Ev ps n d m (.Es ts) s (.vals ks) s1->s1.left<=0->t6 ps n d m p ts s .weary s1
 | clD {p ts ks s s1}:Ev ps n d m (.Es ts) s (.vals ks) s1->0 < s1.left->12<=d->t6 ps n d m p ts s (.fault 2) {s1 with left:=s1.left - 1}
 | clG {p ts ks r s s1 s2}:Ev ps n d m (.Es ts) s (.vals ks) s1->0 < s1.left->d < 12->Ev ps n (d + 1) [] (.G p ks) {s1 with left:=s1.left - 1} r s2->t6 ps n d m p ts s r {s2 with env:=s1.env}
inductive yr(ps:List iZ)(n:Nat)(d:Int)(m:List Str):Str->PyData->PyData->eP->Res->eP->Prop where
 | twB {op a b r s s1}:Ev ps n d m (.Es [a,b]) s r s1->r.bad=true->yr ps n d m op a b s r s1
 | twG {op a b k l s s1}:Ev ps n d m (.Es [a,b]) s (.vals [k,l]) s1->(parts op->l≠0)->fT k->fT l->yr ps n d m op a b s (.val (rk op k l)) s1
 | twF {op a b k s s1}:Ev ps n d m (.Es [a,b]) s (.vals [k,0]) s1->parts op->fT k->yr ps n d m op a b s (.fault 1) s1
inductive Kl(ps:List iZ)(n:Nat)(d:Int)(m:List Str):Nat->List Int->eP->Res->eP->Prop where
 | gB {p ks r s s1 s2} {q:iZ}:ps[p]?=some q->ks.length=q.tk.length->Ev ps n d q.nm (.Ss q.bd) {s with env:=envOf (q.tk.map (·.1)) ks} .ok s1->Ev ps n d q.nm (.E q.an) s1 r s2->r.OE=false->Kl ps n d m p ks s r s2
 | gG {p ks k s s1} {q:iZ}:ps[p]?=some q->ks.length=q.tk.length->Ev ps n d q.nm (.Ss q.bd) {s with env:=envOf (q.tk.map (·.1)) ks} (.gave k) s1->Kl ps n d m p ks s (.val k) s1
 | gX {p ks r s s1} {q:iZ}:ps[p]?=some q->ks.length=q.tk.length->Ev ps n d q.nm (.Ss q.bd) {s with env:=envOf (q.tk.map (·.1)) ks} r s1->r.bad=true->(∀k,r≠.gave k)->Kl ps n d m p ks s r s1
inductive yt(ps:List iZ)(n:Nat)(d:Int)(m:List Str):List PyData->eP->Res->eP->Prop where
 | ssN {s}:yt ps n d m [] s .ok s
 | ssC {t ts r s s1 s2}:Ev ps n d m (.S t) s .ok s1->Ev ps (n + 1) d m (.Ss ts) s1 r s2->yt ps n d m (t::ts) s r s2
 | ssB {t ts r s s1}:Ev ps n d m (.S t) s r s1->r.bad=true->yt ps n d m (t::ts) s r s1
inductive Ms(ps:List iZ)(n:Nat)(d:Int)(m:List Str):PyData->eP->Res->eP->Prop where
 | sG {t e k r s s1 s2}:Ev ps n d m (.E e) s (.val k) s1->Act m t e k s1 r s2->Ms ps n d m t s r s2
 | sB {t e r s s1}:Arg t e->Ev ps n d m (.E e) s r s1->r.bad=true->Ms ps n d m t s r s1
 | sN {t r s s1}:Qt t->Ev ps n d m (.N t) s r s1->Ms ps n d m t s r s1
inductive Iz(ps:List iZ)(n:Nat)(d:Int)(m:List Str):PyData->eP->Res->eP->Prop where
 | ifG {c a b k r s s1 s2}:Ev ps n d m (.E c) s (.val k) s1->Ev ps n d m (.Ss (if k=0 then b else a)) s1 r s2->Iz ps n d m (.tuple [.str "if",c,.list a,.list b]) s r s2
 | D2 {c a b r s s1}:Ev ps n d m (.E c) s r s1->r.bad=true->Iz ps n d m (.tuple [.str "if",c,.list a,.list b]) s r s1
 | wh {c b r s s1}:Ev ps (n + 1) d m (.W c b) s r s1->Iz ps n d m (.tuple [.str "while",c,.list b]) s r s1
 | tr {a x b r s s1}:Ev ps n d m (.T a x b) s r s1->Iz ps n d m (.tuple [.str "try",.list a,.str x,.list b]) s r s1
inductive D8(ps:List iZ)(n:Nat)(d:Int)(m:List Str):PyData->List PyData->eP->Res->eP->Prop where
 | w0 {c b s s1}:Ev ps n d m (.E c) s (.val 0) s1->D8 ps n d m c b s .ok s1
 | wB {c b r s s1}:Ev ps n d m (.E c) s r s1->r.bad=true->D8 ps n d m c b s r s1
 | wL {c b k r s s1 s2}:Ev ps n d m (.E c) s (.val k) s1->k≠0->Ev ps n d m (.Ss b) s1 r s2->r.bad=true->D8 ps n d m c b s r s2
 | wS {c b k s s1 s2}:Ev ps n d m (.E c) s (.val k) s1->k≠0->Ev ps n d m (.Ss b) s1 .ok s2->s2.left<=0->D8 ps n d m c b s .weary s2
 | wM {c b k r s s1 s2 s3}:Ev ps n d m (.E c) s (.val k) s1->k≠0->Ev ps n d m (.Ss b) s1 .ok s2->0 < s2.left->Ev ps (n + 1) d m (.W c b) {s2 with left:=s2.left - 1} r s3->D8 ps n d m c b s r s3
inductive Qu(ps:List iZ)(n:Nat)(d:Int)(m:List Str):List PyData->Str->List PyData->eP->Res->eP->Prop where
 | tG {a x b r s s1}:Ev ps n d m (.Ss a) s r s1->(∀k,r≠.fault k)->Qu ps n d m a x b s r s1
 | tF {a x b k r s s1 s2}:Ev ps n d m (.Ss a) s (.fault k) s1->x∈m->Ev ps n d m (.Ss b) {s1 with env:=jR x k s1.env} r s2->Qu ps n d m a x b s r s2
set_option inductive.autoPromoteIndices true
def XI(ps:List iZ)(n:Nat)(d:Int)(m:List Str):Tk->eP->Res->eP->Prop
 | .E t,z0,z1,z2=>Iy ps n d m t z0 z1 z2
 | .Es ts,z0,z1,z2=>sy ps n d m ts z0 z1 z2
 | .Cl p ts,z0,z1,z2=>t6 ps n d m p ts z0 z1 z2
 | .Tw op a b,z0,z1,z2=>yr ps n d m op a b z0 z1 z2
 | .G p ks,z0,z1,z2=>Kl ps n d m p ks z0 z1 z2
 | .Ss ts,z0,z1,z2=>yt ps n d m ts z0 z1 z2
 | .S t,z0,z1,z2=>Ms ps n d m t z0 z1 z2
 | .N t,z0,z1,z2=>Iz ps n d m t z0 z1 z2
 | .W c b,z0,z1,z2=>D8 ps n d m c b z0 z1 z2
 | .T a x b,z0,z1,z2=>Qu ps n d m a x b z0 z1 z2
section
variable {ps:List iZ} {n p:Nat} {d:Int} {m:List Str} {t a b c:PyData} {ts as bs:List PyData} {op x:Str} {ks:List Int} {s s':eP} {r:Res} {q:Tk}
theorem Ev.inv(h:Ev ps n d m q s r s'):∃k',n=k' + 1/\XI ps k' d m q s r s':=by
 cases h with
 | num=>exact⟨_,rfl,Iy.num ⟩
 | var h0=>exact⟨_,rfl,Iy.var h0⟩
 | callE h0 h1=>exact⟨_,rfl,Iy.callE h0 h1⟩
 | two h0 h1=>exact⟨_,rfl,Iy.two h0 h1⟩
 | nil=>exact⟨_,rfl,sy.nil ⟩
 | cons h0 h1=>exact⟨_,rfl,sy.cons h0 h1⟩
 | consB h0 h1=>exact⟨_,rfl,sy.consB h0 h1⟩
 | consC h0 h1 h2=>exact⟨_,rfl,sy.consC h0 h1 h2⟩
 | clB h0 h1=>exact⟨_,rfl,t6.clB h0 h1⟩
 | clW h0 h1=>exact⟨_,rfl,t6.clW h0 h1⟩
 | clD h0 h1 h2=>exact⟨_,rfl,t6.clD h0 h1 h2⟩
 | clG h0 h1 h2 h3=>exact⟨_,rfl,t6.clG h0 h1 h2 h3⟩
 | gB h0 h1 h2 h3 h4=>exact⟨_,rfl,Kl.gB h0 h1 h2 h3 h4⟩
 | gG h0 h1 h2=>exact⟨_,rfl,Kl.gG h0 h1 h2⟩
 | gX h0 h1 h2 h3 h4=>exact⟨_,rfl,Kl.gX h0 h1 h2 h3 h4⟩
 | twB h0 h1=>exact⟨_,rfl,yr.twB h0 h1⟩
 | twG h0 h1 h2 h3=>exact⟨_,rfl,yr.twG h0 h1 h2 h3⟩
 | ssN=>exact⟨_,rfl,yt.ssN ⟩
 | ssC h0 h1=>exact⟨_,rfl,yt.ssC h0 h1⟩
 | ssB h0 h1=>exact⟨_,rfl,yt.ssB h0 h1⟩
 | sG h0 h1=>exact⟨_,rfl,Ms.sG h0 h1⟩
 | sB h0 h1 h2=>exact⟨_,rfl,Ms.sB h0 h1 h2⟩
 | sN h0 h1=>exact⟨_,rfl,Ms.sN h0 h1⟩
 | ifG h0 h1=>exact⟨_,rfl,Iz.ifG h0 h1⟩
 | D2 h0 h1=>exact⟨_,rfl,Iz.D2 h0 h1⟩
 | wh h0=>exact⟨_,rfl,Iz.wh h0⟩
 | w0 h0=>exact⟨_,rfl,D8.w0 h0⟩
 | wB h0 h1=>exact⟨_,rfl,D8.wB h0 h1⟩
 | wL h0 h1 h2 h3=>exact⟨_,rfl,D8.wL h0 h1 h2 h3⟩
 | wS h0 h1 h2 h3=>exact⟨_,rfl,D8.wS h0 h1 h2 h3⟩
 | wM h0 h1 h2 h3 h4=>exact⟨_,rfl,D8.wM h0 h1 h2 h3 h4⟩
 | tr h0=>exact⟨_,rfl,Iz.tr h0⟩
 | tG h0 h1=>exact⟨_,rfl,Qu.tG h0 h1⟩
 | tF h0 h1 h2=>exact⟨_,rfl,Qu.tF h0 h1 h2⟩
 | twF h0 h1 h2=>exact⟨_,rfl,yr.twF h0 h1 h2⟩
theorem Ev.i(h:Ev ps (n + 1) d m q s r s'):XI ps n d m q s r s':=by
 obtain⟨k',e,z⟩:=h.inv;cases e;exact z
theorem Ev.no(h:Ev ps 0 d m q s r s'):False:=by
 obtain⟨k',e,_⟩:=h.inv;cases e
theorem Ev.iE(h:Ev ps (n + 1) d m (.E t) s r s'):Iy ps n d m t s r s':=h.i
theorem Ev.XJ(h:Ev ps (n + 1) d m (.Es ts) s r s'):sy ps n d m ts s r s':=h.i
theorem Ev.Z1(h:Ev ps (n + 1) d m (.Cl p ts) s r s'):t6 ps n d m p ts s r s':=h.i
theorem Ev.Z2(h:Ev ps (n + 1) d m (.Tw op a b) s r s'):yr ps n d m op a b s r s':=h.i
theorem Ev.iG(h:Ev ps (n + 1) d m (.G p ks) s r s'):Kl ps n d m p ks s r s':=h.i
theorem Ev.Qw(h:Ev ps (n + 1) d m (.Ss ts) s r s'):yt ps n d m ts s r s':=h.i
theorem Ev.iS(h:Ev ps (n + 1) d m (.S t) s r s'):Ms ps n d m t s r s':=h.i
theorem Ev.iN(h:Ev ps (n + 1) d m (.N t) s r s'):Iz ps n d m t s r s':=h.i
theorem Ev.iW(h:Ev ps (n + 1) d m (.W c bs) s r s'):D8 ps n d m c bs s r s':=h.i
theorem Ev.iT(h:Ev ps (n + 1) d m (.T as x bs) s r s'):Qu ps n d m as x bs s r s':=h.i
end
section
variable {ps:List iZ} {n:Nat} {d:Int} {m:List Str} {t:Tk} {s s':eP} {r:Res}
theorem Act.left{t e:PyData}{k:Int}(h:Act m t e k s r s'):s'.left=s.left:=by cases h<;>rfl
theorem Act.arg{t e:PyData}{k:Int}(h:Act m t e k s r s'):Arg t e:=by cases h<;>constructor
theorem Ev.le(h:Ev ps n d m t s r s'):s'.left<=s.left:=by
 induction h with
 | num=>exact abt _
 | var _=>exact abt _
 | nil=>exact abt _
 | ssN=>exact abt _
 | callE _ _ ih=>exact ih
 | two _ _ ih=>exact ih
 | cons _ _ i1 i2=>exact ab1 i2 i1
 | consB _ _ ih=>exact ih
 | consC _ _ _ i1 i2=>exact ab1 i2 i1
 | clB _ _ ih=>exact ih
 | clW _ _ ih=>exact ih
 | clD _ _ _ ih=>dsimp only;omega
 | clG _ _ _ _ i1 i2=>dsimp only at i2 ⊢;omega
 | gB _ _ _ _ _ i1 i2=>dsimp only at i1 ⊢;omega
 | gG _ _ _ ih=>exact ih
 | gX _ _ _ _ _ ih=>exact ih
 | twB _ _ ih=>exact ih
 | twG _ _ _ _ ih=>exact ih
 | ssC _ _ i1 i2=>exact ab1 i2 i1
 | ssB _ _ ih=>exact ih
 | sG _ a ih=>rw[a.left];exact ih
 | sB _ _ _ ih=>exact ih
 | sN _ _ ih=>exact ih
 | ifG _ _ i1 i2=>exact ab1 i2 i1
 | D2 _ _ ih=>exact ih
 | wh _ ih=>exact ih
 | w0 _ ih=>exact ih
 | wB _ _ ih=>exact ih
 | wL _ _ _ _ i1 i2=>exact ab1 i2 i1
 | wS _ _ _ _ i1 i2=>exact ab1 i2 i1
 | wM _ _ _ _ _ i1 i2 i3=>dsimp only at i3;omega
 | tr _ ih=>exact ih
 | tG _ _ ih=>exact ih
 | tF _ _ _ i1 i2=>dsimp only at i2;omega
 | twF _ _ _ ih=>exact ih
theorem Ev.up(h:Ev ps n d m t s r s'):Ev ps (n + 1) d m t s r s':=by
 induction h with
 | num=>exact .num
 | var h=>exact .var h
 | nil=>exact .nil
 | ssN=>exact .ssN
 | callE a _ ih=>exact .callE a ih
 | two a _ ih=>exact .two a ih
 | cons _ _ i1 i2=>exact .cons i1 i2
 | consB _ a ih=>exact .consB ih a
 | consC _ _ a i1 i2=>exact .consC i1 i2 a
 | clB _ a ih=>exact .clB ih a
 | clW _ a ih=>exact .clW ih a
 | clD _ a b ih=>exact .clD ih a b
 | clG _ a b _ i1 i2=>exact .clG i1 a b i2
 | gB a b _ _ c i1 i2=>exact .gB a b i1 i2 c
 | gG a b _ ih=>exact .gG a b ih
 | gX a b _ c e ih=>exact .gX a b ih c e
 | twB _ a ih=>exact .twB ih a
 | twG _ a b c ih=>exact .twG ih a b c
 | ssC _ _ i1 i2=>exact .ssC i1 i2
 | ssB _ a ih=>exact .ssB ih a
 | sG _ a ih=>exact .sG ih a
 | sB a _ b ih=>exact .sB a ih b
 | sN a _ ih=>exact .sN a ih
 | ifG _ _ i1 i2=>exact .ifG i1 i2
 | D2 _ a ih=>exact .D2 ih a
 | wh _ ih=>exact .wh ih
 | w0 _ ih=>exact .w0 ih
 | wB _ a ih=>exact .wB ih a
 | wL _ a _ b i1 i2=>exact .wL i1 a i2 b
 | wS _ a _ b i1 i2=>exact .wS i1 a i2 b
 | wM _ a _ b _ i1 i2 i3=>exact .wM i1 a i2 b i3
 | tr _ ih=>exact .tr ih
 | tG _ a ih=>exact .tG ih a
 | tF _ a _ i1 i2=>exact .tF i1 a i2
 | twF _ a b ih=>exact .twF ih a b
theorem Ev.mono{k:Nat}(h:Ev ps n d m t s r s')(l:n<=k):Ev ps k d m t s r s':=by
 induction l with
 | refl=>exact h
 | step _ ih=>exact ih.up
theorem Ev.wq(h:Ev ps n d m t s r s'):t.XH=true->s'.env=s.env:=by
 induction h with
 | num=>intro _;rfl
 | var _=>intro _;rfl
 | nil=>intro _;rfl
 | callE _ _ ih=>intro _;exact ih rfl
 | two _ _ ih=>intro _;exact ih rfl
 | cons _ _ i1 i2=>intro _;rw[i2 rfl,i1 rfl]
 | consB _ _ ih=>intro _;exact ih rfl
 | consC _ _ _ i1 i2=>intro _;rw[i2 rfl,i1 rfl]
 | clB _ _ ih=>intro _;exact ih rfl
 | clW _ _ ih=>intro _;exact ih rfl
 | clD _ _ _ ih=>intro _;exact ih rfl
 | clG _ _ _ _ i1 _=>intro _;exact i1 rfl
 | twB _ _ ih=>intro _;exact ih rfl
 | twG _ _ _ _ ih=>intro _;exact ih rfl
 | twF _ _ _ ih=>intro _;exact ih rfl
 | _=>intro z;cases z
end
structure RW where
 x:Addr
 dx:Addr
 b:Addr
 sd:Addr
 ms:PyData
 ps:List iZ
 H0:Hp
structure CL where
 c:Addr
 dc:Addr
 d:Addr
 dep:Int
 nm:List Str
structure Tv(ps:List iZ):Prop where
 few:ps.length<=100
 tks:∀q∈ps,q.tk.length<=100
 nd:∀q∈ps,(q.tk.map (·.1)).Nodup
 sub:∀q∈ps,∀x∈q.tk.map (·.1),x∈q.nm
 nms:∀q∈ps,q.nm.length<=900
structure fW(K:aV)(C:Addr)(R:RW)(H:Hp)(said:List Int)(left:Int):Prop where
 hx:H R.x=some (.ins C R.dx (kK R.b R.sd left))
 hs:H R.sd=some (.lst (said.map V.int))
 s0:bf R.H0 H
 pr:bz K R.H0 (.ref R.b) (OD R.ms R.ps)
 nx:R.H0 R.x=none
 ns:R.H0 R.sd=none
 wf:Tv R.ps
structure iy(CC:Addr)(R:RW)(L:CL)(H:Hp)(env:Str->Option Int):Prop where
 hc:H L.c=some (.ins CC L.dc (C2 L.dep L.d))
 hd:∃kvs:List (Key×V),H L.d=some (.dK kvs)/\(kvs.map (·.1)).Nodup/\(∀k∈kvs.map (·.1),∃y∈L.nm,k=Sum.inr y)/\∀y,iX kvs (Sum.inr y)=(env y).map V.int
 nd:R.H0 L.d=none
 few:L.nm.length<=900
def kL(R:RW)(H H':Hp):Prop:=∀a o,a≠R.x->a≠R.sd->H a=some o->H' a=some o
def qt(R:RW)(L:CL)(H H':Hp):Prop:=∀a o,a≠R.x->a≠R.sd->a≠L.d->H a=some o->H' a=some o
def XM(f:Str)(k:Int)(dd:Option Addr)(H:Hp):Prop:=∃dx,dd=some dx/\H dx=some (.ext (XD dx [(f,.int k)]))
def pd(mg:Str->Option Value)(E:XK):Res->Hp->Prop
 | .fault k,H=>∀C dd,mg "Fault"=some (.ref C)->XM "number" k dd H->E (.ref C) dd H
 | .gave k,H=>∀C dd,mg "Gave"=some (.ref C)->XM "value" k dd H->E (.ref C) dd H
 | .weary,H=>∀C dd,mg "Weary"=some (.ref C)->E (.ref C) dd H
 | _,_=>True
def lq(Q:VK):Res->Hp->Prop
 | .val k,H=>Q (.int k) H
 | .ok,H=>Q .non H
 | _,_=>True
theorem lq.bad{Q:VK}{r:Res}{H:Hp}(h:r.bad=true):lq Q r H:=by cases r<;>first | trivial | cases h
section
variable {R:RW} {L:CL} {H H1 H2:Hp}
theorem kL.refl:kL R H H:=λ_ _ _ _ h=>h
theorem kL.trans(a:kL R H H1)(b:kL R H1 H2):kL R H H2:=λc o n1 n2 h=>b c o n1 n2 (a c o n1 n2 h)
theorem kL.of(s:bf H H1):kL R H H1:=λc o _ _ h=>s c o h
theorem kL.s(k:kL R H H1):qt R L H H1:=λc o n1 n2 _ h=>k c o n1 n2 h
theorem qt.refl:qt R L H H:=λ_ _ _ _ _ h=>h
theorem qt.trans(a:qt R L H H1)(b:qt R L H1 H2):qt R L H H2:=λc o n1 n2 n3 h=>b c o n1 n2 n3 (a c o n1 n2 n3 h)
theorem qt.of(s:bf H H1):qt R L H H1:=λc o _ _ _ h=>s c o h
end
section
variable {K:aV} {C CC:Addr} {R:RW} {L:CL} {H H1:Hp} {said XN:List Int} {left BR:Int} {env:Str->Option Int}
theorem fW.xs(I:fW K C R H said left):R.x≠R.sd:=cv I.hx I.hs (by intro z;cases z)
theorem iy.cx(J:iy CC R L H env)(I:fW K C R H said left):L.c≠R.x:=cv J.hc I.hx (by intro z;injection z with _ _ h;have:=abB List.length h;cases this)
theorem iy.cs(J:iy CC R L H env)(I:fW K C R H said left):L.c≠R.sd:=cv J.hc I.hs (by intro z;cases z)
theorem iy.dx(J:iy CC R L H env)(I:fW K C R H said left):L.d≠R.x:=let ⟨_,h,_⟩:=J.hd;cv h I.hx (by intro z;cases z)
theorem iy.ds(J:iy CC R L H env)(I:fW K C R H said left):L.d≠R.sd:=let ⟨_,h,_⟩:=J.hd;cv h I.hs (by intro z;cases z)
theorem iy.cd(J:iy CC R L H env):L.c≠L.d:=let ⟨_,h,_⟩:=J.hd;cv J.hc h (by intro z;cases z)
theorem iy.keep(J:iy CC R L H env)(I:fW K C R H said left)(k:kL R H H1):iy CC R L H1 env :=
 ⟨k _ _ (J.cx I) (J.cs I) J.hc,let ⟨kvs,h,a,b,c⟩:=J.hd;⟨kvs,k _ _ (J.dx I) (J.ds I) h,a,b,c⟩,J.nd,J.few⟩
theorem fW.same(I:fW K C R H said left)(s:bf H H1):fW K C R H1 said left:=⟨s _ _ I.hx,s _ _ I.hs,I.s0.trans s,I.pr,I.nx,I.ns,I.wf⟩
theorem iy.same(J:iy CC R L H env)(s:bf H H1):iy CC R L H1 env:=⟨s _ _ J.hc,let ⟨kvs,h,a,b,c⟩:=J.hd;⟨kvs,s _ _ h,a,b,c⟩,J.nd,J.few⟩
theorem fW.spent(I:fW K C R H said left):fW K C R (upd H R.x (.ins C R.dx (kK R.b R.sd BR))) said BR :=
 ⟨uS,(uN I.xs.symm).trans I.hs,λa o e=>(uN (nN e I.nx)).trans (I.s0 _ _ e),I.pr,I.nx,I.ns,I.wf⟩
theorem fW.say(I:fW K C R H said left)(k:Int):fW K C R (upd H R.sd (.lst (said.map V.int++[.int k]))) (said++[k]) left :=
 ⟨(uN I.xs).trans I.hx,by rw[uS];simp,λa o e=>(uN (nN e I.ns)).trans (I.s0 _ _ e),I.pr,I.nx,I.ns,I.wf⟩
theorem fW.dict(I:fW K C R H said left)(J:iy CC R L H env)(o:HO):fW K C R (upd H L.d o) said left :=
 ⟨(uN (J.dx I).symm).trans I.hx,(uN (J.ds I).symm).trans I.hs,λa o e=>(uN (nN e J.nd)).trans (I.s0 _ _ e),I.pr,I.nx,I.ns,I.wf⟩
end
theorem OG{b sd:Addr}{l l1:Int}:df "left" (.int l1) (kK b sd l)=kK b sd l1:=by
 unfold kK;rw[OA (by decide +kernel),OA (by decide +kernel),Z0]
theorem wu{K:aV}{H0 H:Hp}{v:V}{ds:List PyData}(h:bz K H0 v (.tuple ds))(s:bf H0 H):∃(t:Addr) (ts:List V),v=.ref t/\cX K H t ts/\ts.length=ds.length/\∀(i:Nat) x d,ts[i]?=some x->ds[i]?=some d->bz K H0 x d:=by
 obtain⟨t,ts,e,hT,hR⟩:=bz.hV h;exact⟨t,ts,e,s.tup hT,hR.1,hR.2⟩
theorem bz.bR{K:aV}{H:Hp}{v:V}{x:Str}(h:bz K H v (.str x)):v=.str x:=by cases h;rfl
theorem sA{K:aV}{H0 H:Hp}{v:V}{w:Str}{a:PyData}(h:bz K H0 v (.tuple [.str w,a]))(s:bf H0 H):∃(t:Addr) (x:V),v=.ref t/\cX K H t [.str w,x]/\bz K H0 x a:=by
 obtain⟨t,ts,e,hT,hl,hR⟩:=wu h s;obtain⟨u0,u1,rfl⟩:=XC hl;have z:=bz.bR (hR 0 u0 _ rfl rfl);subst z;exact⟨t,u1,e,hT,hR 1 u1 _ rfl rfl⟩
theorem nK{K:aV}{H0 H:Hp}{v:V}{w:Str}{a b:PyData}(h:bz K H0 v (.tuple [.str w,a,b]))(s:bf H0 H):∃(t:Addr) (x y:V),v=.ref t/\cX K H t [.str w,x,y]/\bz K H0 x a/\bz K H0 y b:=by
 obtain⟨t,ts,e,hT,hl,hR⟩:=wu h s;obtain⟨u0,u1,u2,rfl⟩:=ZX hl;have z:=bz.bR (hR 0 u0 _ rfl rfl);subst z;exact⟨t,u1,u2,e,hT,hR 1 u1 _ rfl rfl,hR 2 u2 _ rfl rfl⟩
theorem qb{K:aV}{H0 H:Hp}{v:V}{w:Str}{a b c:PyData}(h:bz K H0 v (.tuple [.str w,a,b,c]))(s:bf H0 H):∃(t:Addr) (x y z:V),v=.ref t/\cX K H t [.str w,x,y,z]/\bz K H0 x a/\bz K H0 y b/\bz K H0 z c:=by
 obtain⟨t,ts,e,hT,hl,hR⟩:=wu h s;obtain⟨u0,u1,u2,u3,rfl⟩:=XF hl;have z:=bz.bR (hR 0 u0 _ rfl rfl);subst z;exact⟨t,u1,u2,u3,e,hT,hR 1 u1 _ rfl rfl,hR 2 u2 _ rfl rfl,hR 3 u3 _ rfl rfl⟩
def endOf:Res->Option (List V)
 | .val k=>some [.str "gave",.int k]
 | .fault k=>some [.str "fault",.int k]
 | .weary=>some [.str "weary"]
 | _=>none
theorem Km{op:Str}(h:Kk op):op≠"num"/\op≠"var"/\op≠"call"/\op≠"new"/\op≠"get"/\op≠"either":=by
 rcases h with rfl | rfl | rfl | rfl | rfl | rfl | rfl<;>decide +kernel
theorem Ko{K:aV}{i:Nat}{a:Addr}{xs:List V}{σ:St}{H:Hp}{R:It->Hp->Prop}{A B:Prop}(e:σ[i]?=some (some (.ref a)))(hA:A∨B)(h1:A->bZ K H a xs)(h2:B->cX K H a xs)(h:∀J,(J=Im K a/\A)∨(J=Qk K a/\B)->R J H):UH K (Eo i) σ H R:=by
 refine⟨_,e,a,rfl,?_⟩;rcases hA with hA | hA
 ·exact .inl ⟨⟨_,h1 hA⟩,h _ (.inl ⟨rfl,hA⟩)⟩
 ·exact .inr ⟨⟨_,h2 hA⟩,h _ (.inr ⟨rfl,hA⟩)⟩
theorem R5{own:Nat}{ix:List Nat}{σ:St}{K:aV}{J:It}{a:Addr}{xs:List V}{g:TG}{tt:TT}{te:TE}{H1:Hp}{Q:VK}{D:Addr}{A B:Prop}(hJ:(J=Im K a/\A)∨(J=Qk K a/\B))(Pv:Nat->List V->Hp->Prop)(hn:xs.length<=sizeLine)(h0:Pv 0 [] (upd H1 D (.lst [])))(hD:∀i ys H,i<=xs.length->Pv i ys H->H D=some (.lst ys)/\ys.length<=i/\(A->bZ K H a xs)/\(B->cX K H a xs))
  (hs:∀i x ys H2,xs[i]?=some x->Pv i ys H2->g x (dq own ix σ) H2 λσ2 H4=>σ2.drop own=(ix.map λi=>(σ[i]?).getD none)/\tt σ2 H4 λb H5=>if b=true then te σ2 H5 λv H6=>H6 D=some (.lst ys)/\Pv (i + 1) (ys++[v]) (upd H6 D (.lst (ys++[v])))else Pv (i + 1) ys H5)
  (hd:∀ys H2,Pv xs.length ys H2->Q (.ref D) H2) :
  Qm J own ix σ g tt te D H1 Q:=by
 rcases hJ with⟨rfl,h⟩ | ⟨rfl,h⟩
 ·exact vF Pv hn h0 (λi ys H hi p=>⟨(hD i ys H hi p).1,(hD i ys H hi p).2.1,(hD i ys H hi p).2.2.1 h⟩) hs hd
 ·exact Nv Pv hn h0 (λi ys H hi p=>⟨(hD i ys H hi p).1,(hD i ys H hi p).2.1,(hD i ys H hi p).2.2.2 h⟩) hs hd
structure XO(K:aV)(C:Addr)(R:RW)(L:CL)(n:Nat)(ts:List PyData)(s s':eP)(r:Res)(H:Hp)(D:Addr)(i:Nat)(zs:List V)(H2:Hp)(si:eP)(ks:List Int)(r':Res):Prop where
 ez:zs=ks.map V.int
 len:ks.length=i
 kp:kL R H H2
 hD:H2 D=some (.lst zs)
 I:fW K C R H2 si.said si.left
 env:si.env=s.env
 ev:Ev R.ps (n + 1) L.dep L.nm (.Es (ts.drop i)) si r' s'
 rr:(∃ks',r'=.vals ks'/\r=.vals (ks++ks'))∨(r'=r/\r.bad=true)
section
variable {K:aV} {C CC:Addr} {R:RW} {L:CL} {H H1:Hp} {said:List Int} {left:Int} {env:Str->Option Int} {a:Addr} {xs:List V}
theorem kL.tup(k:kL R H H1)(I:fW K C R H said left)(h:cX K H a xs):cX K H1 a xs:=by
 rcases h with(h | ⟨o,h⟩) | h
 ·exact .inl (.inl (k _ _ (cv h I.hx (by intro z;cases z)) (cv h I.hs (by intro z;cases z)) h))
 ·exact .inl (.inr ⟨o,k _ _ (cv h I.hx (by intro z;cases z)) (cv h I.hs (by intro z;cases z)) h⟩)
 ·exact .inr h
theorem fW.h0(I:fW K C R H said left)(h:H a=none):R.H0 a=none:=by
 cases e:R.H0 a with
 | none=>rfl
 | some o=>rw[I.s0 _ _ e]at h;cases h
theorem fW.other(I:fW K C R H said left)(nx:a≠R.x)(ns:a≠R.sd)(n0:R.H0 a=none)(o:HO):fW K C R (upd H a o) said left :=
 ⟨(uN nx.symm).trans I.hx,(uN ns.symm).trans I.hs,λc u e=>(uN (nN e n0)).trans (I.s0 _ _ e),I.pr,I.nx,I.ns,I.wf⟩
theorem kL.new(k:kL R H H1)(n:H a=none)(o:HO):kL R H (upd H1 a o):=λc u n1 n2 e=>(uN (nN e n)).trans (k c u n1 n2 e)
end
theorem Ev.Z3{ps:List iZ}{n:Nat}{d:Int}{m:List Str}{ts:List PyData}{s s':eP}{r:Res}(h:Ev ps n d m (.Es ts) s r s'):(∃ks,r=.vals ks)∨r.bad=true:=by
 obtain⟨_,_,z⟩:=h.inv
 cases (show sy ps _ d m ts s r s' from z)with
 | nil=>exact .inl ⟨_,rfl⟩
 | cons _ _=>exact .inl ⟨_,rfl⟩
 | consB _ b=>exact .inr b
 | consC _ _ b=>exact .inr b
theorem kL.Tx{R:RW}{H:Hp}{o:HO}:kL R H (upd H R.x o):=λ_ _ n _ h=>(uN n).trans h
theorem sC{p:Int}{d:Addr}:(C2 p d).lookup ("depth" : Str)=some (.int p):=R4
theorem Gq:∀{l:List Key} {nm:List Str},l.Nodup->(∀k∈l,∃y∈nm,k=Sum.inr y)->l.length<=nm.length
 | [],_,_,_=>abl _
 | k::r,nm,nd,h=>by
  obtain⟨y,hy,e⟩:=h k aat;obtain⟨n1,n2⟩:=acK.mp nd
  have z:=Gq (l:=r) (nm:=nm.erase y) n2 λk' hk'=>by
   obtain⟨y',hy',e'⟩:=h k' (aaB _ hk');refine⟨y',(List.mem_erase_of_ne λw=>n1 ?_).mpr hy',e'⟩;rw[e,← w,← e'];exact hk'
  rw[List.length_erase_of_mem hy]at z;have:=List.length_pos_of_mem hy;rw[aaJ];omega
theorem vb{kvs:List (Key×V)}{k:Key}{v:V}(nd:(kvs.map (·.1)).Nodup):((putK kvs k v).map (·.1)).Nodup/\∀k'∈(putK kvs k v).map (·.1),k'∈kvs.map (·.1)∨k'=k:=by
 unfold putK;split
 ·have e:(kvs.map λkv=>if kv.1=k then(kv.1,v)else kv).map (·.1)=kvs.map (·.1):=by
   rw[abV];refine List.map_congr_left λp _=>?_
   show(if p.1=k then(p.1,v)else p).1=p.1;split<;>rfl
  rw[e];exact⟨nd,λk' h=>.inl h⟩
 ·rename_i h;rw[List.map_append];refine⟨List.nodup_append.mpr ⟨nd,by simp,λa ha b hb w=>h ?_⟩,λk' hk'=>?_⟩
  ·rw[List.map_singleton,aaY]at hb;obtain⟨p,hp,e⟩:=acG.mp ha;exact List.any_eq_true.mpr ⟨p,hp,abT (e.trans (w.trans hb))⟩
  ·rcases abY.mp hk' with z | z
   ·exact .inl z
   ·rw[List.map_singleton,aaY]at z;exact .inr z
theorem iy.put{CC:Addr}{R:RW}{L:CL}{H:Hp}{env:Str->Option Int}(J:iy CC R L H env){x:Str}(hx:x∈L.nm)(k:Int):∃o:HO,CG H L.d (.str x) (.int k) (upd H L.d o)/\iy CC R L (upd H L.d o) (jR x k env):=by
 obtain⟨kvs,h,nd,hk,hv⟩:=J.hd;have l:=Gq nd hk;rw[aah]at l;have f:=J.few;refine⟨_,CG.k (k:=Sum.inr x) h (sK (by omega)),⟨(uN J.cd).trans J.hc,⟨_,uS,(vb nd).1,λk' hk'=>?_,λy=>?_⟩,J.nd,J.few⟩⟩
 ·rcases (vb nd).2 k' hk' with z | z
  ·exact hk k' z
  ·exact⟨x,hx,z⟩
 ·rw[Fm];unfold jR;by_cases e:y=x
  ·rw[aaw (by rw[e]),aaw e];rfl
  ·rw[aas (λz=>e (acL z)),aas e];exact hv y
theorem qt.U4{R:RW}{L:CL}{H:Hp}{o:HO}:qt R L H (upd H L.d o):=λ_ _ _ _ n h=>(uN n).trans h
theorem qt.Z4{R:RW}{L:CL}{H:Hp}{o:HO}:qt R L H (upd H R.sd o):=λ_ _ _ n _ h=>(uN n).trans h
theorem qt.tup{K:aV}{C CC:Addr}{R:RW}{L:CL}{H H1:Hp}{said:List Int}{left:Int}{env:Str->Option Int}{a:Addr}{xs:List V}(k:qt R L H H1)(I:fW K C R H said left)(J:iy CC R L H env)(h:cX K H a xs):cX K H1 a xs:=by
 obtain⟨kvs,hd,_⟩:=J.hd;rcases h with(h | ⟨o,h⟩) | h
 ·exact .inl (.inl (k _ _ (cv h I.hx (by intro z;cases z)) (cv h I.hs (by intro z;cases z)) (cv h hd (by intro z;cases z)) h))
 ·exact .inl (.inr ⟨o,k _ _ (cv h I.hx (by intro z;cases z)) (cv h I.hs (by intro z;cases z)) (cv h hd (by intro z;cases z)) h⟩)
 ·exact .inr h
theorem Ev.D7{ps:List iZ}{n:Nat}{d:Int}{m:List Str}{t:PyData}{s s':eP}{r:Res}(h:Ev ps (n + 1) d m (.S t) s r s'):(∃e r1 s1,Arg t e/\Ev ps n d m (.E e) s r1 s1/\((∃k,r1=.val k/\Act m t e k s1 r s')∨(r1.bad=true/\r1=r/\s1=s')))∨(Qt t/\Ev ps n d m (.N t) s r s'):=by
 cases h.iS with
 | sG h a=>exact .inl ⟨_,_,_,a.arg,h,.inl ⟨_,rfl,a⟩⟩
 | sB a h b=>exact .inl ⟨_,_,_,a,h,.inr ⟨b,rfl,rfl⟩⟩
 | sN a h=>exact .inr ⟨a,h⟩
def Tk.Z5:Tk->Bool
 | .Ss _=>true
 | .S _=>true
 | .N _=>true
 | .W _ _=>true
 | .T _ _ _=>true
 | _=>false
theorem Ev.OH{ps:List iZ}{n:Nat}{d:Int}{m:List Str}{t:Tk}{s s':eP}{r:Res}(h:Ev ps n d m t s r s'):t.Z5=true->r=.ok∨r.bad=true:=by
 induction h with
 | ssN=>intro _;exact .inl rfl
 | ssC _ _ _ i2=>intro _;exact i2 rfl
 | ssB _ b _=>intro _;exact .inr b
 | sG _ a _=>intro _;cases a<;>first | exact .inl rfl | exact .inr rfl
 | sB _ _ b _=>intro _;exact .inr b
 | sN _ _ ih=>intro _;exact ih rfl
 | ifG _ _ _ i2=>intro _;exact i2 rfl
 | D2 _ b _=>intro _;exact .inr b
 | wh _ ih=>intro _;exact ih rfl
 | w0 _ _=>intro _;exact .inl rfl
 | wB _ b _=>intro _;exact .inr b
 | wL _ _ _ b _ _=>intro _;exact .inr b
 | wS _ _ _ _ _ _=>intro _;exact .inr rfl
 | wM _ _ _ _ _ _ _ i3=>intro _;exact i3 rfl
 | tr _ ih=>intro _;exact ih rfl
 | tG _ _ ih=>intro _;exact ih rfl
 | tF _ _ _ _ i2=>intro _;exact i2 rfl
 | _=>intro z;cases z
theorem lq.drop{Q:VK}{r:Res}{H:Hp}(h:r=.ok∨r.bad=true)(q:lq Q r H):lq (λ_ H=>Q .non H) r H:=by
 rcases h with rfl | h
 ·exact q
 ·exact lq.bad h
theorem Ev.U5{ps:List iZ}{n:Nat}{d:Int}{m:List Str}{t:Tk}{s s':eP}{r:Res}(h:Ev ps n d m t s r s'):(t.XH=true∨∃p ks,t=.G p ks)->∀k,r≠.gave k:=by
 induction h with
 | num=>intro _ _ z;cases z
 | var _=>intro _ _ z;cases z
 | nil=>intro _ _ z;cases z
 | callE _ _ ih=>intro _;exact ih (.inl rfl)
 | two _ _ ih=>intro _;exact ih (.inl rfl)
 | cons _ _ _ _=>intro _ _ z;cases z
 | consB _ _ ih=>intro _;exact ih (.inl rfl)
 | consC _ _ _ _ i2=>intro _;exact i2 (.inl rfl)
 | clB _ _ ih=>intro _;exact ih (.inl rfl)
 | clW _ _ _=>intro _ _ z;cases z
 | clD _ _ _ _=>intro _ _ z;cases z
 | clG _ _ _ _ _ i2=>intro _;exact i2 (.inr ⟨_,_,rfl⟩)
 | gB _ _ _ _ _ _ i2=>intro _;exact i2 (.inl rfl)
 | gG _ _ _ _=>intro _ _ z;cases z
 | gX _ _ _ _ h _=>intro _;exact h
 | twB _ _ ih=>intro _;exact ih (.inl rfl)
 | twG _ _ _ _ _=>intro _ _ z;cases z
 | twF _ _ _ _=>intro _ _ z;cases z
 | _=>intro z;rcases z with z | ⟨_,_,z⟩<;>cases z
theorem BS:∀(ns:List Str) (ks:List Int) (y:Str),iX ((ns.zip (ks.map V.int)).map λp=>((Sum.inr p.1:Key),p.2)) (Sum.inr y)=(envOf ns ks y).map V.int
 | [],_,_=>rfl
 | _::_,[],_=>rfl
 | a::ns,k::ks,y=>by
  have ih:=BS ns ks y;unfold envOf at ih ⊢;show iX (((Sum.inr a:Key),V.int k)::((ns.zip (ks.map V.int)).map λp=>((Sum.inr p.1:Key),p.2))) (Sum.inr y)=(((a,k)::ns.zip ks).find? _ |>.map _).map _;by_cases e:a=y
  ·rw[dh (by rw[e]),List.find?_cons_of_pos (by simpa using e)];rfl
  ·rw[dm (λz=>e (Sum.inr.inj z)),List.find?_cons_of_neg (by simpa using e)];exact ih
theorem vc{ns:List Str}{ks:List Int}(h:ks.length=ns.length):((ns.zip (ks.map V.int)).map λp=>((Sum.inr p.1:Key),p.2)).map (·.1)=ns.map Sum.inr:=by
 rw[abV];show(ns.zip (ks.map V.int)).map (λp=>(Sum.inr p.1:Key))=_;rw[show(λp:Str×V=>(Sum.inr p.1:Key))=Sum.inr ∘ Prod.fst from rfl,← abV,List.map_fst_zip (by rw[aah];omega)]
def Tk.Z6:Tk->Bool
 | .E _=>true
 | .Cl _ _=>true
 | .Tw _ _ _=>true
 | .G _ _=>true
 | _=>false
theorem Ev.vR{ps:List iZ}{n:Nat}{d:Int}{m:List Str}{t:Tk}{s s':eP}{r:Res}(h:Ev ps n d m t s r s'):t.Z6=true->(∃k,r=.val k)∨r.bad=true∨r.OE=true:=by
 induction h with
 | num=>intro _;exact .inl ⟨_,rfl⟩
 | var _=>intro _;exact .inl ⟨_,rfl⟩
 | callE _ _ ih=>intro _;exact ih rfl
 | two _ _ ih=>intro _;exact ih rfl
 | clB _ b _=>intro _;exact .inr (.inl b)
 | clW _ _ _=>intro _;exact .inr (.inl rfl)
 | clD _ _ _ _=>intro _;exact .inr (.inl rfl)
 | clG _ _ _ _ _ i2=>intro _;exact i2 rfl
 | gB _ _ _ _ _ _ i2=>intro _;exact i2 rfl
 | gG _ _ _ _=>intro _;exact .inl ⟨_,rfl⟩
 | gX _ _ _ b _ _=>intro _;exact .inr (.inl b)
 | twB _ b _=>intro _;exact .inr (.inl b)
 | twG _ _ _ _ _=>intro _;exact .inl ⟨_,rfl⟩
 | twF _ _ _ _=>intro _;exact .inr (.inl rfl)
 | _=>intro z;cases z
theorem Ev.gR{ps:List iZ}{n:Nat}{d:Int}{m:List Str}{p:Nat}{ks:List Int}{s s':eP}{r:Res}(h:Ev ps n d m (.G p ks) s r s'):r.OE=false:=by
 obtain⟨_,_,z⟩:=h.inv
 cases (show Kl ps _ d m p ks s r s' from z)with
 | gB _ _ _ _ h=>exact h
 | gG _ _ _=>rfl
 | gX _ _ _ b _=>cases r<;>first | rfl | cases b
def OI(c:Int)(l:Addr):List (Str×V):=[("make",.int c),("fields",.ref l)]
theorem OJ{c:Int}{l:Addr}:df "fields" (.ref l) (df "make" (.int c) [])=OI c l:=by
 have e1:df "make" (.int c) []=([("make",.int c)]:List (Str×V)):=rfl;rw[e1,OA (by decide +kernel)];rfl
theorem R6{r:Res}{ks:List Int}(h:r.OE=false)(e:r=.rcd ks):False:=by rw[e]at h;cases h
theorem OK{r:Res}{ks:List Int}(h:r.bad=true)(e:r=.rcd ks):False:=by rw[e]at h;cases h
def bo(ns:List Int):List PyData:=ns.map PyData.int
structure mw(src:List Int):Prop where
 ne:src≠[]
 few:src.length<=100
inductive Wv where
 | n | v | w (k:Int)
def Wv.D:Wv->PyData
 | .n=>.str "n"
 | .v=>.str "v"
 | .w k=>.int k
def Wv.ok:Wv->Prop
 | .w k=>fT k
 | _=>True
inductive yu where
 | say (x:Wv) | toss (x:Wv) | dv (r:Bool) (w:Int) (t:Bool) | give (w:Int) | set (w:Int)
def yu.D:yu->PyData
 | .say x=>.tuple [.str "say",x.D]
 | .toss x=>.tuple [.str "toss",x.D]
 | .dv r w t=>.tuple [.str (if r then "rem" else "div"),.int w,.str (if t then "toss" else "drop")]
 | .give w=>.tuple [.str "give",.int w]
 | .set w=>.tuple [.str "set",.int w]
def yu.ok:yu->Prop
 | .say x=>x.ok
 | .toss x=>x.ok
 | .dv _ w _=>fT w
 | .give w=>fT w
 | .set w=>fT w
def Gr:Option Int->PyData
 | none=>.none
 | some k=>.int k
inductive Th where
 | nil | one (s:yu) (r:Th) | call (p:Nat) (a:Option Int) (c:Nat) (r:Th) | loop (w:Int) (a r:Th) | tr (a b r:Th)
def Th.D:Th->List PyData
 | .nil=>[]
 | .one s r=>s.D::r.D
 | .call p a c r=>.tuple [.str "call",.int (p:Int),Gr a,.int (c:Int)]::r.D
 | .loop w a r=>.tuple [.str "loop",.int w,.list a.D]::r.D
 | .tr a b r=>.tuple [.str "try",.list a.D,.list b.D]::r.D
def Th.wf(m:Nat):Th->Nat->Prop
 | .nil,_=>True
 | .one s r,n=>s.ok/\r.wf m n
 | .call p a c r,n=>(p < m/\(∀k,a=some k->fT k)/\c < 4)/\r.wf m n
 | .loop w a r,n=>(fT w/\∃k,n=k + 1/\a.wf m k)/\r.wf m n
 | .tr a b r,n=>(∃k,n=k + 1/\a.wf m k/\b.wf m k)/\r.wf m n
def Th.cnt:Th->Nat
 | .nil=>0
 | .one _ r=>r.cnt + 1
 | .call _ _ _ r=>r.cnt + 1
 | .loop _ a r=>a.cnt + r.cnt + 1
 | .tr a b r=>a.cnt + b.cnt + r.cnt + 1
def Th.app:Th->Th->Th
 | .nil,u=>u
 | .one s r,u=>.one s (r.app u)
 | .call p a c r,u=>.call p a c (r.app u)
 | .loop w a r,u=>.loop w a (r.app u)
 | .tr a b r,u=>.tr a b (r.app u)
theorem Th.vd(u:Th):∀t:Th,(t.app u).D=t.D++u.D
 | .nil=>rfl
 | .one s r=>by rw[Th.app,Th.D,Th.D,Th.vd u r];rfl
 | .call p a c r=>by rw[Th.app,Th.D,Th.D,Th.vd u r];rfl
 | .loop w a r=>by rw[Th.app,Th.D,Th.D,Th.vd u r];rfl
 | .tr a b r=>by rw[Th.app,Th.D,Th.D,Th.vd u r];rfl
theorem Th.sD{m n:Nat}{u:Th}(hu:u.wf m n):∀t:Th,t.wf m n->(t.app u).wf m n
 | .nil,_=>hu
 | .one s r,h=>by rw[Th.wf]at h;rw[Th.app,Th.wf];exact⟨h.1,Th.sD hu r h.2⟩
 | .call p a c r,h=>by rw[Th.wf]at h;rw[Th.app,Th.wf];exact⟨h.1,Th.sD hu r h.2⟩
 | .loop w a r,h=>by rw[Th.wf]at h;rw[Th.app,Th.wf];exact⟨h.1,Th.sD hu r h.2⟩
 | .tr a b r,h=>by rw[Th.wf]at h;rw[Th.app,Th.wf];exact⟨h.1,Th.sD hu r h.2⟩
theorem Th.nM(u:Th):∀t:Th,(t.app u).cnt=t.cnt + u.cnt
 | .nil=>by rw[Th.app,Th.cnt];omega
 | .one s r=>by rw[Th.app,Th.cnt,Th.cnt,Th.nM u r];omega
 | .call p a c r=>by rw[Th.app,Th.cnt,Th.cnt,Th.nM u r];omega
 | .loop w a r=>by rw[Th.app,Th.cnt,Th.cnt,Th.nM u r];omega
 | .tr a b r=>by rw[Th.app,Th.cnt,Th.cnt,Th.nM u r];omega
def U6(many n room i:Nat)(env:bY)(st:aR):Prop:=∃(t:Th) (src:List Int) (qc:Nat) (o5 o6 o7 o8 o9:Option DV),env=[some (.ref 0),some (.dat (.int (many:Int))),some (.dat (.int (n:Int))),some (.ref 1),some (.ref 2),o5,o6,o7,o8,o9]/\st=[.live (bo src),.live [.int (qc:Int)],.live t.D]/\t.wf many n/\t.D.length<=i/\mw src/\t.cnt + qc=room
def lr(w:Int):PyData:=.tuple [.str "num",.int w]
def pf(x:Str):PyData:=.tuple [.str "var",.str x]
def Wv.N(a b:Str):Wv->PyData
 | .n=>pf a
 | .v=>pf b
 | .w k=>lr k
inductive Tg where
 | sim (s:yu) | call (p:Nat) (a:Option Int) (c:Nat) | loop (w:Int) (t:Th) | tr (a b:Th)
def Tg.D:Tg->PyData
 | .sim s=>s.D
 | .call p a c=>.tuple [.str "call",.int (p:Int),Gr a,.int (c:Int)]
 | .loop w a=>.tuple [.str "loop",.int w,.list a.D]
 | .tr a b=>.tuple [.str "try",.list a.D,.list b.D]
def Tg.wf(m n:Nat):Tg->Prop
 | .sim s=>s.ok
 | .call p a c=>p < m/\(∀k,a=some k->fT k)/\c < 4
 | .loop w a=>fT w/\∃k,n=k + 1/\a.wf m k
 | .tr a b=>∃k,n=k + 1/\a.wf m k/\b.wf m k
def Tg.big:Tg->Bool
 | .sim _=>false
 | _=>true
def Th.un:Th->Option (Tg×Th)
 | .nil=>none
 | .one s r=>some (.sim s,r)
 | .call p a c r=>some (.call p a c,r)
 | .loop w a r=>some (.loop w a,r)
 | .tr a b r=>some (.tr a b,r)
theorem Th.Kp{t r:Th}{x:Tg}(h:t.un=some (x,r)):t.D=x.D::r.D:=by cases t<;>cases h<;>rfl
theorem Th.R7{t r:Th}{x:Tg}{m n:Nat}(h:t.un=some (x,r))(w:t.wf m n):x.wf m n/\r.wf m n:=by cases t<;>cases h<;>exact w
theorem Th.U7{t:Th}{d:PyData}{ds:List PyData}(h:t.D=d::ds):∃x r,t.un=some (x,r)/\d=x.D/\ds=r.D:=by
 cases t with
 | nil=>cases h
 | one s r=>cases h;exact⟨_,_,rfl,rfl,rfl⟩
 | call p a c r=>cases h;exact⟨_,_,rfl,rfl,rfl⟩
 | loop w a r=>cases h;exact⟨_,_,rfl,rfl,rfl⟩
 | tr a b r=>cases h;exact⟨_,_,rfl,rfl,rfl⟩
def xn(y:Str)(j:Nat):Str:=y++⟨#[102 + j]⟩
def BU(x:Str):PyData:=.tuple [.str "set",.str x,.tuple [.str "sub",pf x,lr 1]]
def Kq(e:PyData):PyData:=.tuple [.str "say",e]
def yu.R(a b:Str):yu->PyData
 | .say x=>Kq (x.N a b)
 | .toss x=>.tuple [.str "toss",x.N a b]
 | .dv r w t=>.tuple [.str (if t then "toss" else "drop"),.tuple [.str (if r then "rem" else "div"),lr w,lr 0]]
 | .give w=>.tuple [.str "give",lr w]
 | .set w=>.tuple [.str "set",.str b,lr w]
def Kr(a:Str):Option Int->PyData
 | none=>.tuple [.str "sub",pf a,lr 1]
 | some k=>lr k
def BV(a:Str)(p:Nat)(c:Option Int):PyData:=Kq (.tuple [.str "call",.int (p:Int),.list [Kr a c]])
def kH(a:Str)(p:Nat)(c:Option Int)(e:Nat):PyData:=if e=0 then BV a p c else .tuple [.str "if",pf a,.list [BV a p c],.list []]
def U8(b:Str)(ts:List PyData):PyData:=.tuple [.str "while",pf b,.list (ts++[BU b])]
def tryD(y:Str)(j:Nat)(ts us:List PyData):PyData:=.tuple [.str "try",.list ts,.str (xn y j),.list (Kq (pf (xn y j))::us)]
def OL(b:Str)(w:Int):PyData:=.tuple [.str "set",.str b,lr w]
def Th.B(a b y:Str):Th->Nat->List PyData
 | .nil,_=>[]
 | .one s r,j=>s.R a b::r.B a b y j
 | .call p c e r,j=>kH a p c e::r.B a b y j
 | .loop w t r,j=>OL b w::U8 b (t.B a b y j)::r.B a b y j
 | .tr t u r,j=>tryD y j (t.B a b y (j + 1)) (u.B a b y (j + 1))::r.B a b y j
def Tg.R(a b y:Str)(j:Nat):Tg->List PyData
 | .sim s=>[s.R a b]
 | .call p c e=>[kH a p c e]
 | .loop w t=>[OL b w,U8 b (t.B a b y j)]
 | .tr t u=>[tryD y j (t.B a b y (j + 1)) (u.B a b y (j + 1))]
theorem Th.R8{t r:Th}{x:Tg}{a b y:Str}{j:Nat}(h:t.un=some (x,r)):t.B a b y j=x.R a b y j++r.B a b y j:=by cases t<;>cases h<;>rfl
theorem Th.qe{a b y:Str}:∀(t:Th) (j:Nat),(t.B a b y j).length<=2 * t.cnt
 | .nil,_=>aai _
 | .one s r,j=>by rw[Th.B,Th.cnt,aaJ];have:=Th.qe (a:=a) (b:=b) (y:=y) r j;omega
 | .call p c e r,j=>by rw[Th.B,Th.cnt,aaJ];have:=Th.qe (a:=a) (b:=b) (y:=y) r j;omega
 | .loop w t r,j=>by rw[Th.B,Th.cnt,aaJ,aaJ];have:=Th.qe (a:=a) (b:=b) (y:=y) r j;omega
 | .tr t u r,j=>by rw[Th.B,Th.cnt,aaJ];have:=Th.qe (a:=a) (b:=b) (y:=y) r j;omega
inductive Fi where
 | fault (k:Int) | gave (k:Int) | weary
structure LS where
 said:List Int
 left:Int
 v:Int
inductive Tq where
 | L (t:Th) | T (x:Tg) | G (x:Tg) | W (t:Th) | R (p:Nat)
def Wv.val(k v:Int):Wv->Int
 | .n=>k
 | .v=>v
 | .w x=>x
def sE(k:Int):Option Int->Int
 | none=>cN (k - 1)
 | some x=>x
inductive Do(ps:List Th):Nat->Int->Int->Tq->LS->Option Fi->LS->Prop where
 | nil {n k d s}:Do ps (n + 1) k d (.L .nil) s none s
 | cons {n k d t x r f} {s s1 s2:LS}:t.un=some (x,r)->Do ps n k d (.T x) s none s1->Do ps (n + 1) k d (.L r) s1 f s2->Do ps (n + 1) k d (.L t) s f s2
 | consB {n k d t x r f} {s s1:LS}:t.un=some (x,r)->Do ps n k d (.T x) s (some f) s1->Do ps (n + 1) k d (.L t) s (some f) s1
 | say {n k d x} {s:LS}:s.said.length < 1000000->Do ps (n + 1) k d (.T (.sim (.say x))) s none {s with said:=s.said++[x.val k s.v]}
 | toss {n k d x} {s:LS}:Do ps (n + 1) k d (.T (.sim (.toss x))) s (some (.fault (x.val k s.v))) s
 | dv {n k d r w t} {s:LS}:Do ps (n + 1) k d (.T (.sim (.dv r w t))) s (some (.fault 1)) s
 | give {n k d w} {s:LS}:Do ps (n + 1) k d (.T (.sim (.give w))) s (some (.gave w)) s
 | set {n k d w} {s:LS}:Do ps (n + 1) k d (.T (.sim (.set w))) s none {s with v:=w}
 | big {n k d x f} {s s1:LS}:x.big=true->Do ps n k d (.G x) s f s1->Do ps (n + 1) k d (.T x) s f s1
 | cSkip {n k d p a c} {s:LS}:0 < c->k=0->Do ps (n + 1) k d (.G (.call p a c)) s none s
 | cW {n k d p a c} {s:LS}:¬ (0 < c/\k=0)->s.left=0->Do ps (n + 1) k d (.G (.call p a c)) s (some .weary) s
 | cD {n k p a c} {s:LS}:¬ (0 < c/\k=0)->0 < s.left->Do ps (n + 1) k 12 (.G (.call p a c)) s (some (.fault 2)) {s with left:=s.left - 1}
 | cB {n k d p a c f} {s s1:LS}:¬ (0 < c/\k=0)->0 < s.left->d < 12->Do ps n (sE k a) (d + 1) (.R p) ⟨s.said,s.left - 1,0⟩ (some f) s1->(∀w,f≠.gave w)->Do ps (n + 1) k d (.G (.call p a c)) s (some f) {s1 with v:=s.v}
 | cG {n k d p a c w} {s s1:LS}:¬ (0 < c/\k=0)->0 < s.left->d < 12->Do ps n (sE k a) (d + 1) (.R p) ⟨s.said,s.left - 1,0⟩ (some (.gave w)) s1->s1.said.length < 1000000->Do ps (n + 1) k d (.G (.call p a c)) s none ⟨s1.said++[w],s1.left,s.v⟩
 | lp {n k d w t f} {s s1:LS}:Do ps (n + 1) k d (.W t) {s with v:=w} f s1->Do ps (n + 1) k d (.G (.loop w t)) s f s1
 | w0 {n k d t} {s:LS}:s.v=0->Do ps (n + 1) k d (.W t) s none s
 | wB {n k d t f} {s s1:LS}:s.v≠0->Do ps n k d (.L t) s (some f) s1->Do ps (n + 1) k d (.W t) s (some f) s1
 | wW {n k d t} {s s1:LS}:s.v≠0->Do ps n k d (.L t) s none s1->s1.left=0->Do ps (n + 1) k d (.W t) s (some .weary) {s1 with v:=cN (s1.v - 1)}
 | wM {n k d t f} {s s1 s2:LS}:s.v≠0->Do ps n k d (.L t) s none s1->0 < s1.left->s1.left<=s.left->Do ps (n + 1) k d (.W t) ⟨s1.said,s1.left - 1,cN (s1.v - 1)⟩ f s2->Do ps (n + 1) k d (.W t) s f s2
 | tO {n k d t u f} {s s1:LS}:Do ps n k d (.L t) s f s1->(∀w,f≠some (.fault w))->Do ps (n + 1) k d (.G (.tr t u)) s f s1
 | tF {n k d t u w f} {s s1 s2:LS}:Do ps n k d (.L t) s (some (.fault w)) s1->s1.said.length < 1000000->Do ps n k d (.L u) {s1 with said:=s1.said++[w]} f s2->Do ps (n + 1) k d (.G (.tr t u)) s f s2
 | rN {n k d p t} {s s1:LS}:ps[p]?=some t->Do ps n k d (.L t) {s with v:=0} none s1->Do ps (n + 1) k d (.R p) s (some (.gave s1.v)) s1
 | rB {n k d p t f} {s s1:LS}:ps[p]?=some t->Do ps n k d (.L t) {s with v:=0} (some f) s1->Do ps (n + 1) k d (.R p) s (some f) s1
set_option inductive.autoPromoteIndices false
inductive Mt(ps:List Th)(n:Nat)(k d:Int):Th->LS->Option Fi->LS->Prop where
 | nil {s}:Mt ps n k d .nil s none s
 | cons {t x r f} {s s1 s2:LS}:t.un=some (x,r)->Do ps n k d (.T x) s none s1->Do ps (n + 1) k d (.L r) s1 f s2->Mt ps n k d t s f s2
 | consB {t x r f} {s s1:LS}:t.un=some (x,r)->Do ps n k d (.T x) s (some f) s1->Mt ps n k d t s (some f) s1
inductive BW(ps:List Th)(n:Nat)(k d:Int):Tg->LS->Option Fi->LS->Prop where
 | say {x} {s:LS}:s.said.length < 1000000->BW ps n k d (.sim (.say x)) s none {s with said:=s.said++[x.val k s.v]}
 | toss {x} {s:LS}:BW ps n k d (.sim (.toss x)) s (some (.fault (x.val k s.v))) s
 | dv {r w t} {s:LS}:BW ps n k d (.sim (.dv r w t)) s (some (.fault 1)) s
 | give {w} {s:LS}:BW ps n k d (.sim (.give w)) s (some (.gave w)) s
 | set {w} {s:LS}:BW ps n k d (.sim (.set w)) s none {s with v:=w}
 | big {x f} {s s1:LS}:x.big=true->Do ps n k d (.G x) s f s1->BW ps n k d x s f s1
inductive xp(ps:List Th)(n:Nat)(k d:Int):Tg->LS->Option Fi->LS->Prop where
 | cSkip {p a c} {s:LS}:0 < c->k=0->xp ps n k d (.call p a c) s none s
 | cW {p a c} {s:LS}:¬ (0 < c/\k=0)->s.left=0->xp ps n k d (.call p a c) s (some .weary) s
 | cD {p a c} {s:LS}:d=12->¬ (0 < c/\k=0)->0 < s.left->xp ps n k d (.call p a c) s (some (.fault 2)) {s with left:=s.left - 1}
 | cB {p a c f} {s s1:LS}:¬ (0 < c/\k=0)->0 < s.left->d < 12->Do ps n (sE k a) (d + 1) (.R p) ⟨s.said,s.left - 1,0⟩ (some f) s1->(∀w,f≠.gave w)->xp ps n k d (.call p a c) s (some f) {s1 with v:=s.v}
 | cG {p a c w} {s s1:LS}:¬ (0 < c/\k=0)->0 < s.left->d < 12->Do ps n (sE k a) (d + 1) (.R p) ⟨s.said,s.left - 1,0⟩ (some (.gave w)) s1->s1.said.length < 1000000->xp ps n k d (.call p a c) s none ⟨s1.said++[w],s1.left,s.v⟩
 | lp {w t f} {s s1:LS}:Do ps (n + 1) k d (.W t) {s with v:=w} f s1->xp ps n k d (.loop w t) s f s1
 | tO {t u f} {s s1:LS}:Do ps n k d (.L t) s f s1->(∀w,f≠some (.fault w))->xp ps n k d (.tr t u) s f s1
 | tF {t u w f} {s s1 s2:LS}:Do ps n k d (.L t) s (some (.fault w)) s1->s1.said.length < 1000000->Do ps n k d (.L u) {s1 with said:=s1.said++[w]} f s2->xp ps n k d (.tr t u) s f s2
inductive IC(ps:List Th)(n:Nat)(k d:Int):Th->LS->Option Fi->LS->Prop where
 | w0 {t} {s:LS}:s.v=0->IC ps n k d t s none s
 | wB {t f} {s s1:LS}:s.v≠0->Do ps n k d (.L t) s (some f) s1->IC ps n k d t s (some f) s1
 | wW {t} {s s1:LS}:s.v≠0->Do ps n k d (.L t) s none s1->s1.left=0->IC ps n k d t s (some .weary) {s1 with v:=cN (s1.v - 1)}
 | wM {t f} {s s1 s2:LS}:s.v≠0->Do ps n k d (.L t) s none s1->0 < s1.left->s1.left<=s.left->Do ps (n + 1) k d (.W t) ⟨s1.said,s1.left - 1,cN (s1.v - 1)⟩ f s2->IC ps n k d t s f s2
inductive Qy(ps:List Th)(n:Nat)(k d:Int):Nat->LS->Option Fi->LS->Prop where
 | rN {p t} {s s1:LS}:ps[p]?=some t->Do ps n k d (.L t) {s with v:=0} none s1->Qy ps n k d p s (some (.gave s1.v)) s1
 | rB {p t f} {s s1:LS}:ps[p]?=some t->Do ps n k d (.L t) {s with v:=0} (some f) s1->Qy ps n k d p s (some f) s1
set_option inductive.autoPromoteIndices true
def XQ(ps:List Th)(n:Nat)(k d:Int):Tq->LS->Option Fi->LS->Prop
 | .L t,z0,z1,z2=>Mt ps n k d t z0 z1 z2
 | .T x,z0,z1,z2=>BW ps n k d x z0 z1 z2
 | .G x,z0,z1,z2=>xp ps n k d x z0 z1 z2
 | .W t,z0,z1,z2=>IC ps n k d t z0 z1 z2
 | .R p,z0,z1,z2=>Qy ps n k d p z0 z1 z2
section
variable {ps:List Th} {n p:Nat} {k d:Int} {t:Th} {x:Tg} {s s':LS} {r:Option Fi} {q:Tq}
theorem Do.inv(h:Do ps n k d q s r s'):∃k',n=k' + 1/\XQ ps k' k d q s r s':=by
 cases h with
 | nil=>exact⟨_,rfl,Mt.nil ⟩
 | cons h0 h1 h2=>exact⟨_,rfl,Mt.cons h0 h1 h2⟩
 | consB h0 h1=>exact⟨_,rfl,Mt.consB h0 h1⟩
 | say h0=>exact⟨_,rfl,BW.say h0⟩
 | toss=>exact⟨_,rfl,BW.toss ⟩
 | dv=>exact⟨_,rfl,BW.dv ⟩
 | give=>exact⟨_,rfl,BW.give ⟩
 | set=>exact⟨_,rfl,BW.set ⟩
 | big h0 h1=>exact⟨_,rfl,BW.big h0 h1⟩
 | cSkip h0 h1=>exact⟨_,rfl,xp.cSkip h0 h1⟩
 | cW h0 h1=>exact⟨_,rfl,xp.cW h0 h1⟩
 | cD h0 h1=>exact⟨_,rfl,xp.cD rfl h0 h1⟩
 | cB h0 h1 h2 h3 h4=>exact⟨_,rfl,xp.cB h0 h1 h2 h3 h4⟩
 | cG h0 h1 h2 h3 h4=>exact⟨_,rfl,xp.cG h0 h1 h2 h3 h4⟩
 | lp h0=>exact⟨_,rfl,xp.lp h0⟩
 | w0 h0=>exact⟨_,rfl,IC.w0 h0⟩
 | wB h0 h1=>exact⟨_,rfl,IC.wB h0 h1⟩
 | wW h0 h1 h2=>exact⟨_,rfl,IC.wW h0 h1 h2⟩
 | wM h0 h1 h2 h3 h4=>exact⟨_,rfl,IC.wM h0 h1 h2 h3 h4⟩
 | tO h0 h1=>exact⟨_,rfl,xp.tO h0 h1⟩
 | tF h0 h1 h2=>exact⟨_,rfl,xp.tF h0 h1 h2⟩
 | rN h0 h1=>exact⟨_,rfl,Qy.rN h0 h1⟩
 | rB h0 h1=>exact⟨_,rfl,Qy.rB h0 h1⟩
theorem Do.i(h:Do ps (n + 1) k d q s r s'):XQ ps n k d q s r s':=by
 obtain⟨k',e,z⟩:=h.inv;cases e;exact z
theorem Do.no(h:Do ps 0 k d q s r s'):False:=by
 obtain⟨k',e,_⟩:=h.inv;cases e
theorem Do.iL(h:Do ps (n + 1) k d (.L t) s r s'):Mt ps n k d t s r s':=h.i
theorem Do.iT(h:Do ps (n + 1) k d (.T x) s r s'):BW ps n k d x s r s':=h.i
theorem Do.iG(h:Do ps (n + 1) k d (.G x) s r s'):xp ps n k d x s r s':=h.i
theorem Do.iW(h:Do ps (n + 1) k d (.W t) s r s'):IC ps n k d t s r s':=h.i
theorem Do.iR(h:Do ps (n + 1) k d (.R p) s r s'):Qy ps n k d p s r s':=h.i
end
def mu(s:LS):Int:=(s.said.length:Int) + 100 * s.left
def Ah:Option Fi->Res
 | none=>.ok
 | some (.fault k)=>.fault k
 | some (.gave k)=>.gave k
 | some .weary=>.weary
def Ks:Fi->Res
 | .fault k=>.fault k
 | .gave k=>.val k
 | .weary=>.weary
theorem nO(f:Fi):(Ah (some f)).bad=true:=by cases f<;>rfl
structure zc(a b y:Str):Prop where
 ab:a≠b
 xa:∀j,j < 3->xn y j≠a
 xb:∀j,j < 3->xn y j≠b
def BX(a b y:Str):List Str:=[a,b,xn y 0,xn y 1,xn y 2]
def BY(a b y:Str)(t:Th):iZ:=⟨[(a,.num)],.num,.tuple [.str "let",.str b,.tuple [.str "number"],lr 0]::t.B a b y 0,pf b,BX a b y⟩
structure Wd(m:Nat)(ps:List Th)(qs:List iZ):Prop where
 ok:∀p,p < m->∃t a b y,ps[p]?=some t/\t.wf m 3/\t.cnt<=20/\qs[p]?=some (BY a b y t)/\zc a b y
structure BZ(a b:Str)(k v:Int)(e:Str->Option Int):Prop where
 ea:e a=some k
 eb:e b=some v
theorem zc.mx{a b y:Str}{j:Nat}(h:j < 3):xn y j∈BX a b y:=by
 unfold BX;have z:j=0∨j=1∨j=2:=by omega
 rcases z with rfl | rfl | rfl<;>simp
theorem zc.mb{a b y:Str}:b∈BX a b y:=by unfold BX;simp
theorem BZ.x{a b y:Str}{k v w:Int}{e:Str->Option Int}(N:zc a b y)(h:BZ a b k v e){j:Nat}(hj:j < 3):BZ a b k v (jR (xn y j) w e) :=
 ⟨by unfold jR;rw[if_neg (N.xa j hj).symm];exact h.ea,by unfold jR;rw[if_neg (N.xb j hj).symm];exact h.eb⟩
theorem BZ.b{a b y:Str}{k v w:Int}{e:Str->Option Int}(N:zc a b y)(h:BZ a b k v e):BZ a b k w (jR b w e) :=
 ⟨by unfold jR;rw[if_neg N.ab];exact h.ea,by unfold jR;rw[if_pos rfl]⟩
section
variable {ps:List iZ} {nl:List Str} {n:Nat} {d:Int} {s s1 s2:eP} {r:Res} {e:PyData} {w:Int}
theorem jw:Ev ps (n + 1) d nl (.E (lr w)) s (.val w) s:=.num
theorem ke{x:Str}(h:s.env x=some w):Ev ps (n + 1) d nl (.E (pf x)) s (.val w) s:=.var h
theorem Gs{x:Str}(h:s.env x=some w)(hw:fT w):Ev ps (n + 4) d nl (.E (.tuple [.str "sub",pf x,lr 1])) s (.val (cN (w - 1))) s:=by
 rw[← Gp];exact .two (.inr (.inl rfl)) (.twG (.cons (ke h) (.cons jw .nil)) (λz=>absurd z dv.2.1) hw (by unfold fT;omega))
theorem Mu{a b:Str}{k v:Int}(x:Wv)(h:BZ a b k v s.env):Ev ps (n + 1) d nl (.E (x.N a b)) s (.val (x.val k v)) s:=by
 cases x with
 | n=>exact .var h.ea
 | v=>exact .var h.eb
 | w _=>exact .num
theorem R9{q:Bool}(hw:fT w):Ev ps (n + 4) d nl (.E (.tuple [.str (if q then "rem" else "div"),lr w,lr 0])) s (.fault 1) s:=by
 cases q
 ·exact .two (.inr (.inr (.inr (.inr (.inr (.inl rfl)))))) (.twF (.cons jw (.cons jw .nil)) (.inl rfl) hw)
 ·exact .two (.inr (.inr (.inr (.inr (.inr (.inr rfl)))))) (.twF (.cons jw (.cons jw .nil)) (.inr rfl) hw)
theorem Ai{as bs:List PyData}:∀{s s1:eP},Ev ps (n + 1) d nl (.Ss as) s .ok s1->Ev ps (n + 1) d nl (.Ss bs) s1 r s2->Ev ps (n + 1) d nl (.Ss (as++bs)) s r s2:=by
 induction as with
 | nil=>intro s s1 h g;cases h.Qw with | ssN=>exact g
 | cons a as ih =>
  intro s s1 h g
  cases h.Qw with
  | ssC h1 h2=>exact .ssC h1 (ih h2 g)
  | ssB h1 b=>cases b
theorem B0{as bs:List PyData}(hb:r.bad=true):∀{s s1:eP},Ev ps (n + 1) d nl (.Ss as) s r s1->Ev ps (n + 1) d nl (.Ss (as++bs)) s r s1:=by
 induction as with
 | nil=>intro s s1 h;cases h.Qw with | ssN=>cases hb
 | cons a as ih =>
  intro s s1 h
  cases h.Qw with
  | ssC h1 h2=>exact .ssC h1 (ih h2)
  | ssB h1 b=>exact .ssB h1 b
end
theorem ph{ps:List iZ}{nl:List Str}{n:Nat}{d:Int}{s s1:eP}{t:PyData}(f:Option Fi)(h:Ev ps n d nl (.S t) s (Ah f) s1):Ev ps (n + 1) d nl (.Ss [t]) s (Ah f) s1:=by
 cases f with
 | none=>exact .ssC h .ssN
 | some f=>exact .ssB h (nO f)
theorem sF(n:Int):fT (cN n):=⟨(BP n).1,(BP n).2.1⟩
def Out(ps:List Th)(qs:List iZ)(N M:Nat)(k d:Int)(q:Tq)(e:Tk)(a b y:Str)(s:LS)(w:Int):Prop :=
 ∃f s',Do ps N k d q s f s'/\0<=s'.left/\s'.left<=s.left/\fT s'.v/\mu s'<=mu s + w/\∀env,BZ a b k s.v env->∃env',Ev qs M d (BX a b y) e ⟨s.said,s.left,env⟩ (Ah f) ⟨s'.said,s'.left,env'⟩/\BZ a b k s'.v env'
def sH(m:Nat)(ps:List Th)(qs:List iZ)(K:Nat)(d:Int):Prop:=∀(N M p:Nat) (k:Int) (s:LS),25 * K<=N->25 * K<=M->p < m->fT k->0<=s.left->mu s + 20<=100000 ->
 ∃f s',Do ps N k d (.R p) s (some f) s'/\0<=s'.left/\s'.left<=s.left/\mu s'<=mu s + 20/\∀(nl:List Str) (e0:Str->Option Int),∃env',Ev qs M d nl (.G p [k]) ⟨s.said,s.left,e0⟩ (Ks f) ⟨s'.said,s'.left,env'⟩
section
variable {ps:List Th} {qs:List iZ} {n e m K:Nat} {k d:Int} {a b y:Str}
theorem wy{s:LS}(h0:0<=s.left)(h:mu s<=100000):s.said.length < 1000000:=by unfold mu at h;omega
theorem OM(x:yu)(hx:x.ok)(D:zc a b y)(s:LS)(h0:0<=s.left)(hv:fT s.v)(hm:mu s + 1<=100000):Out ps qs (n + 1) (e + 6) k d (.T (.sim x)) (.Ss [x.R a b]) a b y s 1:=by
 have hs:=wy h0 (show mu s<=100000 by omega)
 cases x with
 | say x=>exact⟨none,_,.say hs,h0,Int.le_refl _,hv,by unfold mu;dsimp only;rw[List.length_append,List.length_singleton];omega,λenv he=>⟨env,.ssC (.sG (Mu x he) (.say hs)) .ssN,he⟩⟩
 | toss x=>exact⟨some _,s,.toss,h0,abt _,hv,by omega,λenv he=>⟨env,.ssB (.sG (Mu x he) .toss) rfl,he⟩⟩
 | dv r w t=>exact⟨some _,s,.dv,h0,abt _,hv,by omega,λenv he=>⟨env,.ssB (.sB (by cases t;exact .drop;exact .toss) (R9 hx) rfl) rfl,he⟩⟩
 | give w=>exact⟨some _,s,.give,h0,abt _,hv,by omega,λenv he=>⟨env,.ssB (.sG jw .give) rfl,he⟩⟩
 | set w=>exact⟨none,_,.set,h0,Int.le_refl _,hx,by unfold mu;dsimp only;omega,λenv he=>⟨_,.ssC (.sG jw (.set zc.mb)) .ssN,he.b D⟩⟩
theorem core(hd:d=12∨(d < 12/\sH m ps qs K (d + 1))){p c:Nat}{ar:Option Int}(hp:p < m)(ha:∀k,ar=some k->fT k)(hk:fT k)(nc:¬ (0 < c/\k=0))(hn:25 * K<=n)(he:25 * K<=e)(s:LS)(h0:0<=s.left)(hm:mu s + 1<=100000):
  ∃f s',Do ps (n + 1) k d (.G (.call p ar c)) s f s'/\0<=s'.left/\s'.left<=s.left/\s'.v=s.v/\mu s'<=mu s + 1/\∀env,BZ a b k s.v env->Ev qs (e + 8) d (BX a b y) (.S (BV a p ar)) ⟨s.said,s.left,env⟩ (Ah f) ⟨s'.said,s'.left,env⟩:=by
 have es:∀env,BZ a b k s.v env->Ev qs (e + 5) d (BX a b y) (.Es [Kr a ar]) ⟨s.said,s.left,env⟩ (.vals [sE k ar]) ⟨s.said,s.left,env⟩:=λenv h=>by
  cases ar with
  | none=>exact .cons (Gs (s:=⟨s.said,s.left,env⟩) h.ea hk) .nil
  | some w=>exact .cons jw .nil
 have hw:fT (sE k ar):=by
  cases ar with
  | none=>exact sF _
  | some w=>exact ha w rfl
 have l1:∀x:PyData,[x].length<=100:=λ_=>by show 1<=100;decide
 by_cases z:s.left=0
 ·exact⟨some .weary,s,.cW nc z,h0,abt _,rfl,by omega,λenv h=>.sB .say (.callE (l1 _) (.clW (es env h) (by show s.left<=0;omega))) rfl⟩
 have hl:0 < s.left:=by omega
 rcases hd with rfl | ⟨hd,R⟩
 ·exact⟨some (.fault 2),_,.cD nc hl,by show 0<=s.left - 1;omega,by show s.left - 1<=s.left;omega,rfl,by unfold mu;dsimp only;omega,λenv h=>.sB .say (.callE (l1 _) (.clD (es env h) hl (by decide))) rfl⟩
 have m1:mu ⟨s.said,s.left - 1,0⟩=mu s - 100:=by unfold mu;dsimp only;omega
 obtain⟨f,s1,d1,h1,h2,m2,ev⟩:=R n (e + 5) p (sE k ar) ⟨s.said,s.left - 1,0⟩ hn (by omega) hp hw (by show 0<=s.left - 1;omega) (by omega);have hs:=wy h1 (show mu s1<=100000 by omega);have h3:s1.left<=s.left:=by have h2:s1.left<=s.left - 1:=h2;omega
 have cl:∀env,BZ a b k s.v env->Ev qs (e + 7) d (BX a b y) (.E (.tuple [.str "call",.int (p:Int),.list [Kr a ar]])) ⟨s.said,s.left,env⟩ (Ks f) ⟨s1.said,s1.left,env⟩:=λenv h=>by
  obtain⟨env',ev⟩:=ev [] env;exact .callE (l1 _) (.clG (es env h) hl hd ev)
 cases f with
 | gave w=>exact⟨none,⟨s1.said++[w],s1.left,s.v⟩,.cG nc hl hd d1 hs,h1,h3,rfl,by unfold mu at m1 m2 ⊢;dsimp only at m1 m2 ⊢;rw[List.length_append,List.length_singleton];omega,λenv h=>.sG (cl env h) (.say hs)⟩
 | fault w=>exact⟨some (.fault w),{s1 with v:=s.v},.cB nc hl hd d1 (λ_ z=>nomatch z),h1,h3,rfl,by unfold mu at m1 m2 ⊢;dsimp only at m1 m2 ⊢;omega,λenv h=>.sB .say (cl env h) rfl⟩
 | weary=>exact⟨some .weary,{s1 with v:=s.v},.cB nc hl hd d1 (λ_ z=>nomatch z),h1,h3,rfl,by unfold mu at m1 m2 ⊢;dsimp only at m1 m2 ⊢;omega,λenv h=>.sB .say (cl env h) rfl⟩
theorem Kt(hd:d=12∨(d < 12/\sH m ps qs K (d + 1))){p c:Nat}{ar:Option Int}(hp:p < m)(ha:∀k,ar=some k->fT k)(hk:fT k)(hn:25 * K<=n)(he:25 * K<=e)(s:LS)(h0:0<=s.left)(hv:fT s.v)(hm:mu s + 1<=100000):
  Out ps qs (n + 2) (e + 12) k d (.T (.call p ar c)) (.Ss [kH a p ar c]) a b y s 1:=by
 by_cases hc:c=0
 ·obtain⟨f,s1,d1,h1,h2,h3,m1,ev⟩:=core (a:=a) (b:=b) (y:=y) hd hp ha hk (c:=c) (λz=>by omega) hn he s h0 hm;refine⟨f,s1,.big rfl d1,h1,h2,by rw[h3];exact hv,m1,λenv h=>⟨env,?_,by rw[h3];exact h⟩⟩;unfold kH;rw[if_pos hc];exact ph f ((ev env h).mono (by omega))
 by_cases hz:k=0
 ·refine⟨none,s,.big rfl (.cSkip (by omega) hz),h0,Int.le_refl _,hv,by omega,λenv h=>⟨env,?_,h⟩⟩;unfold kH;rw[if_neg hc];exact .ssC (.sN .if' (.ifG (ke h.ea) (by rw[if_pos hz];exact .ssN))) .ssN
 ·obtain⟨f,s1,d1,h1,h2,h3,m1,ev⟩:=core (a:=a) (b:=b) (y:=y) hd hp ha hk (c:=c) (λz=>hz z.2) hn he s h0 hm;refine⟨f,s1,.big rfl d1,h1,h2,by rw[h3];exact hv,m1,λenv h=>⟨env,?_,by rw[h3];exact h⟩⟩;unfold kH;rw[if_neg hc];exact ph f (.sN .if' (.ifG (ke h.ea) (by rw[if_neg hz];exact ph f (ev env h))))
theorem Gu{t:Th}{ts:List PyData}{c:Nat}(hc:c<=99)(D:zc a b y)(ih:∀s:LS,0<=s.left->fT s.v->mu s + c<=100000->Out ps qs n (e + 6) k d (.L t) (.Ss ts) a b y s c):
  ∀(l:Nat) (s:LS),s.left.toNat<=l->0<=s.left->fT s.v->mu s + c<=100000->Out ps qs (n + 1) (e + 7) k d (.W t) (.W (pf b) (ts++[BU b])) a b y s c:=by
 intro l
 induction l using Nat.strongRecOn with
 | _ l ihl =>
  intro s hl h0 hv hm;by_cases z:s.v=0
  ·exact⟨none,s,.w0 z,h0,abt _,hv,by omega,λenv h=>⟨env,.w0 (ke (by show env b=some 0;rw[h.eb,z])),h⟩⟩
  obtain⟨f,s1,d1,h1,h2,h3,m1,ev⟩:=ih s h0 hv hm
  cases f with
  | some f=>exact⟨some f,s1,.wB z d1,h1,h2,h3,m1,λenv h=>let ⟨env',ev,h'⟩:=ev env h;⟨env',.wL (ke h.eb) z (B0 (nO f) ev) (nO f),h'⟩⟩
  | none =>
   have less:∀env,BZ a b k s1.v env->Ev qs (e + 6) d (BX a b y) (.Ss [BU b]) ⟨s1.said,s1.left,env⟩ .ok ⟨s1.said,s1.left,jR b (cN (s1.v - 1)) env⟩:=λenv h=>.ssC (.sG (Gs (s:=⟨s1.said,s1.left,env⟩) h.eb h3) (.set zc.mb)) .ssN
   by_cases zl:s1.left=0
   ·refine⟨some .weary,{s1 with v:=cN (s1.v - 1)},.wW z d1 zl,h1,h2,sF _,m1,λenv h=>?_⟩;obtain⟨env',ev,h'⟩:=ev env h;exact⟨_,.wS (ke h.eb) z (Ai ev (less env' h')) (by show s1.left<=0;omega),h'.b D⟩
   ·have mm:mu ⟨s1.said,s1.left - 1,cN (s1.v - 1)⟩=mu s1 - 100:=by unfold mu;dsimp only;omega
    obtain⟨f,s2,d2,g1,g2,g3,m2,Gv⟩:=ihl (s1.left - 1).toNat (by omega) ⟨s1.said,s1.left - 1,cN (s1.v - 1)⟩ (aai _) (by show 0<=s1.left - 1;omega) (sF _) (by omega);have g2:s2.left<=s1.left - 1:=g2;refine⟨f,s2,.wM z d1 (by omega) h2 d2,g1,by omega,g3,by omega,λenv h=>?_⟩;obtain⟨env',ev,h'⟩:=ev env h;obtain⟨gm,Gv,h2'⟩:=Gv _ (h'.b D);exact⟨gm,.wM (ke h.eb) z (Ai ev (less env' h')) (by show 0 < s1.left;omega) Gv,h2'⟩
theorem Ku{t:Th}{ts:List PyData}{c:Nat}{w:Int}(hw:fT w)(hc:c<=99)(D:zc a b y)(ih:∀s:LS,0<=s.left->fT s.v->mu s + c<=100000->Out ps qs n (e + 6) k d (.L t) (.Ss ts) a b y s c)(s:LS)(h0:0<=s.left)(hm:mu s + c<=100000):Out ps qs (n + 2) (e + 9) k d (.T (.loop w t)) (.Ss [OL b w,U8 b ts]) a b y s c:=by
 obtain⟨f,s1,d1,h1,h2,h3,m1,ev⟩:=Gu hc D ih s.left.toNat {s with v:=w} (aai _) h0 hw hm;refine⟨f,s1,.big rfl (.lp d1),h1,h2,h3,m1,λenv h=>?_⟩;obtain⟨env',ev,h'⟩:=ev _ (h.b D);exact⟨env',.ssC (.sG jw (.set zc.mb)) (ph f (.sN .wh (.wh ev))),h'⟩
theorem ON{t u:Th}{ts us:List PyData}{c c' j:Nat}(hj:j < 3)(D:zc a b y)(ih:∀s:LS,0<=s.left->fT s.v->mu s + c<=100000->Out ps qs n (e + 3) k d (.L t) (.Ss ts) a b y s c)(ih':∀s:LS,0<=s.left->fT s.v->mu s + c'<=100000->Out ps qs n (e + 3) k d (.L u) (.Ss us) a b y s c')
  (s:LS) (h0:0<=s.left) (hv:fT s.v) (hm:mu s + (c + c' + 1)<=100000):Out ps qs (n + 2) (e + 7) k d (.T (.tr t u)) (.Ss [tryD y j ts us]) a b y s (c + c' + 1):=by
 obtain⟨f,s1,d1,h1,h2,h3,m1,ev⟩:=ih s h0 hv (by omega)
 have other:(∀w,f≠some (.fault w))->(∀w,Ah f≠.fault w)->Out ps qs (n + 2) (e + 7) k d (.T (.tr t u)) (.Ss [tryD y j ts us]) a b y s (c + c' + 1):=λhf hr =>
  ⟨f,s1,.big rfl (.tO d1 hf),h1,h2,h3,by omega,λenv h=>let ⟨env',ev,h'⟩:=ev env h;⟨env',ph f (.sN .tr (.tr (.tG ev hr))),h'⟩⟩
 cases f with
 | none=>exact other (λ_ z=>nomatch z) (λ_ z=>nomatch z)
 | some f =>
  cases f with
  | gave w=>exact other (λ_ z=>nomatch z) (λ_ z=>nomatch z)
  | weary=>exact other (λ_ z=>nomatch z) (λ_ z=>nomatch z)
  | fault w =>
   clear other;have hs:=wy h1 (show mu s1<=100000 by omega);have mm:mu {s1 with said:=s1.said++[w]}=mu s1 + 1:=by unfold mu;dsimp only;rw[List.length_append,List.length_singleton];omega
   obtain⟨f,s2,d2,g1,g2,g3,m2,Gv⟩:=ih' {s1 with said:=s1.said++[w]} h1 h3 (by omega);have g2:s2.left<=s1.left:=g2;refine⟨f,s2,.big rfl (.tF d1 hs d2),g1,by omega,g3,by omega,λenv h=>?_⟩;obtain⟨Sa,ev,h'⟩:=ev env h;obtain⟨gm,Gv,h2'⟩:=Gv _ (h'.x D (w:=w) hj);refine⟨gm,ph f (.sN .tr (.tr (.tF ev (zc.mx hj) (.ssC (.sG (ke ?_) (.say hs)) Gv)))),h2'⟩;show jR (xn y j) w Sa (xn y j)=some w;unfold jR;rw[if_pos rfl]
theorem qN{t r:Th}{x:Tg}{j c1 c2 c:Nat}(hu:t.un=some (x,r))(s:LS)(hm:mu s + c<=100000)(hc:c=c1 + c2)(h:Out ps qs n (e + 1) k d (.T x) (.Ss (x.R a b y j)) a b y s c1)(g:∀s1:LS,0<=s1.left->fT s1.v->mu s1 + c2<=100000->Out ps qs (n + 1) (e + 1) k d (.L r) (.Ss (r.B a b y j)) a b y s1 c2):Out ps qs (n + 1) (e + 1) k d (.L t) (.Ss (t.B a b y j)) a b y s c:=by
 obtain⟨f,s1,d1,h1,h2,h3,m1,ev⟩:=h;rw[Th.R8 hu]
 cases f with
 | some f=>exact⟨some f,s1,.consB hu d1,h1,h2,h3,by omega,λenv h=>let ⟨env',ev,h'⟩:=ev env h;⟨env',B0 (nO f) ev,h'⟩⟩
 | none =>
  obtain⟨f,s2,d2,g1,g2,g3,m2,Gv⟩:=g s1 h1 h3 (by omega);refine⟨f,s2,.cons hu d1 d2,g1,by omega,g3,by omega,λenv h=>?_⟩;obtain⟨Sa,ev,h'⟩:=ev env h;obtain⟨gm,Gv,h2'⟩:=Gv _ h';exact⟨gm,Ai ev Gv,h2'⟩
theorem yv(hd:d=12∨(d < 12/\sH m ps qs K (d + 1)))(hk:fT k)(D:zc a b y):∀(t:Th) (n j N M:Nat),t.wf m n->n + j<=3->25 * K + 4 * n + 12<=N->25 * K + 4 * n + 12<=M->t.cnt<=20->∀s:LS,0<=s.left->fT s.v->mu s + t.cnt<=100000->Out ps qs N M k d (.L t) (.Ss (t.B a b y j)) a b y s t.cnt
 | .nil,n,j,N,M,hw,hj,hN,hM,hc,s,h0,hv,hm=>by
  obtain⟨N,rfl⟩:∃N',N=N' + 1:=⟨N - 1,by omega⟩;obtain⟨M,rfl⟩:∃M',M=M' + 1:=⟨M - 1,by omega⟩;exact⟨none,s,.nil,h0,abt _,hv,(by rw[Th.cnt];omega),λenv h=>⟨env,.ssN,h⟩⟩
 | .one x r,n,j,N,M,hw,hj,hN,hM,hc,s,h0,hv,hm=>by
  obtain⟨N,rfl⟩:∃N',N=N' + 2:=⟨N - 2,by omega⟩;obtain⟨M,rfl⟩:∃M',M=M' + 6:=⟨M - 6,by omega⟩;rw[Th.cnt]at hc hm;rw[Th.wf]at hw;exact qN (c1:=1) (c2:=r.cnt) rfl s hm (by rw[Th.cnt];omega) (OM x hw.1 D s h0 hv (by omega)) λs1 a1 a2 a3=>yv hd hk D r n j _ _ hw.2 hj hN hM (by omega) s1 a1 a2 a3
 | .call p ar c r,n,j,N,M,hw,hj,hN,hM,hc,s,h0,hv,hm=>by
  obtain⟨N,rfl⟩:∃N',N=N' + 3:=⟨N - 3,by omega⟩;obtain⟨M,rfl⟩:∃M',M=M' + 12:=⟨M - 12,by omega⟩;rw[Th.cnt]at hc hm;rw[Th.wf]at hw;exact qN (c1:=1) (c2:=r.cnt) rfl s hm (by rw[Th.cnt];omega) (Kt hd hw.1.1 hw.1.2.1 hk (by omega) (by omega) s h0 hv (by omega)) λs1 a1 a2 a3=>yv hd hk D r n j _ _ hw.2 hj hN hM (by omega) s1 a1 a2 a3
 | .loop w t r,n,j,N,M,hw,hj,hN,hM,hc,s,h0,hv,hm=>by
  obtain⟨N,rfl⟩:∃N',N=N' + 3:=⟨N - 3,by omega⟩;obtain⟨M,rfl⟩:∃M',M=M' + 9:=⟨M - 9,by omega⟩;rw[Th.cnt]at hc hm;rw[Th.wf]at hw;obtain⟨⟨Qz,n',rfl,OO⟩,U9⟩:=hw;refine qN (c1:=t.cnt + 1) (c2:=r.cnt) rfl s hm (by rw[Th.cnt];omega) ?_ λs1 a1 a2 a3=>yv hd hk D r (n' + 1) j _ _ U9 hj hN hM (by omega) s1 a1 a2 a3
  obtain⟨f,s1,d1,h1,h2,h3,m1,ev⟩:=Ku Qz (show t.cnt<=99 by omega) D (λs1 a1 a2 a3=>yv hd hk D t n' j N (M + 6) OO (by omega) (by omega) (by omega) (by omega) s1 a1 a2 a3) s h0 (by omega);exact⟨f,s1,d1,h1,h2,h3,by omega,ev⟩
 | .tr t u r,n,j,N,M,hw,hj,hN,hM,hc,s,h0,hv,hm=>by
  obtain⟨N,rfl⟩:∃N',N=N' + 3:=⟨N - 3,by omega⟩;obtain⟨M,rfl⟩:∃M',M=M' + 7:=⟨M - 7,by omega⟩;rw[Th.cnt]at hc hm;rw[Th.wf]at hw;obtain⟨⟨n',rfl,Qz,OO⟩,U9⟩:=hw;refine qN (c1:=t.cnt + u.cnt + 1) (c2:=r.cnt) rfl s hm (by rw[Th.cnt];omega) ?_ λs1 a1 a2 a3=>yv hd hk D r (n' + 1) j _ _ U9 hj hN hM (by omega) s1 a1 a2 a3
  exact ON (by omega) D (λs1 a1 a2 a3=>yv hd hk D t n' (j + 1) N (M + 3) Qz (by omega) (by omega) (by omega) (by omega) s1 a1 a2 a3) (λs1 a1 a2 a3=>yv hd hk D u n' (j + 1) N (M + 3) OO (by omega) (by omega) (by omega) (by omega) s1 a1 a2 a3) s h0 hv (by omega)
end
theorem B1{m K:Nat}{d:Int}{ps:List Th}{qs:List iZ}(W:Wd m ps qs)(hd:d=12∨(d < 12/\sH m ps qs K (d + 1))):sH m ps qs (K + 1) d:=by
 intro N M p k s hN hM hp hk h0 hm;obtain⟨t,a,b,y,Mv,hw,hc,hq,D⟩:=W.ok p hp;obtain⟨N,rfl⟩:∃N',N=N' + 1:=⟨N - 1,by omega⟩;obtain⟨M,rfl⟩:∃M',M=M' + 4:=⟨M - 4,by omega⟩;obtain⟨f,s1,d1,h1,h2,h3,m1,ev⟩:=yv hd hk D t 3 0 N (M + 3) hw (by omega) (by omega) (by omega) hc {s with v:=0} h0 (by show fT 0;unfold fT;omega) (by show mu s + _<=_;omega)
 have e0:BZ a b k 0 (jR b 0 (envOf [a] [k])):=by
  refine⟨?_,by unfold jR;rw[if_pos rfl]⟩;unfold jR envOf;rw[if_neg D.ab];show(([(a,k)].find? λq=>decide (q.1=a)).map (·.2))=some k;rw[List.find?_cons_of_pos (by simp)];rfl
 obtain⟨env',ev,e1⟩:=ev _ e0;have h2:s1.left<=s.left:=h2;have m1:mu s1<=mu s + t.cnt:=m1;have st:Ev qs (M + 2) d (BX a b y) (.S (.tuple [.str "let",.str b,.tuple [.str "number"],lr 0])) ⟨s.said,s.left,envOf [a] [k]⟩ .ok ⟨s.said,s.left,jR b 0 (envOf [a] [k])⟩:=.sG (e:=lr 0) (k:=0) (s1:=⟨s.said,s.left,envOf [a] [k]⟩) jw (Act.let' (s:=⟨s.said,s.left,envOf [a] [k]⟩) zc.mb);have bd:Ev qs (M + 3) d (BX a b y) (.Ss (BY a b y t).bd) ⟨s.said,s.left,envOf [a] [k]⟩ (Ah f) ⟨s1.said,s1.left,env'⟩:=.ssC st ev
 cases f with
 | none=>exact⟨.gave s1.v,s1,.rN Mv d1,h1,h2,by omega,λnl e0=>⟨env',.gB hq rfl bd (ke e1.eb) rfl⟩⟩
 | some f =>
  cases f with
  | gave w=>exact⟨.gave w,s1,.rB Mv d1,h1,h2,by omega,λnl e0=>⟨env',.gG hq rfl bd⟩⟩
  | fault w=>exact⟨.fault w,s1,.rB Mv d1,h1,h2,by omega,λnl e0=>⟨env',.gX hq rfl bd rfl (λ_ z=>nomatch z)⟩⟩
  | weary=>exact⟨.weary,s1,.rB Mv d1,h1,h2,by omega,λnl e0=>⟨env',.gX hq rfl bd rfl (λ_ z=>nomatch z)⟩⟩
theorem B2{m:Nat}{ps:List Th}{qs:List iZ}(W:Wd m ps qs):∀K:Nat,K < 12->sH m ps qs (K + 1) (12 - (K:Int))
 | 0,_=>B1 (K:=0) W (.inl (by decide))
 | K + 1,h=>B1 W (.inr ⟨by omega,by rw[show(12 - ((K + 1:Nat):Int)) + 1=12 - (K:Int)by omega];exact B2 W K (by omega)⟩)
def na(c p:Nat):Str:=Txt.slice (Str.ofString "nm") none (some (1 + (c:Int)))++⟨#[97 + p]⟩
def nb(c p:Nat):Str:=Txt.slice (Str.ofString "vw") none (some (1 + (c:Int)))++⟨#[97 + p]⟩
def ny(c:Nat):Str:=Txt.slice (Str.ofString "xyz") none (some (1 + (c:Int)))
theorem Va:∀c,c < 2->∀c',c' < 2->∀p,p < 8->na c p≠nb c' p:=by decide +kernel
theorem Vb:∀c,c < 2->∀p,p < 8->∀c',c' < 3->∀j,j < 3->xn (ny c') j≠na c p:=by decide +kernel
theorem Vc:∀c,c < 2->∀p,p < 8->∀c',c' < 3->∀j,j < 3->xn (ny c') j≠nb c p:=by decide +kernel
theorem OP:∀c,c < 3->(ny c).length<=3:=by decide +kernel
theorem Z7{c c' c'' p:Nat}(h:c < 2)(h':c' < 2)(h'':c'' < 3)(hp:p < 8):zc (na c p) (nb c' p) (ny c'') :=
 ⟨Va c h c' h' p hp,Vb c h p hp c'' h'',Vc c' h' p hp c'' h''⟩
def lz(c c' c'':Nat)(ts:List Th):List iZ:=ts.mapIdx λp t=>BY (na c p) (nb c' p) (ny c'') t
theorem Vd{c c' c'':Nat}(h:c < 2)(h':c' < 2)(h'':c'' < 3){ts:List Th}(hl:ts.length<=8)(hw:∀t∈ts,t.wf ts.length 3/\t.cnt<=20):Wd ts.length ts (lz c c' c'' ts):=⟨λp hp=>by
 have e:=jG hp;obtain⟨w1,w2⟩:=hw _ (List.getElem_mem hp);refine⟨ts[p],_,_,_,e,w1,w2,?_,Z7 h h' h'' (show p < 8 by omega)⟩;unfold lz;rw[List.getElem?_mapIdx,e];rfl⟩
theorem Ve{c c' c'':Nat}{ts:List Th}(hl:ts.length<=8):Tv (lz c c' c'' ts):=by
 have mem:∀q∈lz c c' c'' ts,∃a b y t,q=BY a b y t:=λq hq=>by
  obtain⟨i,h,rfl⟩:=List.mem_mapIdx.mp hq;exact⟨_,_,_,_,rfl⟩
 refine⟨by unfold lz;rw[List.length_mapIdx];omega,λq hq=>?_,λq hq=>?_,λq hq=>?_,λq hq=>?_⟩
 all_goals obtain⟨a,b,y,t,rfl⟩:=mem q hq
 ·show 1<=100;decide
 ·show [a].Nodup;simp
 ·intro x hx;have hx:x∈[a]:=hx;rw[xq hx];show a∈BX a b y;unfold BX;simp
 ·show 5<=900;decide
def rZ(K:aV)(H:Hp)(fv:V):Option Fi->Prop
 | none=>fv=.non
 | some (.fault k)=>∃t,fv=.ref t/\cX K H t [.str "fault",.int k]
 | some (.gave k)=>∃t,fv=.ref t/\cX K H t [.str "gave",.int k]
 | some .weary=>∃t,fv=.ref t/\cX K H t [.str "weary"]
theorem rZ.qP{K:aV}{H:Hp}{fv:V}{f:Fi}(h:rZ K H fv (some f)):fv≠.non:=by
 cases f<;>(obtain⟨t,rfl,_⟩:=h;intro z;cases z)
structure LI(H0:Hp)(a l:Addr)(H:Hp)(s:LS):Prop where
 ha:H a=some (.lst [.ref l,.int s.left,.non])
 hl:H l=some (.lst (s.said.map V.int))
 al:a≠l
 s0:bf H0 H
 na:H0 a=none
 nl:H0 l=none
structure FI(H0:Hp)(a l f:Addr)(k d:Int)(H:Hp)(s:LS):Prop extends LI H0 a l H s where
 hf:H f=some (.lst [.int k,.int s.v,.int d])
 fl:f≠l
 nf:H0 f=none
section
variable {H0 H:Hp} {a l f:Addr} {k d:Int} {s:LS}
theorem FI.fa(I:FI H0 a l f k d H s):f≠a:=cv I.hf I.ha (by intro z;cases z)
theorem FI.same{H':Hp}(I:FI H0 a l f k d H s)(e:bf H H'):FI H0 a l f k d H' s:=⟨⟨e _ _ I.ha,e _ _ I.hl,I.al,I.s0.trans e,I.na,I.nl⟩,e _ _ I.hf,I.fl,I.nf⟩
theorem FI.say(I:FI H0 a l f k d H s)(w:Int):FI H0 a l f k d (upd H l (.lst (s.said.map V.int++[.int w]))) {s with said:=s.said++[w]} :=
 ⟨⟨(uN I.al).trans I.ha,by rw[uS];simp,I.al,λc o e=>(uN (nN e I.nl)).trans (I.s0 _ _ e),I.na,I.nl⟩,(uN I.fl).trans I.hf,I.fl,I.nf⟩
theorem FI.left(I:FI H0 a l f k d H s)(w:Int):FI H0 a l f k d (upd H a (.lst [.ref l,.int w,.non])) {s with left:=w} :=
 ⟨⟨uS,(uN I.al.symm).trans I.hl,I.al,λc o e=>(uN (nN e I.na)).trans (I.s0 _ _ e),I.na,I.nl⟩,(uN I.fa).trans I.hf,I.fl,I.nf⟩
theorem FI.v(I:FI H0 a l f k d H s)(w:Int):FI H0 a l f k d (upd H f (.lst [.int k,.int w,.int d])) {s with v:=w} :=
 ⟨⟨(uN I.fa.symm).trans I.ha,(uN I.fl.symm).trans I.hl,I.al,λc o e=>(uN (nN e I.nf)).trans (I.s0 _ _ e),I.na,I.nl⟩,uS,I.fl,I.nf⟩
def Aj(a l:Addr)(H:Hp):Hp:=λc=>if c=a∨c=l then none else H c
theorem off_ne{c:Addr}(h1:c≠a)(h2:c≠l):Aj a l H c=H c:=aas (λz=>z.elim h1 h2)
theorem Gw:bf (Aj a l H) H:=λc o e=>by
 unfold Aj at e;split at e
 ·cases e
 ·exact e
theorem FI.off(I:FI H0 a l f k d H s)(w:Int):LI (Aj a l H) a l H ⟨s.said,s.left,w⟩:=⟨I.ha,I.hl,I.al,Gw,aaw (.inl rfl),aaw (.inr rfl)⟩
theorem FI.Sb(I:FI H0 a l f k d H s):bf H0 (Aj a l H):=λc o e=>by
 rw[off_ne (nN e I.na) (nN e I.nl)];exact I.s0 _ _ e
theorem FI.back(I:FI H0 a l f k d H s){H':Hp}{s':LS}(J:LI (Aj a l H) a l H' s'):FI H0 a l f k d H' {s' with v:=s.v} :=
 ⟨⟨J.ha,J.hl,J.al,I.Sb.trans J.s0,I.na,I.nl⟩,J.s0 _ _ (by rw[off_ne I.fa I.fl];exact I.hf),I.fl,I.nf⟩
end
def Sd(ps:List Th):PyData:=.list (ps.map λt=>.list t.D)
def Se(K:aV)(n:Nat)(P:Tq->PyData->Prop):Sp:=λvs H Q _=>∃(H0:Hp) (a l f:Addr) (pv tv:V) (ps:List Th) (q:Tq) (dt:PyData) (k d:Int) (r:Option Fi) (s s':LS),vs=[pv,tv,.ref f,.ref a]/\P q dt/\bz K H0 pv (Sd ps)/\bz K H0 tv dt/\FI H0 a l f k d H s/\Do ps n k d q s r s'/\∀H' fv,FI H0 a l f k d H' s'->rZ K H' fv r->Q fv H'
theorem Vf{w:Str}:∀ks:List Int,ks.length<=2->cutD (.str w::bo ks) (some 1) none=bo ks
 | [],_=>rfl
 | [_],_=>rfl
 | [_,_],_=>rfl
theorem Kv{ns:List Int}{i:Nat}{d:PyData}(h:(bo ns)[i]?=some d):∃k,d=.int k:=by
 unfold bo at h;rw[List.getElem?_map]at h
 cases e:ns[i]? with
 | none=>rw[e]at h;cases h
 | some k=>rw[e]at h;cases h;exact⟨k,rfl⟩
theorem ve(a b:List Int):bo (a++b)=bo a++bo b:=abM
theorem pj(a:List Int):(bo a).length=a.length:=aah _
theorem Do.Sf{ps:List Th}{n:Nat}{k d:Int}{x:Tg}{s s':LS}{r:Option Fi}(h:Do ps (n + 1) k d (.T x) s r s'):(x.big=true/\Do ps n k d (.G x) s r s')∨(∃b w t,x=.sim (.dv b w t)/\r=some (.fault 1)/\s'=s)∨∃(h0:Str) (xw:Wv),x.D=.tuple [.str h0,xw.D]/\((h0="toss"/\r=some (.fault (xw.val k s.v))/\s'=s)∨(h0="give"/\r=some (.gave (xw.val k s.v))/\s'=s)∨(h0="set"/\r=none/\s'={s with v:=xw.val k s.v})∨(h0="say"/\s.said.length < 1000000/\r=none/\s'={s with said:=s.said++[xw.val k s.v]})):=by
 cases h.iT with
 | big hb d1=>exact .inl ⟨hb,d1⟩
 | dv=>exact .inr (.inl ⟨_,_,_,rfl,rfl,rfl⟩)
 | toss=>exact .inr (.inr ⟨_,_,rfl,.inl ⟨rfl,rfl,rfl⟩⟩)
 | @give w _=>exact .inr (.inr ⟨"give",.w w,rfl,.inr (.inl ⟨rfl,rfl,rfl⟩)⟩)
 | @set w _=>exact .inr (.inr ⟨"set",.w w,rfl,.inr (.inr (.inl ⟨rfl,rfl,rfl⟩))⟩)
 | say hs=>exact .inr (.inr ⟨_,_,rfl,.inr (.inr (.inr ⟨rfl,hs,rfl,rfl⟩))⟩)
theorem Do.Si{ps:List Th}{n p e:Nat}{k d:Int}{c:Option Int}{s s':LS}{r:Option Fi}(h:Do ps (n + 1) k d (.G (.call p c e)) s r s'):((0 < e/\k=0)/\r=none/\s'=s)∨(¬ (0 < e/\k=0)/\((s.left=0/\r=some .weary/\s'=s)∨(s.left≠0/\((d=12/\r=some (.fault 2)/\s'={s with left:=s.left - 1})∨(d≠12/\∃f s1,Do ps n (sE k c) (d + 1) (.R p) ⟨s.said,s.left - 1,0⟩ (some f) s1/\((∃w,f=.gave w/\s1.said.length < 1000000/\r=none/\s'=⟨s1.said++[w],s1.left,s.v⟩)∨((∀w,f≠.gave w)/\r=some f/\s'={s1 with v:=s.v}))))))):=by
 cases h.iG with
 | cSkip a b=>exact .inl ⟨⟨a,b⟩,rfl,rfl⟩
 | cW a b=>exact .inr ⟨a,.inl ⟨b,rfl,rfl⟩⟩
 | cD e a b=>exact .inr ⟨a,.inr ⟨by omega,.inl ⟨e,rfl,rfl⟩⟩⟩
 | cB a b c d1 f=>exact .inr ⟨a,.inr ⟨by omega,.inr ⟨by omega,_,_,d1,.inr ⟨f,rfl,rfl⟩⟩⟩⟩
 | cG a b c d1 f=>exact .inr ⟨a,.inr ⟨by omega,.inr ⟨by omega,_,_,d1,.inl ⟨_,rfl,f,rfl,rfl⟩⟩⟩⟩
def Wv.vv:Wv->V
 | .n=>.str "n"
 | .v=>.str "v"
 | .w k=>.int k
theorem bz.Sj{K:aV}{H:Hp}{v:V}{x:Wv}(h:bz K H v x.D):v=x.vv:=by cases x<;>(cases h;rfl)
theorem same_refl{H:Hp}:bf H H:=λ_ _ e=>e
theorem LI.Vg{H0 H:Hp}{a l f:Addr}{s:LS}(I:LI H0 a l H s)(h:H f=none)(k d:Int):FI H0 a l f k d (upd H f (.lst [.int k,.int 0,.int d])) {s with v:=0} :=
 ⟨⟨(uN (nN I.ha h)).trans I.ha,(uN (nN I.hl h)).trans I.hl,I.al,I.s0.trans (aT h _),I.na,I.nl⟩,uS,(nN I.hl h).symm,by
  cases z:H0 f with
  | none=>rfl
  | some o=>rw[I.s0 _ _ z]at h;cases h⟩
def Tg.cnt:Tg->Nat
 | .sim _=>1
 | .call _ _ _=>1
 | .loop _ a=>a.cnt + 1
 | .tr a b=>a.cnt + b.cnt + 1
theorem Th.OQ{t r:Th}{x:Tg}(h:t.un=some (x,r)):t.cnt=x.cnt + r.cnt:=by
 cases t with
 | nil=>cases h
 | one s r=>cases h;rw[Th.cnt,Tg.cnt];omega
 | call p a c r=>cases h;rw[Th.cnt,Tg.cnt];omega
 | loop w a r=>cases h;rw[Th.cnt,Tg.cnt];omega
 | tr a b r=>cases h;rw[Th.cnt,Tg.cnt];omega
theorem OR:∀j:Nat,j < 3->p7 (Str.ofString "fgh").cps.toList (j:Int)=some (102 + j):=by decide +kernel
theorem Gx{A B C G L:Prop}[Decidable A][Decidable B][Decidable C](g:G)(l:¬ (B/\C)->L):if decide A=true then(if true=true then G else L)else(if decide B=true then(if decide C=true then G else L)else(if false=true then G else L)):=by
 refine ef (λ_=>kT g) (λ_=>ef (λb=>ef (λ_=>g) (λc=>l λz=>c z.2)) (λb=>mi (l λz=>b z.1)))
theorem Kw{A B P G L:Prop}[Decidable A][Decidable B](p:P)(g:G)(l:L):if decide A=true then(P/\if decide B=true then G else L)else(if false=true then G else L) :=
 ef (λ_=>⟨p,ef (λ_=>g) (λ_=>l)⟩) (λ_=>mi l)
theorem OS:∀j:Nat,j < 8->p7 (Str.ofString "abcdefgh").cps.toList (j:Int)=some (97 + j):=by decide +kernel
theorem vf:∀c:Nat,c < 2->(Txt.slice (Str.ofString "nm") none (some (1 + (c:Int)))).length<=2/\(Txt.slice (Str.ofString "vw") none (some (1 + (c:Int)))).length<=2:=by decide +kernel
def Z8(many i:Nat)(ys:List DV)(st:aR):Prop:=∃(tl:List Th) (src:List Int) (rs:aR),tl.length=i/\(∀t∈tl,t.wf many 3/\t.cnt<=20)/\ys=tl.map (λt=>.dat (.list t.D))/\st=.live (bo src)::rs/\mw src
def B3:Fi->Str×List Int
 | .fault k=>("fault",[k])
 | .gave k=>("gave",[k])
 | .weary=>("weary",[])
theorem OT(f:Fi):(B3 f).2.length<=2/\PyData.canLay0 (.str (B3 f).1)=true:=by
 cases f with
 | fault k=>exact⟨by show 1<=2;decide,by show PyData.canLay0 (.str "fault")=true;decide +kernel⟩
 | gave k=>exact⟨by show 1<=2;decide,by show PyData.canLay0 (.str "gave")=true;decide +kernel⟩
 | weary=>exact⟨by show 0<=2;decide,by show PyData.canLay0 (.str "weary")=true;decide +kernel⟩
theorem Kx(f:Fi):endOf (Ks f)=some (.str (B3 f).1::(B3 f).2.map V.int):=by cases f<;>rfl
theorem rZ.told{K:aV}{H:Hp}{fv:V}{f:Fi}(h:rZ K H fv (some f)):∃t,fv=.ref t/\cX K H t (.str (B3 f).1::(B3 f).2.map V.int):=by
 cases f<;>exact h
structure Sg(σ:St)(v2 v4 v5 v8 v9:V):Prop where
 len:σ.length=17
 s2:σ[2]?=some (some v2)
 s4:σ[4]?=some (some v4)
 s5:σ[5]?=some (some v5)
 s8:σ[8]?=some (some v8)
 s9:σ[9]?=some (some v9)
theorem jh{σ:St}{i j:Nat}{x:Option V}{y:Option V}(h:σ[i]?=some x)(n:j≠i):(σ.set j y)[i]?=some x:=by rw[aav n];exact h
theorem sI{σ:St}{i:Nat}{y:Option V}(h:i < σ.length):(σ.set i y)[i]?=some y:=aal h
theorem Sg.set{σ:St}{v2 v4 v5 v8 v9:V}(h:Sg σ v2 v4 v5 v8 v9){j:Nat}(hj:10<=j)(y:Option V):Sg (σ.set j y) v2 v4 v5 v8 v9 :=
 ⟨by rw[aaX];exact h.len,jh h.s2 (by omega),jh h.s4 (by omega),jh h.s5 (by omega),jh h.s8 (by omega),jh h.s9 (by omega)⟩
theorem yw{K:aV}{H:Hp}(ns:List Int):eT K H (ns.map V.int) (bo ns):=by
 refine⟨by unfold bo;rw[List.length_map,List.length_map],λi x d hx hd=>?_⟩;unfold bo at hd;rw[List.getElem?_map]at hx hd
 cases e:ns[i]? with
 | none=>rw[e]at hx;cases hx
 | some k=>rw[e]at hx hd;cases hx;cases hd;exact .int _
theorem B4{K:aV}{H:Hp}{t u l:Addr}{w:Str}{ks ns:List Int}{k:Int}(g1:cX K H t [.ref u,.ref l,.int k])(g2:cX K H u (.str w::ks.map V.int))(g3:H l=some (.lst (ns.map V.int))):bz K H (.ref t) (.tuple [.tuple (.str w::bo ks),.list (bo ns),.int k]) :=
 bz.EX g1 (.cons (bz.EX g2 (.cons (.str _) (yw ks))) (.cons (bz.zz (bZ.of g3) (yw ns)) (.cons (.int _) .nil)))
theorem jS{n:Nat}{w:Str}{ds:List PyData}(h:∀d∈ds,Sh n d)(c:PyData.canLay0 (.str w)=true:=by decide +kernel):Sh (n + 1) (.tuple (.str w::ds)):=rW (aK (j9 c) h)
structure Sk(a b y:Str):Prop where
 a:PyData.canLay0 (.str a)=true
 b:PyData.canLay0 (.str b)=true
 x:∀j,j < 3->PyData.canLay0 (.str (xn y j))=true
theorem Sl:∀c,c < 2->∀p,p < 8->PyData.canLay0 (.str (na c p))=true/\PyData.canLay0 (.str (nb c p))=true:=by decide +kernel
theorem Vh:∀c,c < 3->∀j,j < 3->PyData.canLay0 (.str (xn (ny c) j))=true:=by decide +kernel
section
variable {a b y:Str} {m:Nat}
theorem jx{k:Nat}{w:Int}:Sh (k + 1) (lr w):=jS (aK oP bJ)
theorem lA{k:Nat}{x:Str}(h:PyData.canLay0 (.str x)=true):Sh (k + 1) (pf x):=jS (aK (j9 h) bJ)
theorem Mw(C:Sk a b y)(x:Wv):Sh 1 (x.N a b):=by
 cases x with
 | n=>exact lA C.a
 | v=>exact lA C.b
 | w k=>exact jx
theorem OU(C:Sk a b y)(x:yu):Sh 3 (x.R a b):=by
 cases x with
 | say x=>exact(jS (n:=1) (aK (Mw C x) bJ)).up (by decide)
 | toss x=>exact(jS (n:=1) (aK (Mw C x) bJ)).up (by decide)
 | dv r w t=>exact(jS (n:=2) (aK (jS (n:=1) (aK jx (aK jx bJ)) (by cases r<;>decide +kernel)) bJ) (by cases t<;>decide +kernel))
 | give w=>exact jS (aK jx bJ)
 | set w=>exact jS (aK (j9 C.b) (aK jx bJ))
theorem Ky(C:Sk a b y)(p:Nat)(c:Option Int)(e:Nat):Sh 7 (kH a p c e):=by
 have ha:Sh 2 (Kr a c):=by
  cases c with
  | none=>exact jS (aK (lA C.a) (aK jx bJ))
  | some k=>exact jx
 have hc:Sh 5 (BV a p c):=jS (aK (jS (aK oP (aK (eG (aK ha bJ)) bJ))) bJ);unfold kH;split
 ·exact hc.up (by decide)
 ·exact jS (aK (lA C.a) (aK (eG (aK hc bJ)) (aK (eG bJ) bJ)))
theorem Th.sh(C:Sk a b y):∀(t:Th) (n j:Nat),t.wf m n->n + j<=3->∀d∈t.B a b y j,Sh (2 * n + 8) d
 | .nil,_,_,_,_=>bJ
 | .one s r,n,j,hw,hj=>by
  rw[Th.wf]at hw;rw[Th.B];exact aK ((OU C s).up (by omega)) (Th.sh C r n j hw.2 hj)
 | .call p c e r,n,j,hw,hj=>by
  rw[Th.wf]at hw;rw[Th.B];exact aK ((Ky C p c e).up (by omega)) (Th.sh C r n j hw.2 hj)
 | .loop w t r,n,j,hw,hj=>by
  rw[Th.wf]at hw;obtain⟨⟨_,k,rfl,h1⟩,h2⟩:=hw;rw[Th.B];have l:Sh 3 (BU b):=jS (aK (j9 C.b) (aK (jS (aK (lA C.b) (aK jx bJ))) bJ));refine aK ((jS (n:=1) (aK (j9 C.b) (aK jx bJ))).up (by omega)) (aK ((jS (n:=2 * k + 9) (aK (lA C.b) (aK (eG λd hd=>?_) bJ))).up (by omega)) (Th.sh C r (k + 1) j h2 hj));rcases abY.mp hd with z | z
  ·exact Th.sh C t k j h1 (by omega) d z
  ·rw[xq z];exact l.up (by omega)
 | .tr t u r,n,j,hw,hj=>by
  rw[Th.wf]at hw;obtain⟨⟨k,rfl,h1,h2⟩,h3⟩:=hw;rw[Th.B];have cx:=C.x j (by omega);have l:Sh 2 (Kq (pf (xn y j))):=jS (aK (lA cx) bJ);exact aK ((jS (n:=2 * k + 9) (aK (eG (Th.sh C t k (j + 1) h1 (by omega))) (aK (j9 cx) (aK (eG (aK (l.up (by omega)) (Th.sh C u k (j + 1) h2 (by omega)))) bJ)))).up (by omega)) (Th.sh C r (k + 1) j h3 hj)
end
theorem Sm{c c' c'':Nat}(h:c < 2)(h':c' < 2)(h'':c'' < 3){ts:List Th}(hl:ts.length<=8)(hw:∀t∈ts,t.wf ts.length 3/\t.cnt<=20):∀d∈(lz c c' c'' ts).map zb,Sh 16 d:=zV λq hq=>by
 obtain⟨p,hp,rfl⟩:=List.mem_mapIdx.mp hq;have C:Sk (na c p) (nb c' p) (ny c''):=⟨(Sl c h p (by omega)).1,(Sl c' h' p (by omega)).2,Vh c'' h''⟩;have num:Sh 1 (.tuple [.str "number"]):=jS bJ;exact rW (aK ((eG (aK (rW (aK (j9 C.a) (aK num bJ))) bJ)).up (by decide)) (aK (num.up (by decide)) (aK (eG (aK ((jS (n:=1) (aK (j9 C.b) (aK num (aK jx bJ)))).up (by decide)) (Th.sh C _ 3 0 (hw _ (ab7 hp)).1 (by decide)))) (aK (lA C.b) bJ))))
def OV:PyData:=.list [.tuple [.none,.list []]]
theorem B5{K:aV}{H:Hp}{v:V}{ps:List iZ}{p1 p2 p3 b:Addr}(h1:H p1=none)(h2:upd H p1 (.lst []) p2=none)(h3:upd (upd H p1 (.lst [])) p2 (.tup [.non,.ref p1]) p3=none)(h4:upd (upd (upd H p1 (.lst [])) p2 (.tup [.non,.ref p1])) p3 (.lst [.ref p2]) b=none)(r:bz K H v (.list (ps.map zb))):
  bf H (upd (upd (upd (upd H p1 (.lst [])) p2 (.tup [.non,.ref p1])) p3 (.lst [.ref p2])) b (.tup [.ref p3,v]))/\bz K (upd (upd (upd (upd H p1 (.lst [])) p2 (.tup [.non,.ref p1])) p3 (.lst [.ref p2])) b (.tup [.ref p3,v])) (.ref b) (OD OV ps):=by
 have s1:=aT h1 (.lst []);have s2:=aT h2 (.tup [.non,.ref p1]);have s3:=aT h3 (.lst [.ref p2]);have s4:=aT h4 (.tup [.ref p3,v]);have S:=((s1.trans s2).trans s3).trans s4;refine⟨S,bz.EX (cX.of uS) (.cons (bz.zz (bZ.of (s4 _ _ uS)) (.cons (bz.EX ((s3.trans s4).tup (cX.of uS)) (.cons .non (.cons (bz.zz (bZ.of ((s2.trans (s3.trans s4)) _ _ uS)) .nil) .nil))) .nil)) (.cons (bz.same S r) .nil))⟩
def yy:za:=λds Q=>∃(w:Str) (ks ns:List Int) (l:Int),ds=[.tuple [.tuple (.str w::bo ks),.list (bo ns),.int l],.tuple [.tuple (.str w::bo ks),.list (bo ns),.int l]]/\ks.length<=2/\ns.length<=100000/\PyData.canLay0 (.str w)=true/\Q (.bool true)
def iz(K:aV):Sp:=JR K yy
def mQ:J0:=λxs st Q=>∃(src:List Int) (m:Int),xs=[.ref 0,.dat (.int m)]/\st=[.live (bo src)]/\mw src/\0 < m/\∀(r:Int) (src':List Int),0<=r->r < m->mw src'->Q (.int r) [.live (bo src')]
def gP(K:aV) : Sp:=US K (mQ )
theorem ji:BI mQ:=by
 rintro xs st Q Q' f ⟨src,m,e1,e2,h0,hm,q⟩;exact⟨src,m,e1,e2,h0,hm,λr src' a b c=>f _ _ (q r src' a b c)⟩
theorem jj{K:aV} : FY K (gP K ) (mQ ):=FZ
def lB:za:=λds Q=>∃(a b y:Str) (x:Wv),ds=[.list [.str a,.str b,.str y],x.D]/\Q (x.N a b)
def iA(K:aV):Sp:=JR K lB
theorem kg:vT lB:=by
 rintro ds Q Q' f ⟨a,b,y,x,z4,q⟩;exact⟨a,b,y,x,z4,by intros;apply f;apply q<;>assumption⟩
theorem kh{K:aV}:Iq K (iA K) lB:=uW
def pk(n:Nat):za:=λds Q=>∃(x:Tg) (a b y:Str) (j m k:Nat),n=2 * k + 1/\ds=[x.D,.list [.str a,.str b,.str y],.int (j:Int)]/\x.wf m k/\j + k<=3/\y.length<=3/\x.cnt<=60/\Q (.list (x.R a b y j))
def ki(K:aV)(n:Nat):Sp:=JR K (pk n)
theorem Ak{n:Nat}:vT (pk n):=by
 rintro ds Q Q' f ⟨x,a,b,y,j,m,k,hn,e,hw,hj,hy,hc,q⟩;exact⟨x,a,b,y,j,m,k,hn,e,hw,hj,hy,hc,f _ q⟩
theorem Al{K:aV}{n:Nat}:Iq K (ki K n) (pk n):=uW
def mR(n:Nat):za:=λds Q=>∃(t:Th) (a b y:Str) (j m k:Nat),n=2 * k + 2/\ds=[.list t.D,.list [.str a,.str b,.str y],.int (j:Int)]/\t.wf m k/\j + k<=3/\y.length<=3/\t.cnt<=60/\Q (.list (t.B a b y j))
def gQ(K:aV)(n:Nat):Sp:=JR K (mR n)
theorem bp{n:Nat}:vT (mR n):=by
 rintro ds Q Q' f ⟨x,a,b,y,j,m,k,hn,e,hw,hj,hy,hc,q⟩;exact⟨x,a,b,y,j,m,k,hn,e,hw,hj,hy,hc,f _ q⟩
theorem br{K:aV}{n:Nat}:Iq K (gQ K n) (mR n):=uW
def lC:za:=λds Q=>∃(ts:List Th) (cell:Int),ds=[Sd ts,.int cell]/\ts.length<=8/\(∀t∈ts,t.wf ts.length 3/\t.cnt<=20)/\∀c c' c'':Nat,c < 2->c' < 2->c'' < 3->Q (.list ((lz c c' c'' ts).map zb))
def iB(K:aV):Sp:=JR K lC
theorem wz:vT lC:=by
 rintro ds Q Q' f ⟨ts,cell,z2,hl,hw,q⟩;exact⟨ts,cell,z2,hl,hw,by intros;apply f;apply q<;>assumption⟩
theorem wA{K:aV}:Iq K (iB K) lC:=uW
def fJ(_K:aV):Sp:=λvs H Q _=>∃n:Int,vs=[.int n]/\Q (.int (cN n)) H
def lD(K:aV)(n:Nat):Sp:=Se K n λq dt=>∃(p:Nat) (c:Option Int) (e:Nat),q=.G (.call p c e)/\dt=(Tg.call p c e).D
def lE(K:aV)(n:Nat):Sp:=Se K n λq dt=>∃(w:Int) (t:Th),q=.G (.loop w t)/\dt=(Tg.loop w t).D
def mS(K:aV)(n:Nat):Sp:=Se K n λq dt=>∃t u:Th,q=.G (.tr t u)/\dt=(Tg.tr t u).D
def kj(K:aV)(n:Nat):Sp:=Se K n λq dt=>∃x:Tg,q=.T x/\dt=x.D
def iP(K:aV)(n:Nat):Sp:=Se K n λq dt=>∃t:Th,q=.L t/\dt=.list t.D
def kl(K:aV)(n:Nat):Sp:=λvs H Q _=>∃(H0:Hp) (a l:Addr) (pv:V) (ps:List Th) (p:Nat) (k d:Int) (f:Fi) (s s':LS),vs=[pv,.int (p:Int),.int k,.int d,.ref a]/\bz K H0 pv (Sd ps)/\LI H0 a l H s/\Do ps n k d (.R p) s (some f) s'/\∀H' fv,LI H0 a l H' s'->rZ K H' fv (some f)->Q fv H'
def km:yo:=λds Q=>∃(ns:List Int),ds=[.list (bo ns)]/\ns.length<=63/\∀src,mw src->Q (bo src)
def gI(K:aV):Sp:=RY K km
theorem t7:Gj km:=by
 rintro ds Q Q' f ⟨ns,e,h,q⟩;exact⟨ns,e,h,λsrc z=>f _ (q src z)⟩
theorem t8{K:aV}:BN K (gI K) km:=RZ
def mT:za:=λds Q=>∃(c:Int),ds=[.int c]/\∀n:Int,fT n->Q (.int n)
def gU(K:aV):Sp:=JR K mT
theorem dN:vT mT:=by
 rintro ds Q Q' f ⟨c,z1,q⟩;exact⟨c,z1,by intros;apply f;apply q<;>assumption⟩
theorem dO{K:aV}:Iq K (gU K) mT:=uW
def iD(n:Nat):J0:=λxs st Q=>∃(src:List Int) (many deep room:Nat),n=deep + 1/\xs=[.ref 0,.dat (.int (many:Int)),.dat (.int (deep:Int)),.ref 1]/\st=[.live (bo src),.live [.int (room:Int)]]/\mw src/\room<=50/\0 < many/\∀(t:Th) src' room',t.wf many deep->t.D.length<=3->mw src'->t.cnt + room'=room->Q (.list t.D) [.live (bo src'),.live [.int (room':Int)]]
def en(K:aV)(n:Nat):Sp:=US K (iD n)
theorem gJ{n:Nat}:BI (iD n):=by
 rintro xs st Q Q' f ⟨src,many,deep,room,hn,e1,e2,h0,Vi,hm,q⟩;exact⟨src,many,deep,room,hn,e1,e2,h0,Vi,hm,λt s r a b c d=>f _ _ (q t s r a b c d)⟩
theorem gK{K:aV}{n:Nat}:FY K (en K n) (iD n):=FZ
def lF:Kd->Bool
 | .num=>true
 | _=>false
theorem Gy(k:Kd):PyData.eqv (.tuple (wk k)) (.tuple [.str "number"])=lF k:=by
 cases k with
 | any=>decide +kernel
 | num=>decide +kernel
 | whole c=>rfl
 | raw c m=>rfl
def kn(K:aV):Sp:=λvs H Q _=>∃(tl:Addr) (g:V) (ys:List V) (ks:List Kd) (gk:Kd),vs=[.ref tl,g]/\bZ K H tl ys/\eT K H ys (sv ks)/\bz K H g (.tuple (wk gk))/\ks.length<=100 /\
 ∀(H':Hp),bf H H'->Q (.bl ((ks++[gk]).all lF)) H'
def vg:za:=λds Q=>∃(ks:List Kd) (gk:Kd),ds=[.list (sv ks),.tuple (wk gk)]/\ks.length<=100/\Q (.bool ((ks++[gk]).all lF))
theorem Am:vT vg:=by
 rintro ds Q Q' f ⟨ks,gk,e,h,q⟩;exact⟨ks,gk,e,h,f _ q⟩
theorem An{K:aV}:Iq K (kn K) vg:=by
 rintro vs H Q P ds hP hv ⟨ks,gk,rfl,h,q⟩;obtain⟨v,u,rfl,r1,r2⟩:=NP hv;obtain⟨a,ys,rfl,g1,_,g2⟩:=aX.dZ r1;exact⟨a,u,ys,ks,gk,rfl,g1,⟨g2.1,λi x d a b=>(g2.2 i x d a b).now⟩,r2.now,h,λH' s=>q _ H' s (.bl _)⟩
def yz(hs:List (List Kd×Kd))(j:Int)(n:Nat):Prop:=∃h,0<=j/\hs[j.toNat]?=some h/\(h.1++[h.2]).all lF=true/\n=h.1.length
def wC(cf:Addr):Xs:=λds Q Ex=>∃(hs:List (List Kd×Kd)) (j:Int) (ws:List Int),ds=[.list (hs.map A9),.int j,.list (ws.map PyData.int)]/\(∀h∈hs,h.1.length<=100)/\(yz hs j ws.length->Q .none)/\(¬ yz hs j ws.length->Ex cf [])
def jy(K:aV)(cf:Addr):Sp:=ZJ K (wC cf)
def jz:za:=λds Q=>∃(p:iZ),ds=[zb p]/\p.tk.length<=100/\Q (.list (sv (p.tk.map (·.2))))
def fK(K:aV):Sp:=JR K jz
theorem sJ:vT jz:=by
 rintro ds Q Q' f ⟨p,e,h,q⟩;exact⟨p,e,h,f _ q⟩
theorem sL{K:aV}:Iq K (fK K) jz:=uW
def Ao:za:=λds Q=>∃(ms:PyData) (ps:List iZ),ds=[OD ms ps]/\ps.length<=100/\(∀p∈ps,p.tk.length<=100)/\Q (.list ((Ag ps).map A9))
def lG(K:aV):Sp:=JR K Ao
def px(K:aV)(n:Nat)(C:Addr)(ak:Addr)(mg:Str->Option Value):Sp:=λvs H Q E=>∃(R:RW) (L:CL) (tv:V) (a b:List PyData) (x:Str) (s s':eP) (r:Res),vs=[.ref R.x,.ref L.c,tv]/\fW K C R H s.said s.left/\iy ak R L H s.env/\bz K R.H0 tv (.tuple [.str "try",.list a,.str x,.list b])/\Ev R.ps n L.dep L.nm (.T a x b) s r s'/\∀H',qt R L H H'->fW K C R H' s'.said s'.left->iy ak R L H' s'.env->lq Q r H'/\pd mg E r H'
def nP(K:aV)(C:Addr)(mg:Str->Option Value):Sp:=λvs H Q E=>∃(R:RW) (said:List Int) (left:Int),vs=[.ref R.x]/\fW K C R H said left/\(left<=0->∀C' dd,mg "Weary"=some (.ref C')->E (.ref C') dd H)/\(0 < left->Q .non (upd H R.x (.ins C R.dx (kK R.b R.sd (left - 1)))))
def fL(K:aV)(n:Nat)(C:Addr)(ak:Addr)(mg:Str->Option Value):Sp:=λvs H Q E=>∃(R:RW) (L:CL) (a:Addr) (us:List V) (ts:List PyData) (s s':eP) (r:Res),vs=[.ref R.x,.ref L.c,.ref a]/\fW K C R H s.said s.left/\iy ak R L H s.env/\(bZ K R.H0 a us∨cX K H a us)/\eT K R.H0 us ts/\ts.length<=100/\Ev R.ps n L.dep L.nm (.Es ts) s r s'/\(∀H' l ks,r=.vals ks->kL R H H'->fW K C R H' s'.said s'.left->H l=none->H' l=some (.lst (ks.map V.int))->Q (.ref l) H')/\∀H',kL R H H'->fW K C R H' s'.said s'.left->pd mg E r H'
def gr(K:aV)(n:Nat)(C:Addr)(ak:Addr)(mg:Str->Option Value):Sp:=λvs H Q E=>∃(R:RW) (L:CL) (tv:V) (p:Nat) (ts:List PyData) (s s':eP) (r:Res),vs=[.ref R.x,.ref L.c,tv]/\fW K C R H s.said s.left/\iy ak R L H s.env/\bz K R.H0 tv (.tuple [.str "call",.int (p:Int),.list ts])/\ts.length<=100/\Ev R.ps n L.dep L.nm (.Cl p ts) s r s'/\∀H',kL R H H'->fW K C R H' s'.said s'.left->lq Q r H'/\pd mg E r H'
def ko(_K:aV):Sp:=λvs H Q _=>∃n:Int,vs=[.int n]/\Q (.int (cN n)) H
def mU(_K:aV)(mg:Str->Option Value):Sp:=λvs H Q E=>∃(sign:Str) (a b:Int),vs=[.str sign,.int a,.int b]/\parts sign/\fT a/\fT b/\(b=0->∀C,mg "Nought"=some (.ref C)->E (.ref C) none H)/\(b≠0->Q (.int (rk sign a b)) H)
def lH(_K:aV)(mg:Str->Option Value):Sp:=λvs H Q E=>∃(sign:Str) (a b:Int),vs=[.str sign,.int a,.int b]/\(sign="add"∨sign="sub"∨sign="mul"∨sign="less"∨sign="same"∨parts sign)/\fT a/\fT b/\(parts sign->b=0->∀C,mg "Nought"=some (.ref C)->E (.ref C) none H)/\((parts sign->b≠0)->Q (.int (rk sign a b)) H)
def ic(K:aV)(n:Nat)(C:Addr)(ak:Addr)(mg:Str->Option Value):Sp:=λvs H Q E=>∃(R:RW) (L:CL) (tv:V) (op:Str) (a b:PyData) (s s':eP) (r:Res),vs=[.ref R.x,.ref L.c,tv]/\fW K C R H s.said s.left/\iy ak R L H s.env/\bz K R.H0 tv (.tuple [.str op,a,b])/\Kk op/\Ev R.ps n L.dep L.nm (.Tw op a b) s r s'/\∀H',kL R H H'->fW K C R H' s'.said s'.left->lq Q r H'/\pd mg E r H'
def i4(_K:aV)(C:Addr):Sp:=λvs H Q _=>∃(x dx l:Addr) (c:Int),vs=[.ref x,.int c,.ref l]/\H x=some (.ins C dx []) /\
 ∀(H':Hp),H' x=some (.ins C dx (OI c l))->(∀c o,c≠x->H c=some o->H' c=some o)->Q .non H'
def dP(K:aV)(n:Nat)(C:Addr)(ak:Addr)(aq:Addr)(mg:Str->Option Value):Sp:=λvs H Q E=>∃(R:RW) (L:CL) (tv:V) (tree:PyData) (s s':eP) (r:Res),vs=[.ref R.x,.ref L.c,tv]/\fW K C R H s.said s.left/\iy ak R L H s.env/\bz K R.H0 tv tree/\Ev R.ps n L.dep L.nm (.E tree) s r s'/\(∀H',kL R H H'->fW K C R H' s'.said s'.left->lq Q r H'/\pd mg E r H')/\∀H' ks a dr l c,r=.rcd ks->kL R H H'->fW K C R H' s'.said s'.left->H l=none->H' a=some (.ins aq dr (OI c l))->H' l=some (.lst (ks.map V.int))->Q (.ref a) H'
def jA(K:aV)(n:Nat)(C:Addr)(ak:Addr)(mg:Str->Option Value):Sp:=λvs H Q E=>∃(R:RW) (L:CL) (tv:V) (t:PyData) (s s':eP) (r:Res),vs=[.ref R.x,.ref L.c,tv]/\fW K C R H s.said s.left/\iy ak R L H s.env/\bz K R.H0 tv t/\Ev R.ps n L.dep L.nm (.N t) s r s'/\∀H',qt R L H H'->fW K C R H' s'.said s'.left->iy ak R L H' s'.env->lq Q r H'/\pd mg E r H'
def ie(K:aV)(n:Nat)(C:Addr)(ak:Addr)(mg:Str->Option Value):Sp:=λvs H Q E=>∃(R:RW) (L:CL) (tv:V) (t:PyData) (s s':eP) (r:Res),vs=[.ref R.x,.ref L.c,tv]/\fW K C R H s.said s.left/\iy ak R L H s.env/\bz K R.H0 tv t/\Ev R.ps n L.dep L.nm (.S t) s r s'/\∀H',qt R L H H'->fW K C R H' s'.said s'.left->iy ak R L H' s'.env->lq Q r H'/\pd mg E r H'
def jT(K:aV)(n:Nat)(C:Addr)(ak:Addr)(mg:Str->Option Value):Sp:=λvs H Q E=>∃(R:RW) (L:CL) (tv:V) (ts:List PyData) (s s':eP) (r:Res),vs=[.ref R.x,.ref L.c,tv]/\fW K C R H s.said s.left/\iy ak R L H s.env/\bz K R.H0 tv (.list ts)/\Ev R.ps n L.dep L.nm (.Ss ts) s r s'/\∀H',qt R L H H'->fW K C R H' s'.said s'.left->iy ak R L H' s'.env->lq Q r H'/\pd mg E r H'
def kr(_K:aV)(C:Addr):Sp:=λvs H Q _=>∃(x dx d:Addr) (p:Int),vs=[.ref x,.int p,.ref d]/\H x=some (.ins C dx []) /\
 ∀(H':Hp),H' x=some (.ins C dx (C2 p d))->(∀c o,c≠x->H c=some o->H' c=some o)->Q .non H'
def nQ(K:aV)(n:Nat)(C:Addr)(mg:Str->Option Value):Sp:=λvs H Q E=>∃(R:RW) (il:Addr) (p:Nat) (dep:Int) (ks:List Int) (m:List Str) (s s':eP) (r:Res),vs=[.ref R.x,.int (p:Int),.ref il,.int dep]/\fW K C R H s.said s.left/\bZ K H il (ks.map V.int)/\Ev R.ps n dep m (.G p ks) s r s'/\∀H',kL R H H'->fW K C R H' s'.said s'.left->lq Q r H'/\pd mg E r H'
def pz(K:aV)(C:Addr)(mg:Str->Option Value):Sp:=λvs H Q _=>∃(R:RW) (il:Addr) (p:Nat) (ks:List Int) (m:List Str) (s s':eP) (r:Res),vs=[.ref R.x,.int (p:Int),.ref il]/\fW K C R H s.said s.left/\bZ K H il (ks.map V.int)/\Ev R.ps 300 1 m (.G p ks) s r s'/\∀H' t ts,kL R H H'->fW K C R H' s'.said s'.left->cX K H' t ts->endOf r=some ts->Q (.ref t) H'
def ig(_K:aV)(C:Addr):Sp:=λvs H Q _=>∃(x dx b:Addr) (bud:Int),vs=[.ref x,.ref b,.int bud]/\H x=some (.ins C dx []) /\
 ∀(sd:Addr) (H':Hp),H sd=none->H' x=some (.ins C dx (kK b sd bud))->H' sd=some (.lst [])->(∀c o,c≠x->H c=some o->H' c=some o)->Q .non H'
def iF(K:aV):Sp:=λvs H Q _=>∃(b il:Addr) (j:Nat) (bud:Int) (ms:PyData) (ps:List iZ) (p:iZ) (ks:List Int) (m:List Str) (s':eP) (r:Res) (ts:List V),vs=[.ref b,.int (j:Int),.ref il,.int bud]/\bz K H (.ref b) (OD ms ps)/\Tv ps/\bZ K H il (ks.map V.int)/\ps[j]?=some p/\(p.tk.map (·.2)++[p.gv]).all lF=true/\ks.length=p.tk.length/\Ev ps 300 1 m (.G j ks) ⟨[],bud,λ_=>none⟩ r s'/\endOf r=some ts/\∀(t u l:Addr) (H':Hp),bf H H'->H l=none->cX K H' t [.ref u,.ref l,.int s'.left]->cX K H' u ts->H' l=some (.lst (s'.said.map V.int))->Q (.ref t) H'
def wD(K:aV):Sp:=λvs H Q _=>∃(a:Addr) (ns:List Int),vs=[.ref a]/\bZ K H a (ns.map V.int)/\ns.length<=63/\∀H',Q (.bl true) H'
section
variable {P:Program} {w:World} {K:aV} {mg:Str->Option Value} {base:Heap}
theorem Ap:aS ["self","number"] ["self","number"] (dS md):=by walk_at "sc"
theorem Aq{f:Addr}{fd:FuncData}(F:iq K "__init__" "Fault.__init__" md f fd):bL P w K mg base cb 1 f fd ["self","number"] (zH K ["number"]) false:=by
 refine F.ok Ap (λvs H Q E h=>?_) (λcdv A outer s H vs Q E hr h=>?_)
 ·obtain⟨a,C,ys,rfl,hl,_⟩:=h;exact abB (· + 1) hl
 obtain⟨a,C,ys,rfl,hl,hk,hno,e,q⟩:=h;obtain⟨y0,rfl⟩:=U1 hl;refine⟨_,(qO (Mc (pv 0) (pv 1) rfl)),?_⟩;refine⟨_,rfl,_,rfl,a,C,rfl,hk,hno _ (List.Mem.head _),.inl ⟨e,λdx hd hda=>?_⟩⟩;exact q dx hd hda
theorem C3:aS ["self","value"] ["self","value"] (dS oZ):=by walk_at "sc"
theorem C4{f:Addr}{fd:FuncData}(F:iq K "__init__" "Gave.__init__" oZ f fd):bL P w K mg base cb 1 f fd ["self","value"] (zH K ["value"]) false:=by
 refine F.ok C3 (λvs H Q E h=>?_) (λcdv A outer s H vs Q E hr h=>?_)
 ·obtain⟨a,C,ys,rfl,hl,_⟩:=h;exact abB (· + 1) hl
 obtain⟨a,C,ys,rfl,hl,hk,hno,e,q⟩:=h;obtain⟨y0,rfl⟩:=U1 hl;refine⟨_,(qO (Mc (pv 0) (pv 1) rfl)),?_⟩;refine⟨_,rfl,_,rfl,a,C,rfl,hk,hno _ (List.Mem.head _),.inl ⟨e,λdx hd hda=>?_⟩⟩;exact q dx hd hda
theorem my:aS ["_law_found","_law_due","_law_word_here"] ["_law_found","_law_due"] (dS la):=by walk_at "sc"
theorem t9{f:Addr}{fd:FuncData}(F:iq K "_law_alike" "_law_alike" la f fd)(sM:mg "bool"=none)(nR:mg "int"=none)(cz:mg "isinstance"=none)(jU:mg "len"=none)(i5:mg "list"=none)(nS:mg "tuple"=none){aq:Addr}(aJ:aw K aq){ak:Addr}(aL:aA K ak)(nT:IsT K "bool" (qa "bool"))(sO:IsT K "int" JY)(nU:IsT K "list" (qa "list"))(lI:IsT K "tuple" (qa "tuple")):bL P w K mg base cb 1 f fd ["_law_found","_law_due"] (iz K):=by
 refine F.ok my (λvs H Q E h=>?_) (λcdv A outer s H vs Q E hr h=>?_)
 ·obtain⟨PP,ds,hP,hv,w,ks,ns,l,rfl,h1,h2,hc,q⟩:=h;exact hv.1
 obtain⟨PP,ds,hP,hv,w,ks,ns,l,rfl,h1,h2,hc,q⟩:=h;refine fF hP hv ?_;show rT _ _ _ _ [some _,some _,none] [];clear hP hv;refine aH (bg (zM.dt (uU (rK (rJ (v3 lI rfl cz rfl nS EW (ae 0)))) (uU (Mj (hr.units) (oN rfl jU (aa (ae 0) ah)) ax) (rL (rK (rJ (v3 nU rfl cz rfl i5 qB (av (n:=1) (ae 0))))))))) (aF (bc Mf)) aP) (λR kk=>?_);walk_at "vc";refine D3 rfl (D3 rfl (D3 rfl (kk _ _ ?_)));clear kk R;refine aH (rS abp rfl (rP (bj (bj (av (n:=1) (ae 0)) (aG (aa (av (n:=2) (ae 0)) ah))) (Bz rfl i5 (aa (Bv (av (n:=0) (ae 0)) (qH ax) qG) ah)))) (fD (i:=2) my.nd rfl (aac rfl)) (aF (bg (zM.dt (uU (rK (rJ (v3 sO rfl cz rfl nR zy (ae 2)))) (rL (rJ (v3 nT rfl cz rfl sM Jq (ae 2)))))) (aF (bc Mf)) aP))) (λR kk=>?_);walk_at "vc";rw[Vf ks h1,show [PyData.int l]=bo [l]from rfl,← ve,← ve,pj,pj,pj];refine⟨by omega,by rw[aaZ];show ns.length + 1 + ks.length<=1000000;omega,?_⟩;refine nE (λi env st=>∃o,env=[some (.dat (.tuple [.tuple (.str w::bo ks),.list (bo ns),.int l])),some (.dat (.tuple [.tuple (.str w::bo ks),.list (bo ns),.int l])),o]/\st=[]) ⟨_,rfl,rfl⟩ (λ_ _ _ _=>trivial) ?_ ?_
 ·rintro i env st d hd ⟨o,rfl,rfl⟩;obtain⟨k,rfl⟩:=Kv hd;walk_at "vc";exact D3 rfl (D3 rfl ⟨_,rfl,rfl⟩)
 ·rintro env st ⟨o,rfl,rfl⟩;refine kk _ _ ?_;clear kk R;refine du (bc (Mh (hr.units) (ae 0) (ae 1))) ?_;walk_at "vc";have sh:Sh 4 (.tuple [.tuple (.str w::bo ks),.list (bo ns),.int l]):=rW (aK (rW (aK (j9 hc) (zV λ_ _=>oP))) (aK (eG (zV λ_ _=>oP)) (aK oP bJ)));refine⟨⟨sh.ok,sh.ok⟩,?_⟩;rw[sh.self];exact q
theorem ku:aS ["_law_source_here","_law_many","_law_cell"] ["_law_source_here","_law_many"] (dS mI):=by walk_at "sc"
theorem wF{f:Addr}{fd:FuncData}(F:iq K "_law_next" "_law_next" mI f fd)(jU:mg "len"=none){aq:Addr}(aJ:aw K aq){ak:Addr}(aL:aA K ak):bL P w K mg base cb 1 f fd ["_law_source_here","_law_many"] (gP K):=by
 refine F.ok ku (λvs H Q E h=>?_) (λcdv A outer s H vs Q E hr h=>?_)
 ·obtain⟨GG,Vj,Vk,Vl,hI,hv,src,m,rfl,rfl,h0,hm,q⟩:=h;exact hv.1
 obtain⟨GG,Vj,Vk,Vl,hI,hv,src,m,rfl,rfl,h0,hm,q⟩:=h;refine uY hI hv ?_;show rT _ _ _ _ [some _,some _,none] _;clear hI hv;obtain⟨x,r,rfl⟩:∃x r,src=x::r:=by cases src with | nil=>exact absurd rfl h0.ne | cons x r=>exact⟨x,r,rfl⟩
 rw[show bo (x::r)=.int x::bo r from rfl];refine aH (aI (i:=2) ku.nd rfl (aac rfl) (c6 (bV (vQ (av (n:=0) (ae 0)) ax) ax) ax)) (λR kk=>?_);walk_at "vc";refine⟨.inl (.inr ⟨by decide,by decide⟩),by decide,⟨by decide,by decide⟩,kk _ _ ?_⟩;clear kk R;refine aH (bg (mv (oN rfl jU (aa (ae 0) ah)) ax) (aF (aI (i:=2) ku.nd rfl (aac rfl) (Gb (ae 0) (aa ax ah)))) aP) (λR kk=>?_)
 have nx:∀(c:Int) (r':List Int),r'.length<=r.length->R [some (.ref 0),some (.dat (.int m)),some (.dat (.int c))] [.live (.int x::bo r')]:=λc r' hl=>by
  refine kk _ _ ?_;clear kk R;refine aH (rR (bV (bj (bj (vQ (av (n:=0) (ae 0)) ax) (bV (ae 2) ax)) ax) ax) (FN (ae 0) ax)) (λR kk=>?_);walk_at "vc";refine⟨.inl (.inr ⟨by decide,by decide⟩),by decide,by decide,0,?_,kk _ _ ?_⟩
  ·unfold ER;rw[if_pos (by decide),if_pos (by omega)];rfl
  clear kk R;rw[List.set_cons_zero];refine du (bc (bV (ae 2) (ae 1))) ?_;walk_at "vc";refine⟨hm,q _ (_::r') (Int.emod_nonneg _ (by omega)) (Int.emod_lt_of_pos _ hm) ⟨by simp,?_⟩⟩;have:=h0.few;rw[List.length_cons]at this ⊢;omega
 clear kk;walk_at "vc"
 cases r with
 | nil=>exact bK (by decide) (nx _ [] (aai _))
 | cons y r =>
  refine iM (by show(1:Int) < (((bo r).length + 1 + 1:Nat):Int);omega) ⟨rfl,1,.int y,?_,rfl,by decide,by decide,nx y r (Nat.le_succ _)⟩;show seqIndex? 1 ((bo r).length + 1 + 1)=some 1;unfold seqIndex?;show(if (decide ((0:Int)<=1)&&decide ((1:Int) < (((bo r).length + 1 + 1:Nat):Int)))=true then some 1 else none)=some 1;rw[if_pos (by simp;omega)]
theorem ua:aS ["_law_names","_law_what"] ["_law_names","_law_what"] (dS lg):=by walk_at "sc"
theorem ub{f:Addr}{fd:FuncData}(F:iq K "_law_named" "_law_named" lg f fd)(nR:mg "int"=none){aq:Addr}(aJ:aw K aq){ak:Addr}(aL:aA K ak):bL P w K mg base cb 1 f fd ["_law_names","_law_what"] (iA K):=by
 refine F.ok ua (λvs H Q E h=>?_) (λcdv A outer s H vs Q E hr h=>?_)
 ·obtain⟨PP,ds,hP,hv,a,b,y,x,rfl,q⟩:=h;exact hv.1
 obtain⟨PP,ds,hP,hv,a,b,y,x,rfl,q⟩:=h;refine fF hP hv ?_;show rT _ _ _ _ [some _,some _] [];clear hP hv;refine aH (bg (zM.dt (uU (cy (hr.units) (ae 1) aj) (rL (cy (hr.units) (ae 1) aj)))) (aF (bc (au (aa aj (aa (fU (ae 0) (FK rfl nR (aa (Mh (hr.units) (ae 1) aj) ah)) (λ_ _=>rfl)) ah))))) aP) (λR kk=>?_)
 cases x with
 | n =>
  dsimp only[Wv.D];walk_at "vc";exact iM rfl (kT ⟨_,rfl,q⟩)
 | v =>
  dsimp only[Wv.D];walk_at "vc";exact bK (by decide +kernel) (iM rfl ⟨_,rfl,q⟩)
 | w k =>
  dsimp only[Wv.D];walk_at "vc";refine⟨⟨rfl,by decide +kernel⟩,D3 rfl ⟨⟨rfl,by decide +kernel⟩,D3 rfl (kk _ _ ?_)⟩⟩;clear kk R;refine du (bc (au (aa aj (aa (ae 1) ah)))) ?_;walk_at "vc";exact q
theorem ay:aS ["_law_thing_here","_law_names","_law_deep","_law_v","_law_arg","_law_s","_law_less","_law_turns","_law_y","_law_second"] ["_law_thing_here","_law_names","_law_deep"] (dS oS):=by walk_at "sc"
theorem yA{n:Nat}{f:Addr}{fd:FuncData}(F:iq K "_law_row" "_law_row" oS f fd){aq:Addr}(aJ:aw K aq){ak:Addr}(aL:aA K ak)(bh:eM P w K mg base cb "_law_body" (n + 1) ["_law_things_here","_law_names","_law_deep"] (gQ K n))(ky:eM P w K mg base cb "_law_named" 1 ["_law_names","_law_what"] (iA K)):bL P w K mg base cb (n + 1 + 1) f fd ["_law_thing_here","_law_names","_law_deep"] (ki K (n + 1)):=by
 refine F.ok ay (λvs H Q E h=>?_) (λcdv A outer s H vs Q E hr h=>?_)
 ·obtain⟨PP,ds,hP,hv,x,a,b,y,j,m,k,hn,rfl,hw,hj,hy,hc,q⟩:=h;exact hv.1
 obtain⟨PP,ds,hP,hv,x,a,b,y,j,m,k,hn,rfl,hw,hj,hy,hc,q⟩:=h;refine fF hP hv ?_;show rT _ _ _ _ [some _,some _,some _,none,none,none,none,none,none,none] [];clear hP hv;refine aH (aI (i:=3) ay.nd rfl (aac rfl) (au (aa aj (aa (av (n:=1) (ae 1)) ah)))) (λR kk=>?_);walk_at "vc";refine kk _ _ ?_;clear kk R;refine aH (bg (cy (hr.units) (av (n:=0) (ae 0)) aj) (aF (bc (aG (aa (au (aa aj (aa (av (n:=1) (ae 1)) (aa (au (aa aj (aa (av (n:=1) (ae 0)) ah))) ah)))) ah)))) aP) (λR kk=>?_)
 cases x with
 | sim s =>
  cases s with
  | say x =>
   dsimp only[Tg.D,yu.D];walk_at "vc";refine bK (by decide +kernel) (kk _ _ ?_);clear kk R;refine aH (bg (cy (hr.units) (av (n:=0) (ae 0)) aj) (aE (aI (i:=4) ay.nd rfl (Or.inl rfl) (au (aa aj (aa (au (aa aj (aa (av (n:=0) (ae 1)) ah))) (aa (au (aa aj (aa ax ah))) ah)))))
   (aE (bg (jf (av (n:=2) (ae 0)) iY) (aF (aI (i:=4) ay.nd rfl (aac rfl) (au (aa aj (aa (av (n:=2) (ae 0)) ah))))) aP)
   (aE (aI (i:=5) ay.nd rfl (aac rfl) (au (aa aj (aa (au (aa aj (aa (av (n:=1) (ae 0)) (aa (aG (aa (ae 4) ah)) ah)))) ah))))
   (aE (bg (mv (av (n:=3) (ae 0)) ax) (aF (aI (i:=5) ay.nd rfl (aac rfl) (au (aa aj (aa (au (aa aj (aa (av (n:=0) (ae 1)) ah))) (aa (aG (aa (ae 5) ah)) (aa (aG ah) ah))))))) aP)
   (aF (bc (aG (aa (ae 5) ah)))))))) aP) (λR kk=>?_)
   walk_at "vc";refine bK (by decide +kernel) (kk _ _ ?_);clear kk R;refine aH (bg (cy (hr.units) (av (n:=0) (ae 0)) aj) (aE (aI (i:=6) ay.nd rfl (aac rfl) (au (aa aj (aa (av (n:=1) (ae 1)) (aa (au (aa aj (aa (ae 3) (aa (au (aa aj (aa ax ah))) ah)))) ah)))))
   (aE (aI (i:=7) ay.nd rfl (aac rfl) (au (aa aj (aa (ae 3) (aa (bj (bw bh br bp (hr.mono (by omega)) rfl (aa (av (n:=2) (ae 0)) (aa (ae 1) (aa (ae 2) ah)))) (aG (aa (ae 6) ah))) ah)))))
   (aF (bc (aG (aa (au (aa aj (aa (av (n:=1) (ae 1)) (aa (au (aa aj (aa (av (n:=1) (ae 0)) ah))) ah)))) (aa (ae 7) ah))))))) aP) (λR kk=>?_)
   walk_at "vc";refine bK (by decide +kernel) (kk _ _ ?_);clear kk R;refine aH (bg (cy (hr.units) (av (n:=0) (ae 0)) aj) (aE (aI (i:=8) ay.nd rfl (aac rfl) (bj (av (n:=2) (ae 1)) (fU aj (ae 2) (λ_ _=>rfl))))
   (aE (aI (i:=9) ay.nd rfl (aac rfl) (bj (aG (aa (au (aa aj (aa (au (aa aj (aa (ae 8) ah))) ah))) ah)) (bw bh br bp (hr.mono (by omega)) rfl (aa (av (n:=2) (ae 0)) (aa (ae 1) (aa (bj (ae 2) ax) ah))))))
   (aF (bc (aG (aa (au (aa aj (aa (bw bh br bp (hr.mono (by omega)) rfl (aa (av (n:=1) (ae 0)) (aa (ae 1) (aa (bj (ae 2) ax) ah)))) (aa (ae 8) (aa (ae 9) ah))))) ah)))))) aP) (λR kk=>?_)
   walk_at "vc";refine bK (by decide +kernel) (kk _ _ ?_);clear kk R;refine aH (bg (Bx (av (n:=0) (ae 0)) (aG (aa aj (aa aj ah))) rfl) (aF (bc (aG (aa (au (aa (av (n:=2) (ae 0)) (aa (au (aa (av (n:=0) (ae 0)) (aa (au (aa aj (aa (av (n:=1) (ae 0)) ah))) (aa (au (aa aj (aa ax ah))) ah)))) ah))) ah)))) aP) (λR kk=>?_);walk_at "vc";refine⟨⟨rfl,by decide +kernel⟩,D3 (by decide +kernel) (kk _ _ ?_)⟩;clear kk R;refine du (bc (aG (aa (au (aa (av (n:=0) (ae 0)) (aa (bw ky kh kg (hr.mono (by omega)) rfl (aa (ae 1) (aa (av (n:=1) (ae 0)) ah))) ah))) ah))) ?_;walk_at "vc";exact⟨a,b,y,x,rfl,q⟩
  | toss x =>
   dsimp only[Tg.D,yu.D];walk_at "vc";refine bK (by decide +kernel) (kk _ _ ?_);clear kk R;refine aH (bg (cy (hr.units) (av (n:=0) (ae 0)) aj) (aE (aI (i:=4) ay.nd rfl (Or.inl rfl) (au (aa aj (aa (au (aa aj (aa (av (n:=0) (ae 1)) ah))) (aa (au (aa aj (aa ax ah))) ah)))))
   (aE (bg (jf (av (n:=2) (ae 0)) iY) (aF (aI (i:=4) ay.nd rfl (aac rfl) (au (aa aj (aa (av (n:=2) (ae 0)) ah))))) aP)
   (aE (aI (i:=5) ay.nd rfl (aac rfl) (au (aa aj (aa (au (aa aj (aa (av (n:=1) (ae 0)) (aa (aG (aa (ae 4) ah)) ah)))) ah))))
   (aE (bg (mv (av (n:=3) (ae 0)) ax) (aF (aI (i:=5) ay.nd rfl (aac rfl) (au (aa aj (aa (au (aa aj (aa (av (n:=0) (ae 1)) ah))) (aa (aG (aa (ae 5) ah)) (aa (aG ah) ah))))))) aP)
   (aF (bc (aG (aa (ae 5) ah)))))))) aP) (λR kk=>?_)
   walk_at "vc";refine bK (by decide +kernel) (kk _ _ ?_);clear kk R;refine aH (bg (cy (hr.units) (av (n:=0) (ae 0)) aj) (aE (aI (i:=6) ay.nd rfl (aac rfl) (au (aa aj (aa (av (n:=1) (ae 1)) (aa (au (aa aj (aa (ae 3) (aa (au (aa aj (aa ax ah))) ah)))) ah)))))
   (aE (aI (i:=7) ay.nd rfl (aac rfl) (au (aa aj (aa (ae 3) (aa (bj (bw bh br bp (hr.mono (by omega)) rfl (aa (av (n:=2) (ae 0)) (aa (ae 1) (aa (ae 2) ah)))) (aG (aa (ae 6) ah))) ah)))))
   (aF (bc (aG (aa (au (aa aj (aa (av (n:=1) (ae 1)) (aa (au (aa aj (aa (av (n:=1) (ae 0)) ah))) ah)))) (aa (ae 7) ah))))))) aP) (λR kk=>?_)
   walk_at "vc";refine bK (by decide +kernel) (kk _ _ ?_);clear kk R;refine aH (bg (cy (hr.units) (av (n:=0) (ae 0)) aj) (aE (aI (i:=8) ay.nd rfl (aac rfl) (bj (av (n:=2) (ae 1)) (fU aj (ae 2) (λ_ _=>rfl))))
   (aE (aI (i:=9) ay.nd rfl (aac rfl) (bj (aG (aa (au (aa aj (aa (au (aa aj (aa (ae 8) ah))) ah))) ah)) (bw bh br bp (hr.mono (by omega)) rfl (aa (av (n:=2) (ae 0)) (aa (ae 1) (aa (bj (ae 2) ax) ah))))))
   (aF (bc (aG (aa (au (aa aj (aa (bw bh br bp (hr.mono (by omega)) rfl (aa (av (n:=1) (ae 0)) (aa (ae 1) (aa (bj (ae 2) ax) ah)))) (aa (ae 8) (aa (ae 9) ah))))) ah)))))) aP) (λR kk=>?_)
   walk_at "vc";refine bK (by decide +kernel) (kk _ _ ?_);clear kk R;refine aH (bg (Bx (av (n:=0) (ae 0)) (aG (aa aj (aa aj ah))) rfl) (aF (bc (aG (aa (au (aa (av (n:=2) (ae 0)) (aa (au (aa (av (n:=0) (ae 0)) (aa (au (aa aj (aa (av (n:=1) (ae 0)) ah))) (aa (au (aa aj (aa ax ah))) ah)))) ah))) ah)))) aP) (λR kk=>?_);walk_at "vc";refine⟨⟨rfl,by decide +kernel⟩,D3 (by decide +kernel) (kk _ _ ?_)⟩;clear kk R;refine du (bc (aG (aa (au (aa (av (n:=0) (ae 0)) (aa (bw ky kh kg (hr.mono (by omega)) rfl (aa (ae 1) (aa (av (n:=1) (ae 0)) ah))) ah))) ah))) ?_;walk_at "vc";exact⟨a,b,y,x,rfl,q⟩
  | dv r w t =>
   obtain⟨h0,e0,f0⟩:∃h0:Str,(if r=true then("rem" : Str)else "div")=h0/\(h0="div"∨h0="rem"):=by cases r;exact⟨_,rfl,.inl rfl⟩;exact⟨_,rfl,.inr rfl⟩
   rw[Tg.R,yu.R,e0]at q;dsimp only[Tg.D,yu.D];rw[e0];walk_at "vc";refine bK (by rcases f0 with rfl | rfl<;>decide +kernel) (kk _ _ ?_)
   clear kk R;refine aH (bg (cy (hr.units) (av (n:=0) (ae 0)) aj) (aE (aI (i:=4) ay.nd rfl (aac rfl) (au (aa aj (aa (au (aa aj (aa (av (n:=0) (ae 1)) ah))) (aa (au (aa aj (aa ax ah))) ah)))))
   (aE (bg (jf (av (n:=2) (ae 0)) iY) (aF (aI (i:=4) ay.nd rfl (aac rfl) (au (aa aj (aa (av (n:=2) (ae 0)) ah))))) aP)
   (aE (aI (i:=5) ay.nd rfl (aac rfl) (au (aa aj (aa (au (aa aj (aa (av (n:=1) (ae 0)) (aa (aG (aa (ae 4) ah)) ah)))) ah))))
   (aE (bg (mv (av (n:=3) (ae 0)) ax) (aF (aI (i:=5) ay.nd rfl (aac rfl) (au (aa aj (aa (au (aa aj (aa (av (n:=0) (ae 1)) ah))) (aa (aG (aa (ae 5) ah)) (aa (aG ah) ah))))))) aP)
   (aF (bc (aG (aa (ae 5) ah)))))))) aP) (λR kk=>?_)
   walk_at "vc";refine bK (by rcases f0 with rfl | rfl<;>decide +kernel) (kk _ _ ?_)
   clear kk R;refine aH (bg (cy (hr.units) (av (n:=0) (ae 0)) aj) (aE (aI (i:=6) ay.nd rfl (aac rfl) (au (aa aj (aa (av (n:=1) (ae 1)) (aa (au (aa aj (aa (ae 3) (aa (au (aa aj (aa ax ah))) ah)))) ah)))))
   (aE (aI (i:=7) ay.nd rfl (aac rfl) (au (aa aj (aa (ae 3) (aa (bj (bw bh br bp (hr.mono (by omega)) rfl (aa (av (n:=2) (ae 0)) (aa (ae 1) (aa (ae 2) ah)))) (aG (aa (ae 6) ah))) ah)))))
   (aF (bc (aG (aa (au (aa aj (aa (av (n:=1) (ae 1)) (aa (au (aa aj (aa (av (n:=1) (ae 0)) ah))) ah)))) (aa (ae 7) ah))))))) aP) (λR kk=>?_)
   walk_at "vc";refine bK (by rcases f0 with rfl | rfl<;>decide +kernel) (kk _ _ ?_)
   clear kk R;refine aH (bg (cy (hr.units) (av (n:=0) (ae 0)) aj) (aE (aI (i:=8) ay.nd rfl (aac rfl) (bj (av (n:=2) (ae 1)) (fU aj (ae 2) (λ_ _=>rfl))))
   (aE (aI (i:=9) ay.nd rfl (aac rfl) (bj (aG (aa (au (aa aj (aa (au (aa aj (aa (ae 8) ah))) ah))) ah)) (bw bh br bp (hr.mono (by omega)) rfl (aa (av (n:=2) (ae 0)) (aa (ae 1) (aa (bj (ae 2) ax) ah))))))
   (aF (bc (aG (aa (au (aa aj (aa (bw bh br bp (hr.mono (by omega)) rfl (aa (av (n:=1) (ae 0)) (aa (ae 1) (aa (bj (ae 2) ax) ah)))) (aa (ae 8) (aa (ae 9) ah))))) ah)))))) aP) (λR kk=>?_)
   walk_at "vc";refine bK (by rcases f0 with rfl | rfl<;>decide +kernel) (kk _ _ ?_)
   clear kk R;refine aH (bg (Bx (av (n:=0) (ae 0)) (aG (aa aj (aa aj ah))) rfl) (aF (bc (aG (aa (au (aa (av (n:=2) (ae 0)) (aa (au (aa (av (n:=0) (ae 0)) (aa (au (aa aj (aa (av (n:=1) (ae 0)) ah))) (aa (au (aa aj (aa ax ah))) ah)))) ah))) ah)))) aP) (λR kk=>?_);walk_at "vc";exact⟨⟨rfl,by decide +kernel⟩,D2 (by rcases f0 with rfl | rfl<;>decide +kernel) q⟩
  | give w =>
   dsimp only[Tg.D,yu.D];walk_at "vc";refine bK (by decide +kernel) (kk _ _ ?_);clear kk R;refine aH (bg (cy (hr.units) (av (n:=0) (ae 0)) aj) (aE (aI (i:=4) ay.nd rfl (Or.inl rfl) (au (aa aj (aa (au (aa aj (aa (av (n:=0) (ae 1)) ah))) (aa (au (aa aj (aa ax ah))) ah)))))
   (aE (bg (jf (av (n:=2) (ae 0)) iY) (aF (aI (i:=4) ay.nd rfl (aac rfl) (au (aa aj (aa (av (n:=2) (ae 0)) ah))))) aP)
   (aE (aI (i:=5) ay.nd rfl (aac rfl) (au (aa aj (aa (au (aa aj (aa (av (n:=1) (ae 0)) (aa (aG (aa (ae 4) ah)) ah)))) ah))))
   (aE (bg (mv (av (n:=3) (ae 0)) ax) (aF (aI (i:=5) ay.nd rfl (aac rfl) (au (aa aj (aa (au (aa aj (aa (av (n:=0) (ae 1)) ah))) (aa (aG (aa (ae 5) ah)) (aa (aG ah) ah))))))) aP)
   (aF (bc (aG (aa (ae 5) ah)))))))) aP) (λR kk=>?_)
   walk_at "vc";refine bK (by decide +kernel) (kk _ _ ?_);clear kk R;refine aH (bg (cy (hr.units) (av (n:=0) (ae 0)) aj) (aE (aI (i:=6) ay.nd rfl (aac rfl) (au (aa aj (aa (av (n:=1) (ae 1)) (aa (au (aa aj (aa (ae 3) (aa (au (aa aj (aa ax ah))) ah)))) ah)))))
   (aE (aI (i:=7) ay.nd rfl (aac rfl) (au (aa aj (aa (ae 3) (aa (bj (bw bh br bp (hr.mono (by omega)) rfl (aa (av (n:=2) (ae 0)) (aa (ae 1) (aa (ae 2) ah)))) (aG (aa (ae 6) ah))) ah)))))
   (aF (bc (aG (aa (au (aa aj (aa (av (n:=1) (ae 1)) (aa (au (aa aj (aa (av (n:=1) (ae 0)) ah))) ah)))) (aa (ae 7) ah))))))) aP) (λR kk=>?_)
   walk_at "vc";refine bK (by decide +kernel) (kk _ _ ?_);clear kk R;refine aH (bg (cy (hr.units) (av (n:=0) (ae 0)) aj) (aE (aI (i:=8) ay.nd rfl (aac rfl) (bj (av (n:=2) (ae 1)) (fU aj (ae 2) (λ_ _=>rfl))))
   (aE (aI (i:=9) ay.nd rfl (aac rfl) (bj (aG (aa (au (aa aj (aa (au (aa aj (aa (ae 8) ah))) ah))) ah)) (bw bh br bp (hr.mono (by omega)) rfl (aa (av (n:=2) (ae 0)) (aa (ae 1) (aa (bj (ae 2) ax) ah))))))
   (aF (bc (aG (aa (au (aa aj (aa (bw bh br bp (hr.mono (by omega)) rfl (aa (av (n:=1) (ae 0)) (aa (ae 1) (aa (bj (ae 2) ax) ah)))) (aa (ae 8) (aa (ae 9) ah))))) ah)))))) aP) (λR kk=>?_)
   walk_at "vc";refine bK (by decide +kernel) (kk _ _ ?_);clear kk R;refine aH (bg (Bx (av (n:=0) (ae 0)) (aG (aa aj (aa aj ah))) rfl) (aF (bc (aG (aa (au (aa (av (n:=2) (ae 0)) (aa (au (aa (av (n:=0) (ae 0)) (aa (au (aa aj (aa (av (n:=1) (ae 0)) ah))) (aa (au (aa aj (aa ax ah))) ah)))) ah))) ah)))) aP) (λR kk=>?_);walk_at "vc";refine⟨⟨rfl,by decide +kernel⟩,D3 (by decide +kernel) (kk _ _ ?_)⟩;clear kk R;refine du (bc (aG (aa (au (aa (av (n:=0) (ae 0)) (aa (bw ky kh kg (hr.mono (by omega)) rfl (aa (ae 1) (aa (av (n:=1) (ae 0)) ah))) ah))) ah))) ?_;walk_at "vc";exact⟨a,b,y,.w w,rfl,q⟩
  | set w =>
   dsimp only[Tg.D,yu.D];walk_at "vc";exact iM rfl q
 | call p c e =>
  cases c with
  | none =>
   dsimp only[Tg.D,Gr];walk_at "vc";refine bK (by decide +kernel) (kk _ _ ?_);clear kk R;refine aH (bg (cy (hr.units) (av (n:=0) (ae 0)) aj) (aE (aI (i:=4) ay.nd rfl (Or.inl rfl) (au (aa aj (aa (au (aa aj (aa (av (n:=0) (ae 1)) ah))) (aa (au (aa aj (aa ax ah))) ah)))))
   (aE (bg (jf (av (n:=2) (ae 0)) iY) (aF (aI (i:=4) ay.nd rfl (aac rfl) (au (aa aj (aa (av (n:=2) (ae 0)) ah))))) aP)
   (aE (aI (i:=5) ay.nd rfl (aac rfl) (au (aa aj (aa (au (aa aj (aa (av (n:=1) (ae 0)) (aa (aG (aa (ae 4) ah)) ah)))) ah))))
   (aE (bg (mv (av (n:=3) (ae 0)) ax) (aF (aI (i:=5) ay.nd rfl (aac rfl) (au (aa aj (aa (au (aa aj (aa (av (n:=0) (ae 1)) ah))) (aa (aG (aa (ae 5) ah)) (aa (aG ah) ah))))))) aP)
   (aF (bc (aG (aa (ae 5) ah)))))))) aP) (λR kk=>?_)
   walk_at "vc";refine iM rfl (D3 rfl ?_);exact ef (λz=>by rw[Tg.R,kH,aas (by omega)]at q;exact q) (λz=>by rw[Tg.R,kH,aaw (by omega)]at q;exact q)
  | some w =>
   dsimp only[Tg.D,Gr];walk_at "vc";refine bK (by decide +kernel) (kk _ _ ?_);clear kk R;refine aH (bg (cy (hr.units) (av (n:=0) (ae 0)) aj) (aE (aI (i:=4) ay.nd rfl (Or.inl rfl) (au (aa aj (aa (au (aa aj (aa (av (n:=0) (ae 1)) ah))) (aa (au (aa aj (aa ax ah))) ah)))))
   (aE (bg (jf (av (n:=2) (ae 0)) iY) (aF (aI (i:=4) ay.nd rfl (aac rfl) (au (aa aj (aa (av (n:=2) (ae 0)) ah))))) aP)
   (aE (aI (i:=5) ay.nd rfl (aac rfl) (au (aa aj (aa (au (aa aj (aa (av (n:=1) (ae 0)) (aa (aG (aa (ae 4) ah)) ah)))) ah))))
   (aE (bg (mv (av (n:=3) (ae 0)) ax) (aF (aI (i:=5) ay.nd rfl (aac rfl) (au (aa aj (aa (au (aa aj (aa (av (n:=0) (ae 1)) ah))) (aa (aG (aa (ae 5) ah)) (aa (aG ah) ah))))))) aP)
   (aF (bc (aG (aa (ae 5) ah)))))))) aP) (λR kk=>?_)
   walk_at "vc";refine iM rfl (D2 rfl ?_);exact ef (λz=>by rw[Tg.R,kH,aas (by omega)]at q;exact q) (λz=>by rw[Tg.R,kH,aaw (by omega)]at q;exact q)
 | loop w t =>
  obtain⟨Qz,k',rfl,OO⟩:=hw;rw[Tg.cnt]at hc;dsimp only[Tg.D];walk_at "vc";refine bK (by decide +kernel) (kk _ _ ?_);clear kk R;refine aH (bg (cy (hr.units) (av (n:=0) (ae 0)) aj) (aE (aI (i:=4) ay.nd rfl (Or.inl rfl) (au (aa aj (aa (au (aa aj (aa (av (n:=0) (ae 1)) ah))) (aa (au (aa aj (aa ax ah))) ah)))))
   (aE (bg (jf (av (n:=2) (ae 0)) iY) (aF (aI (i:=4) ay.nd rfl (aac rfl) (au (aa aj (aa (av (n:=2) (ae 0)) ah))))) aP)
   (aE (aI (i:=5) ay.nd rfl (aac rfl) (au (aa aj (aa (au (aa aj (aa (av (n:=1) (ae 0)) (aa (aG (aa (ae 4) ah)) ah)))) ah))))
   (aE (bg (mv (av (n:=3) (ae 0)) ax) (aF (aI (i:=5) ay.nd rfl (aac rfl) (au (aa aj (aa (au (aa aj (aa (av (n:=0) (ae 1)) ah))) (aa (aG (aa (ae 5) ah)) (aa (aG ah) ah))))))) aP)
   (aF (bc (aG (aa (ae 5) ah)))))))) aP) (λR kk=>?_)
  walk_at "vc";refine bK (by decide +kernel) (kk _ _ ?_);clear kk R;refine aH (bg (cy (hr.units) (av (n:=0) (ae 0)) aj) (aE (aI (i:=6) ay.nd rfl (aac rfl) (au (aa aj (aa (av (n:=1) (ae 1)) (aa (au (aa aj (aa (ae 3) (aa (au (aa aj (aa ax ah))) ah)))) ah)))))
   (aE (aI (i:=7) ay.nd rfl (aac rfl) (au (aa aj (aa (ae 3) (aa (bj (bw bh br bp (hr.mono (by omega)) rfl (aa (av (n:=2) (ae 0)) (aa (ae 1) (aa (ae 2) ah)))) (aG (aa (ae 6) ah))) ah)))))
   (aF (bc (aG (aa (au (aa aj (aa (av (n:=1) (ae 1)) (aa (au (aa aj (aa (av (n:=1) (ae 0)) ah))) ah)))) (aa (ae 7) ah))))))) aP) (λR kk=>?_)
  walk_at "vc";refine iM rfl ⟨t,a,b,y,j,m,k',by omega,rfl,OO,by omega,hy,by omega,?_⟩;walk_at "vc";have:=t.qe (a:=a) (b:=b) (y:=y) j;exact⟨by show(t.B a b y j).length + 1<=_;omega,q⟩
 | tr t u =>
  obtain⟨k',rfl,Qz,OO⟩:=hw;rw[Tg.cnt]at hc;dsimp only[Tg.D];walk_at "vc";refine bK (by decide +kernel) (kk _ _ ?_);clear kk R;refine aH (bg (cy (hr.units) (av (n:=0) (ae 0)) aj) (aE (aI (i:=4) ay.nd rfl (Or.inl rfl) (au (aa aj (aa (au (aa aj (aa (av (n:=0) (ae 1)) ah))) (aa (au (aa aj (aa ax ah))) ah)))))
   (aE (bg (jf (av (n:=2) (ae 0)) iY) (aF (aI (i:=4) ay.nd rfl (aac rfl) (au (aa aj (aa (av (n:=2) (ae 0)) ah))))) aP)
   (aE (aI (i:=5) ay.nd rfl (aac rfl) (au (aa aj (aa (au (aa aj (aa (av (n:=1) (ae 0)) (aa (aG (aa (ae 4) ah)) ah)))) ah))))
   (aE (bg (mv (av (n:=3) (ae 0)) ax) (aF (aI (i:=5) ay.nd rfl (aac rfl) (au (aa aj (aa (au (aa aj (aa (av (n:=0) (ae 1)) ah))) (aa (aG (aa (ae 5) ah)) (aa (aG ah) ah))))))) aP)
   (aF (bc (aG (aa (ae 5) ah)))))))) aP) (λR kk=>?_)
  walk_at "vc";refine bK (by decide +kernel) (kk _ _ ?_);clear kk R;refine aH (bg (cy (hr.units) (av (n:=0) (ae 0)) aj) (aE (aI (i:=6) ay.nd rfl (aac rfl) (au (aa aj (aa (av (n:=1) (ae 1)) (aa (au (aa aj (aa (ae 3) (aa (au (aa aj (aa ax ah))) ah)))) ah)))))
   (aE (aI (i:=7) ay.nd rfl (aac rfl) (au (aa aj (aa (ae 3) (aa (bj (bw bh br bp (hr.mono (by omega)) rfl (aa (av (n:=2) (ae 0)) (aa (ae 1) (aa (ae 2) ah)))) (aG (aa (ae 6) ah))) ah)))))
   (aF (bc (aG (aa (au (aa aj (aa (av (n:=1) (ae 1)) (aa (au (aa aj (aa (av (n:=1) (ae 0)) ah))) ah)))) (aa (ae 7) ah))))))) aP) (λR kk=>?_)
  walk_at "vc";refine bK (by decide +kernel) (kk _ _ ?_);clear kk R;refine aH (bg (cy (hr.units) (av (n:=0) (ae 0)) aj) (aE (aI (i:=8) ay.nd rfl (aac rfl) (bj (av (n:=2) (ae 1)) (fU aj (ae 2) (λ_ _=>rfl))))
   (aE (aI (i:=9) ay.nd rfl (aac rfl) (bj (aG (aa (au (aa aj (aa (au (aa aj (aa (ae 8) ah))) ah))) ah)) (bw bh br bp (hr.mono (by omega)) rfl (aa (av (n:=2) (ae 0)) (aa (ae 1) (aa (bj (ae 2) ax) ah))))))
   (aF (bc (aG (aa (au (aa aj (aa (bw bh br bp (hr.mono (by omega)) rfl (aa (av (n:=1) (ae 0)) (aa (ae 1) (aa (bj (ae 2) ax) ah)))) (aa (ae 8) (aa (ae 9) ah))))) ah)))))) aP) (λR kk=>?_)
  walk_at "vc";rw[show((j:Int) + 1)=((j + 1:Nat):Int)by omega];refine iM rfl ⟨by decide,_,OR j (by omega),by show y.length + 1<=_;omega,u,a,b,y,j + 1,m,k',by omega,rfl,OO,by omega,hy,by omega,?_⟩;walk_at "vc";have:=u.qe (a:=a) (b:=b) (y:=y) (j + 1);exact⟨by show 1 + (u.B a b y (j + 1)).length<=_;omega,t,a,b,y,j + 1,m,k',by omega,rfl,Qz,by omega,hy,by omega,q⟩
theorem iH:aS ["_law_things_here","_law_names","_law_deep","_law_body_here","_law_thing_here"] ["_law_things_here","_law_names","_law_deep"] (dS mJ):=by walk_at "sc"
theorem wG{n:Nat}{f:Addr}{fd:FuncData}(F:iq K "_law_body" "_law_body" mJ f fd){aq:Addr}(aJ:aw K aq){ak:Addr}(aL:aA K ak)(Ar:eM P w K mg base cb "_law_row" (n + 1) ["_law_thing_here","_law_names","_law_deep"] (ki K n)):bL P w K mg base cb (n + 1 + 1) f fd ["_law_things_here","_law_names","_law_deep"] (gQ K (n + 1)):=by
 refine F.ok iH (λvs H Q E h=>?_) (λcdv A outer s H vs Q E hr h=>?_)
 ·obtain⟨PP,ds,hP,hv,t,a,b,y,j,m,k,hn,rfl,hw,hj,hy,hc,q⟩:=h;exact hv.1
 obtain⟨PP,ds,hP,hv,t,a,b,y,j,m,k,hn,rfl,hw,hj,hy,hc,q⟩:=h;refine fF hP hv ?_;show rT _ _ _ _ [some _,some _,some _,none,none] [];clear hP hv;obtain rfl:n=2 * k + 1:=by omega
 refine aH (aI (i:=3) iH.nd rfl (aac rfl) (aG ah)) (λR kk=>?_);walk_at "vc";refine kk _ _ ?_;clear kk R;refine aH (rS abp rfl (rP (ae 0)) (fD (i:=4) iH.nd rfl (aac rfl)) (aF (aI (i:=3) iH.nd rfl (aac rfl) (bj (ae 3) (bw Ar Al Ak (hr.mono (by omega)) rfl (aa (ae 4) (aa (ae 1) (aa (ae 2) ah)))))))) (λR kk=>?_);walk_at "vc";have lb:=t.qe (a:=a) (b:=b) (y:=y) j;refine nE (λi env st=>∃(t2:Th) (acc:List PyData) (o:Option DV),env=[some (.dat (.list t.D)),some (.dat (.list [.str a,.str b,.str y])),some (.dat (.int (j:Int))),some (.dat (.list acc)),o]/\st=[]/\t2.D=t.D.drop i/\acc++t2.B a b y j=t.B a b y j/\t2.wf m k/\t2.cnt<=t.cnt) ⟨t,[],none,rfl,rfl,rfl,rfl,hw,aai _⟩ (λ_ _ _ _=>trivial) ?_ ?_
 ·rintro i env st dd hd ⟨t2,acc,o,rfl,rfl,e2,e3,w2,c2⟩;have hi:i < t.D.length:=(ft hd).1;rw[abE hi]at e2;rw[jG hi]at hd;cases hd;obtain⟨x,r,hu,ex,er⟩:=Th.U7 e2;obtain⟨wx,wr⟩:=Th.R7 hu w2;have cu:=Th.OQ hu;rw[Th.R8 hu]at e3
  have le:acc.length + (x.R a b y j).length<=120:=by
   have z:=abB List.length e3;rw[aaZ,aaZ]at z;omega
  rw[ex];walk_at "vs";refine⟨x,a,b,y,j,m,k,rfl,rfl,wx,hj,hy,by omega,?_⟩;walk_at "vs";exact⟨by omega,r,acc++x.R a b y j,_,rfl,rfl,er.symm,by rw[List.append_assoc];exact e3,wr,by omega⟩
 ·rintro env st ⟨t2,acc,o,rfl,rfl,e2,e3,w2,c2⟩;refine kk _ _ ?_;clear kk R;refine du (bc (ae 3)) ?_;walk_at "vc";rw[ab8]at e2
  have z:t2=.nil:=by
   cases t2 with
   | nil=>rfl
   | one s r=>cases e2
   | call p a c r=>cases e2
   | loop w a r=>cases e2
   | tr a b r=>cases e2
  subst z;rw[Th.B,aaT]at e3;rw[e3];exact q
theorem cK:aS ["_law_some","_law_cell","_law_parts_here","_law_number","_law_p","_law_n","_law_v","_law_body_here"] ["_law_some","_law_cell"] (dS lh):=by walk_at "sc"
theorem uc{f:Addr}{fd:FuncData}(F:iq K "_law_parts" "_law_parts" lh f fd)(jU:mg "len"=none)(gL:mg "range"=none){aq:Addr}(aJ:aw K aq){ak:Addr}(aL:aA K ak)(bh:eM P w K mg base cb "_law_body" 9 ["_law_things_here","_law_names","_law_deep"] (gQ K 8)):bL P w K mg base cb 10 f fd ["_law_some","_law_cell"] (iB K):=by
 refine F.ok cK (λvs H Q E h=>?_) (λcdv A outer s H vs Q E hr h=>?_)
 ·obtain⟨PP,ds,hP,hv,ts,cell,rfl,hl,hw,q⟩:=h;exact hv.1
 obtain⟨PP,ds,hP,hv,ts,cell,rfl,hl,hw,q⟩:=h;refine fF hP hv ?_;show rT _ _ _ _ [some _,some _,none,none,none,none,none,none] [];clear hP hv;obtain⟨c1,Z9,Om⟩:=wo cell (m:=2) (n:=2) rfl (by decide);obtain⟨c2,ec2,L4⟩:=wo (cell / 2) (m:=2) (n:=2) rfl (by decide);obtain⟨c3,ec3,XR⟩:=wo (cell / 4) (m:=3) (n:=3) rfl (by decide);refine aH (aI (i:=2) cK.nd rfl (aac rfl) (vP ah)) (λR kk=>?_);walk_at "vc";refine kk _ _ ?_;clear kk R;refine aH (aI (i:=3) cK.nd rfl (aac rfl) (au (aa aj ah))) (λR kk=>?_);walk_at "vc";refine kk _ _ ?_;clear kk R;refine aH (rS abp rfl (oO rfl gL (aa (oN rfl jU (aa (ae 0) ah)) ah)) (fD (i:=4) cK.nd rfl (aac rfl)) (aE (aI (i:=5) cK.nd rfl (aac rfl) (bj (Bv aj qG (qH (bj ax (bV (ae 1) ax)))) (fU aj (ae 4) (λ_ _=>rfl))))
   (aE (aI (i:=6) cK.nd rfl (aac rfl) (bj (Bv aj qG (qH (bj ax (bV (c6 (ae 1) ax) ax)))) (fU aj (ae 4) (λ_ _=>rfl))))
   (aE (aI (i:=7) cK.nd rfl (aac rfl) (bj (aG (aa (au (aa aj (aa (ae 6) (aa (ae 3) (aa (au (aa aj (aa ax ah))) ah))))) ah)) (bw bh br bp (hr.mono (by decide)) rfl (aa (fU (ae 0) (ae 4) (λ_ _=>rfl)) (aa (aG (aa (ae 5) (aa (ae 6) (aa (Bv aj qG (qH (bj ax (bV (c6 (ae 1) ax) ax)))) ah)))) (aa ax ah))))))
   (aF (iw (dU (ae 2) (aa (au (aa (aG (aa (au (aa (ae 5) (aa (ae 3) ah))) ah)) (aa (ae 3) (aa (ae 7) (aa (au (aa aj (aa (ae 6) ah))) ah))))) ah)))))))) (λR kk=>?_)
 unfold Sd;walk_at "vc";rw[List.length_map];refine⟨⟨by omega,by omega⟩,?_⟩;refine nE (λi env st=>∃(o4 o5 o6 o7:Option DV),env=[some (.dat (.list (ts.map λt=>.list t.D))),some (.dat (.int cell)),some (.ref 0),some (.dat (.tuple [.str "number"])),o4,o5,o6,o7]/\st=[.live ((lz c1 c2 c3 (ts.take i)).map zb)]) ⟨none,none,none,none,rfl,rfl⟩ (λ_ _ _ _=>trivial) ?_ ?_
 ·rintro i env st dd hd ⟨o4,o5,o6,o7,rfl,rfl⟩;obtain⟨hi,ed⟩:=vV hd;have hi:i < ts.length:=by omega
  obtain⟨t,et⟩:∃t,ts[i]?=some t:=⟨ts[i],jG hi⟩;obtain⟨wt,ct⟩:=hw t (List.mem_of_getElem? et);have eA:p7 (ts.map λt=>PyData.list t.D) (i:Int)=some (.list t.D):=aN (by rw[List.getElem?_map,et];rfl);have e8:=OS i (by omega);obtain⟨s1,s2⟩:=vf c1 Om;have ln:=OP c3 XR;have lb:=t.qe (a:=na c1 i) (b:=nb c2 i) (y:=ny c3) 0;subst ed;refine jg (λR1 k1=>?_);walk_at "vs";rw[Int.zero_add,Z9];refine⟨by decide,by decide,by decide,_,e8,by show _ + 1<=_;omega,k1 _ _ ?_⟩;clear k1 R1;rw[show Txt.slice (Str.ofString "nm") none (some (1 + (c1:Int)))++⟨#[97 + i]⟩=na c1 i from rfl];refine jg (λR1 k1=>?_);walk_at "vs";rw[ec2];refine⟨⟨by decide,by decide⟩,by decide,by decide,by decide,_,e8,by have:=vf c2 L4;show _ + 1<=_;omega,k1 _ _ ?_⟩;clear k1 R1;rw[show Txt.slice (Str.ofString "vw") none (some (1 + (c2:Int)))++⟨#[97 + i]⟩=nb c2 i from rfl];refine jg (λR1 k1=>?_);walk_at "vs";rw[ec3];refine⟨_,eA,⟨by decide,by decide⟩,by decide,by decide,t,na c1 i,nb c2 i,ny c3,0,ts.length,3,rfl,rfl,wt,by omega,ln,by omega,?_⟩;walk_at "vs";refine⟨by show 1 + _<=_;omega,k1 _ _ ?_⟩;clear k1 R1;walk_at "vs";refine⟨rfl,by rw[List.length_map];unfold lz;rw[List.length_mapIdx,List.length_take];omega,_,_,_,_,rfl,?_⟩;rw[List.take_add_one,et];unfold lz;show _=[Ce.live (List.map zb (List.mapIdx _ (List.take i ts++[t])))];rw[List.mapIdx_concat,List.map_append,List.length_take,Nat.min_eq_left (by omega)];rfl
 ·rintro env st ⟨o4,o5,o6,o7,rfl,rfl⟩;refine kk _ _ ?_;clear kk R;refine du (bc (ae 2)) ?_;walk_at "vc";rw[jP,List.take_of_length_le (by omega)];exact q c1 c2 c3 Om L4 XR
theorem qu:aS ["_law_number"] ["_law_number"] (dS ju):=by walk_at "sc"
theorem qv{f:Addr}{fd:FuncData}(F:iq K "_law_wrapped" "_law_wrapped" ju f fd){aq:Addr}(aJ:aw K aq){ak:Addr}(aL:aA K ak):bL P w K mg base cb 1 f fd ["_law_number"] (fJ K):=by
 refine F.ok qu (λvs H Q E h=>?_) (λcdv A outer s H vs Q E hr h=>?_)
 ·obtain⟨n,rfl,q⟩:=h;rfl
 obtain⟨n,rfl,q⟩:=h;refine⟨_,(qO (aW (da j2 (da qX (da mB (pv 0) pI) pI) pI))),?_⟩;exact⟨_,rfl,_,_,rfl,rfl,_,_,rfl,rfl,by decide,_,_,rfl,rfl,q⟩
theorem iI:aS ["_law_parts_here","_law_thing_here","_law_frame","_law_state","_law_arg","_law_found"] ["_law_parts_here","_law_thing_here","_law_frame","_law_state"] (dS mK):=by walk_at "sc"
theorem wH{n:Nat}{f:Addr}{fd:FuncData}(F:iq K "_law_call" "_law_call" mK f fd){aq:Addr}(aJ:aw K aq){ak:Addr}(aL:aA K ak)(mV:eM P w K mg base cb "_law_run" (n + 1) ["_law_parts_here","_law_p","_law_n","_law_deep","_law_state"] (kl K n))(i6:eM P w K mg base cb "_law_wrapped" 1 ["_law_number"] (fJ K)):bL P w K mg base cb (n + 1 + 1) f fd ["_law_parts_here","_law_thing_here","_law_frame","_law_state"] (lD K (n + 1)):=by
 refine F.ok iI (λvs H Q E h=>?_) (λcdv A outer s H vs Q E hr h=>?_)
 ·obtain⟨H0,a,l,fr,pu,tv,ps,q,dt,k,d,r,s,s',rfl,⟨p,c,e,rfl,rfl⟩,hP,hT,I,ev,kq⟩:=h;rfl
 obtain⟨H0,a,l,fr,pu,tv,ps,q,dt,k,d,r,s,s',rfl,⟨p,c,e,rfl,rfl⟩,hP,hT,I,ev,kq⟩:=h;obtain⟨th,x1,x2,x3,rfl,D9,g1,g2,g3⟩:=qb hT (show bf H0 H0 from λ_ _ e=>e);have z1:=bz.bu g1;have z3:=bz.bu g3;subst z1 z3;have hS:=I.s0.tup D9;refine tU (bA (PW.pt (pw_and (tR LX (aQ aU (pv 1) pI (λ_ _=>rfl)) pI (aO _)) (pw_and1 (tR bF (aQ bH (pv 2) pI (λ_ _=>rfl)) pI (aO _))))) (qO (aW eJ)) ba) (λR kk=>?_);rcases ev.Si with⟨⟨he,hk⟩,rfl,rfl⟩ | ⟨nc,ev⟩
 ·exact⟨_,rfl,th,_,_,_,rfl,rfl,hS,aN (j:=3) rfl,_,_,rfl,rfl,_,rfl,iM (by omega) ⟨_,rfl,fr,_,_,_,rfl,rfl,bZ.of I.hf,aN (j:=0) rfl,rfl,_,rfl,iM (by rw[hk]) (kq H _ I rfl)⟩⟩
 have nxt:R [some pu,some (.ref th),some (.ref fr),some (.ref a),none,none] H:=by
  refine kk _ H ?_;clear kk R;refine tU (bA (tR bF (aQ bH (pv 3) pI (λ_ _=>rfl)) pI (aO _)) (qO (aW (dH (pK aY pN)))) ba) (λR kk=>?_);refine⟨_,rfl,a,_,_,_,rfl,rfl,bZ.of I.ha,aN (j:=1) rfl,rfl,_,rfl,?_⟩;rcases ev with⟨hl,rfl,rfl⟩ | ⟨hl,ev⟩
  ·exact iM (by rw[hl]) ⟨MM,λt' ht'=>kq _ _ (I.same (aT ht' _)) ⟨t',rfl,cX.of uS⟩⟩
  refine bK (λz=>hl (V.int.inj z)) (kk _ _ ?_);clear kk R;refine tU (oA (da j2 (aQ bH (pv 3) pI (λ_ _=>rfl)) pI) (oz (pv 3) pI set_list)) (λR kk=>?_);refine⟨_,rfl,a,_,_,_,rfl,rfl,bZ.of I.ha,aN (j:=1) rfl,_,_,rfl,rfl,_,rfl,a,_,_,1,rfl,rfl,I.ha,rfl,?_⟩;have I1:=I.left (s.left - 1);refine kk [some pu,some (.ref th),some (.ref fr),some (.ref a),none,none] (upd H a (.lst [.ref l,.int (s.left - 1),.non])) ?_;clear kk R;generalize upd H a _=H1 at I1 ⊢;refine tU (bA (tR bF (aQ bH (pv 2) pI (λ_ _=>rfl)) pI (aO _)) (qO (aW (dH (pK aY (pK pI pN))))) ba) (λR kk=>?_);refine⟨_,rfl,fr,_,_,_,rfl,rfl,bZ.of I1.hf,aN (j:=2) rfl,rfl,_,rfl,?_⟩;rcases ev with⟨hd,rfl,rfl⟩ | ⟨hd,ff,s1,d1,ev⟩
  ·exact iM (by rw[hd]) ⟨zd,λt' ht'=>kq _ _ (I1.same (aT ht' _)) ⟨t',rfl,cX.of uS⟩⟩
  refine bK (λz=>hd (V.int.inj z)) (kk _ _ ?_);clear kk R;have B6:=I1.s0.tup D9;refine tU (@vN _ 4 _ _ _ _ _ iI.nd rfl (aac rfl) (aQ aU (pv 1) pI (λ_ _=>rfl)) rfl (.inr rfl)) (λR kk=>?_);refine⟨_,rfl,th,_,_,_,rfl,rfl,B6,aN (j:=2) rfl,kk [some pu,some (.ref th),some (.ref fr),some (.ref a),some x2,none] H1 ?_⟩;clear kk R;refine tU (bA (tR zj (pv 4) eJ (aO _)) (qO (bX (i:=4) iI.nd rfl (aac rfl) (cT i6 (hr.mono (by omega)) rfl (pK (da j2 (aQ bH (pv 2) pI (λ_ _=>rfl)) pI) pN)))) ba) (λR kk=>?_)
  have nxt:R [some pu,some (.ref th),some (.ref fr),some (.ref a),some (.int (sE k c)),none] H1:=by
   refine kk _ H1 ?_;clear kk R;refine tU (@vN _ 5 _ _ _ _ _ iI.nd rfl (aac rfl) (cT mV (hr.mono (by omega)) rfl (pK (pv 0) (pK (aQ aU (pv 1) pI (λ_ _=>rfl)) (pK (pv 4) (pK (da mB (aQ bH (pv 2) pI (λ_ _=>rfl)) pI) (pK (pv 3) pN)))))) rfl (.inr rfl)) (λR kk=>?_);refine⟨_,rfl,_,rfl,th,_,_,_,rfl,rfl,B6,aN (j:=1) rfl,_,rfl,_,rfl,fr,_,_,_,rfl,rfl,bZ.of I1.hf,aN (j:=2) rfl,_,_,rfl,rfl,_,rfl,Aj a l H1,a,l,pu,ps,p,sE k c,d + 1,ff,⟨s.said,s.left - 1,0⟩,s1,rfl,bz.same I1.Sb hP,I1.off 0,d1,λH2 fv J hf=>?_⟩;have I2:=I1.back J;refine kk [some pu,some (.ref th),some (.ref fr),some (.ref a),some (.int (sE k c)),some fv] H2 ?_;clear kk R;refine tU (bA (tR uu (aQ aU (pv 5) pI (λ_ _=>rfl)) aY (aO _)) (qO (aW (pv 5))) ba) (λR kk=>?_);rcases ev with⟨w,rfl,hs,rfl,rfl⟩ | ⟨ng,rfl,rfl⟩
   ·obtain⟨tf,rfl,hF⟩:=hf;refine⟨_,rfl,tf,_,_,_,rfl,rfl,hF,aN (j:=0) rfl,rfl,_,rfl,tS rfl (kk _ _ ?_)⟩;clear kk R;refine tU (cO (rg aa1 aa6 aa7 eS (aQ bH (pv 3) pI (λ_ _=>rfl)) (pK (aQ aU (pv 5) pI (λ_ _=>rfl)) pN))) (λR kk=>?_);refine⟨_,rfl,a,_,_,_,rfl,rfl,bZ.of I2.ha,aN (j:=0) rfl,.inl ⟨rfl,_,bZ.of I2.hl⟩,_,rfl,tf,_,_,_,rfl,rfl,hF,aN (j:=1) rfl,l,_,_,rfl,rfl,I2.hl,(by rw[aah];exact aae hs (by decide)),?_⟩;refine kk _ _ ?_;clear kk R;refine Uz (aW eJ) ?_;exact kq _ _ (I2.say w) rfl
   ·cases ff with
    | gave w=>exact absurd rfl (ng w)
    | fault w =>
     obtain⟨tf,rfl,hF⟩:=hf;exact⟨_,rfl,tf,_,_,_,rfl,rfl,hF,aN (j:=0) rfl,rfl,_,rfl,mD (by decide +kernel) ⟨_,rfl,kq _ _ I2 ⟨tf,rfl,hF⟩⟩⟩
    | weary =>
     obtain⟨tf,rfl,hF⟩:=hf;exact⟨_,rfl,tf,_,_,_,rfl,rfl,hF,aN (j:=0) rfl,rfl,_,rfl,mD (by decide +kernel) ⟨_,rfl,kq _ _ I2 ⟨tf,rfl,hF⟩⟩⟩
  cases c with
  | none =>
   cases g2;exact⟨_,rfl,rfl,_,rfl,iM rfl ⟨_,rfl,fr,_,_,_,rfl,rfl,bZ.of I1.hf,aN (j:=0) rfl,_,_,rfl,rfl,_,rfl,nxt⟩⟩
  | some w =>
   cases g2;exact⟨_,rfl,rfl,_,rfl,bK (by intro z;cases z) nxt⟩
 by_cases he:0 < e
 ·exact⟨_,rfl,th,_,_,_,rfl,rfl,hS,aN (j:=3) rfl,_,_,rfl,rfl,_,rfl,iM (by omega) ⟨_,rfl,fr,_,_,_,rfl,rfl,bZ.of I.hf,aN (j:=0) rfl,rfl,_,rfl,bK (λz=>nc ⟨he,V.int.inj z⟩) nxt⟩⟩
 ·exact⟨_,rfl,th,_,_,_,rfl,rfl,hS,aN (j:=3) rfl,_,_,rfl,rfl,_,rfl,bK (by omega) (mi nxt)⟩
theorem nV:aS ["_law_parts_here","_law_thing_here","_law_frame","_law_state","_law_found"] ["_law_parts_here","_law_thing_here","_law_frame","_law_state"] (dS mL):=by walk_at "sc"
theorem wI{n:Nat}{f:Addr}{fd:FuncData}(F:iq K "_law_loop" "_law_loop" mL f fd){aq:Addr}(aJ:aw K aq){ak:Addr}(aL:aA K ak)(iQ:eM P w K mg base cb "_law_do" (n + 1) ["_law_parts_here","_law_things_here","_law_frame","_law_state"] (iP K n))(i6:eM P w K mg base cb "_law_wrapped" 1 ["_law_number"] (fJ K)):bL P w K mg base cb (n + 1 + 1) f fd ["_law_parts_here","_law_thing_here","_law_frame","_law_state"] (lE K (n + 1)):=by
 refine F.ok nV (λvs H Q E h=>?_) (λcdv A outer s H vs Q E hr h=>?_)
 ·obtain⟨H0,a,l,fr,pu,tv,ps,q,dt,k,d,r,s,s',rfl,⟨w,t,rfl,rfl⟩,hP,hT,I,ev,kq⟩:=h;rfl
 obtain⟨H0,a,l,fr,pu,tv,ps,q,dt,k,d,r,s,s',rfl,⟨w,t,rfl,rfl⟩,hP,hT,I,ev,kq⟩:=h;refine⟨_,(qK (oA (aQ aU (pv 1) pI (λ_ _=>rfl)) (oz (pv 2) pI set_list))
   (qK (xu abp (tR uu (aQ bH (pv 2) pI (λ_ _=>rfl)) pI (aO _)) (qK (bX (i:=4) nV.nd rfl (aac rfl) (cT iQ (hr.mono (by omega)) rfl (pK (pv 0) (pK (aQ aU (pv 1) pI (λ_ _=>rfl)) (pK (pv 2) (pK (pv 3) pN))))))
   (qK (bA (tR vp (pv 4) eJ (aO _)) (qO (aW (pv 4))) ba)
   (qK (oA (cT i6 (hr.mono (by omega)) rfl (pK (da j2 (aQ bH (pv 2) pI (λ_ _=>rfl)) pI) pN)) (oz (pv 2) pI set_list))
   (qK (bA (tR bF (aQ bH (pv 3) pI (λ_ _=>rfl)) pI (aO _)) (qO (aW (dH (pK aY pN)))) ba)
   (qO (oA (da j2 (aQ bH (pv 3) pI (λ_ _=>rfl)) pI) (oz (pv 3) pI set_list))))))))
   (qO (aW eJ)))),?_⟩
 obtain⟨th,x1,x2,rfl,D9,g1,g2⟩:=nK hT (show bf H0 H0 from λ_ _ e=>e);have z1:=bz.bu g1;subst z1;have ev:Do ps (n + 1) k d (.W t) {s with v:=w} r s':=by cases ev.iG with | lp h=>exact h
 refine⟨_,rfl,th,_,_,_,rfl,rfl,I.s0.tup D9,aN (j:=1) rfl,?_⟩;refine⟨_,rfl,fr,_,_,1,rfl,rfl,I.hf,rfl,?_⟩;refine⟨λm σ H4=>∃(sj:LS) (o:Option V),m=sj.left.toNat/\σ=[some pu,some (.ref th),some (.ref fr),some (.ref a),o]/\FI H0 a l fr k d H4 sj/\Do ps (n + 1) k d (.W t) sj r s',⟨_,_,none,rfl,rfl,I.v w,ev⟩,?_⟩;rintro m σ H4 ⟨sj,o,rfl,rfl,I4,d4⟩;refine⟨_,rfl,fr,_,_,_,rfl,rfl,bZ.of I4.hf,aN (j:=1) rfl,rfl,_,rfl,?_⟩
 cases d4.iW with
 | w0 hv=>exact tS (by rw[hv]) (kq H4 _ I4 rfl)
 | @wB _ ff _ _ hv d5 =>
  refine mD (λz=>hv (V.int.inj z)) ?_;refine⟨λ_ _=>False,λ_ _ z=>z.elim,_,rfl,_,rfl,th,_,_,_,rfl,rfl,I4.s0.tup D9,aN (j:=2) rfl,_,rfl,_,rfl,H0,a,l,fr,pu,x2,ps,_,_,k,d,some ff,sj,s',rfl,⟨t,rfl,rfl⟩,hP,g2,I4,d5,λH5 fv I5 hf=>?_⟩;exact⟨_,rfl,rfl,_,rfl,mD hf.qP ⟨_,rfl,kq H5 fv I5 hf⟩⟩
 | @wW _ _ s1 hv d5 hl =>
  refine mD (λz=>hv (V.int.inj z)) ?_;refine⟨λ_ _=>False,λ_ _ z=>z.elim,_,rfl,_,rfl,th,_,_,_,rfl,rfl,I4.s0.tup D9,aN (j:=2) rfl,_,rfl,_,rfl,H0,a,l,fr,pu,x2,ps,_,_,k,d,none,sj,s1,rfl,⟨t,rfl,rfl⟩,hP,g2,I4,d5,λH5 fv I5 hf=>?_⟩;have hf:fv=.non:=hf;subst hf;refine⟨_,rfl,rfl,_,rfl,tS rfl ?_⟩;dsimp only[kP];refine⟨_,rfl,fr,_,_,_,rfl,rfl,bZ.of I5.hf,aN (j:=1) rfl,_,_,rfl,rfl,_,rfl,_,rfl,fr,_,_,1,rfl,rfl,I5.hf,rfl,?_⟩;have I6:=I5.v (cN (s1.v - 1));exact⟨_,rfl,a,_,_,_,rfl,rfl,bZ.of I6.ha,aN (j:=1) rfl,rfl,_,rfl,iM (by show V.int s1.left=V.int 0;rw[hl]) ⟨MM,λt' ht'=>kq _ _ (I6.same (aT ht' _)) ⟨t',rfl,cX.of uS⟩⟩⟩
 | @wM _ _ _ s1 _ hv d5 hl hle d6 =>
  refine mD (λz=>hv (V.int.inj z)) ?_;refine⟨_,λ_ _ z=>z,_,rfl,_,rfl,th,_,_,_,rfl,rfl,I4.s0.tup D9,aN (j:=2) rfl,_,rfl,_,rfl,H0,a,l,fr,pu,x2,ps,_,_,k,d,none,sj,s1,rfl,⟨t,rfl,rfl⟩,hP,g2,I4,d5,λH5 fv I5 hf=>?_⟩;have hf:fv=.non:=hf;subst hf;refine⟨_,rfl,rfl,_,rfl,tS rfl ?_⟩;dsimp only[kP];refine⟨_,rfl,fr,_,_,_,rfl,rfl,bZ.of I5.hf,aN (j:=1) rfl,_,_,rfl,rfl,_,rfl,_,rfl,fr,_,_,1,rfl,rfl,I5.hf,rfl,?_⟩;have I6:=I5.v (cN (s1.v - 1));refine⟨_,rfl,a,_,_,_,rfl,rfl,bZ.of I6.ha,aN (j:=1) rfl,rfl,_,rfl,bK (λz=>by have:=V.int.inj z;have:s1.left=0:=this;omega) ?_⟩;dsimp only[kP];exact⟨_,rfl,a,_,_,_,rfl,rfl,bZ.of I6.ha,aN (j:=1) rfl,_,_,rfl,rfl,_,rfl,a,_,_,1,rfl,rfl,I6.ha,rfl,_,(by show(s1.left - 1).toNat < _;omega),⟨s1.said,s1.left - 1,cN (s1.v - 1)⟩,_,rfl,rfl,I6.left _,d6⟩
theorem qf:aS ["_law_parts_here","_law_thing_here","_law_frame","_law_state","_law_found"] ["_law_parts_here","_law_thing_here","_law_frame","_law_state"] (dS oU):=by walk_at "sc"
theorem yB{n:Nat}{f:Addr}{fd:FuncData}(F:iq K "_law_try" "_law_try" oU f fd){aq:Addr}(aJ:aw K aq){ak:Addr}(aL:aA K ak)(iQ:eM P w K mg base cb "_law_do" (n + 1) ["_law_parts_here","_law_things_here","_law_frame","_law_state"] (iP K n)):bL P w K mg base cb (n + 1 + 1) f fd ["_law_parts_here","_law_thing_here","_law_frame","_law_state"] (mS K (n + 1)):=by
 refine F.ok qf (λvs H Q E h=>?_) (λcdv A outer s H vs Q E hr h=>?_)
 ·obtain⟨H0,a,l,fr,pu,tv,ps,q,dt,k,d,r,s,s',rfl,⟨t,u,rfl,rfl⟩,hP,hT,I,ev,kq⟩:=h;rfl
 obtain⟨H0,a,l,fr,pu,tv,ps,q,dt,k,d,r,s,s',rfl,⟨t,u,rfl,rfl⟩,hP,hT,I,ev,kq⟩:=h;refine⟨_,(qK (bX (i:=4) qf.nd rfl (aac rfl) (cT iQ (hr.mono (by omega)) rfl (pK (pv 0) (pK (aQ aU (pv 1) pI (λ_ _=>rfl)) (pK (pv 2) (pK (pv 3) pN))))))
   (qK (bA (PW.pt (pw_or (tR zj (pv 4) eJ (aO _)) (pw_or1 (tR uu (aQ aU (pv 4) pI (λ_ _=>rfl)) aY (aO _))))) (qO (aW (pv 4))) ba)
   (qK (cO (rg aa1 aa6 aa7 eS (aQ bH (pv 3) pI (λ_ _=>rfl)) (pK (aQ aU (pv 4) pI (λ_ _=>rfl)) pN)))
   (qO (aW (cT iQ (hr.mono (by omega)) rfl (pK (pv 0) (pK (aQ aU (pv 1) pI (λ_ _=>rfl)) (pK (pv 2) (pK (pv 3) pN)))))))))),?_⟩
 obtain⟨th,x1,x2,rfl,D9,g1,g2⟩:=nK hT (show bf H0 H0 from λ_ _ e=>e);have hS:=I.s0.tup D9
 have sub:∀(H1:Hp) (x:V) (tt:Th) (r1:Option Fi) (s0 s1:LS) (Qx:VK),FI H0 a l fr k d H1 s0->bz K H0 x (.list tt.D)->Do ps n k d (.L tt) s0 r1 s1->(∀H' fv,FI H0 a l fr k d H' s1->rZ K H' fv r1->Qx fv H')->iP K n [pu,x,.ref fr,.ref a] H1 Qx E0:=λH1 x tt r1 s0 s1 Qx I1 hx d1 qx =>
  ⟨H0,a,l,fr,pu,x,ps,_,_,k,d,r1,s0,s1,rfl,⟨tt,rfl,rfl⟩,hP,hx,I1,d1,qx⟩
 refine⟨_,rfl,_,rfl,th,_,_,_,rfl,rfl,hS,aN (j:=1) rfl,_,rfl,_,rfl,?_⟩
 cases ev.iG with
 | tO d1 hf =>
  refine sub _ _ t r s s' _ I g1 d1 λH1 fv I1 F1=>?_
  cases r with
  | none =>
   have e:fv=.non:=F1;subst e;exact⟨_,rfl,rfl,_,rfl,iM rfl (kT ⟨_,rfl,kq H1 _ I1 rfl⟩)⟩
  | some ff =>
   refine⟨_,rfl,rfl,_,rfl,bK F1.qP ?_⟩
   cases ff with
   | fault w=>exact absurd rfl (hf w)
   | gave w =>
    obtain⟨tf,rfl,hF⟩:=F1;exact⟨_,rfl,tf,_,_,_,rfl,rfl,hF,aN (j:=0) rfl,rfl,_,rfl,mD (by decide +kernel) ⟨_,rfl,kq H1 _ I1 ⟨tf,rfl,hF⟩⟩⟩
   | weary =>
    obtain⟨tf,rfl,hF⟩:=F1;exact⟨_,rfl,tf,_,_,_,rfl,rfl,hF,aN (j:=0) rfl,rfl,_,rfl,mD (by decide +kernel) ⟨_,rfl,kq H1 _ I1 ⟨tf,rfl,hF⟩⟩⟩
 | @tF _ _ w _ _ s1 _ d1 hs d2 =>
  refine sub _ _ t _ s s1 _ I g1 d1 λH1 fv I1 F1=>?_
  obtain⟨tf,rfl,hF⟩:=F1;refine⟨_,rfl,rfl,_,rfl,bK (by intro z;cases z) ⟨_,rfl,tf,_,_,_,rfl,rfl,hF,aN (j:=0) rfl,rfl,_,rfl,tS rfl ?_⟩⟩;dsimp only[kP];refine⟨_,rfl,a,_,_,_,rfl,rfl,bZ.of I1.ha,aN (j:=0) rfl,.inl ⟨rfl,_,bZ.of I1.hl⟩,_,rfl,tf,_,_,_,rfl,rfl,hF,aN (j:=1) rfl,l,_,_,rfl,rfl,I1.hl,(by rw[List.length_map];exact Nat.lt_of_lt_of_le hs (by decide)),?_⟩;have I2:=I1.say w;exact⟨_,rfl,_,rfl,th,_,_,_,rfl,rfl,I2.s0.tup D9,aN (j:=2) rfl,_,rfl,_,rfl,sub _ x2 u r _ s' _ I2 g2 d2 kq⟩
theorem jB:aS ["_law_parts_here","_law_thing_here","_law_frame","_law_state","_law_word_here"] ["_law_parts_here","_law_thing_here","_law_frame","_law_state"] (dS lj):=by walk_at "sc"
theorem ud{n:Nat}{f:Addr}{fd:FuncData}(F:iq K "_law_thing" "_law_thing" lj f fd)(nR:mg "int"=none){aq:Addr}(aJ:aw K aq){ak:Addr}(aL:aA K ak)(yC:eM P w K mg base cb "_law_call" (n + 1) ["_law_parts_here","_law_thing_here","_law_frame","_law_state"] (lD K n))(lJ:eM P w K mg base cb "_law_loop" (n + 1) ["_law_parts_here","_law_thing_here","_law_frame","_law_state"] (lE K n))(sP:eM P w K mg base cb "_law_try" (n + 1) ["_law_parts_here","_law_thing_here","_law_frame","_law_state"] (mS K n)):bL P w K mg base cb (n + 1 + 1) f fd ["_law_parts_here","_law_thing_here","_law_frame","_law_state"] (kj K (n + 1)):=by
 refine F.ok jB (λvs H Q E h=>?_) (λcdv A outer s H vs Q E hr h=>?_)
 ·obtain⟨H0,a,l,fr,pu,tv,ps,q,dt,k,d,r,s,s',rfl,⟨x,rfl,rfl⟩,hP,hT,I,ev,kq⟩:=h;rfl
 obtain⟨H0,a,l,fr,pu,tv,ps,q,dt,k,d,r,s,s',rfl,⟨x,rfl,rfl⟩,hP,hT,I,ev,kq⟩:=h
 have shape:∃(h0:Str) (us:List PyData),x.D=.tuple (.str h0::us):=by
  cases x with
  | sim s=>cases s<;>exact⟨_,_,rfl⟩
  | call p a c=>exact⟨_,_,rfl⟩
  | loop w t=>exact⟨_,_,rfl⟩
  | tr t u=>exact⟨_,_,rfl⟩
 obtain⟨h0,us,ex⟩:=shape;have XS:=hT;rw[ex]at XS;obtain⟨th,ts,rfl,D9,hlen,hR⟩:=wu XS (show bf H0 H0 from λ_ _ e=>e);obtain⟨y0,ys,rfl⟩:∃y0 ys,ts=y0::ys:=by cases ts with | nil=>cases hlen | cons y0 ys=>exact⟨_,_,rfl⟩
 have z0:=bz.bR (hR 0 y0 _ rfl rfl);subst z0;have hS:=I.s0.tup D9;have hd:∀(o:Option V) (Hx:Hp),cX K Hx th (.str h0::ys)->∀(Qx:VK),Qx (.str h0) Hx->Ql (xD K) (Eo 1) (tC (.int 0)) [some pu,some (.ref th),some (.ref fr),some (.ref a),o] Hx Qx:=λo Hx hx Qx q=>⟨_,rfl,th,_,_,_,rfl,rfl,hx,aN (j:=0) rfl,q⟩
 refine tU (bA (tR bF (aQ aU (pv 1) pI (λ_ _=>rfl)) aY (aO _)) (qO (aW (cT yC (hr.mono (by omega)) rfl (pK (pv 0) (pK (pv 1) (pK (pv 2) (pK (pv 3) pN))))))) ba) (λR kk=>?_);refine hd none _ hS _ ⟨rfl,_,rfl,?_⟩;rcases ev.Sf with⟨hb,d1⟩ | rest
 ·cases x with
  | sim s=>cases hb
  | call p c e =>
   cases ex;exact iM rfl ⟨_,rfl,_,rfl,_,rfl,_,rfl,H0,a,l,fr,pu,.ref th,ps,_,_,k,d,r,s,s',rfl,⟨p,c,e,rfl,rfl⟩,hP,hT,I,d1,kq⟩
  | loop w t =>
   cases ex;refine bK (by decide +kernel) (kk [some pu,some (.ref th),some (.ref fr),some (.ref a),none] H ?_);clear kk R;refine tU (bA (tR bF (aQ aU (pv 1) pI (λ_ _=>rfl)) aY (aO _)) (qO (aW (cT lJ (hr.mono (by omega)) rfl (pK (pv 0) (pK (pv 1) (pK (pv 2) (pK (pv 3) pN))))))) ba) (λR kk=>?_);exact hd none _ hS _ ⟨rfl,_,rfl,iM rfl ⟨_,rfl,_,rfl,_,rfl,_,rfl,H0,a,l,fr,pu,.ref th,ps,_,_,k,d,r,s,s',rfl,⟨w,t,rfl,rfl⟩,hP,hT,I,d1,kq⟩⟩
  | tr t u =>
   cases ex;refine bK (by decide +kernel) (kk _ _ ?_);clear kk R;refine tU (bA (tR bF (aQ aU (pv 1) pI (λ_ _=>rfl)) aY (aO _)) (qO (aW (cT lJ (hr.mono (by omega)) rfl (pK (pv 0) (pK (pv 1) (pK (pv 2) (pK (pv 3) pN))))))) ba) (λR kk=>?_);refine hd none _ hS _ ⟨rfl,_,rfl,bK (by decide +kernel) (kk _ _ ?_)⟩;clear kk R;refine tU (bA (tR bF (aQ aU (pv 1) pI (λ_ _=>rfl)) aY (aO _)) (qO (aW (cT sP (hr.mono (by omega)) rfl (pK (pv 0) (pK (pv 1) (pK (pv 2) (pK (pv 3) pN))))))) ba) (λR kk=>?_);exact hd none _ hS _ ⟨rfl,_,rfl,iM rfl ⟨_,rfl,_,rfl,_,rfl,_,rfl,H0,a,l,fr,pu,.ref th,ps,_,_,k,d,r,s,s',rfl,⟨t,u,rfl,rfl⟩,hP,hT,I,d1,kq⟩⟩
 have nb:h0≠"call"/\h0≠"loop"/\h0≠"try":=by
  rcases rest with⟨bq,w,tq,rfl,_⟩ | ⟨h1,xw,e1,hh⟩
  ·cases ex;cases bq<;>decide +kernel
  ·rw[e1]at ex;cases ex;rcases hh with⟨rfl,_⟩ | ⟨rfl,_⟩ | ⟨rfl,_⟩ | ⟨rfl,_⟩<;>decide +kernel
 refine bK (λz=>nb.1 (V.str.inj z)) (kk _ _ ?_);clear kk R;refine tU (bA (tR bF (aQ aU (pv 1) pI (λ_ _=>rfl)) aY (aO _)) (qO (aW (cT lJ (hr.mono (by omega)) rfl (pK (pv 0) (pK (pv 1) (pK (pv 2) (pK (pv 3) pN))))))) ba) (λR kk=>?_);refine hd none _ hS _ ⟨rfl,_,rfl,bK (λz=>nb.2.1 (V.str.inj z)) (kk _ _ ?_)⟩;clear kk R;refine tU (bA (tR bF (aQ aU (pv 1) pI (λ_ _=>rfl)) aY (aO _)) (qO (aW (cT sP (hr.mono (by omega)) rfl (pK (pv 0) (pK (pv 1) (pK (pv 2) (pK (pv 3) pN))))))) ba) (λR kk=>?_);refine hd none _ hS _ ⟨rfl,_,rfl,bK (λz=>nb.2.2 (V.str.inj z)) (kk _ _ ?_)⟩;clear kk R;refine tU (bA (tR uE (aQ aU (pv 1) pI (λ_ _=>rfl)) (eK (pK aY (pK aY pN))) rfl) (qO (aW (dH (pK aY (pK pI pN))))) ba) (λR kk=>?_);refine hd none _ hS _ ⟨zd,λD hD=>?_⟩;have s1:=aT hD (.lst [.str "div",.str "rem"]);have I1:=I.same s1;have B6:=s1.tup hS;refine⟨D,_,rfl,.inl (bZ.of uS),rfl,rfl,_,rfl,?_⟩;rcases rest with⟨bq,w,tq,rfl,rfl,rfl⟩ | ⟨h1,xw,e1,ev⟩
 ·cases ex;exact D2 (by cases bq<;>decide +kernel) ⟨zd,λt' ht'=>kq _ _ (I1.same (aT ht' _)) ⟨t',rfl,cX.of uS⟩⟩
 rw[e1]at ex;cases ex
 obtain⟨y1,rfl⟩:∃y1,ys=[y1]:=by
  cases ys with
  | nil=>cases hlen
  | cons y1 ys=>cases ys with | nil=>exact⟨_,rfl⟩ | cons _ _=>cases hlen
 have w1:=bz.Sj (hR 1 y1 _ rfl rfl);refine D3 (by rcases ev with⟨rfl,_⟩ | ⟨rfl,_⟩ | ⟨rfl,_⟩ | ⟨rfl,_⟩<;>decide +kernel) (kk [some pu,some (.ref th),some (.ref fr),some (.ref a),none] (upd H D (.lst [.str "div",.str "rem"])) ?_)
 clear kk R;generalize upd H D _=H1 at I1 B6 ⊢;refine tU (@vN _ 4 _ _ _ _ _ jB.nd rfl (aac rfl) (aQ aU (pv 1) pI (λ_ _=>rfl)) rfl (.inr rfl)) (λR kk=>?_);refine⟨_,rfl,th,_,_,_,rfl,rfl,B6,aN (j:=1) rfl,kk [some pu,some (.ref th),some (.ref fr),some (.ref a),some y1] H1 ?_⟩;clear kk R;refine tU (bA (PW.pt (pw_or (tR bF (pv 4) aY (aO _)) (pw_or1 (tR bF (pv 4) aY (aO _))))) (qO (bX (i:=4) jB.nd rfl (aac rfl) (aQ bH (pv 2) (lW uv rfl nR zy (pK (vq bF (pv 4) aY (aO _)) pN)) (λ_ _=>rfl)))) ba) (λR kk=>?_)
 have nxt:R [some pu,some (.ref th),some (.ref fr),some (.ref a),some (.int (xw.val k s.v))] H1:=by
  refine kk _ H1 ?_;clear kk R;refine tU (bA (tR bF (aQ aU (pv 1) pI (λ_ _=>rfl)) aY (aO _)) (qO (aW (dH (pK aY (pK (pv 4) pN))))) ba) (λR kk=>?_);refine hd _ _ B6 _ ⟨rfl,_,rfl,?_⟩;rcases ev with⟨rfl,rfl,rfl⟩ | ev
  ·exact iM rfl ⟨_,rfl,zd,λt' ht'=>kq _ _ (I1.same (aT ht' _)) ⟨t',rfl,cX.of uS⟩⟩
  refine bK (by rcases ev with⟨rfl,_⟩ | ⟨rfl,_⟩ | ⟨rfl,_⟩<;>decide +kernel) (kk _ _ ?_)
  clear kk R;refine tU (bA (tR bF (aQ aU (pv 1) pI (λ_ _=>rfl)) aY (aO _)) (qO (aW (dH (pK aY (pK (pv 4) pN))))) ba) (λR kk=>?_);refine hd _ _ B6 _ ⟨rfl,_,rfl,?_⟩;rcases ev with⟨rfl,rfl,rfl⟩ | ev
  ·exact iM rfl ⟨_,rfl,zd,λt' ht'=>kq _ _ (I1.same (aT ht' _)) ⟨t',rfl,cX.of uS⟩⟩
  refine bK (by rcases ev with⟨rfl,_⟩ | ⟨rfl,_⟩<;>decide +kernel) (kk _ _ ?_)
  clear kk R;refine tU (bA (tR bF (aQ aU (pv 1) pI (λ_ _=>rfl)) aY (aO _)) (qO (oA (pv 4) (oz (pv 2) pI set_list))) (qO (cO (rg aa1 aa6 aa7 eS (aQ bH (pv 3) pI (λ_ _=>rfl)) (pK (pv 4) pN))))) (λR kk=>?_);refine hd _ _ B6 _ ⟨rfl,_,rfl,?_⟩;rcases ev with⟨rfl,rfl,rfl⟩ | ⟨rfl,hs,rfl,rfl⟩
  ·refine iM rfl ⟨_,rfl,_,rfl,fr,_,_,1,rfl,rfl,I1.hf,rfl,kk _ _ ?_⟩;clear kk R;exact Uz (aW eJ) (kq _ _ (I1.v _) rfl)
  ·refine bK (by decide +kernel) ⟨_,rfl,a,_,_,_,rfl,rfl,bZ.of I1.ha,aN (j:=0) rfl,.inl ⟨rfl,_,bZ.of I1.hl⟩,_,rfl,l,_,_,rfl,rfl,I1.hl,(by rw[aah];exact aae hs (by decide)),kk _ _ ?_⟩;clear kk R;exact Uz (aW eJ) (kq _ _ (I1.say _) rfl)
 cases xw with
 | n =>
  have w1:y1=.str "n":=w1;subst w1;exact⟨_,rfl,rfl,_,rfl,iM rfl (kT ⟨_,rfl,_,rfl,rfl,.inr ⟨_,rfl,fr,_,_,_,rfl,rfl,bZ.of I1.hf,(by rw[show(if decide (V.str "n"=V.str "v")=true then(1:Int)else 0)=0 by decide +kernel];exact aN (j:=0) rfl),nxt⟩⟩)⟩
 | v =>
  have w1:y1=.str "v":=w1;subst w1;exact⟨_,rfl,rfl,_,rfl,bK (by decide +kernel) ⟨_,rfl,rfl,_,rfl,iM rfl ⟨_,rfl,_,rfl,rfl,.inr ⟨_,rfl,fr,_,_,_,rfl,rfl,bZ.of I1.hf,(by rw[show(if decide (V.str "v"=V.str "v")=true then(1:Int)else 0)=1 by decide +kernel];exact aN (j:=1) rfl),nxt⟩⟩⟩⟩
 | w kk' =>
  have w1:y1=.int kk':=w1;subst w1;exact⟨_,rfl,rfl,_,rfl,bK (by intro z;cases z) ⟨_,rfl,rfl,_,rfl,bK (by intro z;cases z) nxt⟩⟩
theorem mW:aS ["_law_parts_here","_law_things_here","_law_frame","_law_state","_law_thing_here","_law_found"] ["_law_parts_here","_law_things_here","_law_frame","_law_state"] (dS sr):=by walk_at "sc"
theorem As{n:Nat}{f:Addr}{fd:FuncData}(F:iq K "_law_do" "_law_do" sr f fd){aq:Addr}(aJ:aw K aq){ak:Addr}(aL:aA K ak)(wJ:eM P w K mg base cb "_law_thing" (n + 1) ["_law_parts_here","_law_thing_here","_law_frame","_law_state"] (kj K n)):bL P w K mg base cb (n + 1 + 1) f fd ["_law_parts_here","_law_things_here","_law_frame","_law_state"] (iP K (n + 1)):=by
 refine F.ok mW (λvs H Q E h=>?_) (λcdv A outer s H vs Q E hr h=>?_)
 ·obtain⟨H0,a,l,fr,pu,tv,ps,q,dt,k,d,r,s,s',rfl,⟨t,rfl,rfl⟩,hP,hT,I,ev,kq⟩:=h;rfl
 obtain⟨H0,a,l,fr,pu,tv,ps,q,dt,k,d,r,s,s',rfl,⟨t,rfl,rfl⟩,hP,hT,I,ev,kq⟩:=h;refine⟨_,(qK (vn abp rfl (qA (pv 1)) (gH (i:=4) mW.nd rfl (aac rfl)) (qK (bX (i:=5) mW.nd rfl (aac rfl) (cT wJ (hr.mono (by omega)) rfl (pK (pv 0) (pK (pv 4) (pK (pv 2) (pK (pv 3) pN))))))
   (qO (bA (tR vp (pv 5) eJ (aO _)) (qO (aW (pv 5))) ba))))
   (qO (aW eJ))),?_⟩
 obtain⟨ta,us,rfl,hL,hU⟩:=bz.dZ hT;have lu:us.length=t.D.length:=hU.1;refine⟨_,rfl,ta,rfl,⟨_,I.s0.seq hL⟩,?_⟩;refine xv (xs:=us) (λi σ H2=>∃(u v:Option V) (t2:Th) (si:LS),σ=[some pu,some (.ref ta),some (.ref fr),some (.ref a),u,v]/\FI H0 a l fr k d H2 si/\t2.D=t.D.drop i/\Do ps (n + 1) k d (.L t2) si r s') ⟨none,none,t,s,rfl,I,rfl,ev⟩ ?_ ?_ ?_
 ·rintro i σ H2 _ ⟨u,v,t2,si,rfl,I2,_⟩;exact I2.s0.seq hL
 ·rintro i x σ H2 hx ⟨u,v,t2,si,rfl,I2,e2,d2⟩;have hi:i < t.D.length:=by rw[← lu];exact(ft hx).1
  have hrx:=hU.2 i x _ hx (jG hi);rw[abE hi]at e2
  cases d2.iL with
  | nil=>cases e2
  | @cons _ xx tt _ _ s1 _ hu d3 d4 =>
   obtain⟨e3,e4⟩:=List.cons.inj ((Th.Kp hu).symm.trans e2);rw[← e3]at hrx;refine⟨_,rfl,_,rfl,_,rfl,_,rfl,H0,a,l,fr,pu,x,ps,_,_,k,d,none,si,s1,rfl,⟨_,rfl,rfl⟩,hP,hrx,I2,d3,λH3 fv I3 hf=>?_⟩;have hf:fv=.non:=hf;subst hf;exact⟨_,rfl,rfl,_,rfl,tS rfl ⟨_,_,tt,s1,rfl,I3,e4,d4⟩⟩
  | @consB _ xx tt ff _ _ hu d3 =>
   obtain⟨e3,e4⟩:=List.cons.inj ((Th.Kp hu).symm.trans e2);rw[← e3]at hrx;refine⟨_,rfl,_,rfl,_,rfl,_,rfl,H0,a,l,fr,pu,x,ps,_,_,k,d,some ff,si,s',rfl,⟨_,rfl,rfl⟩,hP,hrx,I2,d3,λH3 fv I3 hf=>?_⟩;exact⟨_,rfl,rfl,_,rfl,mD hf.qP ⟨_,rfl,kq H3 fv I3 hf⟩⟩
 ·rintro σ H2 ⟨u,v,t2,si,rfl,I2,e2,d2⟩;rw[lu,ab8]at e2
  cases d2.iL with
  | nil=>exact kq H2 _ I2 rfl
  | cons hu _ _=>rw[Th.Kp hu]at e2;cases e2
  | consB hu _=>rw[Th.Kp hu]at e2;cases e2
theorem lK:aS ["_law_parts_here","_law_p","_law_n","_law_deep","_law_state","_law_frame","_law_found"] ["_law_parts_here","_law_p","_law_n","_law_deep","_law_state"] (dS oV):=by walk_at "sc"
theorem yD{n:Nat}{f:Addr}{fd:FuncData}(F:iq K "_law_run" "_law_run" oV f fd){aq:Addr}(aJ:aw K aq){ak:Addr}(aL:aA K ak)(iQ:eM P w K mg base cb "_law_do" (n + 1) ["_law_parts_here","_law_things_here","_law_frame","_law_state"] (iP K n)):bL P w K mg base cb (n + 1 + 1) f fd ["_law_parts_here","_law_p","_law_n","_law_deep","_law_state"] (kl K (n + 1)):=by
 refine F.ok lK (λvs H Q E h=>?_) (λcdv A outer s H vs Q E hr h=>?_)
 ·obtain⟨H0,a,l,pu,ps,p,k,d,ff,s,s',rfl,hP,I,ev,kq⟩:=h;rfl
 obtain⟨H0,a,l,pu,ps,p,k,d,ff,s,s',rfl,hP,I,ev,kq⟩:=h;refine⟨_,(qK (bX (i:=5) lK.nd rfl (aac rfl) (eK (pK (pv 2) (pK pI (pK (pv 3) pN)))))
   (qK (bX (i:=6) lK.nd rfl (aac rfl) (cT iQ (hr.mono (by omega)) rfl (pK (pv 0) (pK (aQ bH (pv 0) (pv 1) (λ_ _=>rfl)) (pK (pv 5) (pK (pv 4) pN))))))
   (qK (bA (tR zj (pv 6) eJ (aO _)) (qO (aW (dH (pK aY (pK (aQ bH (pv 5) pI (λ_ _=>rfl)) pN))))) ba)
   (qO (aW (pv 6)))))),?_⟩
 obtain⟨pa,us,rfl,hL,hU⟩:=bz.dZ hP;refine⟨_,rfl,_,rfl,S6,λfr hfr=>?_⟩;have I1:=I.Vg hfr k d
 have go:∀(t:Th),ps[p]?=some t->∃x,us[p]?=some x/\bz K H0 x (.list t.D):=λt ht=>by
  have e:(ps.map λt=>PyData.list t.D)[p]?=some (.list t.D):=by rw[aaO,ht];rfl
  have hp:p < us.length:=by rw[hU.1];exact(ft e).1
  exact⟨us[p],jG hp,hU.2 p _ _ (jG hp) e⟩
 cases ev.iR with
 | @rN _ t _ _ ht d1 =>
  obtain⟨x,hx,rx⟩:=go t ht;refine⟨_,rfl,_,rfl,_,rfl,pa,_,_,_,rfl,rfl,I1.s0.seq hL,aN hx,_,rfl,_,rfl,H0,a,l,fr,_,x,ps,_,_,k,d,none,_,s',rfl,⟨t,rfl,rfl⟩,hP,rx,I1,d1,λH2 fv I2 hf=>?_⟩;have hf:fv=.non:=hf;subst hf;exact⟨_,rfl,rfl,_,rfl,iM rfl ⟨_,rfl,fr,_,_,_,rfl,rfl,bZ.of I2.hf,aN (j:=1) rfl,zd,λt' ht'=>kq _ _ (I2.same (aT ht' _)).toLI ⟨t',rfl,cX.of uS⟩⟩⟩
 | @rB _ t _ _ _ ht d1 =>
  obtain⟨x,hx,rx⟩:=go t ht;refine⟨_,rfl,_,rfl,_,rfl,pa,_,_,_,rfl,rfl,I1.s0.seq hL,aN hx,_,rfl,_,rfl,H0,a,l,fr,_,x,ps,_,_,k,d,some ff,_,s',rfl,⟨t,rfl,rfl⟩,hP,rx,I1,d1,λH2 fv I2 hf=>?_⟩;refine⟨_,rfl,rfl,_,rfl,bK hf.qP ?_⟩;dsimp only[kP];exact⟨_,rfl,kq _ _ I2.toLI hf⟩
theorem fM:aS ["_law_script","_law_start","_law_cell"] ["_law_script"] (dS ka):=by walk_at "sc"
theorem sQ{f:Addr}{fd:FuncData}(F:iq K "_law_source" "_law_source" ka f fd)(i5:mg "list"=none){aq:Addr}(aJ:aw K aq){ak:Addr}(aL:aA K ak):bL P w K mg base cb 1 f fd ["_law_script"] (gI K):=by
 refine F.ok fM (λvs H Q E h=>?_) (λcdv A outer s H vs Q E hr h=>?_)
 ·obtain⟨PP,ds,hP,hv,ns,rfl,Tz,q⟩:=h;exact hv.1
 obtain⟨PP,ds,hP,hv,ns,rfl,Tz,q⟩:=h;refine Ab hP hv ?_;show rT _ _ _ _ [some _,none,none] [];clear hP hv;refine aH (aI (i:=1) fM.nd rfl (aac rfl) ax) (λR kk=>?_);walk_at "vc";refine kk _ _ ?_;clear kk R;refine aH (rS abp rfl (rP (ae 0)) (fD (i:=2) fM.nd rfl (aac rfl)) (aF (aI (i:=1) fM.nd rfl (aac rfl) (bV (bj (vQ (ae 1) ax) (ae 2)) ax)))) (λR kk=>?_);walk_at "vc";refine nE (λi env st=>∃(k:Int) (o:Option DV),env=[some (.dat (.list (bo ns))),some (.dat (.int k)),o]/\st=[]) ⟨_,_,rfl,rfl⟩ (λ_ _ _ _=>trivial) ?_ ?_
 ·rintro i env st d hd ⟨k,o,rfl,rfl⟩;unfold bo at hd;rw[List.getElem?_map]at hd
  cases e:ns[i]? with
  | none=>rw[e]at hd;cases hd
  | some c =>
   rw[e]at hd;cases hd;walk_at "vc";exact⟨.inl (.inr ⟨by decide,by decide⟩),by decide,_,_,rfl,rfl⟩
 ·rintro env st ⟨k,o,rfl,rfl⟩;refine kk _ _ ?_;clear kk R;refine du (bc (JL (aG (aa (ae 1) ah)) (Bz rfl i5 (aa (ae 0) ah)))) ?_;walk_at "vc";exact⟨by rw[show(bo ns).length=ns.length from List.length_map _];omega,q (k::ns) ⟨by simp,by rw[List.length_cons];omega⟩⟩
theorem kz:aS ["_law_cell","_law_way"] ["_law_cell"] (dS mM):=by walk_at "sc"
theorem wK{f:Addr}{fd:FuncData}(F:iq K "_law_word" "_law_word" mM f fd)(fN:mg "divmod"=none){aq:Addr}(aJ:aw K aq){ak:Addr}(aL:aA K ak):bL P w K mg base cb 1 f fd ["_law_cell"] (gU K):=by
 refine F.ok kz (λvs H Q E h=>?_) (λcdv A outer s H vs Q E hr h=>?_)
 ·obtain⟨PP,ds,hP,hv,c,rfl,q⟩:=h;exact hv.1
 obtain⟨PP,ds,hP,hv,c,rfl,q⟩:=h;refine fF hP hv ?_;show rT _ _ _ _ [some _,none] [];clear hP hv;refine aH (rR (oR rfl fN (aa (ae 0) (aa ax ah))) (zR (m:=2) rfl (jQ (fD (i:=0) kz.nd rfl (Or.inl rfl)) (jQ (fD (i:=1) kz.nd rfl (Or.inl rfl)) vX)))) (λR kk=>?_);walk_at "vc";refine⟨⟨by decide,by decide⟩,rfl,kk _ _ ?_⟩;clear kk R;refine aH (bg (x9 (ae 1) ax) (aF (bc (mH (bV (ae 0) ax) ax))) aP) (λR kk=>?_);walk_at "vc";refine ef (λ_=>⟨by decide,q _ (by unfold fT;omega)⟩) λ_=>kk _ _ ?_
 clear kk R;refine aH (bg (cy (hr.units) (ae 1) ax) (aF (bc (mH (bV (vQ (ae 0) ax) ax) ax))) aP) (λR kk=>?_);walk_at "vc";refine ef (λ_=>⟨.inl (.inr ⟨by decide,by decide⟩),by decide,q _ (by unfold fT;omega)⟩) λ_=>kk _ _ ?_
 clear kk R;refine du (bc (fU (aG (aa ax (aa (Fx ax) (aa ax (aa (Fx ax) ah))))) (bV (ae 0) ax) (λ_ _=>rfl))) ?_;walk_at "vc";obtain⟨d,hd,ed⟩:=lZ (xs:=[PyData.int 2147483647,PyData.int (-2147483648),PyData.int 65536,PyData.int (-46341)]) (n:=4) rfl (by decide) (c / 4);refine⟨by decide,d,ed,?_⟩;simp only[List.mem_cons,List.not_mem_nil,or_false]at hd;rcases hd with rfl | rfl | rfl | rfl<;>exact q _ (by unfold fT;omega)
theorem cg:aS ["_law_source_here","_law_many","_law_deep","_law_room","_law_things_here","_law_k","_law_cell","_law_way","_law_arg","_law_first"] ["_law_source_here","_law_many","_law_deep","_law_room"] (dS kb):=by walk_at "sc"
theorem sR{n:Nat}{f:Addr}{fd:FuncData}(F:iq K "_law_things" "_law_things" kb f fd)(fN:mg "divmod"=none)(gL:mg "range"=none){aq:Addr}(aJ:aw K aq){ak:Addr}(aL:aA K ak)(gW:eM P w K mg base cb "_law_next" 1 ["_law_source_here","_law_many"] (gP K))(eB:eM P w K mg base cb "_law_things" (n + 1) ["_law_source_here","_law_many","_law_deep","_law_room"] (en K n))(cY:eM P w K mg base cb "_law_word" 1 ["_law_cell"] (gU K)):bL P w K mg base cb (n + 1 + 1) f fd ["_law_source_here","_law_many","_law_deep","_law_room"] (en K (n + 1)):=by
 refine F.ok cg (λvs H Q E h=>?_) (λcdv A outer s H vs Q E hr h=>?_)
 ·obtain⟨GG,Vj,Vk,Vl,hI,hv,src,many,deep,room,hn,rfl,rfl,h0,Vi,hm,q⟩:=h;exact hv.1
 obtain⟨GG,Vj,Vk,Vl,hI,hv,src,many,deep,room,hn,rfl,rfl,h0,Vi,hm,q⟩:=h;refine uY hI hv ?_;show rT _ _ _ _ [some _,some _,some _,some _,none,none,none,none,none,none] _;clear hI hv;obtain rfl:n=deep:=ab0 hn;refine aH (aI (i:=4) cg.nd rfl (aac rfl) (vP ah)) (λR kk=>?_);walk_at "vc";refine kk _ _ ?_;clear kk R;refine aH (rS abp rfl (oO rfl gL (aa (bj ax (gO (js:=[true,false]) gW jj ji (hr.mono (by omega)) rfl (aa (ae 0) (aa ax ah)))) ah)) (fD (i:=5) cg.nd rfl (aac rfl)) (aE (bg (cy (hr.units) (av (n:=0) (ae 3)) ax) (aF (bc (ae 4))) aP)
   (aE (rR (mH (av (n:=0) (ae 3)) ax) (FN (ae 3) ax))
   (aE (rR (oR rfl fN (aa (gO (js:=[true,false]) gW jj ji (hr.mono (by omega)) rfl (aa (ae 0) (aa (zO ax ax) ah))) (aa ax ah))) (zR (m:=2) rfl (jQ (fD (i:=6) cg.nd rfl (aac rfl)) (jQ (fD (i:=7) cg.nd rfl (aac rfl)) vX))))
   (aF (bg (zM.dt (uU (x9 (ae 7) ax) (rL (zM.dt (FG (cy (hr.units) (ae 2) ax) (By (mv (ae 7) ax))))))) (aF (iw (dU (ae 4) (aa (au (aa aj (aa (fU (aG (aa aj (aa aj (aa (bw cY dO dN (hr.mono (by omega)) rfl (aa (c6 (ae 6) ax) ah)) ah)))) (bV (ae 6) ax) (λ_ _=>rfl)) ah))) ah)))) (aF (bg (cy (hr.units) (ae 7) ax) (aF (iw (dU (ae 4) (aa (au (aa aj (aa (fU (aG (aa aj (aa (bw cY dO dN (hr.mono (by omega)) rfl (aa (c6 (ae 6) ax) ah)) ah))) (bV (ae 6) ax) (λ_ _=>rfl)) ah))) ah)))) (aF (bg (cy (hr.units) (ae 7) ax) (aF (iw (dU (ae 4) (aa (au (aa (fU (aG (aa aj (aa aj ah))) (bV (ae 6) ax) (λ_ _=>rfl)) (aa (bw cY dO dN (hr.mono (by omega)) rfl (aa (c6 (ae 6) ax) ah)) (aa (fU (aG (aa aj (aa aj ah))) (bV (c6 (ae 6) ax) ax) (λ_ _=>rfl)) ah)))) ah)))) (aF (bg (zM.dt (FG (cy (hr.units) (ae 7) ax) (By (cy (hr.units) (bV (ae 6) ax) ax)))) (aF (iw (dU (ae 4) (aa (au (aa aj (aa (bw cY dO dN (hr.mono (by omega)) rfl (aa (c6 (ae 6) ax) ah)) ah))) ah)))) (aF (bg (x9 (ae 7) ax) (aF (iw (dU (ae 4) (aa (au (aa aj (aa (bw cY dO dN (hr.mono (by omega)) rfl (aa (ae 6) ah)) ah))) ah)))) (aF (bg (x9 (ae 7) ax) (aE (aI (i:=8) cg.nd rfl (aac rfl) (fU (aG (aa iY (aa iY (aa iY (aa (bw cY dO dN (hr.mono (by omega)) rfl (aa (c6 (ae 6) ax) ah)) ah))))) (bV (c6 (ae 6) ax) ax) (λ_ _=>rfl)))
   (aF (iw (dU (ae 4) (aa (au (aa aj (aa (bV (c6 (ae 6) ax) (ae 1)) (aa (ae 8) (aa (bV (ae 6) ax) ah))))) ah))))) (aF (bg (x9 (ae 7) ax) (aF (iw (dU (ae 4) (aa (au (aa aj (aa (bj (mH (bV (ae 6) ax) ax) (bV (c6 (ae 6) ax) ax)) (aa (gO (js:=[true,false,false,true]) eB gK gJ (hr.mono (by omega)) rfl (aa (ae 0) (aa (ae 1) (aa (mH (ae 2) ax) (aa (ae 3) ah))))) ah)))) ah)))) (aE (aI (i:=9) cg.nd rfl (aac rfl) (gO (js:=[true,false,false,true]) eB gK gJ (hr.mono (by omega)) rfl (aa (ae 0) (aa (ae 1) (aa (mH (ae 2) ax) (aa (ae 3) ah))))))
   (aF (iw (dU (ae 4) (aa (au (aa aj (aa (ae 9) (aa (gO (js:=[true,false,false,true]) eB gK gJ (hr.mono (by omega)) rfl (aa (ae 0) (aa (ae 1) (aa (mH (ae 2) ax) (aa (ae 3) ah))))) ah)))) ah))))))))))))))))))))))) (λR kk=>?_)
 walk_at "vc";refine⟨by simp,by simp,rfl,src,3,rfl,rfl,h0,by decide,λr0 Sn a0 b0 h1=>⟨rfl,rfl,⟨by omega,by omega⟩,?_⟩⟩;refine nE (U6 many n room) ⟨.nil,Sn,room,_,_,_,_,_,rfl,rfl,trivial,Nat.le_refl _,h1,Nat.zero_add _⟩ (λ_ _ _ _=>trivial) ?_ ?_
 ·rintro i env st d hd ⟨t,src,qc,o5,o6,o7,o8,o9,rfl,rfl,ht,hl,hs,hr'⟩
  have i3:i < 3:=by
   have z:=(vV hd).1;omega
  refine jg (λR1 k1=>?_);walk_at "vs";refine ef (λz=>q t src qc ht (by omega) hs hr') (λz=>k1 _ _ ?_);clear k1 R1;obtain⟨r1,rfl⟩:∃r1,qc=r1 + 1:=⟨qc - 1,by omega⟩;refine jg (λR1 k1=>?_);walk_at "vs";refine⟨0,rfl,k1 _ _ ?_⟩;clear k1 R1;rw[List.set_cons_zero,show(((r1 + 1:Nat):Int) - 1)=(r1:Int)by omega];refine jg (λR1 k1=>?_);walk_at "vs";refine⟨⟨by decide,by decide,by decide⟩,by simp,by simp,rfl,src,_,rfl,rfl,hs,by decide,λr0 wN a2 b2 h2=>⟨rfl,rfl,?_⟩⟩;walk_at "vs";refine⟨⟨by decide,by decide⟩,rfl,k1 _ _ ?_⟩;clear k1 R1
  have fin:∀(u:Th) (r2:Nat) (wO:List Int) (o5 o6 o7 o8 o9:Option DV),u.wf many n->u.D.length=1->mw wO->u.cnt + r2=r1 + 1->t.D.length < 1000000/\U6 many n room (i + 1) [some (.ref 0),some (.dat (.int (many:Int))),some (.dat (.int (n:Int))),some (.ref 1),some (.ref 2),o5,o6,o7,o8,o9] [.live (bo wO),.live [.int (r2:Int)],.live (t.D++u.D)]:=λu r2 wO o5 o6 o7 o8 o9 h1 hu h2 h3 =>
   ⟨by omega,t.app u,wO,r2,o5,o6,o7,o8,o9,rfl,by rw[Th.vd],Th.sD h1 t ht,by rw[Th.vd,aaZ];omega,h2,by rw[Th.nM];omega⟩
  have one:∀(x:yu) (o5 o6 o7 o8 o9:Option DV),x.ok->t.D.length < 1000000/\U6 many n room (i + 1) [some (.ref 0),some (.dat (.int (many:Int))),some (.dat (.int (n:Int))),some (.ref 1),some (.ref 2),o5,o6,o7,o8,o9] [.live (bo wN),.live [.int (r1:Int)],.live (t.D++[x.D])]:=λx o5 o6 o7 o8 o9 hx=>fin (.one x .nil) r1 wN _ _ _ _ _ ⟨hx,trivial⟩ rfl h2 (by rw[Th.cnt,Th.cnt];omega)
  have pick:∀(w:Int),fT w->∃d2,p7 [PyData.str "n",.str "v",.int w] (r0 / 15 % 3)=some d2/\∃x:Wv,d2=x.D/\x.ok:=λw hw=>by
   obtain⟨d',hd',ed⟩:=lZ (xs:=[PyData.str "n",.str "v",.int w]) (n:=3) rfl (by decide) (r0 / 15);simp only[List.mem_cons,List.not_mem_nil,or_false]at hd';rcases hd' with rfl | rfl | rfl
   ·exact⟨_,ed,.n,rfl,trivial⟩
   ·exact⟨_,ed,.v,rfl,trivial⟩
   ·exact⟨_,ed,.w w,rfl,hw⟩
  have Mx:∀(w:Int),fT w->∃d2,p7 [PyData.str "n",.int w] (r0 / 15 % 2)=some d2/\∃x:Wv,d2=x.D/\x.ok:=λw hw=>by
   obtain⟨d',hd',ed⟩:=lZ (xs:=[PyData.str "n",.int w]) (n:=2) rfl (by decide) (r0 / 15);simp only[List.mem_cons,List.not_mem_nil,or_false]at hd';rcases hd' with rfl | rfl
   ·exact⟨_,ed,.n,rfl,trivial⟩
   ·exact⟨_,ed,.w w,rfl,hw⟩
  have pickB:∀(u v:Str) (k:Int),∃d2,p7 [PyData.str u,.str v] (k % 2)=some d2/\∃b:Bool,d2=.str (if b then v else u):=λu v k=>by
   obtain⟨d',hd',ed⟩:=lZ (xs:=[PyData.str u,.str v]) (n:=2) rfl (by decide) k;simp only[List.mem_cons,List.not_mem_nil,or_false]at hd';rcases hd' with rfl | rfl
   ·exact⟨_,ed,false,rfl⟩
   ·exact⟨_,ed,true,rfl⟩
  walk_at "vs";refine Gx ⟨rfl,⟨by decide,by decide⟩,_,rfl,λw hw=>?_⟩ (λzn=>?_)
  ·obtain⟨d2,e,x,rfl,hx⟩:=pick w hw;exact⟨by decide,_,e,one (.say x) _ _ _ _ _ hx⟩
  refine ef (λ_=>⟨rfl,⟨by decide,by decide⟩,_,rfl,λw hw=>?_⟩) (λ_=>?_)
  ·obtain⟨d2,e,x,rfl,hx⟩:=Mx w hw;exact⟨by decide,_,e,one (.toss x) _ _ _ _ _ hx⟩
  refine ef (λ_=>?_) (λ_=>?_)
  ·obtain⟨d1,e1,b1,rfl⟩:=pickB "div" "rem" (r0 / 15);obtain⟨d3,e3,b3,rfl⟩:=pickB "drop" "toss" (r0 / 15 / 2);exact⟨rfl,by decide,_,e1,⟨by decide,by decide⟩,_,rfl,λw hw=>⟨⟨by decide,by decide⟩,by decide,_,e3,one (.dv b1 w b3) _ _ _ _ _ hw⟩⟩
  refine Kw (by decide) ⟨rfl,⟨by decide,by decide⟩,_,rfl,λw hw=>one (.give w) _ _ _ _ _ hw⟩ ?_;refine ef (λ_=>⟨rfl,_,rfl,λw hw=>one (.set w) _ _ _ _ _ hw⟩) (λ_=>?_);clear one pick Mx pickB;refine ef (λ_=>?_) (λz10=>?_)
  ·refine jg (λR1 k1=>?_);walk_at "vs";refine⟨⟨by decide,by decide⟩,_,rfl,λw hw=>⟨⟨by decide,by decide⟩,by decide,?_⟩⟩;obtain⟨d',hd',ed⟩:=lZ (xs:=[PyData.none,.none,.none,.int w]) (n:=4) rfl (by decide) (r0 / 15 / 4)
   obtain⟨c,rfl,hc⟩:∃c:Option Int,d'=Gr c/\∀k,c=some k->fT k:=by
    simp only[List.mem_cons,List.not_mem_nil,or_false]at hd';rcases hd' with rfl | rfl | rfl | rfl
    ·exact⟨none,rfl,λ_ z=>nomatch z⟩
    ·exact⟨none,rfl,λ_ z=>nomatch z⟩
    ·exact⟨none,rfl,λ_ z=>nomatch z⟩
    ·exact⟨some w,rfl,λ_ z=>by cases z;exact hw⟩
   refine⟨_,ed,k1 _ _ ?_⟩;clear k1 R1;walk_at "vs";obtain⟨p,ep,hp⟩:=wo (r0 / 15 / 64) (m:=(many:Int)) (n:=many) rfl hm;obtain⟨e,ee,he⟩:=wo (r0 / 15) (m:=4) (n:=4) rfl (by decide);rw[ep,ee];exact⟨rfl,⟨by decide,by decide⟩,by omega,by decide,fin (.call p c e .nil) r1 wN _ _ _ _ _ ⟨⟨hp,hc,he⟩,trivial⟩ rfl h2 (by rw[Th.cnt,Th.cnt];omega)⟩
  obtain⟨m,rfl⟩:∃m,n=m + 1:=⟨n - 1,by
   have:¬ ((n:Int)=0):=λz=>zn ⟨z,by omega⟩
   omega⟩
  have ca:((m + 1:Nat):Int) - 1=(m:Int):=by omega
  refine ef (λ_=>?_) (λ_=>?_)
  ·rw[ca];exact⟨rfl,by decide,⟨by decide,by decide⟩,by decide,by simp,by simp,rfl,wN,many,m,r1,rfl,rfl,rfl,h2,by omega,hm,λt1 wO r2 w1 l1 h3 e3=>⟨rfl,rfl,fin (.loop (r0 / 15 % 4 - 1 + r0 / 15 / 4 % 2) t1 .nil) r2 wO _ _ _ _ _ ⟨⟨by unfold fT;omega,m,rfl,w1⟩,trivial⟩ rfl h3 (by rw[Th.cnt,Th.cnt];omega)⟩⟩
  ·refine jg (λR1 k1=>?_);walk_at "vs";rw[ca];refine⟨by simp,by simp,rfl,wN,many,m,r1,rfl,rfl,rfl,h2,by omega,hm,λt1 wO r2 w1 l1 h3 e3=>⟨rfl,rfl,k1 _ _ ?_⟩⟩;clear k1 R1;walk_at "vs";rw[ca];exact⟨rfl,by simp,by simp,rfl,wO,many,m,r2,rfl,rfl,rfl,h3,by omega,hm,λt2 Vm r3 w2 l2 h4 e4=>⟨rfl,rfl,fin (.tr t1 t2 .nil) r3 Vm _ _ _ _ _ ⟨⟨m,rfl,w1,w2⟩,trivial⟩ rfl h4 (by rw[Th.cnt,Th.cnt];omega)⟩⟩
 ·rintro env st ⟨t,src,qc,o5,o6,o7,o8,o9,rfl,rfl,ht,hl,hs,hr'⟩;refine kk _ _ ?_;clear kk R;refine du (bc (ae 4)) ?_;walk_at "vc";refine q t src qc ht ?_ hs hr';rw[jP]at hl;omega
theorem Au:aS ["takes","gives"] ["takes","gives"] (dS oW):=by walk_at "sc"
theorem Av{f:Addr}{fd:FuncData}(F:iq K "is_door" "is_door" oW f fd)(yE:mg "all"=none){aq:Addr}(aJ:aw K aq){ak:Addr}(aL:aA K ak):bL P w K mg base cb 1 f fd ["takes","gives"] (kn K):=by
 refine F.ok Au (λvs H Q E h=>?_) (λcdv A outer s H vs Q E hr h=>?_)
 ·obtain⟨tl,g,ys,ks,gk,rfl,hS,hK,hg,kM,q⟩:=h;rfl
 obtain⟨tl,g,ys,ks,gk,rfl,hS,hK,hg,kM,q⟩:=h;refine⟨_,(qO (aW (qZ (E9 rfl) rfl yE Nl (pK (L7 1 ["kind"] [] ⟨rfl,rfl,rfl,rfl,rfl,rfl,rfl,rfl⟩ (qA (da Bl (pv 0) (eK (pK (pv 1) pN)))) (λ_ _ _ _=>⟨(gH (i:=0) (show List.Nodup (["kind"]:List Str)by decide +kernel) rfl (aac rfl)),qC,(vq (r:=Nn K) (zA (hr.units)) (pv 0) (dH (pK aY pN)) (aO _))⟩)) pN)))),?_⟩;have ly:=hK.1;rw[aah]at ly;refine⟨_,rfl,_,rfl,MM,λl1 h1=>?_⟩;have u1:=aT h1 (.lst [g]);refine⟨tl,l1,ys,_,rfl,rfl,u1.seq hS,bZ.of uS,abQ (sK (by show ys.length + 1<=1000;omega)),λl2 h2=>?_⟩;have u2:=aT h2 (.lst (ys++[g]));have U:=u1.trans u2;have g2:=uS (H:=upd H l1 (.lst [g])) (a:=l2) (o:=.lst (ys++[g]));generalize upd (upd H l1 (.lst [g])) l2 (.lst (ys++[g]))=H1 at U g2 ⊢;refine⟨l2,rfl,⟨_,bZ.of g2⟩,λD hD=>?_⟩
 have hA:eT K H (ys++[g]) (sv (ks++[gk])):=by
  unfold sv;rw[List.map_append];exact eT.append hK (.cons hg .nil)
 refine vF (xs:=ys++[g]) (λi zs H2=>bf H1 H2/\H2 D=some (.lst zs)/\zs=(((ks++[gk]).take i).map lF).map V.bl) (abQ (sK (by rw[aaZ];show ys.length + 1<=1000;omega))) ⟨aT hD _,uS,rfl⟩ ?_ ?_ ?_
 ·rintro i zs H2 hi ⟨s2,d2,rfl⟩;refine⟨d2,?_,s2.seq (bZ.of g2)⟩;rw[aah,aah,abq];omega
 ·rintro i x zs H2 hx ⟨s2,d2,rfl⟩
  have hi:i < (ks++[gk]).length:=by
   have:=(ft hx).1;rw[List.length_append]at this ⊢;simp only[List.length_singleton]at this ⊢;omega
  have hr':=hA.2 i x (.tuple (wk (ks++[gk])[i])) hx (by rw[aaO,jG hi];rfl);refine⟨rfl,_,rfl,MM,λt ht=>?_⟩;have s3:=aT ht (.tup [.str "number"]);refine⟨_,_,bz.same (U.trans (s2.trans s3)) hr',.EX (cX.of uS) (.cons (.str _) .nil),Ot _,(by decide +kernel),s3 _ _ d2,yq (s2.trans s3) hD _,uS,?_⟩;rw[Gy,List.take_succ_eq_append_getElem hi,abM,abM];rfl
 ·rintro zs H2 ⟨s2,d2,rfl⟩;have e:(ks++[gk]).take (ys++[g]).length=ks++[gk]:=List.take_of_length_le (by rw[List.length_append,List.length_append];simp only[List.length_singleton];omega);rw[e]at d2;refine⟨D,_,rfl,bZ.of d2,?_⟩;have z:=q H2 (U.trans s2);rw[List.all_map];exact z
theorem mz:aS ["parts","part","inputs","takes"] ["parts","part","inputs"] (dS kc):=by walk_at "sc"
theorem ue{f:Addr}{fd:FuncData}(F:iq K "check_door" "check_door" kc f fd)(jU:mg "len"=none){cf:Addr}(jV:mg "NoDoor"=some (.ref cf))(jW:PySem.W.excIn K cf (rA true) (vG true)=true)(nW:PySem.W.ktsIn K cf "BaseException"=true){aq:Addr}(aJ:aw K aq){ak:Addr}(aL:aA K ak)(C5:eM P w K mg base cb "is_door" 1 ["takes","gives"] (kn K)):bL P w K mg base (dD P w) 2 f fd ["parts","part","inputs"] (jy K cf):=by
 refine F.Cy mz (λvs H Q E h=>?_) (λcdv A outer s H vs Q E hr h=>?_)
 ·obtain⟨PP,ds,hP,hv,hs,j,ws,rfl,kM,q,x⟩:=h;exact hv.1
 obtain⟨PP,ds,hP,hv,hs,j,ws,rfl,kM,q,x⟩:=h;refine CQ (Ex:=λC fs=>∀dd H',bf H H'->RO K PP H' dd fs->E (.ref C) dd H') hP hv (λ_ _ z=>z) ?_;show rT _ _ _ _ [some _,some _,some _,none] [];clear hP hv;refine aH (bg (rK (FX LW ED (xW λ_ _ _=>.bl _) (xW λ_ _ _=>.bl _) ax (ae 1) (oN rfl jU (aa (ae 0) ah)))) (aF (uZ vK rfl jV jW rfl)) aP) (λR kk=>?_);walk_at "vc";have no:¬ yz hs j ws.length->∀(dd:Option Addr) (H':Hp),bf H H'->RO K PP H' dd []->E (.ref cf) dd H':=x;refine ef (λh0=>?_) λh0=>kT (no λ⟨h,z,_⟩=>h0 z)
 obtain⟨jn,rfl⟩:∃n:Nat,j=(n:Int):=⟨j.toNat,by omega⟩;rw[aah];by_cases h1:jn < hs.length;rotate_left
 ·refine mD (by omega) (no λ⟨h,_,z,_⟩=>h1 ?_);rw[Int.toNat_natCast]at z;exact(ft z).1
 refine tS (by omega) (kk _ _ ?_);clear kk R;have hh:hs[jn]?=some hs[jn]:=jG h1;have OW:=kM hs[jn] (ab7 h1);generalize hs[jn]=h at hh OW
 have dj:∀n:Nat,yz hs (jn:Int) n↔(h.1++[h.2]).all lF=true/\n=h.1.length:=λn=>by
  unfold yz;rw[Int.toNat_natCast];exact⟨λ⟨p',_,z,a,b⟩=>by rw[hh]at z;cases z;exact⟨a,b⟩,λ⟨a,b⟩=>⟨h,by omega,hh,a,b⟩⟩
 refine aH (aI (i:=3) mz.nd rfl (aac rfl) (av (n:=0) (fU (ae 0) (ae 1) (λ_ _=>rfl)))) (λR kk=>?_);walk_at "vc";refine⟨_,BE hh,?_⟩;rw[show A9 h=.tuple [.list (sv h.1),.tuple (wk h.2)]from rfl];walk_at "vc";refine kk _ _ ?_;clear kk R;refine du (bg (zM.dt (uU (rK (rJ (bw C5 An Am (hr.mono (by decide)) rfl (aa (ae 3) (aa (av (n:=1) (fU (ae 0) (ae 1) (λ_ _=>rfl))) ah))))) (rL (Mj (hr.units) (oN rfl jU (aa (ae 2) ah)) (oN rfl jU (aa (ae 3) ah)))))) (aF (uZ vK rfl jV jW rfl)) aP) ?_;walk_at "vc";refine⟨_,BE hh,?_⟩;rw[show A9 h=.tuple [.list (sv h.1),.tuple (wk h.2)]from rfl];walk_at "vc";refine⟨h.1,h.2,rfl,OW,?_⟩
 cases hd:(h.1++[h.2]).all lF with
 | false =>
  refine kT (kT (no λz=>?_));rw[((dj _).mp z).1]at hd;cases hd
 | true =>
  refine mi ?_;rw[aah,show(sv h.1).length=h.1.length from aah _];by_cases hl:ws.length=h.1.length
  ·exact tS (by omega) (q ((dj _).mpr ⟨hd,hl⟩))
  ·exact mD (by omega) (no λz=>hl ((dj _).mp z).2)
theorem sS:aS ["part"] ["part"] (dS jv):=by walk_at "sc"
theorem sT{f:Addr}{fd:FuncData}(F:iq K "kinds_taken" "kinds_taken" jv f fd){aq:Addr}(aJ:aw K aq){ak:Addr}(aL:aA K ak):bL P w K mg base cb 1 f fd ["part"] (fK K):=by
 refine F.ok sS (λvs H Q E h=>?_) (λcdv A outer s H vs Q E hr h=>?_)
 ·obtain⟨PP,ds,hP,hv,p,rfl,kM,q⟩:=h;exact hv.1
 obtain⟨PP,ds,hP,hv,p,rfl,kM,q⟩:=h;refine fF hP hv ?_;show rT _ _ _ _ [some _] [];clear hP hv;refine du (bc (Mo 1 ["take"] [] ⟨rfl,rfl,rfl,rfl,rfl,rfl,rfl,rfl⟩ (rP (av (n:=0) (ae 0))) (λ_ _ _ _=>(gH (i:=0) (show List.Nodup (["take"]:List Str)by decide +kernel) rfl (aac rfl))) (CN (i:=0)) (NV (by decide)) (λ_ _ _ _=>⟨zS,(av (n:=1) (ae 0))⟩))) ?_;rw[show zb p=.tuple [.list (p.tk.map Oy),.tuple (wk p.gv),.list p.bd,p.an]from rfl];walk_at "vc";refine Mr p.tk Oy (λt=>.tuple (wk t.2)) rfl (by omega) ?_ ?_
 ·intro i t ht W N hW;rw[show Oy t=.tuple [.str t.1,.tuple (wk t.2)]from rfl];walk_at "vc";rw[aaw rfl];exact⟨rfl,rfl,rfl,hW⟩
 walk_at "vc";rw[show sv (p.tk.map (·.2))=p.tk.map λt=>PyData.tuple (wk t.2)by unfold sv;rw[List.map_map];rfl]at q;exact q
theorem yF:aS ["program"] ["program"] (dS mO):=by walk_at "sc"
theorem yG{f:Addr}{fd:FuncData}(F:iq K "heads_of" "heads_of" mO f fd){aq:Addr}(aJ:aw K aq){ak:Addr}(aL:aA K ak)(uf:eM P w K mg base cb "kinds_taken" 1 ["part"] (fK K)):bL P w K mg base cb 2 f fd ["program"] (lG K):=by
 refine F.ok yF (λvs H Q E h=>?_) (λcdv A outer s H vs Q E hr h=>?_)
 ·obtain⟨PP,ds,hP,hv,ms,ps,rfl,h1,h2,q⟩:=h;exact hv.1
 obtain⟨PP,ds,hP,hv,ms,ps,rfl,h1,h2,q⟩:=h;refine fF hP hv ?_;show rT _ _ _ _ [some _] [];clear hP hv;refine du (bc (Mo 1 ["part"] [] ⟨rfl,rfl,rfl,rfl,rfl,rfl,rfl,rfl⟩ (rP (av (n:=1) (ae 0))) (λ_ _ _ _=>(gH (i:=0) (show List.Nodup (["part"]:List Str)by decide +kernel) rfl (aac rfl))) (CN (i:=0)) (NV (by decide)) (λ_ _ _ _=>⟨zS,(au (aa (bw uf sL sJ (hr.mono (by decide)) rfl (aa (ae 0) ah)) (aa (av (n:=1) (ae 0)) ah)))⟩))) ?_;rw[show OD ms ps=.tuple [ms,.list (ps.map zb)]from rfl];walk_at "vc";refine Mr ps zb (λp=>A9 (p.tk.map (·.2),p.gv)) rfl (by omega) ?_ ?_
 ·intro i p hp W N hW;walk_at "vc";rw[aaw rfl];refine⟨rfl,rfl,p,rfl,h2 p (aaG hp),?_⟩;rw[show zb p=.tuple [.list (p.tk.map Oy),.tuple (wk p.gv),.list p.bd,p.an]from rfl];walk_at "vc";exact⟨rfl,hW⟩
 walk_at "vc";rw[show(Ag ps).map A9=ps.map λp=>A9 (p.tk.map (·.2),p.gv)by unfold Ag;rw[List.map_map];rfl]at q;exact q
theorem jk:aS ["self","call","tree","fault"] ["self","call","tree"] (dS gn):=by walk_at "sc"
theorem nX{n:Nat}{f:Addr}{fd:FuncData}(F:iq K "do_try" "Reading.do_try" gn f fd){bC:Addr}(c9:mg "Weary"=some (.ref bC))(fO:PySem.W.excIn K bC (rA false) (vG false)=true)(fP:PySem.W.ktsIn K bC "BaseException"=true){aZ:Addr}(ij:mg "Gave"=some (.ref aZ))(kA:PySem.W.ktsIn K aZ "BaseException"=true){aD:Addr}(bP:mg "Fault"=some (.ref aD))(cQ:PySem.W.ktsIn K aD "BaseException"=true){aq:Addr}(aJ:aw K aq){ak:Addr}(aL:aA K ak){C:Addr}{wt:Bool}(ac:aC K C)(gx:dR P w K mg base (dD P w) C "do_all" (n + 3) ["self","call","trees"] (jT K n C ak mg))(eW:PySem.W.findIn K (.ref aD) "__getattribute__"=some (some (.builtin "BaseException.__getattribute__")))(eX:PySem.W.findIn K (.ref aD) "__getattr__"=some none)(eY:PySem.W.findIn K (.ref aD) "__class__"=some (some (.builtin "object.__class__")))(eZ:PySem.W.mroIn K aD (.type "BaseException")=some true)(fe:PySem.W.mroIn K aD (.type "object")=some true)(fg:PySem.W.hasDictIn K aD=true)(yH:PySem.W.mroIn K aD (.ref aD)=some true)(Gz:PySem.W.mroIn K aZ (.ref aD)=some false)(yI:PySem.W.mroIn K bC (.ref aD)=some false)(yJ:PySem.W.findIn K (.ref aD) "number"=some none):bL P w K mg base (dD P w) (n + 3 + 1) f fd ["self","call","tree"] (px K (n + 1) C ak mg):=by
 refine F.Cy jk (λvs H Q E h=>?_) (λcdv A outer s H vs Q E hr h=>?_)
 ·obtain⟨R,L,tv,a,b,x,s,s',r,rfl,I,J,hT,ev,q⟩:=h;rfl
 obtain⟨R,L,tv,a,b,x,s,s',r,rfl,I,J,hT,ev,q⟩:=h;refine⟨_,(qK (qJ (yn (sq (λ_=>(pv 0)) gx (hr.mono (by omega)) (λ_=>(pK (pv 1) (pK (aQ (r:=xD K) aU (pv 2) pI (λ_ _=>rfl)) pN)))) Gi) (Gg (i:=3) rfl bP cQ jk.nd rfl rfl (λ_ _=>(qO (vM (Oi hr) (show PE _ _ (QX K _ _)from (g7 (pv 1) rfl)) (aQ (r:=xD K) aU (pv 2) pI (λ_ _=>rfl)) (show PE _ _ (Te K _ _)from (Fe (pv 3) rfl)) rfl))) (z9 je)))
   (qO (cO (dJ (pv 0) gx bI (hr.mono (by omega)) (pK (pv 1) (pK (aQ aU (pv 2) pI (λ_ _=>rfl)) pN)))))),?_⟩
 have kx:KX K aD:=⟨eW,eX,eY,eZ,fe⟩;obtain⟨t,x1,x2,x3,rfl,hS,g1,g2,g3⟩:=qb hT I.s0;have z:=bz.bR g2;subst z;refine⟨_,rfl,R.x,R.dx,_,rfl,I.hx,bN (by decide +kernel),_,rfl,_,rfl,t,_,_,_,rfl,rfl,hS,aN (j:=1) rfl,?_⟩
 cases ev.iT with
 | tG h1 hn =>
  refine⟨R,L,x1,a,s,_,_,rfl,I,J,g1,h1,λH' kp I' J'=>⟨lq.drop (h1.OH rfl) (q H' kp I' J').1,?_⟩⟩;have z:=(q H' kp I' J').2
  cases r with
  | fault k=>exact absurd rfl (hn k)
  | gave k =>
   intro C' dd hC hx;rw[ij]at hC;cases hC;exact⟨_,rfl,.inr ⟨Gz,z _ dd ij hx⟩⟩
  | weary =>
   intro C' dd hC;rw[c9]at hC;cases hC;exact⟨_,rfl,.inr ⟨yI,z _ dd c9⟩⟩
  | _=>trivial
 | @tF _ _ _ k _ _ s1 _ h1 hx h2 =>
  refine⟨R,L,x1,a,s,_,_,rfl,I,J,g1,h1,λH' kp I' J'=>⟨trivial,?_⟩⟩;rintro C' dd hC ⟨dx,rfl,hdx⟩;rw[bP]at hC;cases hC;refine⟨_,rfl,.inl ⟨yH,λe he=>?_⟩⟩;have s2:=aT he (.ext (Md aD e (some dx)));have g2':=uS (H:=H') (a:=e) (o:=.ext (Md aD e (some dx)));generalize upd H' e _=H2 at s2 g2' ⊢;have J2:=J'.same s2;have I2:=I'.same s2;obtain⟨o,dp,J3⟩:=J2.put hx k;have My:qt R L H H2:=kp.trans (.of s2);refine⟨_,rfl,e,aD,dx,_,_,_,rfl,g2',zJ,s2 _ _ hdx,kx,fg,yJ,rfl,_,rfl,L.c,ak,L.dc,_,_,rfl,J2.hc,aL.cl,aL.nI,nJ,_,rfl,t,_,_,_,rfl,rfl,My.tup I J hS,aN (j:=2) rfl,L.d,_,rfl,dp,?_⟩;have Vn:=My.trans (qt.U4 (o:=o));have I3:=I2.dict J2 o;refine⟨_,rfl,R.x,R.dx,_,rfl,I3.hx,bN (by decide +kernel),_,rfl,_,rfl,t,_,_,_,rfl,rfl,Vn.tup I J hS,aN (j:=3) rfl,R,L,x3,b,{s1 with env:=jR x k s1.env},s',r,rfl,I3,J3,g3,h2,λH' k' I' J'=>⟨lq.drop (h2.OH rfl) (q H' (Vn.trans k') I' J').1,(q H' (Vn.trans k') I' J').2⟩⟩
theorem pA:aS ["self"] ["self"] (dS hZ):=by walk_at "sc"
theorem pB{f:Addr}{fd:FuncData}(F:iq K "spend" "Reading.spend" hZ f fd){bC:Addr}(c9:mg "Weary"=some (.ref bC))(fO:PySem.W.excIn K bC (rA false) (vG false)=true)(fP:PySem.W.ktsIn K bC "BaseException"=true){aq:Addr}(aJ:aw K aq){ak:Addr}(aL:aA K ak){C:Addr}{wt:Bool}(ac:aC K C):bL P w K mg base (dD P w) 1 f fd ["self"] (nP K C mg):=by
 refine F.Cy pA (λvs H Q E h=>?_) (λcdv A outer s H vs Q E hr h=>?_)
 ·obtain⟨R,said,left,rfl,I,hE,q⟩:=h;rfl
 obtain⟨R,said,left,rfl,I,hE,q⟩:=h;refine⟨_,(qK (bA (tR LW (g7 (pv 0) rfl) pI (aO _)) (qO (oF vK rfl c9 fO rfl)) ba)
   (qO (kS (pv 0) (da j2 (g7 (pv 0) rfl) pI) rfl))),?_⟩
 refine⟨_,rfl,R.x,C,R.dx,_,_,rfl,I.hx,ac.cl,ac.su,wm,_,_,rfl,rfl,_,rfl,?_⟩;by_cases z:left<=0
 ·exact iM z (hE z _ none c9)
 ·refine bK z ?_;dsimp only[kP];refine⟨_,rfl,R.x,C,R.dx,_,_,rfl,I.hx,ac.cl,ac.su,wm,_,_,rfl,rfl,?_⟩;refine⟨_,rfl,R.x,C,R.dx,_,rfl,I.hx,ac.cl,ac.su,(by show 3 < 1000;decide),?_⟩;rw[OG];exact q (by omega)
theorem lL:aS ["self","call","trees"] ["self","call","trees"] (dS eg):=by walk_at "sc"
theorem lM{n:Nat}{f:Addr}{fd:FuncData}(F:iq K "values_of" "Reading.values_of" eg f fd){aq:Addr}(aJ:aw K aq){ak:Addr}(aL:aA K ak){C:Addr}{wt:Bool}(ac:aC K C)(bG:dR P w K mg base (dD P w) C "value_of" (n + 3) ["self","call","tree"] (dP K n C ak aq mg)):bL P w K mg base (dD P w) (n + 3 + 1) f fd ["self","call","trees"] (fL K (n + 1) C ak mg):=by
 refine F.Cy lL (λvs H Q E h=>?_) (λcdv A outer s H vs Q E hr h=>?_)
 ·obtain⟨R,L,a,us,ts,s,s',r,rfl,I,J,hA,hU,kM,ev,q,qE⟩:=h;rfl
 obtain⟨R,L,a,us,ts,s,s',r,rfl,I,J,hA,hU,kM,ev,q,qE⟩:=h;refine⟨_,(qO (aW (NB 1 ["tree","call","self"] [1,0] ⟨rfl,rfl,rfl,rfl,rfl,rfl,rfl,rfl⟩ (Mm (pv 2)) (λ_ _ _ _ _ hp=>⟨(gH (i:=0) (show List.Nodup (["tree","call","self"]:List Str)by decide +kernel) rfl (Or.inl rfl)),qC,(show PE _ _ (uz C _ _ [] _ _ _)from (dJ (pv 2) bG hp (hr.mono (by omega)) (pK (pv 1) (pK (pv 0) pN))))⟩) je))),?_⟩;have lu:us.length=ts.length:=hU.1;unfold MS Qn;refine Ko (i:=2) (a:=a) (xs:=us) ?e hA I.s0.seq id ?_
 case e=>rfl
 intro Jt hJ D hD;have nDx:D≠R.x:=(nN I.hx hD).symm;have nDs:D≠R.sd:=(nN I.hs hD).symm;refine R5 (xs:=us) hJ (λi zs H2=>∃si ks r',XO K C R L n ts s s' r H D i zs H2 si ks r') (abQ (sK (by omega))) ?_ ?_ ?_ ?_
 ·have s1:=aT hD (.lst []);refine⟨s,[],r,rfl,rfl,.of s1,uS,I.same s1,rfl,ev,?_⟩;rcases ev.Z3 with⟨ks,e⟩ | b
  ·exact .inl ⟨ks,e,e⟩
  ·exact .inr ⟨rfl,b⟩
 ·rintro i zs H2 hi ⟨si,ks,r',v⟩;refine⟨v.hD,?_,v.I.s0.seq,v.kp.tup I⟩;rw[v.ez,aah,v.len];exact aai _
 ·rintro i x zs H2 hx ⟨si,ks,r',v⟩;have hi:i < ts.length:=by rw[← lu];exact(ft hx).1
  have hrx:=hU.2 i x _ hx (jG hi);have hev:=v.ev;rw[abE hi]at hev;have J2:iy ak R L H2 si.env:=by rw[v.env];exact J.keep I v.kp
  have n0:=I.h0 hD;refine⟨rfl,_,rfl,R.x,R.dx,_,rfl,v.I.hx,bN (by decide +kernel),_,rfl,_,rfl,?_⟩;have nxt:∀(k:Int) (s1:eP) (r2:Res),Ev R.ps n L.dep L.nm (.E ts[i]) si (.val k) s1->Ev R.ps (n + 1) L.dep L.nm (.Es (ts.drop (i + 1))) s1 r2 s'->((∃ks',r2=.vals ks'/\r=.vals ((ks++[k])++ks'))∨(r2=r/\r.bad=true))->∀H',kL R H2 H'->fW K C R H' s1.said s1.left ->
    H' D=some (.lst zs)/\∃si ks r',XO K C R L n ts s s' r H D (i + 1) (zs++[.int k]) (upd H' D (.lst (zs++[.int k]))) si ks r':=λk s1 r2 h1 h2 h3 H' kp I' =>
   ⟨kp _ _ nDx nDs v.hD,s1,ks++[k],r2,by rw[v.ez,abM];rfl,by rw[aaZ,v.len];rfl,(v.kp.trans kp).new hD _,uS,I'.other nDx nDs n0 _,by rw[h1.wq rfl,v.env],h2,h3⟩
  cases hev.XJ with
  | cons h1 h2 =>
   refine⟨R,L,x,_,si,_,_,rfl,v.I,J2,hrx,h1,(λH' kp I'=>⟨nxt _ _ _ h1 h2 ?_ H' kp I',trivial⟩),λ_ _ _ _ _ _ e=>nomatch e⟩;rcases v.rr with⟨ks',e1,e2⟩ | ⟨e,b⟩
   ·cases e1;exact .inl ⟨_,rfl,by rw[e2,List.append_assoc];rfl⟩
   ·rw[← e]at b;cases b
  | consB h1 hb =>
   refine⟨R,L,x,_,si,_,_,rfl,v.I,J2,hrx,h1,(λH' kp I'=>⟨lq.bad hb,?_⟩),λ_ _ _ _ _ _ e=>(OK hb e).elim⟩;rcases v.rr with⟨ks',e1,e2⟩ | ⟨e,b⟩
   ·rw[e1]at hb;cases hb
   ·rw[e];exact qE H' (v.kp.trans kp) I'
  | consC h1 h2 hb =>
   refine⟨R,L,x,_,si,_,_,rfl,v.I,J2,hrx,h1,(λH' kp I'=>⟨nxt _ _ _ h1 h2 ?_ H' kp I',trivial⟩),λ_ _ _ _ _ _ e=>nomatch e⟩;rcases v.rr with⟨ks',e1,e2⟩ | h
   ·rw[e1]at hb;cases hb
   ·exact .inr h
 ·rintro zs H2 ⟨si,ks,r',v⟩;have hev:=v.ev;rw[lu,ab8]at hev
  cases hev.XJ with
  | nil =>
   rcases v.rr with⟨ks',e1,e2⟩ | ⟨e,b⟩
   ·cases e1;rw[aaT]at e2;exact q H2 D ks e2 v.kp v.I hD (by rw[v.hD,v.ez])
   ·rw[← e]at b;cases b
theorem eD:aS ["self","call","tree","values"] ["self","call","tree"] (dS cU):=by walk_at "sc"
theorem jC{n:Nat}{f:Addr}{fd:FuncData}(F:iq K "value_of_call" "Reading.value_of_call" cU f fd){aD:Addr}(bP:mg "Fault"=some (.ref aD))(cQ:PySem.W.ktsIn K aD "BaseException"=true){gM:Tok}(eE:mg "MOST_FRAMES"=some (.int 12 gM))(ug:RelV (.int 12) (.int 12 gM)){kB:Tok}(i7:mg "TOO_DEEP"=some (.int 2 kB))(Aw:RelV (.int 2) (.int 2 kB))(nY:vH P w K mg base aD ["number"]){aq:Addr}(aJ:aw K aq){ak:Addr}(aL:aA K ak){C:Addr}{wt:Bool}(ac:aC K C)(sU:dR P w K mg base (dD P w) C "given" (n + 3) ["self","part","values","depth"] (nQ K n C mg))(sV:dR P w K mg base (dD P w) C "spend" 1 ["self"] (nP K C mg))(fQ:dR P w K mg base (dD P w) C "values_of" (n + 3) ["self","call","trees"] (fL K n C ak mg)):bL P w K mg base (dD P w) (n + 3 + 1) f fd ["self","call","tree"] (gr K (n + 1) C ak mg):=by
 refine F.Cy eD (λvs H Q E h=>?_) (λcdv A outer s H vs Q E hr h=>?_)
 ·obtain⟨R,L,tv,p,ts,s,s',r,rfl,I,J,hT,kM,ev,q⟩:=h;rfl
 obtain⟨R,L,tv,p,ts,s,s',r,rfl,I,J,hT,kM,ev,q⟩:=h;refine⟨_,(qK (bX (i:=3) eD.nd rfl (aac rfl) (dJ (pv 0) fQ bI (hr.mono (by omega)) (pK (pv 1) (pK (aQ aU (pv 2) pI (λ_ _=>rfl)) pN))))
   (qK (cO (Fs (pv 0) sV bI (hr.mono (by omega))))
   (qK (bA (tR QU (g7 (pv 1) rfl) (lV rfl eE ug) (aO _)) (qO (oJ zI nY (hr.mono (by omega)) rfl bP rfl (pK (lV rfl i7 Aw) pN))) ba)
   (qO (aW (dJ (pv 0) sU bI (hr.mono (by omega)) (pK (aQ aU (pv 2) pI (λ_ _=>rfl)) (pK (pv 3) (pK (da mB (g7 (pv 1) rfl) pI) pN))))))))),?_⟩
 obtain⟨t,x1,x2,rfl,hS,h1,h2⟩:=nK hT I.s0;have z1:=bz.bu h1;subst z1;obtain⟨a,us,rfl,hL,hU⟩:=bz.dZ h2;refine⟨_,rfl,R.x,R.dx,_,rfl,I.hx,bN (by decide +kernel),_,rfl,_,rfl,t,_,_,_,rfl,rfl,hS,aN (j:=2) rfl,?_⟩;have sp:∀(H1:Hp),kL R H H1->cX K H1 t [.str "call",.int (p:Int),.ref a]/\iy ak R L H1 s.env:=λH1 kp=>⟨kp.tup I hS,J.keep I kp⟩
 cases ev.Z1 with
 | clB h hb=>exact⟨R,L,a,us,ts,s,_,_,rfl,I,J,.inl hL,hU,kM,h,λ_ _ ks e=>(by rw[e]at hb;cases hb),λH' kp I'=>(q H' kp I').2⟩
 | clW h hl =>
  refine⟨R,L,a,us,ts,s,_,_,rfl,I,J,.inl hL,hU,kM,h,λH1 l ks e kp I1 nl gl=>?_,λ_ _ _=>trivial⟩;exact⟨_,rfl,R.x,R.dx,_,rfl,I1.hx,bN (by decide +kernel),R,_,_,rfl,I1,λ_=>(q H1 kp I1).2,λz=>absurd z (by omega)⟩
 | @clD _ _ Vo _ s1 h hl hd =>
  refine⟨R,L,a,us,ts,s,_,_,rfl,I,J,.inl hL,hU,kM,h,λH1 l ks e kp I1 nl gl=>?_,λ_ _ _=>trivial⟩;refine⟨_,rfl,R.x,R.dx,_,rfl,I1.hx,bN (by decide +kernel),R,_,_,rfl,I1,λz=>absurd z (by omega),λ_=>?_⟩;have My:=kp.trans (kL.Tx (H:=H1) (o:=.ins C R.dx (kK R.b R.sd (s1.left - 1))));have I2:=I1.spent (BR:=s1.left - 1);obtain⟨_,J2⟩:=sp _ My;refine⟨_,rfl,L.c,ak,L.dc,_,_,rfl,J2.hc,aL.cl,aL.qM,sC,_,_,rfl,rfl,_,rfl,iM hd ?_⟩;exact⟨rfl,λdx H3 n3 s3 g3=>(q H3 (My.trans (.of s3)) (I2.same s3)).2 aD (some dx) bP ⟨dx,rfl,g3⟩⟩
 | @clG _ _ Vo _ _ s1 s2 h hl hd hg =>
  refine⟨R,L,a,us,ts,s,_,_,rfl,I,J,.inl hL,hU,kM,h,λH1 l ks e kp I1 nl gl=>?_,λ_ _ _=>trivial⟩;cases e;refine⟨_,rfl,R.x,R.dx,_,rfl,I1.hx,bN (by decide +kernel),R,_,_,rfl,I1,λz=>absurd z (by omega),λ_=>?_⟩;have My:=kp.trans (kL.Tx (H:=H1) (o:=.ins C R.dx (kK R.b R.sd (s1.left - 1))));have I2:=I1.spent (BR:=s1.left - 1);obtain⟨ID,J2⟩:=sp _ My;refine⟨_,rfl,L.c,ak,L.dc,_,_,rfl,J2.hc,aL.cl,aL.qM,sC,_,_,rfl,rfl,_,rfl,bK (by omega) ?_⟩;dsimp only[kP];have Vp:upd H1 R.x (.ins C R.dx (kK R.b R.sd (s1.left - 1))) l=some (.lst (Vo.map V.int)):=(uN (cv gl I1.hx (by intro z;cases z))).trans gl;refine⟨_,rfl,R.x,R.dx,_,rfl,I2.hx,bN (by decide +kernel),_,rfl,t,_,_,_,rfl,rfl,ID,aN (j:=1) rfl,_,rfl,_,rfl,L.c,ak,L.dc,_,_,rfl,J2.hc,aL.cl,aL.qM,sC,_,_,rfl,rfl,R,l,p,L.dep + 1,Vo,[],_,_,_,rfl,I2,bZ.of Vp,hg,λH' kp' I'=>q H' (My.trans kp') I'⟩
theorem Ax:aS ["number"] ["number"] (dS oX):=by walk_at "sc"
theorem Ay{f:Addr}{fd:FuncData}(F:iq K "wrapped" "wrapped" oX f fd){wQ:Tok}(pC:mg "HALF"=some (.int 2147483648 wQ))(GA:RelV (.int 2147483648) (.int 2147483648 wQ)){wR:Tok}(sW:mg "TURN"=some (.int 4294967296 wR))(OX:RelV (.int 4294967296) (.int 4294967296 wR)){aq:Addr}(aJ:aw K aq){ak:Addr}(aL:aA K ak):bL P w K mg base cb 1 f fd ["number"] (ko K):=by
 refine F.ok Ax (λvs H Q E h=>?_) (λcdv A outer s H vs Q E hr h=>?_)
 ·obtain⟨n,rfl,q⟩:=h;rfl
 obtain⟨n,rfl,q⟩:=h;refine⟨_,(qO (aW (da j2 (da qX (da mB (pv 0) (lV rfl pC GA)) (lV rfl sW OX)) (lV rfl pC GA)))),?_⟩;exact⟨_,rfl,_,_,rfl,rfl,_,_,rfl,rfl,by decide,_,_,rfl,rfl,q⟩
theorem Az:aS ["sign","one","other"] ["sign","one","other"] (dS oY):=by walk_at "sc"
theorem AD{f:Addr}{fd:FuncData}(F:iq K "divided" "divided" oY f fd){cj:Addr}(fR:mg "Nought"=some (.ref cj))(i8:PySem.W.excIn K cj (rA true) (vG true)=true)(i9:PySem.W.ktsIn K cj "BaseException"=true){aq:Addr}(aJ:aw K aq){ak:Addr}(aL:aA K ak)(jX:eM P w K mg base cb "wrapped" 1 ["number"] (ko K)):bL P w K mg base (dD P w) 2 f fd ["sign","one","other"] (mU K mg):=by
 refine F.Cy Az (λvs H Q E h=>?_) (λcdv A outer s H vs Q E hr h=>?_)
 ·obtain⟨sign,a,b,rfl,hp,ha,hb,hE,q⟩:=h;rfl
 obtain⟨sign,a,b,rfl,hp,ha,hb,hE,q⟩:=h;refine⟨_,(qK (bA (tR bF (pv 2) pI (aO _)) (qO (oF vK rfl fR i8 rfl)) ba)
   (qK (bA (tR bF (pv 0) aY (aO _)) (qO (aW (cT jX (hr.mono (by decide)) rfl (pK (da Fd (pv 1) (pv 2)) pN)))) ba)
   (qO (aW (da Ja (pv 1) (pv 2)))))),?_⟩
 refine⟨_,rfl,rfl,_,rfl,?_⟩;by_cases z:b=0
 ·refine iM (by rw[z]) ?_;exact hE z _ fR
 ·refine bK (λy=>z (V.int.inj y)) ?_;have hb':xJ a b:=⟨z,by unfold fT at hb;omega⟩;refine⟨_,rfl,rfl,_,rfl,?_⟩;rcases hp with rfl | rfl
  ·refine iM rfl ?_;have y:=q z;rw[Ow]at y;exact⟨_,rfl,_,rfl,_,_,rfl,rfl,hb',_,rfl,y⟩
  ·refine bK (by decide +kernel) ?_;have y:=q z;rw[Ox]at y;exact⟨_,rfl,_,rfl,_,_,rfl,rfl,z,y⟩
theorem yK:aS ["sign","one","other"] ["sign","one","other"] (dS mP):=by walk_at "sc"
theorem yL{f:Addr}{fd:FuncData}(F:iq K "reckoned" "reckoned" mP f fd){aq:Addr}(aJ:aw K aq){ak:Addr}(aL:aA K ak)(C6:eM P w K mg base (dD P w) "divided" 2 ["sign","one","other"] (mU K mg))(jX:eM P w K mg base cb "wrapped" 1 ["number"] (ko K)):bL P w K mg base (dD P w) 3 f fd ["sign","one","other"] (lH K mg):=by
 refine F.Cy yK (λvs H Q E h=>?_) (λcdv A outer s H vs Q E hr h=>?_)
 ·obtain⟨sign,a,b,rfl,hp,ha,hb,hE,q⟩:=h;rfl
 obtain⟨sign,a,b,rfl,hp,ha,hb,hE,q⟩:=h;refine⟨_,(qK (bA (tR bF (pv 0) aY (aO _)) (qO (aW (cT jX (hr.mono (by decide)) rfl (pK (da mB (pv 1) (pv 2)) pN)))) ba)
   (qK (bA (tR bF (pv 0) aY (aO _)) (qO (aW (cT jX (hr.mono (by decide)) rfl (pK (da j2 (pv 1) (pv 2)) pN)))) ba)
   (qK (bA (tR bF (pv 0) aY (aO _)) (qO (aW (cT jX (hr.mono (by decide)) rfl (pK (da M1 (pv 1) (pv 2)) pN)))) ba)
   (qK (bA (tR bF (pv 0) aY (aO _)) (qO (aW (qV (tR ED (pv 1) (pv 2) (aO _)) pI pI))) ba)
   (qK (bA (tR bF (pv 0) aY (aO _)) (qO (aW (qV (tR bF (pv 1) (pv 2) (aO _)) pI pI))) ba)
   (qO (aW (Fh C6 bI (hr.mono (by decide)) rfl (pK (pv 0) (pK (pv 1) (pK (pv 2) pN))))))))))),?_⟩
 have no:∀s1 s2:Str,s1≠s2->¬ (V.str s1=V.str s2):=λs1 s2 h z=>h (V.str.inj z)
 rcases hp with rfl | rfl | rfl | rfl | rfl | hp
 ·refine⟨_,rfl,rfl,_,rfl,iM rfl ?_⟩;have y:=q λz=>absurd z dv.1
  rw[Ou]at y;exact⟨_,rfl,_,rfl,_,_,rfl,rfl,_,rfl,y⟩
 ·refine⟨_,rfl,rfl,_,rfl,bK (by decide +kernel) ?_⟩;refine⟨_,rfl,rfl,_,rfl,iM rfl ?_⟩;have y:=q λz=>absurd z dv.2.1
  rw[Gp]at y;exact⟨_,rfl,_,rfl,_,_,rfl,rfl,_,rfl,y⟩
 ·refine⟨_,rfl,rfl,_,rfl,bK (by decide +kernel) ?_⟩;refine⟨_,rfl,rfl,_,rfl,bK (by decide +kernel) ?_⟩;refine⟨_,rfl,rfl,_,rfl,iM rfl ?_⟩;have hm:EA a b:=.inl ⟨by unfold fT at ha;omega,by unfold fT at ha;omega⟩;have y:=q λz=>absurd z dv.2.2.1
  rw[Ov]at y;exact⟨_,rfl,_,rfl,_,_,rfl,rfl,hm,_,rfl,y⟩
 ·refine⟨_,rfl,rfl,_,rfl,bK (by decide +kernel) ?_⟩;refine⟨_,rfl,rfl,_,rfl,bK (by decide +kernel) ?_⟩;refine⟨_,rfl,rfl,_,rfl,bK (by decide +kernel) ?_⟩;refine⟨_,rfl,rfl,_,rfl,iM rfl ?_⟩;refine⟨_,rfl,_,rfl,_,_,rfl,rfl,_,rfl,?_⟩;have z:=q λz=>absurd z dv.2.2.2.1
  have e:=Ki a b;rw[e]at z;by_cases y:a < b
  ·rw[aaw y]at z;exact iM y z
  ·rw[aas y]at z;exact bK y z
 ·refine⟨_,rfl,rfl,_,rfl,bK (by decide +kernel) ?_⟩;refine⟨_,rfl,rfl,_,rfl,bK (by decide +kernel) ?_⟩;refine⟨_,rfl,rfl,_,rfl,bK (by decide +kernel) ?_⟩;refine⟨_,rfl,rfl,_,rfl,bK (by decide +kernel) ?_⟩;refine⟨_,rfl,rfl,_,rfl,iM rfl ?_⟩;refine⟨_,rfl,_,rfl,rfl,_,rfl,?_⟩;have z:=q λz=>absurd z dv.2.2.2.2
  have e:=Kj a b;rw[e]at z;by_cases y:a=b
  ·rw[aaw y]at z;exact iM (abB V.int y) z
  ·rw[aas y]at z;exact bK (λw=>y (V.int.inj w)) z
 ·have h1:sign≠"add"/\sign≠"sub"/\sign≠"mul"/\sign≠"less"/\sign≠"same":=by rcases hp with rfl | rfl<;>decide +kernel
  refine⟨_,rfl,rfl,_,rfl,bK (no _ _ h1.1) ?_⟩;refine⟨_,rfl,rfl,_,rfl,bK (no _ _ h1.2.1) ?_⟩;refine⟨_,rfl,rfl,_,rfl,bK (no _ _ h1.2.2.1) ?_⟩;refine⟨_,rfl,rfl,_,rfl,bK (no _ _ h1.2.2.2.1) ?_⟩;refine⟨_,rfl,rfl,_,rfl,bK (no _ _ h1.2.2.2.2) ?_⟩;exact⟨_,rfl,_,rfl,_,rfl,sign,a,b,rfl,hp,ha,hb,λz=>hE hp z,λz=>q λ_=>z⟩
theorem fh:aS ["self","call","tree","pair"] ["self","call","tree"] (dS c7):=by walk_at "sc"
theorem jY{n:Nat}{f:Addr}{fd:FuncData}(F:iq K "value_of_two" "Reading.value_of_two" c7 f fd){jl:Tok}(gY:mg "BY_NOUGHT"=some (.int 1 jl))(yM:RelV (.int 1) (.int 1 jl)){aD:Addr}(bP:mg "Fault"=some (.ref aD))(cQ:PySem.W.ktsIn K aD "BaseException"=true){cj:Addr}(fR:mg "Nought"=some (.ref cj))(i8:PySem.W.excIn K cj (rA true) (vG true)=true)(i9:PySem.W.ktsIn K cj "BaseException"=true)(nY:vH P w K mg base aD ["number"]){aq:Addr}(aJ:aw K aq){ak:Addr}(aL:aA K ak){C:Addr}{wt:Bool}(ac:aC K C)(AF:eM P w K mg base (dD P w) "reckoned" 3 ["sign","one","other"] (lH K mg))(fQ:dR P w K mg base (dD P w) C "values_of" (n + 3) ["self","call","trees"] (fL K n C ak mg))(GC:PySem.W.mroIn K cj (.ref cj)=some true):bL P w K mg base (dD P w) (n + 3 + 1) f fd ["self","call","tree"] (ic K (n + 1) C ak mg):=by
 refine F.Cy fh (λvs H Q E h=>?_) (λcdv A outer s H vs Q E hr h=>?_)
 ·obtain⟨R,L,tv,op,a,b,s,s',r,rfl,I,J,hT,ho,ev,q⟩:=h;rfl
 obtain⟨R,L,tv,op,a,b,s,s',r,rfl,I,J,hT,ho,ev,q⟩:=h;refine⟨_,(qK (bX (i:=3) fh.nd rfl (aac rfl) (dJ (pv 0) fQ bI (hr.mono (by omega)) (pK (pv 1) (pK (xC EO (pv 2) (Bg pI) Bf) pN))))
   (qO (qJ (BL (Gh AF (hr.mono (by omega)) rfl (λ_=>(pK (aQ (r:=xD K) aU (pv 2) pI (λ_ _=>rfl)) (pK (aQ (r:=Jk K) bH (pv 3) pI (λ_ _=>rfl)) (pK (aQ (r:=Jk K) bH (pv 3) pI (λ_ _=>rfl)) pN)))))) (Oo rfl fR i9 Ol nY (hr.mono (by omega)) rfl bP (λ_ _=>(pK (lV rfl gY yM) pN)) (z9 je))))),?_⟩
 obtain⟨t,x1,x2,rfl,hS,h1,h2⟩:=nK hT I.s0;refine⟨_,rfl,R.x,R.dx,_,rfl,I.hx,bN (by decide +kernel),_,rfl,_,rfl,_,rfl,t,_,rfl,hS,(by show ¬ (HT.eL 3 0 (some 1)=0/\HT.eL 3 3 none=3);decide),λu hu=>?_⟩;have s1:=aT hu (.tup [x1,x2]);have I1:=I.same s1;have J1:=J.same s1;have B6:=s1.tup hS
 cases ev.Z2 with
 | twB h hb=>exact⟨R,L,u,[x1,x2],[a,b],s,_,_,rfl,I1,J1,.inr (cX.of uS),.cons h1 (.cons h2 .nil),(by show 2<=100;decide),h,λ_ _ ks e=>(by rw[e]at hb;cases hb),λH' kp I'=>(q H' ((kL.of s1).trans kp) I').2⟩
 | twG h hz hk hl =>
  refine⟨R,L,u,[x1,x2],[a,b],s,_,_,rfl,I1,J1,.inr (cX.of uS),.cons h1 (.cons h2 .nil),(by show 2<=100;decide),h,λH2 l ks e kp I2 nl gl=>?_,λ_ _ _=>trivial⟩;cases e;have ID:=kp.tup I1 B6;exact⟨_,rfl,t,_,_,_,rfl,rfl,ID,aN (j:=0) rfl,_,rfl,l,_,_,_,rfl,rfl,bZ.of gl,aN (j:=0) rfl,_,rfl,l,_,_,_,rfl,rfl,bZ.of gl,aN (j:=1) rfl,op,_,_,rfl,ho,hk,hl,λhp z=>absurd z (hz hp),λ_=>(q H2 ((kL.of s1).trans kp) I2).1⟩
 | @twF _ _ _ k _ _ h hp hk =>
  refine⟨R,L,u,[x1,x2],[a,b],s,_,_,rfl,I1,J1,.inr (cX.of uS),.cons h1 (.cons h2 .nil),(by show 2<=100;decide),h,λH2 l ks e kp I2 nl gl=>?_,λ_ _ _=>trivial⟩;cases e;have ID:=kp.tup I1 B6;refine⟨_,rfl,t,_,_,_,rfl,rfl,ID,aN (j:=0) rfl,_,rfl,l,_,_,_,rfl,rfl,bZ.of gl,aN (j:=0) rfl,_,rfl,l,_,_,_,rfl,rfl,bZ.of gl,aN (j:=1) rfl,op,_,_,rfl,ho,hk,(by unfold fT;omega),λ_ _ C' hC=>?_,λz=>absurd rfl (z hp)⟩;rw[fR]at hC;cases hC;refine⟨_,rfl,.inl ⟨GC,rfl,λc hc=>?_⟩⟩;have s3:=aT hc (.ext (R0 c));refine⟨uS,rfl,λdx H3 n3 s4 g3=>(q H3 ((kL.of s1).trans (kp.trans (.of (s3.trans s4)))) (I2.same (s3.trans s4))).2 aD (some dx) bP ⟨dx,rfl,g3⟩⟩
theorem mX:aS ["self","make","fields"] ["self","make","fields"] (dS fH):=by walk_at "sc"
theorem mY{f:Addr}{fd:FuncData}(F:iq K "__init__" "Record.__init__" fH f fd){aq:Addr}(aJ:aw K aq){ak:Addr}(aL:aA K ak):bL P w K mg base cb 1 f fd ["self","make","fields"] (i4 K aq):=by
 refine F.ok mX (λvs H Q E h=>?_) (λcdv A outer s H vs Q E hr h=>?_)
 ·obtain⟨x,dx,l,c,rfl,hx,q⟩:=h;rfl
 obtain⟨x,dx,l,c,rfl,hx,q⟩:=h;refine⟨_,(qK (kS (pv 0) (pv 1) rfl)
   (qO (kS (pv 0) (pv 2) rfl))),?_⟩
 refine⟨_,rfl,_,rfl,x,aq,dx,_,rfl,hx,aJ.cl,aJ.Oq,(by show 0 < 1000;decide),?_⟩;refine⟨_,rfl,_,rfl,x,aq,dx,_,rfl,uS,aJ.cl,aJ.Gn,(by show(df _ _ _).length < 1000;exact aaR (dF _ _ _) (by show 1 < 1000;decide)),?_⟩;refine q _ ?_ (λc o hc e=>?_)
 ·rw[uS,OJ]
 ·rw[uN hc,uN hc];exact e
theorem iu:aS ["self","call","tree","word","chosen"] ["self","call","tree"] (dS eN):=by walk_at "sc"
theorem mj{n:Nat}{f:Addr}{fd:FuncData}(F:iq K "value_of" "Reading.value_of" eN f fd){aq:Addr}(aJ:aw K aq){ak:Addr}(aL:aA K ak){C:Addr}{wt:Bool}(ac:aC K C)(pD:dR P w K mg base (dD P w) C "value_of_call" (n + 3) ["self","call","tree"] (gr K n C ak mg))(qw:dR P w K mg base (dD P w) C "value_of_two" (n + 3) ["self","call","tree"] (ic K n C ak mg))(fQ:dR P w K mg base (dD P w) C "values_of" (n + 3) ["self","call","trees"] (fL K n C ak mg))(C7:zL P w K mg base cb aq "Record" 1 ["self","make","fields"] (i4 K aq)):bL P w K mg base (dD P w) (n + 3 + 1) f fd ["self","call","tree"] (dP K (n + 1) C ak aq mg):=by
 refine F.Cy iu (λvs H Q E h=>?_) (λcdv A outer s H vs Q E hr h=>?_)
 ·obtain⟨R,L,tv,tree,s,s',r,rfl,I,J,hT,ev,q,qr⟩:=h;rfl
 obtain⟨R,L,tv,tree,s,s',r,rfl,I,J,hT,ev,q,qr⟩:=h;refine⟨_,(qK (bX (i:=3) iu.nd rfl (aac rfl) (aQ aU (pv 2) pI (λ_ _=>rfl)))
   (qK (bA (tR bF (pv 3) aY (aO _)) (qO (aW (aQ aU (pv 2) pI (λ_ _=>rfl)))) ba)
   (qK (bA (tR bF (pv 3) aY (aO _)) (qO (aW (JB (Bi hr) (g7 (pv 1) rfl) (aQ aU (pv 2) pI (λ_ _=>rfl)) (λ_ _=>rfl)))) ba)
   (qK (bA (tR bF (pv 3) aY (aO _)) (qO (aW (Ft C7 rh (hr.mono (by omega)) rfl (pK (aQ aU (pv 2) pI (λ_ _=>rfl)) (pK (dJ (pv 0) fQ bI (hr.mono (by omega)) (pK (pv 1) (pK (aQ aU (pv 2) pI (λ_ _=>rfl)) pN))) pN))))) ba)
   (qK (bA (tR bF (pv 3) aY (aO _)) (qO iU) ba)
   (qK (bA (tR bF (pv 3) aY (aO _)) (qO (aW (dJ (pv 0) pD bI (hr.mono (by omega)) (pK (pv 1) (pK (pv 2) pN))))) ba)
   (qK (bA (tR bF (pv 3) aY (aO _)) (qK iU
   (qO iU)) ba)
   (qO (aW (dJ (pv 0) qw bI (hr.mono (by omega)) (pK (pv 1) (pK (pv 2) pN)))))))))))),?_⟩
 cases ev.iE with
 | num =>
  obtain⟨t,x1,rfl,hS,h1⟩:=sA hT I.s0;have z1:=bz.bu h1;subst z1;refine⟨_,rfl,t,_,_,_,rfl,rfl,hS,aN (j:=0) rfl,?_⟩;refine⟨_,rfl,rfl,_,rfl,iM rfl ?_⟩;exact⟨_,rfl,t,_,_,_,rfl,rfl,hS,aN (j:=1) rfl,(q H .refl I).1⟩
 | @var x k _ he =>
  obtain⟨t,x1,rfl,hS,h1⟩:=sA hT I.s0;have z1:=bz.bR h1;subst z1;refine⟨_,rfl,t,_,_,_,rfl,rfl,hS,aN (j:=0) rfl,?_⟩;refine⟨_,rfl,rfl,_,rfl,bK (by decide +kernel) ?_⟩;refine⟨_,rfl,rfl,_,rfl,iM rfl ?_⟩;obtain⟨kvs,hk,_,_,hv⟩:=J.hd;have dg:=CF.k (k:=Sum.inr x) hk;rw[hv x,he]at dg;exact⟨_,rfl,L.c,ak,L.dc,_,_,rfl,J.hc,aL.cl,aL.nI,nJ,_,rfl,t,_,_,_,rfl,rfl,hS,aN (j:=1) rfl,L.d,_,rfl,dg,(q H .refl I).1⟩
 | callE kM he =>
  obtain⟨t,x1,x2,rfl,hS,h1⟩:=nK hT I.s0;refine⟨_,rfl,t,_,_,_,rfl,rfl,hS,aN (j:=0) rfl,?_⟩;refine⟨_,rfl,rfl,_,rfl,bK (by decide +kernel) ?_⟩;refine⟨_,rfl,rfl,_,rfl,bK (by decide +kernel) ?_⟩;refine⟨_,rfl,rfl,_,rfl,bK (by decide +kernel) ?_⟩;refine⟨_,rfl,rfl,_,rfl,bK (by decide +kernel) ?_⟩;refine⟨_,rfl,rfl,_,rfl,iM rfl ?_⟩;refine⟨_,rfl,R.x,R.dx,_,rfl,I.hx,bN (by decide +kernel),_,rfl,_,rfl,R,L,.ref t,_,_,s,s',r,rfl,I,J,hT,kM,he,q⟩
 | two ho he =>
  obtain⟨t,x1,x2,rfl,hS,h1⟩:=nK hT I.s0;have nn:=Km ho;refine⟨_,rfl,t,_,_,_,rfl,rfl,hS,aN (j:=0) rfl,?_⟩;refine⟨_,rfl,rfl,_,rfl,bK (λz=>nn.1 (V.str.inj z)) ?_⟩;refine⟨_,rfl,rfl,_,rfl,bK (λz=>nn.2.1 (V.str.inj z)) ?_⟩;refine⟨_,rfl,rfl,_,rfl,bK (λz=>nn.2.2.2.1 (V.str.inj z)) ?_⟩;refine⟨_,rfl,rfl,_,rfl,bK (λz=>nn.2.2.2.2.1 (V.str.inj z)) ?_⟩;refine⟨_,rfl,rfl,_,rfl,bK (λz=>nn.2.2.1 (V.str.inj z)) ?_⟩;refine⟨_,rfl,rfl,_,rfl,bK (λz=>nn.2.2.2.2.2 (V.str.inj z)) ?_⟩;refine⟨_,rfl,R.x,R.dx,_,rfl,I.hx,bN (by decide +kernel),_,rfl,_,rfl,R,L,.ref t,_,_,_,s,s',r,rfl,I,J,hT,ho,he,q⟩
theorem fX:aS ["self","call","tree","word"] ["self","call","tree"] (dS dM):=by walk_at "sc"
theorem kN{n:Nat}{f:Addr}{fd:FuncData}(F:iq K "do_nesting" "Reading.do_nesting" dM f fd){aq:Addr}(aJ:aw K aq){ak:Addr}(aL:aA K ak){C:Addr}{wt:Bool}(ac:aC K C)(gx:dR P w K mg base (dD P w) C "do_all" (n + 3) ["self","call","trees"] (jT K n C ak mg))(C8:dR P w K mg base (dD P w) C "do_try" (n + 3) ["self","call","tree"] (px K n C ak mg))(sV:dR P w K mg base (dD P w) C "spend" 1 ["self"] (nP K C mg))(bG:dR P w K mg base (dD P w) C "value_of" (n + 3) ["self","call","tree"] (dP K n C ak aq mg)):bL P w K mg base (dD P w) (n + 3 + 1) f fd ["self","call","tree"] (jA K (n + 1) C ak mg):=by
 refine F.Cy fX (λvs H Q E h=>?_) (λcdv A outer s H vs Q E hr h=>?_)
 ·obtain⟨R,L,tv,t,s,s',r,rfl,I,J,hT,ev,q⟩:=h;rfl
 obtain⟨R,L,tv,t,s,s',r,rfl,I,J,hT,ev,q⟩:=h;refine⟨_,(qK (bX (i:=3) fX.nd rfl (aac rfl) (aQ aU (pv 2) pI (λ_ _=>rfl)))
   (qO (bA (tR bF (pv 3) aY (aO _)) (qO (cO (dJ (pv 0) gx bI (hr.mono (by omega)) (pK (pv 1) (pK (qV (tR uu (dJ (pv 0) bG bI (hr.mono (by omega)) (pK (pv 1) (pK (aQ aU (pv 2) pI (λ_ _=>rfl)) pN))) pI (aO _)) (aQ aU (pv 2) pI (λ_ _=>rfl)) (aQ aU (pv 2) pI (λ_ _=>rfl))) pN))))) (qO (bA (tR bF (pv 3) aY (aO _)) (qO (xu PassesOwn.leaving (tR uu (dJ (pv 0) bG bI (hr.mono (by omega)) (pK (pv 1) (pK (aQ aU (pv 2) pI (λ_ _=>rfl)) pN))) pI (aO _)) (qK (cO (dJ (pv 0) gx bI (hr.mono (by omega)) (pK (pv 1) (pK (aQ aU (pv 2) pI (λ_ _=>rfl)) pN))))
   (qO (cO (Fs (pv 0) sV bI (hr.mono (by omega)))))))) (qO (bA (tR bF (pv 3) aY (aO _)) (qO iU) (qO (cO (dJ (pv 0) C8 bI (hr.mono (by omega)) (pK (pv 1) (pK (pv 2) pN)))))))))))),?_⟩
 cases ev.iN with
 | @ifG c a b k _ _ s1 s2 h1 h2 =>
  obtain⟨t,x1,x2,x3,rfl,hS,g1,g2,g3⟩:=qb hT I.s0;refine⟨_,rfl,t,_,_,_,rfl,rfl,hS,aN (j:=0) rfl,?_⟩;refine⟨_,rfl,rfl,_,rfl,iM rfl ?_⟩;refine⟨_,rfl,R.x,R.dx,_,rfl,I.hx,bN (by decide +kernel),_,rfl,_,rfl,R.x,R.dx,_,rfl,I.hx,bN (by decide +kernel),_,rfl,_,rfl,t,_,_,_,rfl,rfl,hS,aN (j:=1) rfl,?_⟩;refine⟨R,L,x1,c,s,s1,_,rfl,I,J,g1,h1,(λH1 kp I1=>⟨⟨rfl,_,rfl,?_⟩,trivial⟩),λ_ _ _ _ _ _ e=>nomatch e⟩;have J1:iy ak R L H1 s1.env:=(h1.wq rfl).symm ▸ J.keep I kp;have B6:=kp.tup I hS;have fin:∀H',qt R L H1 H'->fW K C R H' s'.said s'.left->iy ak R L H' s'.env->lq (λ_ H=>Q .non H) r H'/\pd mg E r H':=λH' k' I' J'=>⟨lq.drop (h2.OH rfl) (q H' (kp.s.trans k') I' J').1,(q H' (kp.s.trans k') I' J').2⟩
  by_cases z:k=0
  ·rw[aaw z]at h2;exact tS (by rw[z]) ⟨_,rfl,t,_,_,_,rfl,rfl,B6,aN (j:=3) rfl,R,L,x3,b,s1,s',r,rfl,I1,J1,g3,h2,fin⟩
  ·rw[aas z]at h2;exact mD (λy=>z (V.int.inj y)) ⟨_,rfl,t,_,_,_,rfl,rfl,B6,aN (j:=2) rfl,R,L,x2,a,s1,s',r,rfl,I1,J1,g2,h2,fin⟩
 | D2 h1 hb =>
  obtain⟨t,x1,x2,x3,rfl,hS,g1,g2,g3⟩:=qb hT I.s0;refine⟨_,rfl,t,_,_,_,rfl,rfl,hS,aN (j:=0) rfl,?_⟩;refine⟨_,rfl,rfl,_,rfl,iM rfl ?_⟩;refine⟨_,rfl,R.x,R.dx,_,rfl,I.hx,bN (by decide +kernel),_,rfl,_,rfl,R.x,R.dx,_,rfl,I.hx,bN (by decide +kernel),_,rfl,_,rfl,t,_,_,_,rfl,rfl,hS,aN (j:=1) rfl,?_⟩;exact⟨R,L,x1,_,s,_,_,rfl,I,J,g1,h1,(λH1 kp I1=>⟨lq.bad hb,(q H1 kp.s I1 ((h1.wq rfl).symm ▸ J.keep I kp)).2⟩),λ_ _ _ _ _ _ e=>(OK hb e).elim⟩
 | @wh c b _ _ _ hw =>
  obtain⟨t,x1,x2,rfl,hS,g1,g2⟩:=nK hT I.s0;refine⟨_,rfl,t,_,_,_,rfl,rfl,hS,aN (j:=0) rfl,?_⟩;refine⟨_,rfl,rfl,_,rfl,bK (by decide +kernel) ?_⟩;refine⟨_,rfl,rfl,_,rfl,iM rfl ?_⟩;refine⟨λm σ H2=>∃si:eP,m=si.left.toNat/\σ=[some (.ref R.x),some (.ref L.c),some (.ref t),some (.str "while")]/\qt R L H H2/\fW K C R H2 si.said si.left/\iy ak R L H2 si.env/\Ev R.ps (n + 1) L.dep L.nm (.W c b) si r s',⟨_,s,rfl,rfl,.refl,I,J,hw⟩,?_⟩;rintro m σ H2 ⟨si,rfl,rfl,kp,I2,J2,e2⟩;have ID:=kp.tup I J hS;refine⟨_,rfl,R.x,R.dx,_,rfl,I2.hx,bN (by decide +kernel),_,rfl,_,rfl,t,_,_,_,rfl,rfl,ID,aN (j:=1) rfl,?_⟩
  cases e2.iW with
  | w0 h=>exact⟨R,L,x1,c,si,_,_,rfl,I2,J2,g1,h,(λH3 k3 I3=>⟨⟨rfl,_,rfl,tS rfl (q H3 (kp.trans k3.s) I3 ((h.wq rfl).symm ▸ J2.keep I2 k3)).1⟩,trivial⟩),λ_ _ _ _ _ _ e=>nomatch e⟩
  | wB h hb=>exact⟨R,L,x1,c,si,_,_,rfl,I2,J2,g1,h,(λH3 k3 I3=>⟨lq.bad hb,(q H3 (kp.trans k3.s) I3 ((h.wq rfl).symm ▸ J2.keep I2 k3)).2⟩),λ_ _ _ _ _ _ e=>(OK hb e).elim⟩
  | @wL _ _ k _ _ s1 _ h hk h2 hb =>
   refine⟨R,L,x1,c,si,s1,_,rfl,I2,J2,g1,h,(λH3 k3 I3=>⟨⟨rfl,_,rfl,mD (λz=>hk (V.int.inj z)) ⟨λ_ _=>False,λ_ _ z=>z.elim,?_⟩⟩,trivial⟩),λ_ _ _ _ _ _ e=>nomatch e⟩;have J3:iy ak R L H3 s1.env:=(h.wq rfl).symm ▸ J2.keep I2 k3;exact⟨_,rfl,R.x,R.dx,_,rfl,I3.hx,bN (by decide +kernel),_,rfl,_,rfl,t,_,_,_,rfl,rfl,k3.tup I2 ID,aN (j:=2) rfl,R,L,x2,b,s1,_,_,rfl,I3,J3,g2,h2,λH4 k4 I4 J4=>⟨lq.bad hb,(q H4 (kp.trans (k3.s.trans k4)) I4 J4).2⟩⟩
  | @wS _ _ k _ s1 _ h hk h2 hl =>
   refine⟨R,L,x1,c,si,s1,_,rfl,I2,J2,g1,h,(λH3 k3 I3=>⟨⟨rfl,_,rfl,mD (λz=>hk (V.int.inj z)) ⟨λ_ _=>False,λ_ _ z=>z.elim,?_⟩⟩,trivial⟩),λ_ _ _ _ _ _ e=>nomatch e⟩;have J3:iy ak R L H3 s1.env:=(h.wq rfl).symm ▸ J2.keep I2 k3;refine⟨_,rfl,R.x,R.dx,_,rfl,I3.hx,bN (by decide +kernel),_,rfl,_,rfl,t,_,_,_,rfl,rfl,k3.tup I2 ID,aN (j:=2) rfl,R,L,x2,b,s1,_,_,rfl,I3,J3,g2,h2,λH4 k4 I4 J4=>⟨?_,trivial⟩⟩;exact⟨_,rfl,R.x,R.dx,_,rfl,I4.hx,bN (by decide +kernel),R,_,_,rfl,I4,λ_=>(q H4 (kp.trans (k3.s.trans k4)) I4 J4).2,λz=>absurd z (by omega)⟩
  | @wM _ _ k _ _ s1 s2 _ h hk h2 hl h3 =>
   refine⟨R,L,x1,c,si,s1,_,rfl,I2,J2,g1,h,(λH3 k3 I3=>⟨⟨rfl,_,rfl,mD (λz=>hk (V.int.inj z)) ⟨_,λ_ _ z=>z,?_⟩⟩,trivial⟩),λ_ _ _ _ _ _ e=>nomatch e⟩;have J3:iy ak R L H3 s1.env:=(h.wq rfl).symm ▸ J2.keep I2 k3;refine⟨_,rfl,R.x,R.dx,_,rfl,I3.hx,bN (by decide +kernel),_,rfl,_,rfl,t,_,_,_,rfl,rfl,k3.tup I2 ID,aN (j:=2) rfl,R,L,x2,b,s1,_,_,rfl,I3,J3,g2,h2,λH4 k4 I4 J4=>⟨?_,trivial⟩⟩;refine⟨_,rfl,R.x,R.dx,_,rfl,I4.hx,bN (by decide +kernel),R,_,_,rfl,I4,λz=>absurd z (by omega),λ_=>?_⟩;have l1:=h.le;have l2:=h2.le;exact⟨_,(by show(s2.left - 1).toNat < _;omega),{s2 with left:=s2.left - 1},rfl,rfl,kp.trans (k3.s.trans (k4.trans kL.Tx.s)),I4.spent,J4.keep I4 .Tx,h3⟩
 | tr h1 =>
  obtain⟨t,x1,x2,x3,rfl,hS,g1⟩:=qb hT I.s0;refine⟨_,rfl,t,_,_,_,rfl,rfl,hS,aN (j:=0) rfl,?_⟩;refine⟨_,rfl,rfl,_,rfl,bK (by decide +kernel) ?_⟩;refine⟨_,rfl,rfl,_,rfl,bK (by decide +kernel) ?_⟩;refine⟨_,rfl,rfl,_,rfl,bK (by decide +kernel) ?_⟩;exact⟨_,rfl,R.x,R.dx,_,rfl,I.hx,bN (by decide +kernel),_,rfl,_,rfl,R,L,_,_,_,_,s,s',r,rfl,I,J,hT,h1,λH' kp I' J'=>⟨lq.drop (h1.OH rfl) (q H' kp I' J').1,(q H' kp I' J').2⟩⟩
theorem fi:aS ["self","call","tree","word","record","value"] ["self","call","tree"] (dS c8):=by walk_at "sc"
theorem jZ{n:Nat}{f:Addr}{fd:FuncData}(F:iq K "do_statement" "Reading.do_statement" c8 f fd){aD:Addr}(bP:mg "Fault"=some (.ref aD))(cQ:PySem.W.ktsIn K aD "BaseException"=true){aZ:Addr}(ij:mg "Gave"=some (.ref aZ))(kA:PySem.W.ktsIn K aZ "BaseException"=true)(nY:vH P w K mg base aD ["number"])(OY:vH P w K mg base aZ ["value"]){aq:Addr}(aJ:aw K aq){ak:Addr}(aL:aA K ak){C:Addr}{wt:Bool}(ac:aC K C)(uh:dR P w K mg base (dD P w) C "do_nesting" (n + 3) ["self","call","tree"] (jA K n C ak mg))(bG:dR P w K mg base (dD P w) C "value_of" (n + 3) ["self","call","tree"] (dP K n C ak aq mg)):bL P w K mg base (dD P w) (n + 3 + 1) f fd ["self","call","tree"] (ie K (n + 1) C ak mg):=by
 refine F.Cy fi (λvs H Q E h=>?_) (λcdv A outer s H vs Q E hr h=>?_)
 ·obtain⟨R,L,tv,t,s,s',r,rfl,I,J,hT,ev,q⟩:=h;rfl
 obtain⟨R,L,tv,t,s,s',r,rfl,I,J,hT,ev,q⟩:=h;refine⟨_,(qK (bX (i:=3) fi.nd rfl (aac rfl) (aQ aU (pv 2) pI (λ_ _=>rfl)))
   (qO (bA (tR bF (pv 3) aY (aO _)) (qO (vM (Bi hr) (g7 (pv 1) rfl) (aQ aU (pv 2) pI (λ_ _=>rfl)) (dJ (pv 0) bG bI (hr.mono (by omega)) (pK (pv 1) (pK (aQ aU (pv 2) pI (λ_ _=>rfl)) pN))) rfl)) (qO (bA (tR bF (pv 3) aY (aO _)) (qO (vM (Bi hr) (g7 (pv 1) rfl) (aQ aU (pv 2) pI (λ_ _=>rfl)) (dJ (pv 0) bG bI (hr.mono (by omega)) (pK (pv 1) (pK (aQ aU (pv 2) pI (λ_ _=>rfl)) pN))) rfl)) (qO (bA (tR bF (pv 3) aY (aO _)) (qK iU
   (qK iU
   (qO iU))) (qO (bA (tR bF (pv 3) aY (aO _)) (qO (cO (rg aa1 aa6 aa7 eS (g7 (pv 0) rfl) (pK (dJ (pv 0) bG bI (hr.mono (by omega)) (pK (pv 1) (pK (aQ aU (pv 2) pI (λ_ _=>rfl)) pN))) pN)))) (qO (bA (tR bF (pv 3) aY (aO _)) (qO (oJ zI nY (hr.mono (by omega)) rfl bP rfl (pK (dJ (pv 0) bG bI (hr.mono (by omega)) (pK (pv 1) (pK (aQ aU (pv 2) pI (λ_ _=>rfl)) pN))) pN))) (qO (bA (tR bF (pv 3) aY (aO _)) (qO (cO (dJ (pv 0) bG bI (hr.mono (by omega)) (pK (pv 1) (pK (aQ aU (pv 2) pI (λ_ _=>rfl)) pN))))) (qO (bA (tR bF (pv 3) aY (aO _)) (qO (oJ zI OY (hr.mono (by omega)) rfl ij rfl (pK (dJ (pv 0) bG bI (hr.mono (by omega)) (pK (pv 1) (pK (aQ aU (pv 2) pI (λ_ _=>rfl)) pN))) pN))) (qO (cO (dJ (pv 0) uh bI (hr.mono (by omega)) (pK (pv 1) (pK (pv 2) pN)))))))))))))))))))),?_⟩
 have vE:∀(e:PyData) (x:V) (s1:eP) (r1:Res) (Q1:VK),bz K R.H0 x e->Ev R.ps n L.dep L.nm (.E e) s r1 s1->r1.OE=false->(∀H',kL R H H'->fW K C R H' s1.said s1.left->lq Q1 r1 H'/\pd mg E r1 H')->dP K n C ak aq mg [.ref R.x,.ref L.c,x] H Q1 E :=
  λe x s1 r1 Q1 hx h hn z=>⟨R,L,x,e,s,s1,r1,rfl,I,J,hx,h,z,λ_ _ _ _ _ _ e=>(R6 hn e).elim⟩
 rcases ev.D7 with⟨e,r1,s1,ha,h1,hr⟩ | ⟨hn,h1⟩
 ·have j1:s.env=s1.env:=(h1.wq rfl).symm
  have nr:r1.OE=false:=by
   rcases hr with⟨k,rfl,_⟩ | ⟨b,_⟩
   ·rfl
   ·cases r1<;>first | rfl | cases b
  cases ha with
  | let' =>
   obtain⟨t,_,x2,x3,rfl,hS,g1,g2,g3⟩:=qb hT I.s0;have z:=bz.bR g1;subst z;refine⟨_,rfl,t,_,_,_,rfl,rfl,hS,aN (j:=0) rfl,?_⟩;refine⟨_,rfl,rfl,_,rfl,iM rfl ?_⟩;refine⟨_,rfl,R.x,R.dx,_,rfl,I.hx,bN (by decide +kernel),_,rfl,_,rfl,t,_,_,_,rfl,rfl,hS,aN (j:=3) rfl,vE _ _ _ _ _ g3 h1 nr λH' kp I'=>?_⟩;rcases hr with⟨k,rfl,act⟩ | ⟨b,e1,e2⟩
   ·refine⟨?_,trivial⟩
    cases act with
    | let' hx =>
     have J':iy ak R L H' s1.env:=j1 ▸ J.keep I kp;obtain⟨o,dp,J2⟩:=J'.put hx k;exact⟨_,rfl,L.c,ak,L.dc,_,_,rfl,J'.hc,aL.cl,aL.nI,nJ,_,rfl,t,_,_,_,rfl,rfl,kp.tup I hS,aN (j:=1) rfl,L.d,_,rfl,dp,(q _ (kp.s.trans .U4) (I'.dict J' o) J2).1⟩
   ·subst e1 e2;exact⟨lq.bad b,(q H' kp.s I' (j1 ▸ J.keep I kp)).2⟩
  | set =>
   obtain⟨t,_,x2,rfl,hS,g1,g2⟩:=nK hT I.s0;have z:=bz.bR g1;subst z;refine⟨_,rfl,t,_,_,_,rfl,rfl,hS,aN (j:=0) rfl,?_⟩;refine⟨_,rfl,rfl,_,rfl,bK (by decide +kernel) ?_⟩;refine⟨_,rfl,rfl,_,rfl,iM rfl ?_⟩;refine⟨_,rfl,R.x,R.dx,_,rfl,I.hx,bN (by decide +kernel),_,rfl,_,rfl,t,_,_,_,rfl,rfl,hS,aN (j:=2) rfl,vE _ _ _ _ _ g2 h1 nr λH' kp I'=>?_⟩;rcases hr with⟨k,rfl,act⟩ | ⟨b,e1,e2⟩
   ·refine⟨?_,trivial⟩
    cases act with
    | set hx =>
     have J':iy ak R L H' s1.env:=j1 ▸ J.keep I kp;obtain⟨o,dp,J2⟩:=J'.put hx k;exact⟨_,rfl,L.c,ak,L.dc,_,_,rfl,J'.hc,aL.cl,aL.nI,nJ,_,rfl,t,_,_,_,rfl,rfl,kp.tup I hS,aN (j:=1) rfl,L.d,_,rfl,dp,(q _ (kp.s.trans .U4) (I'.dict J' o) J2).1⟩
   ·subst e1 e2;exact⟨lq.bad b,(q H' kp.s I' (j1 ▸ J.keep I kp)).2⟩
  | say =>
   obtain⟨t,x1,rfl,hS,g1⟩:=sA hT I.s0;refine⟨_,rfl,t,_,_,_,rfl,rfl,hS,aN (j:=0) rfl,?_⟩;refine⟨_,rfl,rfl,_,rfl,bK (by decide +kernel) ?_⟩;refine⟨_,rfl,rfl,_,rfl,bK (by decide +kernel) ?_⟩;refine⟨_,rfl,rfl,_,rfl,bK (by decide +kernel) ?_⟩;refine⟨_,rfl,rfl,_,rfl,iM rfl ?_⟩;refine⟨_,rfl,R.x,C,R.dx,_,_,rfl,I.hx,ac.cl,ac.Ad,BQ,.inl ⟨rfl,_,bZ.of I.hs⟩,_,rfl,R.x,R.dx,_,rfl,I.hx,bN (by decide +kernel),_,rfl,_,rfl,t,_,_,_,rfl,rfl,hS,aN (j:=1) rfl,vE _ _ _ _ _ g1 h1 nr λH' kp I'=>?_⟩;rcases hr with⟨k,rfl,act⟩ | ⟨b,e1,e2⟩
   ·refine⟨?_,trivial⟩
    cases act with
    | say hl =>
     have J':iy ak R L H' s1.env:=j1 ▸ J.keep I kp;have J2:iy ak R L (upd H' R.sd (.lst (s1.said.map V.int++[.int k]))) s1.env:=⟨(uN (J'.cs I')).trans J'.hc,let ⟨kvs,h,a,b,c⟩:=J'.hd;⟨kvs,(uN (J'.ds I')).trans h,a,b,c⟩,J'.nd,J'.few⟩;exact⟨R.sd,_,_,rfl,rfl,I'.hs,(by rw[aah];exact aae hl (by decide)),(q _ (kp.s.trans .Z4) (I'.say k) J2).1⟩
   ·subst e1 e2;exact⟨lq.bad b,(q H' kp.s I' (j1 ▸ J.keep I kp)).2⟩
  | toss =>
   obtain⟨t,x1,rfl,hS,g1⟩:=sA hT I.s0;refine⟨_,rfl,t,_,_,_,rfl,rfl,hS,aN (j:=0) rfl,?_⟩;refine⟨_,rfl,rfl,_,rfl,bK (by decide +kernel) ?_⟩;refine⟨_,rfl,rfl,_,rfl,bK (by decide +kernel) ?_⟩;refine⟨_,rfl,rfl,_,rfl,bK (by decide +kernel) ?_⟩;refine⟨_,rfl,rfl,_,rfl,bK (by decide +kernel) ?_⟩;refine⟨_,rfl,rfl,_,rfl,iM rfl ?_⟩;refine⟨_,rfl,R.x,R.dx,_,rfl,I.hx,bN (by decide +kernel),_,rfl,_,rfl,t,_,_,_,rfl,rfl,hS,aN (j:=1) rfl,vE _ _ _ _ _ g1 h1 nr λH' kp I'=>?_⟩;rcases hr with⟨k,rfl,act⟩ | ⟨b,e1,e2⟩
   ·refine⟨?_,trivial⟩
    cases act with
    | toss=>exact⟨rfl,λdx H2 n2 s2 g2=>(q H2 (kp.s.trans (.of s2)) (I'.same s2) ((j1 ▸ J.keep I kp:iy ak R L H' s'.env).same s2)).2 aD (some dx) bP ⟨dx,rfl,g2⟩⟩
   ·subst e1 e2;exact⟨lq.bad b,(q H' kp.s I' (j1 ▸ J.keep I kp)).2⟩
  | drop =>
   obtain⟨t,x1,rfl,hS,g1⟩:=sA hT I.s0;refine⟨_,rfl,t,_,_,_,rfl,rfl,hS,aN (j:=0) rfl,?_⟩;refine⟨_,rfl,rfl,_,rfl,bK (by decide +kernel) ?_⟩;refine⟨_,rfl,rfl,_,rfl,bK (by decide +kernel) ?_⟩;refine⟨_,rfl,rfl,_,rfl,bK (by decide +kernel) ?_⟩;refine⟨_,rfl,rfl,_,rfl,bK (by decide +kernel) ?_⟩;refine⟨_,rfl,rfl,_,rfl,bK (by decide +kernel) ?_⟩;refine⟨_,rfl,rfl,_,rfl,iM rfl ?_⟩;refine⟨_,rfl,R.x,R.dx,_,rfl,I.hx,bN (by decide +kernel),_,rfl,_,rfl,t,_,_,_,rfl,rfl,hS,aN (j:=1) rfl,vE _ _ _ _ _ g1 h1 nr λH' kp I'=>?_⟩;rcases hr with⟨k,rfl,act⟩ | ⟨b,e1,e2⟩
   ·refine⟨?_,trivial⟩
    cases act with
    | drop=>exact(q _ kp.s I' (j1 ▸ J.keep I kp)).1
   ·subst e1 e2;exact⟨lq.bad b,(q H' kp.s I' (j1 ▸ J.keep I kp)).2⟩
  | give =>
   obtain⟨t,x1,rfl,hS,g1⟩:=sA hT I.s0;refine⟨_,rfl,t,_,_,_,rfl,rfl,hS,aN (j:=0) rfl,?_⟩;refine⟨_,rfl,rfl,_,rfl,bK (by decide +kernel) ?_⟩;refine⟨_,rfl,rfl,_,rfl,bK (by decide +kernel) ?_⟩;refine⟨_,rfl,rfl,_,rfl,bK (by decide +kernel) ?_⟩;refine⟨_,rfl,rfl,_,rfl,bK (by decide +kernel) ?_⟩;refine⟨_,rfl,rfl,_,rfl,bK (by decide +kernel) ?_⟩;refine⟨_,rfl,rfl,_,rfl,bK (by decide +kernel) ?_⟩;refine⟨_,rfl,rfl,_,rfl,iM rfl ?_⟩;refine⟨_,rfl,R.x,R.dx,_,rfl,I.hx,bN (by decide +kernel),_,rfl,_,rfl,t,_,_,_,rfl,rfl,hS,aN (j:=1) rfl,vE _ _ _ _ _ g1 h1 nr λH' kp I'=>?_⟩;rcases hr with⟨k,rfl,act⟩ | ⟨b,e1,e2⟩
   ·refine⟨?_,trivial⟩
    cases act with
    | give=>exact⟨rfl,λdx H2 n2 s2 g2=>(q H2 (kp.s.trans (.of s2)) (I'.same s2) ((j1 ▸ J.keep I kp:iy ak R L H' s'.env).same s2)).2 aZ (some dx) ij ⟨dx,rfl,g2⟩⟩
   ·subst e1 e2;exact⟨lq.bad b,(q H' kp.s I' (j1 ▸ J.keep I kp)).2⟩
 ·cases hn with
  | if' =>
   obtain⟨t,x1,x2,x3,rfl,hS,g1⟩:=qb hT I.s0;refine⟨_,rfl,t,_,_,_,rfl,rfl,hS,aN (j:=0) rfl,?_⟩;refine⟨_,rfl,rfl,_,rfl,bK (by decide +kernel) ?_⟩;refine⟨_,rfl,rfl,_,rfl,bK (by decide +kernel) ?_⟩;refine⟨_,rfl,rfl,_,rfl,bK (by decide +kernel) ?_⟩;refine⟨_,rfl,rfl,_,rfl,bK (by decide +kernel) ?_⟩;refine⟨_,rfl,rfl,_,rfl,bK (by decide +kernel) ?_⟩;refine⟨_,rfl,rfl,_,rfl,bK (by decide +kernel) ?_⟩;refine⟨_,rfl,rfl,_,rfl,bK (by decide +kernel) ?_⟩;exact⟨_,rfl,R.x,R.dx,_,rfl,I.hx,bN (by decide +kernel),_,rfl,_,rfl,R,L,_,_,s,s',r,rfl,I,J,hT,h1,λH' kp I' J'=>⟨lq.drop (h1.OH rfl) (q H' kp I' J').1,(q H' kp I' J').2⟩⟩
  | wh =>
   obtain⟨t,x1,x2,rfl,hS,g1⟩:=nK hT I.s0;refine⟨_,rfl,t,_,_,_,rfl,rfl,hS,aN (j:=0) rfl,?_⟩;refine⟨_,rfl,rfl,_,rfl,bK (by decide +kernel) ?_⟩;refine⟨_,rfl,rfl,_,rfl,bK (by decide +kernel) ?_⟩;refine⟨_,rfl,rfl,_,rfl,bK (by decide +kernel) ?_⟩;refine⟨_,rfl,rfl,_,rfl,bK (by decide +kernel) ?_⟩;refine⟨_,rfl,rfl,_,rfl,bK (by decide +kernel) ?_⟩;refine⟨_,rfl,rfl,_,rfl,bK (by decide +kernel) ?_⟩;refine⟨_,rfl,rfl,_,rfl,bK (by decide +kernel) ?_⟩;exact⟨_,rfl,R.x,R.dx,_,rfl,I.hx,bN (by decide +kernel),_,rfl,_,rfl,R,L,_,_,s,s',r,rfl,I,J,hT,h1,λH' kp I' J'=>⟨lq.drop (h1.OH rfl) (q H' kp I' J').1,(q H' kp I' J').2⟩⟩
  | tr =>
   obtain⟨t,x1,x2,x3,rfl,hS,g1⟩:=qb hT I.s0;refine⟨_,rfl,t,_,_,_,rfl,rfl,hS,aN (j:=0) rfl,?_⟩;refine⟨_,rfl,rfl,_,rfl,bK (by decide +kernel) ?_⟩;refine⟨_,rfl,rfl,_,rfl,bK (by decide +kernel) ?_⟩;refine⟨_,rfl,rfl,_,rfl,bK (by decide +kernel) ?_⟩;refine⟨_,rfl,rfl,_,rfl,bK (by decide +kernel) ?_⟩;refine⟨_,rfl,rfl,_,rfl,bK (by decide +kernel) ?_⟩;refine⟨_,rfl,rfl,_,rfl,bK (by decide +kernel) ?_⟩;refine⟨_,rfl,rfl,_,rfl,bK (by decide +kernel) ?_⟩;exact⟨_,rfl,R.x,R.dx,_,rfl,I.hx,bN (by decide +kernel),_,rfl,_,rfl,R,L,_,_,s,s',r,rfl,I,J,hT,h1,λH' kp I' J'=>⟨lq.drop (h1.OH rfl) (q H' kp I' J').1,(q H' kp I' J').2⟩⟩
theorem jm:aS ["self","call","trees","tree"] ["self","call","trees"] (dS gp):=by walk_at "sc"
theorem nZ{n:Nat}{f:Addr}{fd:FuncData}(F:iq K "do_all" "Reading.do_all" gp f fd){aq:Addr}(aJ:aw K aq){ak:Addr}(aL:aA K ak){C:Addr}{wt:Bool}(ac:aC K C)(qy:dR P w K mg base (dD P w) C "do_statement" (n + 3) ["self","call","tree"] (ie K n C ak mg)):bL P w K mg base (dD P w) (n + 3 + 1) f fd ["self","call","trees"] (jT K (n + 1) C ak mg):=by
 refine F.Cy jm (λvs H Q E h=>?_) (λcdv A outer s H vs Q E hr h=>?_)
 ·obtain⟨R,L,tv,ts,s,s',r,rfl,I,J,hT,ev,q⟩:=h;rfl
 obtain⟨R,L,tv,ts,s,s',r,rfl,I,J,hT,ev,q⟩:=h;refine⟨_,(qO (vn PassesOwn.leaving rfl (qA (pv 2)) (gH (i:=3) jm.nd rfl (aac rfl)) (qO (cO (dJ (pv 0) qy bI (hr.mono (by omega)) (pK (pv 1) (pK (pv 3) pN))))))),?_⟩;obtain⟨a,us,rfl,hL,hU⟩:=bz.dZ hT;have lu:us.length=ts.length:=hU.1;refine⟨_,rfl,a,rfl,⟨_,I.s0.seq hL⟩,?_⟩;refine xv (xs:=us) (λi σ H2=>∃(u:Option V) (si:eP),σ=[some (.ref R.x),some (.ref L.c),some (.ref a),u]/\qt R L H H2/\fW K C R H2 si.said si.left/\iy ak R L H2 si.env/\Ev R.ps (n + 1) L.dep L.nm (.Ss (ts.drop i)) si r s') ⟨none,s,rfl,.refl,I,J,ev⟩ ?_ ?_ ?_
 ·rintro i σ H2 _ ⟨u,si,rfl,_,I2,_⟩;exact I2.s0.seq hL
 ·rintro i x σ H2 hx ⟨u,si,rfl,kp,I2,J2,e2⟩;have hi:i < ts.length:=by rw[← lu];exact(ft hx).1
  have hrx:=hU.2 i x _ hx (jG hi);rw[abE hi]at e2;refine⟨_,rfl,R.x,R.dx,_,rfl,I2.hx,bN (by decide +kernel),_,rfl,_,rfl,?_⟩
  cases e2.Qw with
  | ssC h1 h2=>exact⟨R,L,x,_,si,_,_,rfl,I2,J2,hrx,h1,λH' kp' I' J'=>⟨⟨some x,_,rfl,kp.trans kp',I',J',h2⟩,trivial⟩⟩
  | ssB h1 hb=>exact⟨R,L,x,_,si,_,_,rfl,I2,J2,hrx,h1,λH' kp' I' J'=>⟨lq.bad hb,(q H' (kp.trans kp') I' J').2⟩⟩
 ·rintro σ H2 ⟨u,si,rfl,kp,I2,J2,e2⟩;rw[lu,ab8]at e2
  cases e2.Qw with
  | ssN=>exact(q H2 kp I2 J2).1
theorem pE:aS ["self","depth","known"] ["self","depth","known"] (dS ia):=by walk_at "sc"
theorem pF{f:Addr}{fd:FuncData}(F:iq K "__init__" "Call.__init__" ia f fd){aq:Addr}(aJ:aw K aq){ak:Addr}(aL:aA K ak):bL P w K mg base cb 1 f fd ["self","depth","known"] (kr K ak):=by
 refine F.ok pE (λvs H Q E h=>?_) (λcdv A outer s H vs Q E hr h=>?_)
 ·obtain⟨x,dx,d,p,rfl,hx,q⟩:=h;rfl
 obtain⟨x,dx,d,p,rfl,hx,q⟩:=h;refine⟨_,(qK (kS (pv 0) (pv 1) rfl)
   (qO (kS (pv 0) (pv 2) rfl))),?_⟩
 refine⟨_,rfl,_,rfl,x,ak,dx,_,rfl,hx,aL.cl,aL.qM,(by show 0 < 1000;decide),?_⟩;refine⟨_,rfl,_,rfl,x,ak,dx,_,rfl,uS,aL.cl,aL.nI,(by show(df _ _ _).length < 1000;exact aaR (dF _ _ _) (by show 1 < 1000;decide)),?_⟩;refine q _ ?_ (λc o hc e=>?_)
 ·rw[uS,OB]
 ·rw[uN hc,uN hc];exact e
theorem cV:aS ["self","part","values","depth","told","names","call","gave"] ["self","part","values","depth"] (dS ib):=by walk_at "sc"
theorem pG{n:Nat}{f:Addr}{fd:FuncData}(F:iq K "given" "Reading.given" ib f fd){bC:Addr}(c9:mg "Weary"=some (.ref bC))(fO:PySem.W.excIn K bC (rA false) (vG false)=true)(fP:PySem.W.ktsIn K bC "BaseException"=true){aD:Addr}(bP:mg "Fault"=some (.ref aD))(cQ:PySem.W.ktsIn K aD "BaseException"=true)(sX:mg "dict"=none)(yN:mg "zip"=none){aZ:Addr}(ij:mg "Gave"=some (.ref aZ))(kA:PySem.W.ktsIn K aZ "BaseException"=true){aq:Addr}(aJ:aw K aq){ak:Addr}(aL:aA K ak){C:Addr}{wt:Bool}(ac:aC K C)(gx:dR P w K mg base (dD P w) C "do_all" (n + 3) ["self","call","trees"] (jT K n C ak mg))(bG:dR P w K mg base (dD P w) C "value_of" (n + 3) ["self","call","tree"] (dP K n C ak aq mg))(Kz:zL P w K mg base cb ak "Call" 1 ["self","depth","known"] (kr K ak))(lN:PySem.W.findIn K (.ref aZ) "__getattribute__"=some (some (.builtin "BaseException.__getattribute__")))(lO:PySem.W.findIn K (.ref aZ) "__getattr__"=some none)(lP:PySem.W.findIn K (.ref aZ) "__class__"=some (some (.builtin "object.__class__")))(lQ:PySem.W.mroIn K aZ (.type "BaseException")=some true)(lR:PySem.W.mroIn K aZ (.type "object")=some true)(lS:PySem.W.hasDictIn K aZ=true)(GD:PySem.W.mroIn K aZ (.ref aZ)=some true)(GF:PySem.W.mroIn K aD (.ref aZ)=some false)(GH:PySem.W.mroIn K bC (.ref aZ)=some false)(GI:PySem.W.findIn K (.ref aZ) "value"=some none):bL P w K mg base (dD P w) (n + 3 + 1) f fd ["self","part","values","depth"] (nQ K (n + 1) C mg):=by
 refine F.Cy cV (λvs H Q E h=>?_) (λcdv A outer s H vs Q E hr h=>?_)
 ·obtain⟨R,il,p,dep,ks,m,s,s',r,rfl,I,hS,ev,q⟩:=h;rfl
 obtain⟨R,il,p,dep,ks,m,s,s',r,rfl,I,hS,ev,q⟩:=h;refine⟨_,(qK (bX (i:=4) cV.nd rfl (aac rfl) (aQ bH (aQ aU (g7 (pv 0) rfl) pI (λ_ _=>rfl)) (pv 1) (λ_ _=>rfl)))
   (qK (xI (i:=5) cV.nd rfl (aac rfl) 1 ["take"] [] ⟨rfl,rfl,rfl,rfl,rfl,rfl,rfl,rfl⟩ (qA (aQ aU (pv 4) pI (λ_ _=>rfl))) (λ_ _ _ _=>⟨(gH (i:=0) (show List.Nodup (["take"]:List Str)by decide +kernel) rfl (aac rfl)),qC,(aQ (r:=xD K) aU (pv 0) pI (λ_ _=>rfl))⟩))
   (qK (bX (i:=6) cV.nd rfl (aac rfl) (Ft Kz rh (hr.mono (by omega)) rfl (pK (pv 3) (pK (Ge rfl sX rfl yN rfl (pK (pv 5) (pK (pv 2) pN))) pN))))
   (qK (qJ (yn (sq (λ_=>(pv 0)) gx (hr.mono (by omega)) (λ_=>(pK (pv 6) (pK (aQ (r:=xD K) aU (pv 4) pI (λ_ _=>rfl)) pN)))) Kf) (Gg (i:=7) rfl ij kA cV.nd rfl rfl (λ_ _=>(qO (aW (show PE _ _ (Te K _ _)from (Fe (pv 7) rfl))))) (z9 je)))
   (qO (aW (dJ (pv 0) bG bI (hr.mono (by omega)) (pK (pv 6) (pK (aQ aU (pv 4) pI (λ_ _=>rfl)) pN))))))))),?_⟩
 have kx:KX K aZ:=⟨lN,lO,lP,lQ,lR⟩;obtain⟨pq,hp,hl⟩:∃pq,R.ps[p]?=some pq/\ks.length=pq.tk.length:=by cases ev.iG<;>exact⟨_,by assumption,by assumption⟩
 obtain⟨b',bx,e,hT,hR⟩:=bz.hV (show bz K R.H0 (.ref R.b) (.tuple [R.ms,.list (R.ps.map zb)])from I.pr);cases e;obtain⟨m0,m1,rfl⟩:=XC hR.1;obtain⟨pl,xs,rfl,hL,hP⟩:=bz.dZ (hR.2 1 m1 _ rfl rfl);have lx:xs.length=R.ps.length:=by rw[hP.1,aah]
 have hjl:=(ft hp).1;have hxj:xs[p]?=some (xs[p]'(by omega)):=jG (by omega);have XT:=hP.2 p _ (zb pq) hxj (by rw[aaO,hp];rfl);generalize xs[p]'(by omega)=tv at hxj XT;obtain⟨t,ts,rfl,hTt,hRt⟩:=bz.hV (show bz K R.H0 tv (.tuple [.list (pq.tk.map Oy),.tuple (wk pq.gv),.list pq.bd,pq.an])from XT);obtain⟨t0,t1,t2,t3,rfl⟩:=XF hRt.1;obtain⟨nl,ns,rfl,hN,hNR⟩:=bz.dZ (hRt.2 0 t0 _ rfl rfl);have hBd:=hRt.2 2 t2 _ rfl rfl;have hAn:=hRt.2 3 t3 _ rfl rfl;have ln:ns.length=pq.tk.length:=by rw[hNR.1,aah]
 have mem:=aaG hp;have OW:=I.wf.tks pq mem;have s0:=I.s0;refine⟨_,rfl,R.x,C,R.dx,_,_,rfl,I.hx,ac.cl,ac.va,Af,R.b,_,_,_,rfl,rfl,s0.tup hT,aN (j:=1) rfl,_,rfl,pl,_,_,_,rfl,rfl,s0.seq hL,aN hxj,?_⟩;refine⟨_,rfl,t,_,_,_,rfl,rfl,s0.tup hTt,aN (j:=0) rfl,nl,rfl,⟨_,s0.seq hN⟩,λD hD=>?_⟩;refine vF (xs:=ns) (λi zs H2=>bf H H2/\H2 D=some (.lst zs)/\zs=(pq.tk.take i).map λt=>V.str t.1) (abQ (sK (by omega))) ⟨aT hD _,uS,rfl⟩ ?_ ?_ ?_
 ·rintro i zs H2 hi ⟨s2,d2,rfl⟩;refine⟨d2,?_,s2.seq (s0.seq hN)⟩;rw[aah,abq];omega
 ·rintro i v zs H2 hv ⟨s2,d2,rfl⟩;have hi:i < pq.tk.length:=by rw[← ln];exact(ft hv).1
  have ht:pq.tk[i]?=some pq.tk[i]:=jG hi;have hrv:=hNR.2 i v (Oy pq.tk[i]) hv (by rw[aaO,ht];rfl);obtain⟨tt,x1,rfl,hTT,_⟩:=sA (show bz K R.H0 v (.tuple [.str pq.tk[i].1,.tuple (wk pq.tk[i].2)])from hrv) (s0.trans s2);refine⟨rfl,_,rfl,tt,_,_,_,rfl,rfl,hTT,aN (j:=0) rfl,d2,yq s2 hD _,uS,?_⟩;rw[List.take_add_one,ht,abM];rfl
 rintro zs H2 ⟨s2,d2,rfl⟩;rw[ln,List.take_length]at d2;refine⟨_,rfl,_,rfl,_,rfl,D,il,pq.tk.map (·.1),ks.map V.int,rfl,?_,s2.seq hS,I.wf.nd pq mem,?_,?_,λd hd=>?_⟩
 ·rw[abV];exact bZ.of d2
 ·rw[aah,aah,hl]
 ·rw[aah];omega
 intro xx dxx nx ndx ne;have s3:=s2.trans (aT hd (.dK (((pq.tk.map (·.1)).zip (ks.map V.int)).map λp=>(Sum.inr p.1,p.2))));have d3:=uS (H:=H2) (a:=d) (o:=.dK (((pq.tk.map (·.1)).zip (ks.map V.int)).map λp=>(Sum.inr p.1,p.2)))
 have FR:H d=none:=by
  cases e:H d with
  | none=>rfl
  | some o=>rw[s2 _ _ e]at hd;cases hd
 generalize upd H2 d (.dK (((pq.tk.map (·.1)).zip (ks.map V.int)).map λp=>(Sum.inr p.1,p.2)))=H3 at s3 d3 nx ndx ⊢;refine⟨xx,dxx,d,dep,rfl,uS,λH4 e4 k4=>⟨rfl,?_⟩⟩;have OZ:bf H3 H4:=λc o e=>k4 c o (nN e nx) (by rw[uN (nN e nx),uN (nN e ndx)];exact e)
 have s4:=s3.trans OZ;have I4:=I.same s4;have XU:=(s0.trans s4).tup hTt
 have J4:iy ak R ⟨xx,dxx,d,dep,pq.nm⟩ H4 (envOf (pq.tk.map (·.1)) ks):=by
  refine⟨e4,⟨_,OZ _ _ d3,?_,?_,BS _ _⟩,I.h0 FR,I.wf.nms pq mem⟩
  ·rw[vc (by rw[aah];exact hl)];exact List.pairwise_map.mpr ((I.wf.nd pq mem).imp λh z=>h (acL z))
  ·rw[vc (by rw[aah];exact hl)];intro k hk;obtain⟨y,hy,e⟩:=acG.mp hk;exact⟨y,I.wf.sub pq mem y hy,e.symm⟩
 have back:∀{H':Hp},qt R ⟨xx,dxx,d,dep,pq.nm⟩ H4 H'->kL R H H':=λk c o n1 n2 e=>k c o n1 n2 (nN e FR) (s4 _ _ e)
 refine⟨_,rfl,R.x,R.dx,_,rfl,I4.hx,bN (by decide +kernel),_,rfl,_,rfl,t,_,_,_,rfl,rfl,XU,aN (j:=2) rfl,?_⟩
 have pass:∀(r1:Res) (H':Hp) (D:Ends) (σ:St) (tb:TS),(∀k,r1≠.gave k)->pd mg E r1 H'->pd mg (RT K aZ 7 tb (Gf E) D σ) r1 H':=λr1 H' D σ tb hn z=>by
  cases r1 with
  | gave k=>exact absurd rfl (hn k)
  | fault k =>
   intro C' dd hC hx;rw[bP]at hC;cases hC;exact⟨_,rfl,.inr ⟨GF,z _ dd bP hx⟩⟩
  | weary =>
   intro C' dd hC;rw[c9]at hC;cases hC;exact⟨_,rfl,.inr ⟨GH,z _ dd c9⟩⟩
  | _=>trivial
 have same:∀{q':iZ},R.ps[p]?=some q'->q'=pq:=λh=>by rw[hp]at h;exact(aak h).symm
 cases ev.iG with
 | gB hq _ h1 h2 hRr =>
  rw[same hq]at h1 h2;refine⟨R,⟨xx,dxx,d,dep,pq.nm⟩,t2,pq.bd,{s with env:=envOf (pq.tk.map (·.1)) ks},_,.ok,rfl,I4,J4,hBd,h1,λH' kp I' J'=>⟨?_,trivial⟩⟩;exact⟨_,rfl,R.x,R.dx,_,rfl,I'.hx,bN (by decide +kernel),_,rfl,_,rfl,t,_,_,_,rfl,rfl,kp.tup I4 J4 XU,aN (j:=3) rfl,R,⟨xx,dxx,d,dep,pq.nm⟩,t3,pq.an,_,_,_,rfl,I',J',hAn,h2,(λH'' k'' I''=>q H'' ((back kp).trans k'') I''),λ_ _ _ _ _ _ e=>(R6 hRr e).elim⟩
 | @gG _ _ k _ _ _ hq _ h1 =>
  rw[same hq]at h1;refine⟨R,⟨xx,dxx,d,dep,pq.nm⟩,t2,pq.bd,{s with env:=envOf (pq.tk.map (·.1)) ks},_,.gave k,rfl,I4,J4,hBd,h1,λH' kp I' J'=>⟨trivial,?_⟩⟩;rintro C' dd hC ⟨dx,rfl,hdx⟩;rw[ij]at hC;cases hC;refine⟨_,rfl,.inl ⟨GD,λe he=>?_⟩⟩;have s5:=aT he (.ext (Md aZ e (some dx)));exact⟨_,rfl,e,aZ,dx,_,_,_,rfl,uS,zJ,s5 _ _ hdx,kx,lS,GI,rfl,(q _ ((back kp).trans (.of s5)) (I'.same s5)).1⟩
 | gX hq _ h1 hb hn =>
  rw[same hq]at h1;exact⟨R,⟨xx,dxx,d,dep,pq.nm⟩,t2,pq.bd,{s with env:=envOf (pq.tk.map (·.1)) ks},s',r,rfl,I4,J4,hBd,h1,λH' kp I' J'=>⟨lq.bad hb,pass _ _ _ _ _ hn (q H' (back kp) I').2⟩⟩
theorem jo:aS ["self","part","inputs","fault"] ["self","part","inputs"] (dS gq):=by walk_at "sc"
theorem n8{f:Addr}{fd:FuncData}(F:iq K "end_at" "Reading.end_at" gq f fd){aD:Addr}(bP:mg "Fault"=some (.ref aD))(cQ:PySem.W.ktsIn K aD "BaseException"=true){bC:Addr}(c9:mg "Weary"=some (.ref bC))(fO:PySem.W.excIn K bC (rA false) (vG false)=true)(fP:PySem.W.ktsIn K bC "BaseException"=true){aq:Addr}(aJ:aw K aq){ak:Addr}(aL:aA K ak){C:Addr}{wt:Bool}(ac:aC K C)(sU:dR P w K mg base (dD P w) C "given" 303 ["self","part","values","depth"] (nQ K 300 C mg))(eW:PySem.W.findIn K (.ref aD) "__getattribute__"=some (some (.builtin "BaseException.__getattribute__")))(eX:PySem.W.findIn K (.ref aD) "__getattr__"=some none)(eY:PySem.W.findIn K (.ref aD) "__class__"=some (some (.builtin "object.__class__")))(eZ:PySem.W.mroIn K aD (.type "BaseException")=some true)(fe:PySem.W.mroIn K aD (.type "object")=some true)(fg:PySem.W.hasDictIn K aD=true)(yH:PySem.W.mroIn K aD (.ref aD)=some true)(yI:PySem.W.mroIn K bC (.ref aD)=some false)(GJ:PySem.W.mroIn K bC (.ref bC)=some true)(yJ:PySem.W.findIn K (.ref aD) "number"=some none):bL P w K mg base cb 304 f fd ["self","part","inputs"] (pz K C mg):=by
 refine F.ok jo (λvs H Q E h=>?_) (λcdv A outer s H vs Q E hr h=>?_)
 ·obtain⟨R,il,p,ks,m,s,s',r,rfl,I,hS,ev,q⟩:=h;rfl
 obtain⟨R,il,p,ks,m,s,s',r,rfl,I,hS,ev,q⟩:=h;refine⟨_,(qO (qJ (BL (Ke (ym (Oh λ_=>aY) (ym (sq (λ_=>(pv 0)) sU (hr.mono (by decide)) (λ_=>(pK (pv 1) (pK (pv 2) (pK pI pN))))) Kc)))) (Gg (i:=3) rfl bP cQ jo.nd rfl rfl (λ_ _=>(qO (aW (dH (pK aY (pK (show PE _ _ (Te K _ _)from (Fe (pv 3) rfl)) pN)))))) (RU rfl c9 fP (λ_ _=>(qO (aW (dH (pK aY pN))))) J9)))),?_⟩;have kx:KX K aD:=⟨eW,eX,eY,eZ,fe⟩;refine⟨_,rfl,R.x,R.dx,_,rfl,I.hx,bN (by decide +kernel),_,rfl,_,rfl,R,il,p,1,ks,m,s,s',r,rfl,I,hS,ev,λH' kp I'=>?_⟩;have U5:=ev.U5 (.inr ⟨_,_,rfl⟩)
 cases r with
 | gave k=>exact absurd rfl (U5 k)
 | val k =>
  refine⟨⟨zd,λt ht=>?_⟩,trivial⟩;have s2:=aT ht (.tup [.str "gave",.int k]);exact q _ t _ (kp.trans (.of s2)) (I'.same s2) (cX.of uS) rfl
 | fault k =>
  refine⟨trivial,?_⟩;rintro C' dd hC ⟨dx,rfl,hdx⟩;rw[bP]at hC;cases hC;refine⟨_,rfl,.inl ⟨yH,λe he=>?_⟩⟩;have s5:=aT he (.ext (Md aD e (some dx)));have g5:=uS (H:=H') (a:=e) (o:=.ext (Md aD e (some dx)));generalize upd H' e _=H5 at s5 g5 ⊢;refine⟨_,rfl,e,aD,dx,_,_,_,rfl,g5,zJ,s5 _ _ hdx,kx,fg,yJ,rfl,zd,λt ht=>?_⟩;have s6:=s5.trans (aT ht (.tup [.str "fault",.int k]));exact q _ t _ (kp.trans (.of s6)) (I'.same s6) (cX.of uS) rfl
 | weary =>
  refine⟨trivial,?_⟩;intro C' dd hC;rw[c9]at hC;cases hC;refine⟨_,rfl,.inr ⟨yI,_,rfl,.inl ⟨GJ,MM,λt ht=>?_⟩⟩⟩;have s2:=aT ht (.tup [.str "weary"]);exact q _ t _ (kp.trans (.of s2)) (I'.same s2) (cX.of uS) rfl
 | ok=>rcases ev.vR rfl with⟨_,z⟩ | z | z<;>cases z
 | vals _=>rcases ev.vR rfl with⟨_,z⟩ | z | z<;>cases z
 | rcd _=>exact nomatch ev.gR
theorem ml:aS ["self","program","budget"] ["self","program","budget"] (dS eO):=by walk_at "sc"
theorem mn{f:Addr}{fd:FuncData}(F:iq K "__init__" "Reading.__init__" eO f fd){aq:Addr}(aJ:aw K aq){ak:Addr}(aL:aA K ak){C:Addr}{wt:Bool}(ac:aC K C):bL P w K mg base cb 1 f fd ["self","program","budget"] (ig K C):=by
 refine F.ok ml (λvs H Q E h=>?_) (λcdv A outer s H vs Q E hr h=>?_)
 ·obtain⟨x,dx,b,bud,rfl,hx,q⟩:=h;rfl
 obtain⟨x,dx,b,bud,rfl,hx,q⟩:=h;refine⟨_,(qK (kS (pv 0) (pv 1) rfl)
   (qK (kS (pv 0) (eK pN) rfl)
   (qO (kS (pv 0) (pv 2) rfl)))),?_⟩
 refine⟨_,rfl,_,rfl,x,C,dx,_,rfl,hx,ac.cl,ac.va,(by show 0 < 1000;decide),?_⟩;refine⟨S5,λsd hsd=>?_⟩;have ne:x≠sd:=λe=>by subst e;rw[uS]at hsd;cases hsd
 have So:H sd=none:=by rw[uN ne.symm]at hsd;exact hsd
 refine⟨_,rfl,x,C,dx,_,rfl,(uN ne).trans uS,ac.cl,ac.Ad,(by show(df _ _ _).length < 1000;exact aaR (dF _ _ _) (by show 1 < 1000;decide)),?_⟩;refine⟨_,rfl,_,rfl,x,C,dx,_,rfl,uS,ac.cl,ac.su,(by show(df _ _ _).length < 1000;exact aaR (dF _ _ _) (Nat.succ_lt_succ (aaR (dF _ _ _) (by show 1 < 999;decide)))),?_⟩;refine q sd _ So ?_ ?_ (λc o hc e=>?_)
 ·rw[uS,OC]
 ·rw[uN ne.symm,uN ne.symm];exact uS
 ·rw[uN hc,uN hc,uN (nN e So),uN hc];exact e
theorem kC:aS ["program","part","inputs","budget","reading","end"] ["program","part","inputs","budget"] (dS ll):=by walk_at "sc"
theorem wU{f:Addr}{fd:FuncData}(F:iq K "plain_run" "plain_run" ll f fd){aq:Addr}(aJ:aw K aq){ak:Addr}(aL:aA K ak){az:Addr}(kD:aC K az)(wV:eM P w K mg base (dD P w) "check_door" 2 ["parts","part","inputs"] (jy K cf))(AH:eM P w K mg base cb "heads_of" 2 ["program"] (lG K))(n9:dR P w K mg base cb az "end_at" 304 ["self","part","inputs"] (pz K az mg))(AJ:zL P w K mg base cb az "Reading" 1 ["self","program","budget"] (ig K az)):bL P w K mg base cb 305 f fd ["program","part","inputs","budget"] (iF K):=by
 refine F.ok kC (λvs H Q E h=>?_) (λcdv A outer s H vs Q E hr h=>?_)
 ·obtain⟨b,il,j,bud,ms,ps,p,ks,m,s',r,ts,rfl,hB,wf,hI,hp,ha,hl,ev,he,q⟩:=h;rfl
 obtain⟨b,il,j,bud,ms,ps,p,ks,m,s',r,ts,rfl,hB,wf,hI,hp,ha,hl,ev,he,q⟩:=h;refine⟨_,(qK (cO (Fh wV Nz (hr.mono (by decide)) rfl (pK (cT AH (hr.mono (by decide)) rfl (pK (pv 0) pN)) (pK (pv 1) (pK (pv 2) pN)))))
   (qK (bX (i:=4) kC.nd rfl (aac rfl) (Ft AJ rh (hr.mono (by decide)) rfl (pK (pv 0) (pK (pv 3) pN))))
   (qK (bX (i:=5) kC.nd rfl (aac rfl) (dJ (pv 4) n9 rh (hr.mono (by decide)) (pK (pv 1) (pK (pv 2) pN))))
   (qO (aW (dH (pK (pv 5) (pK (g7 (pv 4) rfl) (pK (g7 (pv 4) rfl) pN))))))))),?_⟩
 have rdI:aX K (λ_=>False) H (.ref il) (.list (ks.map PyData.int)):=rO (.lst hI (by simp) λi x d hx hd=>(yg (K:=K) (P:=λ_=>False) (H:=H) (ns:=ks)).2 i x d hx hd |>.now)
 have ht:∀h∈Ag ps,h.1.length<=100:=λh hh=>by
  obtain⟨p,hp,rfl⟩:=acG.mp hh;show(p.tk.map (·.2)).length<=100;rw[aah];exact wf.tks p hp
 refine⟨_,rfl,λ_=>False,[OD ms ps],(λ_ z=>z.elim),.cons (rO hB) .nil,ms,ps,rfl,wf.few,wf.tks,λv H1 s1 r1=>?_⟩;refine⟨_,rfl,_,rfl,λ_=>False,[.list ((Ag ps).map A9),.int (j:Int),.list (ks.map PyData.int)],(λ_ z=>z.elim),.cons r1 (.cons (.int _) (.cons (rdI.same s1) .nil)),Ag ps,j,ks,rfl,ht,λdr v2 H2 s2 r2=>?_,λnd dd H2 s2 x=>absurd ?_ nd⟩;rotate_left
 ·refine⟨(p.tk.map (·.2),p.gv),by omega,?_,ha,by rw[hl];exact(List.length_map _).symm⟩;rw[Int.toNat_natCast];unfold Ag;rw[List.getElem?_map,hp];rfl
 have S2:=s1.trans s2;refine⟨_,rfl,_,rfl,λx dx nx ndx ne=>?_⟩
 have y:bf H2 (upd (upd H2 dx (.own x)) x (.ins az dx [])):=λc o e=>by
  rw[uN (nN e nx),uN (nN e ndx)];exact e
 refine⟨x,dx,b,bud,rfl,uS,λsd H3 nsd e3 l3 k3=>⟨rfl,?_⟩⟩;have XW:bf H2 H3:=λc o e=>k3 c o (nN e nx) (y c o e)
 have S3:=S2.trans XW
 have O0:H2 sd=none:=by
  cases e:H2 sd with
  | none=>rfl
  | some o=>rw[y _ _ e]at nsd;cases nsd
 have hsd:H sd=none:=by
  cases e:H sd with
  | none=>rfl
  | some o=>rw[S2 _ _ e]at O0;cases O0
 have I:fW K az ⟨x,dx,b,sd,ms,ps,H2⟩ H3 [] bud:=⟨e3,l3,XW,bz.same S2 hB,nx,O0,wf⟩;refine⟨_,rfl,x,dx,_,rfl,e3,bN (by decide +kernel),_,rfl,_,rfl,⟨x,dx,b,sd,ms,ps,H2⟩,il,j,ks,m,⟨[],bud,λ_=>none⟩,s',r,rfl,I,S3.seq hI,ev,λH4 u us kp I4 gu eu=>?_⟩;rw[he]at eu;cases eu;refine⟨_,rfl,_,rfl,x,az,dx,_,_,rfl,I4.hx,kD.cl,kD.Ad,BQ,_,rfl,x,az,dx,_,_,rfl,I4.hx,kD.cl,kD.su,wm,S6,λt ht=>?_⟩;have s5:=aT ht (.tup [.ref u,.ref sd,.int s'.left]);exact q t u sd _ (S2.trans (I4.s0.trans s5)) hsd (cX.of uS) (s5.tup gu) (s5 _ _ I4.hs)
theorem dQ:aS ["_law_script","_law_source_here","_law_cell","_law_many","_law_some","_law_parts_here","_law_word_here","_law_way","_law_inputs","_law_p","_law_k","_law_budget","_law_state","_law_end","_law_due","_law_kept","_law_found"] ["_law_script"] (dS nG):=by walk_at "sc"
theorem O1{c1:Ce}{rs:aR}:(rs++[c1])[rs.length]?=some c1:=by rw[aaI (aai _),ach];rfl
theorem Vq{c0 c1 x y:Ce}{rs:aR}:∃rs',nk [0,rs.length + 1] [x,y] (c0::(rs++[c1]))=x::rs':=by
 show ∃rs',nk [rs.length + 1] [y] (x::(rs++[c1]))=x::rs';exact⟨_,rfl⟩
theorem C9{many:Nat}{env:bY}{src:List Int}{Q:DC}(h1:1<=many)(h8:many<=8)(ee:env=[none,some (.ref 0),some (.dat (.int (many:Int)))])(hs:mw src)
  (hQ:∀(tl:List Th) (src':List Int) (rs:aR),tl.length=many->(∀t∈tl,t.wf many 3/\t.cnt<=20)->mw src'->Q (.dat (.list (tl.map λt=>.list t.D))) (.live (bo src')::rs)) :
  Xu BK (gN 0) BC (y9 (oQ [true,false,false,true] (iD 4)) (kZ (xV 1) (kZ (xV 2) (kZ (eC (PyData.int 3)) (kZ (xX (kZ (y9 CM (kZ (eC (PyData.int 20)) (kZ (tN (oI (λ_ j=>Fv j) λi j=>PyData.int (i / j)) (eC (PyData.int 80)) (xV 2)) zN))) zN)) zN))))) (List.map DV.dat (zQ 0 many)) (λ_=>True) env [.live (bo src)] Q:=by
 subst ee;refine⟨by rw[aah,jP];omega,Z8 many,⟨[],src,[],rfl,(λ_ h=>nomatch h),rfl,rfl,hs⟩,λ_ _ _ _=>trivial,?_,?_⟩
 ·rintro i ys st d ⟨tl,src,rs,hl,hw,rfl,rfl,hs⟩ hd
  obtain⟨rm,erm,hrm⟩:∃rm:Nat,(if 80 / (many:Int) < 20 then 80 / (many:Int)else 20)=(rm:Int)/\rm<=20:=by
   have z:=Int.ediv_nonneg (show(0:Int)<=80 by decide) (show(0:Int)<=(many:Int)by omega);generalize 80 / (many:Int)=y at z ⊢;refine⟨(if y < 20 then y else 20).toNat,?_,?_⟩<;>split<;>omega
  walk_at "vc";rw[erm,O1];refine kT ⟨⟨by omega,by omega⟩,by simp,by simp,rfl,src,many,3,rm,rfl,rfl,rfl,hs,by omega,by omega,λt src' room' a1 a2 a3 a4=>⟨rfl,rfl,?_⟩⟩;obtain⟨rs',e⟩:=Vq (c0:=.live (bo src)) (c1:=.live [.int (rm:Int)]) (x:=.live (bo src')) (y:=.live [.int (room':Int)]) (rs:=rs);rw[e];refine⟨tl++[t],src',rs',by rw[List.length_append,hl];rfl,λu hu=>?_,by rw[List.map_append];rfl,rfl,a3⟩;rcases List.mem_append.mp hu with z | z
  ·exact hw u z
  ·rw[xq z];exact⟨a1,by omega⟩
 ·rintro ys st ⟨tl,wN,rs,hl,hw,rfl,rfl,hs⟩;rw[aah,jP]at hl;exact⟨tl.map λt=>.list t.D,by rw[abV];rfl,hQ tl wN rs hl hw hs⟩
theorem O2{f:Addr}{fd:FuncData}(F:iq K "law" "law" nG f fd)(fN:mg "divmod"=none)(i5:mg "list"=none)(yO:mg "min"=none)(gL:mg "range"=none){aq:Addr}(aJ:aw K aq){ak:Addr}(aL:aA K ak)(oa:eM P w K mg base cb "_law_alike" 1 ["_law_found","_law_due"] (iz K))(gW:eM P w K mg base cb "_law_next" 1 ["_law_source_here","_law_many"] (gP K))(wX:eM P w K mg base cb "_law_parts" 10 ["_law_some","_law_cell"] (iB K))(mV:eM P w K mg base cb "_law_run" 301 ["_law_parts_here","_law_p","_law_n","_law_deep","_law_state"] (kl K 300))(ui:eM P w K mg base cb "_law_source" 1 ["_law_script"] (gI K))(eB:eM P w K mg base cb "_law_things" 5 ["_law_source_here","_law_many","_law_deep","_law_room"] (en K 4))(cY:eM P w K mg base cb "_law_word" 1 ["_law_cell"] (gU K))(qg:eM P w K mg base cb "plain_run" 305 ["program","part","inputs","budget"] (iF K)):bL P w K mg base cb 306 f fd ["_law_script"] (wD K):=by
 refine F.ok dQ (λvs H Q E h=>?_) (λcdv A outer s H vs Q E hr h=>?_)
 ·obtain⟨a,ns,rfl,hS,Tz,q⟩:=h;rfl
 obtain⟨a,ns,rfl,hS,Tz,q0⟩:=h;have hv:cI (aX K (λ_=>False) H) [.ref a] [.list (ns.map PyData.int)]:=.cons (rO (.lst hS (by simp) λi x d hx hd=>(yg (K:=K) (P:=λ_=>False) (H:=H) (ns:=ns)).2 i x d hx hd |>.now)) .nil;have q:∀v H',bf H H'->aX K (λ_=>False) H' v (.bool true)->Q v H':=λv H' _ r=>by rw[aX.jN r];exact q0 H'
 refine fF (P:=λ_=>False) (λ_ h=>h.elim) hv ?_;show rT _ _ _ _ [some _,none,none,none,none,none,none,none,none,none,none,none,none,none,none,none,none] [];clear hv q0 hS;refine aH (aI (i:=1) dQ.nd rfl (Or.inr rfl) (CZ ui t8 t7 (hr.mono (by decide)) rfl (aa (ae 0) ah))) (λR kk=>?_);walk_at "vc";refine⟨ns,rfl,Tz,λVr So=>kk _ _ ?_⟩;clear kk R;refine aH (aI (i:=2) dQ.nd rfl (Or.inl rfl) (gO (js:=[true,false]) gW jj ji (hr.mono (by decide)) rfl (aa (ae 1) (aa (zO ax ax) ah)))) (λR kk=>?_);walk_at "vc";refine⟨⟨by decide,by decide,by decide⟩,by simp,by simp,rfl,Vr,_,rfl,rfl,So,by decide,λcl Sn c0 c1 XX=>⟨rfl,rfl,kk _ _ ?_⟩⟩;clear kk R;refine aH (aI (i:=3) dQ.nd rfl (Or.inr rfl) (bj ax (bV (ae 2) ax))) (λR kk=>?_);walk_at "vc";obtain⟨m0,XY,hm0⟩:=wo cl (m:=8) (n:=8) rfl (by decide);rw[XY,show(1 + (m0:Int))=((m0 + 1:Nat):Int)by omega];obtain⟨many,emany⟩:∃many,many=m0 + 1:=⟨_,rfl⟩;rw[← emany];have hm1:1<=many:=by omega
 have Sq:many<=8:=by omega
 refine⟨by decide,kk _ _ ?_⟩;clear kk R XY emany hm0;refine aH (CU N9 (i:=4) dQ.nd rfl (Or.inl rfl) 1 ["_law_p","_law_source_here","_law_many"] [1,3] ⟨rfl,rfl,rfl,rfl,rfl,rfl,rfl,rfl⟩ (N8 (oO rfl gL (aa (ae 3) ah))) (λ_ _ _ _=>(gH (i:=0) (show List.Nodup (["_law_p","_law_source_here","_law_many"]:List Str)by decide +kernel) rfl (Or.inl rfl))) (CN (i:=0)) (NV (by decide)) (λ_ _ _ _=>⟨zS,(gO (js:=[true,false,false,true]) eB gK gJ (hr.mono (by decide)) rfl (aa (ae 1) (aa (ae 2) (aa ax (aa (vP (aa (NS rfl rfl yO (aa ax (aa (c6 ax (ae 2)) ah))) ah)) ah)))))⟩)) (λR kk=>?_);walk_at "vc";rw[Int.toNat_natCast];refine⟨⟨by omega,by omega⟩,C9 hm1 Sq rfl XX λtl wN rs hl hw Jc=>kk _ _ ?_⟩;clear kk R XX So;subst hl;refine aH (aI (i:=5) dQ.nd rfl (Or.inl rfl) (bw wX wA wz (hr.mono (by decide)) rfl (aa (ae 4) (aa (c6 (ae 2) ax) ah)))) (λR kk=>?_);walk_at "vc";refine⟨⟨by decide,by decide⟩,tl,cl / 8,rfl,Sq,hw,λn1 n2 n3 Ju M5 XZ=>kk _ _ ?_⟩;clear kk R;refine aH (rR (oR rfl fN (aa (gO (js:=[true,false]) gW jj ji (hr.mono (by decide)) rfl (aa (ae 1) (aa (zO ax ax) ah))) (aa ax ah))) (zR (m:=2) rfl (jQ (fD (i:=6) dQ.nd rfl (Or.inl rfl)) (jQ (fD (i:=7) dQ.nd rfl (Or.inl rfl)) vX)))) (λR kk=>?_);walk_at "vc";refine⟨⟨by decide,by decide,by decide⟩,by simp,by simp,rfl,wN,_,rfl,rfl,Jc,by decide,λr0 wO a0 b0 hs3=>⟨rfl,rfl,?_⟩⟩;walk_at "vc";refine⟨⟨by decide,by decide⟩,rfl,kk _ _ ?_⟩;clear kk R;refine aH (aI (i:=8) dQ.nd rfl (Or.inl rfl) (aG (aa (fU (aG (aa (bV (ae 6) ax) (aa (bV (ae 6) ax) (aa (bw cY dO dN (hr.mono (by decide)) rfl (aa (ae 6) ah)) ah)))) (ae 7) (λ_ _=>rfl)) ah))) (λR kk=>?_);walk_at "vc";refine⟨by decide,by decide,_,rfl,λw hw'=>?_⟩;obtain⟨d,hd',ed⟩:=lZ (xs:=[PyData.int (r0 / 3 % 15),PyData.int (r0 / 3 % 4),PyData.int w]) (n:=3) rfl (by decide) r0
 obtain⟨i0,rfl,hi0⟩:∃i0,d=.int i0/\fT i0:=by
  simp only[List.mem_cons,List.not_mem_nil,or_false]at hd';rcases hd' with rfl | rfl | rfl
  ·exact⟨_,rfl,by unfold fT;omega⟩
  ·exact⟨_,rfl,by unfold fT;omega⟩
  ·exact⟨_,rfl,hw'⟩
 refine⟨_,ed,kk _ _ ?_⟩;clear kk R ed hd' hw';refine aH (aI (i:=9) dQ.nd rfl (aac rfl) (bV (c6 (ae 2) ax) (ae 3))) (λR kk=>?_);walk_at "vc";obtain⟨p,ep,hp⟩:=wo (cl / 192) (m:=(tl.length:Int)) (n:=tl.length) rfl (by omega);rw[ep];refine⟨⟨by decide,by decide⟩,by omega,kk _ _ ?_⟩;clear kk R ep;refine Kg (qK (vn abp rfl (ur rfl gL (pK pI pN)) (gH (i:=10) dQ.nd rfl (aac rfl)) (qK (bX (i:=11) dQ.nd rfl (aac rfl) (aQ bH (eK (pK (da qX (da A5 (pv 2) pI) pI) (pK (da mB (da qX (da A5 (pv 2) pI) pI) pI) pN))) (pv 10) (λ_ _=>rfl)))
   (qK (bX (i:=12) dQ.nd rfl (aac rfl) (eK (pK (eK pN) (pK (pv 11) (pK eJ pN)))))
   (qK (bX (i:=13) dQ.nd rfl (aac rfl) (cT mV (hr.mono (by decide)) rfl (pK (pv 4) (pK (pv 9) (pK (aQ bH (pv 8) pI (λ_ _=>rfl)) (pK pI (pK (pv 12) pN)))))))
   (qK (bX (i:=14) dQ.nd rfl (aac rfl) (dH (pK (pv 13) (pK (aQ bH (pv 12) pI (λ_ _=>rfl)) (pK (aQ bH (pv 12) pI (λ_ _=>rfl)) pN)))))
   (qK (bX (i:=15) dQ.nd rfl (aac rfl) (eK (pK (lW j3 rfl i5 qB (pK (pv 8) pN)) (pK (lW j3 rfl i5 qB (pK (pv 5) pN)) pN))))
   (qK (bX (i:=16) dQ.nd rfl (aac rfl) (cT qg (hr.mono (by decide)) rfl (pK (dH (pK (eK (pK (dH (pK eJ (pK (eK pN) pN))) pN)) (pK (pv 5) pN))) (pK (pv 9) (pK (pv 8) (pK (pv 11) pN))))))
   (qK (bA (PW.pt (pw_or (zg (zf (cT oa (hr.mono (by decide)) rfl (pK (pv 16) (pK (pv 14) pN))))) (pw_or1 (tR (EY (hr.units)) (pv 15) (eK (pK (pv 8) (pK (pv 5) pN))) (aO _))))) (qO (aW A4)) ba)
   (qK (cO (rg aa1 aa6 aa7 eS (aQ aU (pv 16) pI (λ_ _=>rfl)) (pK pI pN)))
   (qO (bA (zg (zf (cT oa (hr.mono (by decide)) rfl (pK (cT qg (hr.mono (by decide)) rfl (pK (dH (pK (eK (pK (dH (pK eJ (pK (eK pN) pN))) pN)) (pK (pv 5) pN))) (pK (pv 9) (pK (pv 8) (pK (pv 11) pN))))) (pK (pv 14) pN))))) (qO (aW A4)) ba)))))))))))
   (qO (aW A4))) (λH0 A0 G al H1 σ D I En k=>?_)
 have len:=En.1;obtain⟨v2,g2,r2⟩:=En.2 2 _ rfl;obtain⟨v4,g4,r4⟩:=En.2 4 _ rfl;obtain⟨v5,g5,r5⟩:=En.2 5 _ rfl;obtain⟨v8,g8,r8⟩:=En.2 8 _ rfl;obtain⟨v9,g9,r9⟩:=En.2 9 _ rfl;have e2:=aX.bu r2;have e9:=aX.bu r9;subst e2 e9;have rd4:bz K H1 v4 (Sd tl):=aX.now r4;have TB:bz K H1 v5 (.list ((lz n1 n2 n3 tl).map zb)):=aX.now r5;have N0:bz K H1 v8 (.list [.int i0]):=aX.now r8;obtain⟨a8,us8,rfl,Vs,X0⟩:=bz.dZ N0;obtain⟨u8,rfl⟩:=U1 X0.1;have e8:=bz.bu (X0.2 0 u8 _ rfl rfl);subst e8;obtain⟨b5,Vt,rfl,hS5,X1⟩:=bz.dZ TB;have sg:Sg σ (.int cl) v4 (.ref b5) (.ref a8) (.int (p:Int)):=⟨len,g2,g4,g5,g8,g9⟩;have W:=Vd Ju M5 XZ Sq hw;have wf:Tv (lz n1 n2 n3 tl):=Ve Sq;have run:sH tl.length tl (lz n1 n2 n3 tl) 12 1:=B2 W 11 (by decide);have shq:=Sm Ju M5 XZ Sq hw;obtain⟨_,na',nb',ny',_,_,_,hq,_⟩:=W.ok p hp;refine⟨2,rfl,by decide,by decide,?_⟩;refine Cj (lo:=0) (n:=2) (λi σ2 H2=>Sg σ2 (.int cl) v4 (.ref b5) (.ref a8) (.int (p:Int))/\bf H1 H2) ⟨sg,same_refl⟩ ?_ ?_;rotate_left
 ·rintro σ2 H2 ⟨_,s2⟩;exact k.rt (.dat (.bool true)) _ _ (.bl true) _ (.same s2) (I.same s2) (.d (.bl true)) q
 rintro i σ0 Hc hi ⟨Vu,sc⟩;have QA:=Vu.set (j:=10) (by decide) (some (.int (0 + (i:Int))));have TC:(σ0.set 10 (some (.int (0 + (i:Int)))))[10]?=some (some (.int (0 + (i:Int)))):=sI (by rw[Vu.len];decide)
 obtain⟨bud,eb,hbud⟩:∃bud:Nat,p7 [V.int (cl / 1536 % 41),V.int (cl / 1536 % 7 + 10)] (0 + (i:Int))=some (.int (bud:Int))/\bud<=41:=by
  obtain⟨x,ex,hx⟩:=wo (cl / 1536) (m:=41) (n:=41) rfl (by decide);obtain⟨y,ey,hy⟩:=wo (cl / 1536) (m:=7) (n:=7) rfl (by decide);rw[ex,ey,Int.zero_add];have i2:i=0∨i=1:=by omega
  rcases i2 with rfl | rfl
  ·exact⟨x,aN (j:=0) rfl,by omega⟩
  ·exact⟨y + 10,aN (j:=1) rfl,by omega⟩
 show ql _ _ _ (σ0.set 10 (some (.int (0 + (i:Int))))) Hc;generalize σ0.set 10 _=σ1 at QA TC ⊢;clear Vu sg;refine⟨_,QA.s2,_,_,rfl,rfl,(by show Ez cl 1536;exact⟨by decide,by decide⟩),_,_,rfl,rfl,(by show(0:Int) < 41;decide),_,QA.s2,_,_,rfl,rfl,(by show Ez cl 1536;exact⟨by decide,by decide⟩),_,_,rfl,rfl,(by show(0:Int) < 7;decide),_,_,rfl,rfl,zd,λq0 X2=>⟨_,TC,q0,_,_,_,rfl,rfl,bZ.of uS,eb,?_⟩⟩;have sb:=sc.trans (aT X2 (.lst [V.int (cl / 1536 % 41),V.int (cl / 1536 % 7 + 10)]));clear X2 sc;generalize upd Hc q0 _=Hb at sb ⊢;have TH:=QA.set (j:=11) (by decide) (some (.int (bud:Int)));have vh:(σ1.set 11 (some (.int (bud:Int))))[11]?=some (some (.int (bud:Int))):=sI (by rw[QA.len];decide);show ql _ _ _ (σ1.set 11 (some (.int (bud:Int)))) Hb;generalize σ1.set 11 _=σ2 at TH vh ⊢;clear QA TC;refine⟨S5,λl hl=>⟨_,vh,S6,λa ha=>?_⟩⟩;have sl:=aT hl (.lst []);have nal:a≠l:=λe=>by rw[e,uS]at ha;cases ha
 have Rg:Hb a=none:=by rw[uN nal]at ha;exact ha
 have Ls:LI Hb a l (upd (upd Hb l (.lst [])) a (.lst [.ref l,.int (bud:Int),.non])) ⟨[],bud,0⟩:=⟨uS,(uN nal.symm).trans uS,nal,sl.trans (aT ha _),Rg,hl⟩;show ql _ _ _ (σ2.set 12 (some (.ref a))) (upd (upd Hb l (.lst [])) a (.lst [.ref l,.int (bud:Int),.non]));generalize upd (upd Hb l _) a _=H2 at Ls ⊢;have O3:=TH.set (j:=12) (by decide) (some (.ref a));have KA:(σ2.set 12 (some (.ref a)))[12]?=some (some (.ref a)):=sI (by rw[TH.len];decide);have vh:=jh (j:=12) (y:=some (.ref a)) vh (by decide);generalize σ2.set 12 _=σ3 at O3 KA vh ⊢;clear TH;obtain⟨ff,s',hd,h0',hle,hmu,hev⟩:=run 300 300 p i0 ⟨[],bud,0⟩ (by decide) (by decide) hp hi0 (by show(0:Int)<=(bud:Int);omega) (by unfold mu;show(0:Int) + 100 * (bud:Int) + 20<=100000;omega);obtain⟨env',ev⟩:=hev [] (λ_=>none)
 have sd:s'.said.length<=100000:=by
  unfold mu at hmu;have hmu:(s'.said.length:Int) + 100 * s'.left<=0 + 100 * (bud:Int) + 20:=hmu;omega
 obtain⟨fk,fc⟩:=OT ff;refine⟨_,O3.s4,_,O3.s9,_,O3.s8,a8,_,_,_,rfl,rfl,(sb.trans Ls.s0).seq Vs,aN (j:=0) rfl,_,KA,Hb,a,l,v4,tl,p,i0,1,ff,⟨[],bud,0⟩,s',rfl,bz.same sb rd4,Ls,hd,λH3 fv J hf=>?_⟩;obtain⟨te,rfl,gt⟩:=hf.told;show ql _ _ _ (σ3.set 13 (some (.ref te))) H3;have TJ:=O3.set (j:=13) (by decide) (some (.ref te));have TK:(σ3.set 13 (some (.ref te)))[13]?=some (some (.ref te)):=sI (by rw[O3.len];decide);have KA:=jh (j:=13) (y:=some (.ref te)) KA (by decide);have vh:=jh (j:=13) (y:=some (.ref te)) vh (by decide);generalize σ3.set 13 _=σ4 at TJ TK KA vh ⊢;clear O3;refine⟨_,TK,_,KA,a,_,_,_,rfl,rfl,bZ.of J.ha,aN (j:=0) rfl,_,KA,a,_,_,_,rfl,rfl,bZ.of J.ha,aN (j:=1) rfl,S6,λu hu=>?_⟩;have OZ:=aT hu (.tup [.ref te,.ref l,.int s'.left]);have gu:=uS (H:=H3) (a:=u) (o:=.tup [.ref te,.ref l,.int s'.left]);show ql _ _ _ (σ4.set 14 (some (.ref u))) (upd H3 u (.tup [.ref te,.ref l,.int s'.left]));generalize upd H3 u _=H4 at OZ gu ⊢;have Vv:bz K H4 (.ref u) (.tuple [.tuple (.str (B3 ff).1::bo (B3 ff).2),.list (bo s'.said),.int s'.left]):=B4 (cX.of gu) (OZ.tup gt) (OZ _ _ J.hl);have Vw:=(sb.trans J.s0).trans OZ;have QB:=TJ.set (j:=14) (by decide) (some (.ref u));have IE:(σ4.set 14 (some (.ref u)))[14]?=some (some (.ref u)):=sI (by rw[TJ.len];decide);have vh:=jh (j:=14) (y:=some (.ref u)) vh (by decide);generalize σ4.set 14 _=σ5 at QB IE vh ⊢;clear TJ TK KA;refine⟨_,QB.s8,a8,_,rfl,.inl (Vw.seq Vs),λk1 hk1=>?_⟩;have s5:=aT hk1 (.lst [.int i0]);refine⟨_,QB.s5,b5,_,rfl,.inl ((Vw.trans s5).seq hS5),λk2 hk2=>⟨zd,λk3 hk3=>?_⟩⟩;have s6:=aT hk2 (.lst Vt);have s7:=aT hk3 (.lst [.ref k1,.ref k2]);have O4:=Vw.trans (s5.trans (s6.trans s7));have Mz:bz K _ (.ref k3) (.list [.list [.int i0],.list ((lz n1 n2 n3 tl).map zb)]):=bz.zz (bZ.of (uS (H:=upd (upd H4 k1 (.lst [.int i0])) k2 (.lst Vt)) (a:=k3) (o:=.lst [.ref k1,.ref k2]))) (.cons (bz.zz (bZ.of ((s6.trans s7) _ _ uS)) (.cons (.int _) .nil)) (.cons (bz.zz (bZ.of (s7 _ _ uS)) ⟨X1.1,λi x d hx hd=>bz.same O4 (X1.2 i x d hx hd)⟩) .nil));have O5:=bz.same (s5.trans (s6.trans s7)) Vv;show ql _ _ _ (σ5.set 15 (some (.ref k3))) (upd (upd (upd H4 k1 (.lst [.int i0])) k2 (.lst Vt)) k3 (.lst [.ref k1,.ref k2]));generalize upd (upd (upd H4 k1 _) k2 _) k3 _=H7 at O4 Mz O5 ⊢;have O6:=QB.set (j:=15) (by decide) (some (.ref k3));have QC:(σ5.set 15 (some (.ref k3)))[15]?=some (some (.ref k3)):=sI (by rw[QB.len];decide);have IE:=jh (j:=15) (y:=some (.ref k3)) IE (by decide);have vh:=jh (j:=15) (y:=some (.ref k3)) vh (by decide);generalize σ5.set 15 _=σ6 at O6 QC IE vh ⊢;clear QB
 have pl:∀(Hx:Hp) (bx:Addr) (Qx:VK),bf H1 Hx->bz K Hx (.ref bx) (OD OV (lz n1 n2 n3 tl))->(∀(t u l:Addr) (H':Hp),bf Hx H'->Hx l=none->H' l=some (.lst (s'.said.map V.int))->bz K H' (.ref t) (.tuple [.tuple (.str (B3 ff).1::bo (B3 ff).2),.list (bo s'.said),.int s'.left])->cX K H' t [.ref u,.ref l,.int s'.left]->Qx (.ref t) H')->iF K [.ref bx,.int (p:Int),.ref a8,.int (bud:Int)] Hx Qx E0:=λHx bx Qx sx rx qx =>
  ⟨bx,a8,p,bud,OV,lz n1 n2 n3 tl,_,[i0],[],⟨s'.said,s'.left,env'⟩,Ks ff,_,rfl,rx,wf,sx.seq Vs,hq,rfl,rfl,ev,Kx ff,λt u l H' s nl g1 g2 g3=>qx t u l H' s nl g3 (B4 g1 g2 g3) g1⟩
 have alk:∀(Hx:Hp) (tx ux:V) (Qx:VK),bz K Hx tx (.tuple [.tuple (.str (B3 ff).1::bo (B3 ff).2),.list (bo s'.said),.int s'.left])->bz K Hx ux (.tuple [.tuple (.str (B3 ff).1::bo (B3 ff).2),.list (bo s'.said),.int s'.left])->(∀H',bf Hx H'->Qx (.bl true) H')->iz K [tx,ux] Hx Qx E0:=λHx tx ux Qx r1 r2 qx =>
  ⟨λ_=>False,_,(λ_ z=>z.elim),.cons (rO r1) (.cons (rO r2) .nil),_,_,_,_,rfl,fk,sd,fc,λv H' s r=>by rw[aX.jN r];exact qx H' s⟩
 refine⟨S5,λp1 Mv=>⟨zd,λp2 Rl=>⟨MM,λp3 Vx=>⟨_,O6.s5,zd,λb hb=>?_⟩⟩⟩⟩;obtain⟨TL,rp⟩:=B5 Mv Rl Vx hb (bz.same O4 TB);refine⟨_,O6.s9,_,O6.s8,_,vh,?_⟩;dsimp only[vw,List.cons_append,List.nil_append];refine pl _ _ _ (O4.trans TL) rp λt u2 l2 H9 Vy nl2 Vp rt gt2=>?_
 show ql _ _ _ (σ6.set 16 (some (.ref t))) H9;have O7:=O6.set (j:=16) (by decide) (some (.ref t));have TM:(σ6.set 16 (some (.ref t)))[16]?=some (some (.ref t)):=sI (by rw[O6.len];decide);have QC:=jh (j:=16) (y:=some (.ref t)) QC (by decide);have IE:=jh (j:=16) (y:=some (.ref t)) IE (by decide);have vh:=jh (j:=16) (y:=some (.ref t)) vh (by decide);generalize σ6.set 16 _=σ7 at O7 TM QC IE vh ⊢;clear O6;refine⟨_,TM,_,IE,?_⟩;dsimp only[vw,List.cons_append,List.nil_append];refine alk _ _ _ _ rt (bz.same (TL.trans Vy) O5) λQ9 KC=>⟨_,rfl,mi ?_⟩
 have O8:=TL.trans (Vy.trans KC);refine⟨_,QC,_,O7.s8,_,O7.s5,zd,λn1' hn1'=>?_⟩;have QD:=aT hn1' (.lst [.ref a8,.ref b5]);have sh:Sh 18 (.list [.list [.int i0],.list ((lz n1 n2 n3 tl).map zb)]):=eG (aK ((eG (aK oP bJ)).up (show 1<=17 by decide)) (aK (eG (n:=16) shq) bJ));refine⟨_,_,bz.same (O8.trans QD) Mz,bz.zz (bZ.of uS) (.cons (bz.same ((O4.trans O8).trans QD) N0) (.cons (bz.same ((O4.trans O8).trans QD) TB) .nil)),sh.ok,sh.ok,_,rfl,?_⟩;rw[sh.self];refine mi ?_;dsimp only[kP];have gl2':=QD _ _ (KC _ _ Vp);have gt2':=QD.tup (KC.tup gt2);have Sr:=Vy.trans (KC.trans QD);generalize upd Q9 n1' _=Tb at Sr gl2' gt2' ⊢;refine⟨_,TM,t,_,_,_,rfl,rfl,gt2',aN (j:=1) rfl,.inl ⟨rfl,_,bZ.of gl2'⟩,l2,_,_,rfl,rfl,gl2',(by rw[List.length_map];exact Nat.lt_of_le_of_lt sd (by decide)),?_⟩;have Vz:bf _ (upd Tb l2 (.lst (s'.said.map V.int++[.int 7]))):=λc o e=>(uN (nN e nl2)).trans (Sr _ _ e)
 have O9:=TL.trans Vz;have TN:=O4.trans O9;generalize upd Tb l2 _=H12 at O9 TN ⊢;refine⟨S5,λp1 Mv=>⟨zd,λp2 Rl=>⟨MM,λp3 Vx=>⟨_,O7.s5,zd,λb hb=>?_⟩⟩⟩⟩;obtain⟨GK,rp⟩:=B5 Mv Rl Vx hb (bz.same TN TB);refine⟨_,O7.s9,_,O7.s8,_,vh,?_⟩;dsimp only[vw,List.cons_append,List.nil_append];refine pl _ _ _ (TN.trans GK) rp λt3 u3 l3 H14 MA nl3 gl3 rt3 gt3=>?_
 refine⟨_,IE,?_⟩;dsimp only[vw,List.cons_append,List.nil_append];exact alk _ _ _ _ rt3 (bz.same (O9.trans (GK.trans MA)) O5) λH15 Su=>⟨_,rfl,mi ⟨O7,TN.trans (GK.trans (MA.trans Su))⟩⟩
end
def iJ(K:aV)(n:Str)(s:Stmt):Prop:=∃f fd,PySem.W.nsIn K mainGlobals n=some (some (.ref f))/\iq K n n s f fd
def og(K:aV)(f:Addr)(n q:Str)(s:Stmt):Prop:=(∃fd,iq K n q s f fd)/\PySem.W.isFn K (.ref f)=true
theorem all_mk{l:PySem.W.OpenLaw}{w:World}{K:aV}{h:Heap}{mg:Str->Option Value}{fa X3 X4 X5 X6 X7 X8 X9 Yb Yc Yd Ye Yg Yh Yi VA:Addr}(X:K.In h)(G:h.Ns mainGlobals mg)(hfa:mg "law"=some (.ref fa))
  {VB Sv:Option Addr} {VC:Array (Option Value)} {VD Sw Sx Sy Pa Sz:Value}
  {aD aZ cf cj bC:Addr}
  {jl wQ gM kB wR:Tok}
  {aq:Addr} (pH:PySem.W.nsIn K mainGlobals "Record"=some (some (.ref aq)))
  (pJ:PySem.W.plainGet K aq Str.empty=true)
  (pL:PySem.W.hasDictIn K aq=true)
  (pM:PySem.W.plainOver K aq=true)
  (pO:PySem.W.findIn K (.ref aq) "__setattr__"=some (some (.builtin "object.__setattr__")))
  (pP:PySem.W.makesIn K aq=true)
  (pQ:PySem.W.keepIn K (.ref aq)=true)
  (ja:PySem.W.findIn K (.ref aq) "make"=some none)
  (gy:PySem.W.findIn K (.ref aq) "fields"=some none)
  (eQ:PySem.W.findIn K (.ref aq) "__init__"=some (some (.ref X8)))
  {ak:Addr} (wY:PySem.W.nsIn K mainGlobals "Call"=some (some (.ref ak)))
  (wZ:PySem.W.plainGet K ak Str.empty=true)
  (w4:PySem.W.hasDictIn K ak=true)
  (w6:PySem.W.plainOver K ak=true)
  (w8:PySem.W.findIn K (.ref ak) "__setattr__"=some (some (.builtin "object.__setattr__")))
  (w9:PySem.W.makesIn K ak=true)
  (xc:PySem.W.keepIn K (.ref ak)=true)
  (jD:PySem.W.findIn K (.ref ak) "depth"=some none)
  (jE:PySem.W.findIn K (.ref ak) "known"=some none)
  (gz:PySem.W.findIn K (.ref ak) "__init__"=some (some (.ref Ye)))
  {az:Addr} (mZ:PySem.W.nsIn K mainGlobals "Reading"=some (some (.ref az)))
  (m4:PySem.W.plainGet K az Str.empty=true)
  (m5:PySem.W.hasDictIn K az=true)
  (m6:PySem.W.plainOver K az=true)
  (m7:PySem.W.findIn K (.ref az) "__setattr__"=some (some (.builtin "object.__setattr__")))
  (m8:PySem.W.makesIn K az=true)
  (m9:PySem.W.keepIn K (.ref az)=true)
  (eR:PySem.W.findIn K (.ref az) "program"=some none)
  (ik:PySem.W.findIn K (.ref az) "said"=some none)
  (ip:PySem.W.findIn K (.ref az) "left"=some none)
  (dw:PySem.W.findIn K (.ref az) "do_try"=some (some (.ref X3)))
  (gA:PySem.W.findIn K (.ref az) "spend"=some (some (.ref X4)))
  (cA:PySem.W.findIn K (.ref az) "values_of"=some (some (.ref X5)))
  (bQ:PySem.W.findIn K (.ref az) "value_of_call"=some (some (.ref X6)))
  (bS:PySem.W.findIn K (.ref az) "value_of_two"=some (some (.ref X7)))
  (cR:PySem.W.findIn K (.ref az) "value_of"=some (some (.ref X9)))
  (ck:PySem.W.findIn K (.ref az) "do_nesting"=some (some (.ref Yb)))
  (bT:PySem.W.findIn K (.ref az) "do_statement"=some (some (.ref Yc)))
  (dz:PySem.W.findIn K (.ref az) "do_all"=some (some (.ref Yd)))
  (dX:PySem.W.findIn K (.ref az) "given"=some (some (.ref Yg)))
  (fS:PySem.W.findIn K (.ref az) "end_at"=some (some (.ref Yh)))
  (eh:PySem.W.findIn K (.ref az) "__init__"=some (some (.ref Yi)))
  (d0:iJ K "_law_alike" la)
  (d1:iJ K "_law_next" mI)
  (d2:iJ K "_law_named" lg)
  (d3:iJ K "_law_row" oS)
  (d4:iJ K "_law_body" mJ)
  (d5:iJ K "_law_parts" lh)
  (d6:iJ K "_law_wrapped" ju)
  (d7:iJ K "_law_call" mK)
  (d8:iJ K "_law_loop" mL)
  (d9:iJ K "_law_try" oU)
  (VE:iJ K "_law_thing" lj)
  (VF:iJ K "_law_do" sr)
  (VG:iJ K "_law_run" oV)
  (VH:iJ K "_law_source" ka)
  (VI:iJ K "_law_word" mM)
  (VJ:iJ K "_law_things" kb)
  (VL:iJ K "is_door" oW)
  (VM:iJ K "check_door" kc)
  (VN:iJ K "kinds_taken" jv)
  (VO:iJ K "heads_of" mO)
  (VP:og K X3 "do_try" "Reading.do_try" gn)
  (VQ:og K X4 "spend" "Reading.spend" hZ)
  (VR:og K X5 "values_of" "Reading.values_of" eg)
  (VS:og K X6 "value_of_call" "Reading.value_of_call" cU)
  (VT:iJ K "wrapped" oX)
  (VU:iJ K "divided" oY)
  (VV:iJ K "reckoned" mP)
  (VW:og K X7 "value_of_two" "Reading.value_of_two" c7)
  (VX:og K X8 "__init__" "Record.__init__" fH)
  (VY:og K X9 "value_of" "Reading.value_of" eN)
  (VZ:og K Yb "do_nesting" "Reading.do_nesting" dM)
  (V0:og K Yc "do_statement" "Reading.do_statement" c8)
  (V1:og K Yd "do_all" "Reading.do_all" gp)
  (V2:og K Ye "__init__" "Call.__init__" ia)
  (V3:og K Yg "given" "Reading.given" ib)
  (V4:og K Yh "end_at" "Reading.end_at" gq)
  (V5:og K Yi "__init__" "Reading.__init__" eO)
  (V6:iJ K "plain_run" ll)
  (V7:PySem.W.nsIn K mainGlobals "law"=some (some (.ref VA))) (V8:K.lookup VA=some ⟨VD,VB,.func (PySem.W.fnOf "law" "law" (dA nG) (dB nG) (dS nG) .none Sw Sx Sy Sv Pa Sz),VC⟩) (V9:PySem.W.codeIn K Pa "law"=true) (Wa:PySem.W.keepIn K (.ref VA)=true)
  (gY:PySem.W.nsIn K mainGlobals "BY_NOUGHT"=some (some (.int 1 jl)))
  (pC:PySem.W.nsIn K mainGlobals "HALF"=some (some (.int 2147483648 wQ)))
  (eE:PySem.W.nsIn K mainGlobals "MOST_FRAMES"=some (some (.int 12 gM)))
  (i7:PySem.W.nsIn K mainGlobals "TOO_DEEP"=some (some (.int 2 kB)))
  (sW:PySem.W.nsIn K mainGlobals "TURN"=some (some (.int 4294967296 wR)))
  (bP:PySem.W.nsIn K mainGlobals "Fault"=some (some (.ref aD)))
  (cQ:PySem.W.ktsIn K aD "BaseException"=true)
  (ij:PySem.W.nsIn K mainGlobals "Gave"=some (some (.ref aZ)))
  (kA:PySem.W.ktsIn K aZ "BaseException"=true)
  (jV:PySem.W.nsIn K mainGlobals "NoDoor"=some (some (.ref cf)))
  (jW:PySem.W.excIn K cf (rA true) (vG true)=true)
  (nW:PySem.W.ktsIn K cf "BaseException"=true)
  (fR:PySem.W.nsIn K mainGlobals "Nought"=some (some (.ref cj)))
  (i8:PySem.W.excIn K cj (rA true) (vG true)=true)
  (i9:PySem.W.ktsIn K cj "BaseException"=true)
  (c9:PySem.W.nsIn K mainGlobals "Weary"=some (some (.ref bC)))
  (fO:PySem.W.excIn K bC (rA false) (vG false)=true)
  (fP:PySem.W.ktsIn K bC "BaseException"=true)
  {oh:Addr} {Dc Dd:Option Addr} {De:Array (Option Value)} {Df Dg Dh Di vj Dj:Value}
  (pR:PySem.W.findIn K (.ref aD) "__init__"=some (some (.ref oh)))
  (pS:K.lookup oh=some ⟨Df,Dc,.func (PySem.W.fnOf "__init__" "Fault.__init__" (dA md) (dB md) (dS md) .none Dg Dh Di Dd vj Dj),De⟩)
  (pT:PySem.W.codeIn K vj "Fault.__init__"=true)
  (pU:PySem.W.keepIn K (.ref oh)=true)
  (pV:PySem.W.isFn K (.ref oh)=true)
  (pW:PySem.W.keepIn K (.ref aD)=true)
  (pX:PySem.W.findIn K (.ref aD) "__setattr__"=some (some (.builtin "object.__setattr__")))
  (pY:PySem.W.mroIn K aD (.type "object")=some true)
  (oi:oG K aD (rA false) (vG false)=true)
  (pZ:PySem.W.findIn K (.ref aD) "number"=some none)
  {qQ:Addr} {GL GN:Option Addr} {GO:Array (Option Value)} {GP GQ GR GS yP GU:Value}
  (sY:PySem.W.findIn K (.ref aZ) "__init__"=some (some (.ref qQ)))
  (sZ:K.lookup qQ=some ⟨GP,GL,.func (PySem.W.fnOf "__init__" "Gave.__init__" (dA oZ) (dB oZ) (dS oZ) .none GQ GR GS GN yP GU),GO⟩)
  (tm:PySem.W.codeIn K yP "Gave.__init__"=true)
  (tp:PySem.W.keepIn K (.ref qQ)=true)
  (tw:PySem.W.isFn K (.ref qQ)=true)
  (tD:PySem.W.keepIn K (.ref aZ)=true)
  (tE:PySem.W.findIn K (.ref aZ) "__setattr__"=some (some (.builtin "object.__setattr__")))
  (tH:PySem.W.mroIn K aZ (.type "object")=some true)
  (qR:oG K aZ (rA false) (vG false)=true)
  (tI:PySem.W.findIn K (.ref aZ) "value"=some none)
  (nT:IsT K "bool" (qa "bool"))
  (sO:IsT K "int" JY)
  (nU:IsT K "list" (qa "list"))
  (lI:IsT K "tuple" (qa "tuple"))
  (eW:PySem.W.findIn K (.ref aD) "__getattribute__"=some (some (.builtin "BaseException.__getattribute__")))
  (eX:PySem.W.findIn K (.ref aD) "__getattr__"=some none)
  (eY:PySem.W.findIn K (.ref aD) "__class__"=some (some (.builtin "object.__class__")))
  (eZ:PySem.W.mroIn K aD (.type "BaseException")=some true)
  (fe:PySem.W.mroIn K aD (.type "object")=some true)
  (fg:PySem.W.hasDictIn K aD=true)
  (yH:PySem.W.mroIn K aD (.ref aD)=some true)
  (Gz:PySem.W.mroIn K aZ (.ref aD)=some false)
  (yI:PySem.W.mroIn K bC (.ref aD)=some false)
  (yJ:PySem.W.findIn K (.ref aD) "number"=some none)
  (GC:PySem.W.mroIn K cj (.ref cj)=some true)
  (lN:PySem.W.findIn K (.ref aZ) "__getattribute__"=some (some (.builtin "BaseException.__getattribute__")))
  (lO:PySem.W.findIn K (.ref aZ) "__getattr__"=some none)
  (lP:PySem.W.findIn K (.ref aZ) "__class__"=some (some (.builtin "object.__class__")))
  (lQ:PySem.W.mroIn K aZ (.type "BaseException")=some true)
  (lR:PySem.W.mroIn K aZ (.type "object")=some true)
  (lS:PySem.W.hasDictIn K aZ=true)
  (GD:PySem.W.mroIn K aZ (.ref aZ)=some true)
  (GF:PySem.W.mroIn K aD (.ref aZ)=some false)
  (GH:PySem.W.mroIn K bC (.ref aZ)=some false)
  (GI:PySem.W.findIn K (.ref aZ) "value"=some none)
  (GJ:PySem.W.mroIn K bC (.ref bC)=some true)
  (yE:PySem.W.nsIn K mainGlobals "all"=some none)
  (sM:PySem.W.nsIn K mainGlobals "bool"=some none)
  (sX:PySem.W.nsIn K mainGlobals "dict"=some none)
  (fN:PySem.W.nsIn K mainGlobals "divmod"=some none)
  (nR:PySem.W.nsIn K mainGlobals "int"=some none)
  (cz:PySem.W.nsIn K mainGlobals "isinstance"=some none)
  (jU:PySem.W.nsIn K mainGlobals "len"=some none)
  (i5:PySem.W.nsIn K mainGlobals "list"=some none)
  (yO:PySem.W.nsIn K mainGlobals "min"=some none)
  (gL:PySem.W.nsIn K mainGlobals "range"=some none)
  (nS:PySem.W.nsIn K mainGlobals "tuple"=some none)
  (yN:PySem.W.nsIn K mainGlobals "zip"=some none)
  : ∃fd:FuncData,(∀(s:Shared) (v:Value),BindsTo s fd ⟨[v],[]⟩ [("_law_script",v)])/\∀base:Heap,K.In base->base.Ns mainGlobals mg->bL l.prog w K mg base cb 306 fa fd ["_law_script"] (wD K):=by
 have e:=hfa.symm.trans (aad X G V7);cases e;obtain⟨f0,fd0,a0,F0⟩:=d0;have k0:=F0.kp;have b0:=F0.binds (ps:=["_law_found","_law_due"]) λ_ _ _ _ _ _=>ln2 (λ_ _=>by rfl)
 obtain⟨f1,fd1,a1,F1⟩:=d1;have k1:=F1.kp;have b1:=F1.binds (ps:=["_law_source_here","_law_many"]) λ_ _ _ _ _ _=>ln2 (λ_ _=>by rfl)
 obtain⟨f2,fd2,a2,F2⟩:=d2;have k2:=F2.kp;have b2:=F2.binds (ps:=["_law_names","_law_what"]) λ_ _ _ _ _ _=>ln2 (λ_ _=>by rfl)
 obtain⟨f3,fd3,a3,F3⟩:=d3;have k3:=F3.kp;have b3:=F3.binds (ps:=["_law_thing_here","_law_names","_law_deep"]) λ_ _ _ _ _ _=>wj (λ_ _ _=>by rfl)
 obtain⟨f4,fd4,a4,F4⟩:=d4;have k4:=F4.kp;have b4:=F4.binds (ps:=["_law_things_here","_law_names","_law_deep"]) λ_ _ _ _ _ _=>wj (λ_ _ _=>by rfl)
 obtain⟨f5,fd5,a5,F5⟩:=d5;have k5:=F5.kp;have b5:=F5.binds (ps:=["_law_some","_law_cell"]) λ_ _ _ _ _ _=>ln2 (λ_ _=>by rfl)
 obtain⟨f6,fd6,a6,F6⟩:=d6;have k6:=F6.kp;have b6:=F6.binds (ps:=["_law_number"]) λ_ _ _ _ _ _=>Kh (λ_=>by rfl)
 obtain⟨f7,fd7,a7,F7⟩:=d7;have k7:=F7.kp;have b7:=F7.binds (ps:=["_law_parts_here","_law_thing_here","_law_frame","_law_state"]) λ_ _ _ _ _ _=>Iu (λ_ _ _ _=>by rfl)
 obtain⟨f8,fd8,a8,F8⟩:=d8;have k8:=F8.kp;have b8:=F8.binds (ps:=["_law_parts_here","_law_thing_here","_law_frame","_law_state"]) λ_ _ _ _ _ _=>Iu (λ_ _ _ _=>by rfl)
 obtain⟨f9,fd9,a9,F9⟩:=d9;have k9:=F9.kp;have b9:=F9.binds (ps:=["_law_parts_here","_law_thing_here","_law_frame","_law_state"]) λ_ _ _ _ _ _=>Iu (λ_ _ _ _=>by rfl)
 obtain⟨TC,aan,Yj,Wb⟩:=VE;have Yk:=Wb.kp;have Yl:=Wb.binds (ps:=["_law_parts_here","_law_thing_here","_law_frame","_law_state"]) λ_ _ _ _ _ _=>Iu (λ_ _ _ _=>by rfl)
 obtain⟨vh,aao,Ym,Wc⟩:=VF;have Yn:=Wc.kp;have Yo:=Wc.binds (ps:=["_law_parts_here","_law_things_here","_law_frame","_law_state"]) λ_ _ _ _ _ _=>Iu (λ_ _ _ _=>by rfl)
 obtain⟨KA,aap,Yp,We⟩:=VG;have Yq:=We.kp;have Yr:=We.binds (ps:=["_law_parts_here","_law_p","_law_n","_law_deep","_law_state"]) λ_ _ _ _ _ _=>ZW (λ_ _ _ _ _=>by rfl)
 obtain⟨TK,aaq,a13,Wg⟩:=VH;have k13:=Wg.kp;have b13:=Wg.binds (ps:=["_law_script"]) λ_ _ _ _ _ _=>Kh (λ_=>by rfl)
 obtain⟨IE,aau,a14,Wh⟩:=VI;have k14:=Wh.kp;have b14:=Wh.binds (ps:=["_law_cell"]) λ_ _ _ _ _ _=>Kh (λ_=>by rfl)
 obtain⟨QC,aay,Ys,Wi⟩:=VJ;have Yt:=Wi.kp;have Yu:=Wi.binds (ps:=["_law_source_here","_law_many","_law_deep","_law_room"]) λ_ _ _ _ _ _=>Iu (λ_ _ _ _=>by rfl)
 obtain⟨TM,aaz,a16,Wj⟩:=VL;have k16:=Wj.kp;have b16:=Wj.binds (ps:=["takes","gives"]) λ_ _ _ _ _ _=>ln2 (λ_ _=>by rfl)
 obtain⟨f17,aaD,a17,Wk⟩:=VM;have k17:=Wk.kp;have b17:=Wk.binds (ps:=["parts","part","inputs"]) λ_ _ _ _ _ _=>wj (λ_ _ _=>by rfl)
 obtain⟨f18,aaH,a18,Wl⟩:=VN;have k18:=Wl.kp;have b18:=Wl.binds (ps:=["part"]) λ_ _ _ _ _ _=>Kh (λ_=>by rfl)
 obtain⟨f19,aaL,a19,Wm⟩:=VO;have k19:=Wm.kp;have b19:=Wm.binds (ps:=["program"]) λ_ _ _ _ _ _=>Kh (λ_=>by rfl)
 obtain⟨⟨aaP,Wn⟩,Yv⟩:=VP;have Yw:=Wn.kp;have Yx:=Wn.binds (ps:=["self","call","tree"]) λ_ _ _ _ _ _=>wj (λ_ _ _=>by rfl)
 obtain⟨⟨aaQ,Wo⟩,q21⟩:=VQ;have k21:=Wo.kp;have b21:=Wo.binds (ps:=["self"]) λ_ _ _ _ _ _=>Kh (λ_=>by rfl)
 obtain⟨⟨aaU,Wq⟩,Yy⟩:=VR;have Yz:=Wq.kp;have YA:=Wq.binds (ps:=["self","call","trees"]) λ_ _ _ _ _ _=>wj (λ_ _ _=>by rfl)
 obtain⟨⟨aaV,Wr⟩,YB⟩:=VS;have YC:=Wr.kp;have YD:=Wr.binds (ps:=["self","call","tree"]) λ_ _ _ _ _ _=>wj (λ_ _ _=>by rfl)
 obtain⟨f24,aaW,a24,Ws⟩:=VT;have k24:=Ws.kp;have b24:=Ws.binds (ps:=["number"]) λ_ _ _ _ _ _=>Kh (λ_=>by rfl)
 obtain⟨f25,aa0,a25,Wt⟩:=VU;have k25:=Wt.kp;have b25:=Wt.binds (ps:=["sign","one","other"]) λ_ _ _ _ _ _=>wj (λ_ _ _=>by rfl)
 obtain⟨f26,aa4,a26,Wu⟩:=VV;have k26:=Wu.kp;have b26:=Wu.binds (ps:=["sign","one","other"]) λ_ _ _ _ _ _=>wj (λ_ _ _=>by rfl)
 obtain⟨⟨aa8,Ww⟩,YE⟩:=VW;have YF:=Ww.kp;have YG:=Ww.binds (ps:=["self","call","tree"]) λ_ _ _ _ _ _=>wj (λ_ _ _=>by rfl)
 obtain⟨⟨aa9,Wx⟩,q28⟩:=VX;have k28:=Wx.kp;have b28:=Wx.binds (ps:=["self","make","fields"]) λ_ _ _ _ _ _=>wj (λ_ _ _=>by rfl)
 obtain⟨⟨abc,Wy⟩,YH⟩:=VY;have YI:=Wy.kp;have YJ:=Wy.binds (ps:=["self","call","tree"]) λ_ _ _ _ _ _=>wj (λ_ _ _=>by rfl)
 obtain⟨⟨abd,Wz⟩,YL⟩:=VZ;have YM:=Wz.kp;have YN:=Wz.binds (ps:=["self","call","tree"]) λ_ _ _ _ _ _=>wj (λ_ _ _=>by rfl)
 obtain⟨⟨abe,WA⟩,YO⟩:=V0;have YQ:=WA.kp;have YR:=WA.binds (ps:=["self","call","tree"]) λ_ _ _ _ _ _=>wj (λ_ _ _=>by rfl)
 obtain⟨⟨abf,WB⟩,YS⟩:=V1;have YT:=WB.kp;have YU:=WB.binds (ps:=["self","call","trees"]) λ_ _ _ _ _ _=>wj (λ_ _ _=>by rfl)
 obtain⟨⟨abg,WC⟩,q33⟩:=V2;have k33:=WC.kp;have b33:=WC.binds (ps:=["self","depth","known"]) λ_ _ _ _ _ _=>wj (λ_ _ _=>by rfl)
 obtain⟨⟨abj,WD⟩,YV⟩:=V3;have YW:=WD.kp;have YX:=WD.binds (ps:=["self","part","values","depth"]) λ_ _ _ _ _ _=>Iu (λ_ _ _ _=>by rfl)
 obtain⟨⟨abk,WE⟩,q35⟩:=V4;have k35:=WE.kp;have b35:=WE.binds (ps:=["self","part","inputs"]) λ_ _ _ _ _ _=>wj (λ_ _ _=>by rfl)
 obtain⟨⟨abo,WG⟩,q36⟩:=V5;have k36:=WG.kp;have b36:=WG.binds (ps:=["self","program","budget"]) λ_ _ _ _ _ _=>wj (λ_ _ _=>by rfl)
 obtain⟨f37,abr,a37,WH⟩:=V6;have k37:=WH.kp;have b37:=WH.binds (ps:=["program","part","inputs","budget"]) λ_ _ _ _ _ _=>Iu (λ_ _ _ _=>by rfl)
 have F38:=rj (st:=nG) V8 V9 Wa;have SA:=aaM X G yE;have y_bool:=aaM X G sM;have Pb:=aaM X G sX;have tJ:=aaM X G fN;have GV:=aaM X G nR;have xf:=aaM X G cz;have B7:=aaM X G jU;have AK:=aaM X G i5;have SD:=aaM X G yO;have xg:=aaM X G gL;have KG:=aaM X G nS;have SE:=aaM X G yN;have yQ:=aad X G gY;have Pc:=aad X G pC;have uj:=aad X G eE;have AL:=aad X G i7;have Pd:=aad X G sW;have me:=aad X G bP;have AM:=aad X G ij;have GW:=aad X G jV;have yR:=aad X G fR;have qS:=aad X G c9;have GX:=aad X G pH;have aw:Mine.aw K aq:=⟨⟨pJ,pL,pM,pO⟩,ja,gy⟩;have Pe:=aad X G wY;have aA:Mine.aA K ak:=⟨⟨wZ,w4,w6,w8⟩,jD,jE⟩;have Dl:=aad X G mZ;have aC:Mine.aC K az:=⟨⟨m4,m5,m6,m7⟩,eR,ik,ip⟩;refine⟨PySem.W.fnOf "law" "law" (dA nG) (dB nG) (dS nG) .none Sw Sx Sy Sv Pa Sz,λs v=>.of_eq rfl,λbase _ _=>?_⟩;have yS:=rj (st:=md) pS pT pU;have GY:=yS.binds (ps:=["self","number"]) λ_ _ _ _ _ _=>ln2 (λ_ _=>by rfl)
 have xh:vH l.prog w K mg base aD ["number"]:=⟨⟨pX,⟨_,oi⟩,pY⟩,List.forall_mem_cons.mpr ⟨pZ,List.forall_mem_nil _⟩,by decide,⟨_,_,⟨⟨_,oi⟩,pR,pV,pW⟩,Aq yS,GY⟩⟩;have B8:=rj (st:=oZ) sZ tm tp;have KH:=B8.binds (ps:=["self","value"]) λ_ _ _ _ _ _=>ln2 (λ_ _=>by rfl)
 have Pf:vH l.prog w K mg base aZ ["value"]:=⟨⟨tE,⟨_,qR⟩,tH⟩,List.forall_mem_cons.mpr ⟨tI,List.forall_mem_nil _⟩,by decide,⟨_,_,⟨⟨_,qR⟩,sY,tw,tD⟩,C4 B8,KH⟩⟩;have xi:eM l.prog w K mg base cb "_law_alike" 1 ["_law_found","_law_due"] (iz K):=⟨_,_,t9 F0 y_bool GV xf B7 AK KG aw aA nT sO nU lI,b0,k0,aad X G a0⟩;have qh:eM l.prog w K mg base cb "_law_next" 1 ["_law_source_here","_law_many"] (gP K):=⟨_,_,wF F1 B7 aw aA,b1,k1,aad X G a1⟩;have xj:eM l.prog w K mg base cb "_law_named" 1 ["_law_names","_law_what"] (iA K):=⟨_,_,ub F2 GV aw aA,b2,k2,aad X G a2⟩
 have YY:∀n:Nat,eM l.prog w K mg base cb "_law_row" (n + 1) ["_law_thing_here","_law_names","_law_deep"] (ki K n)/\eM l.prog w K mg base cb "_law_body" (n + 1) ["_law_things_here","_law_names","_law_deep"] (gQ K n):=by
  intro n
  induction n with
  | zero=>exact⟨⟨_,_,fV (λvs H Q E h=>by obtain⟨_,_,_,_,_,_,_,_,_,_,k,hn,_⟩:=h;exact absurd hn (by omega)),b3,k3,aad X G a3⟩,⟨_,_,fV (λvs H Q E h=>by obtain⟨_,_,_,_,_,_,_,_,_,_,k,hn,_⟩:=h;exact absurd hn (by omega)),b4,k4,aad X G a4⟩⟩
  | succ n ih =>
   obtain⟨tK,lT⟩:=ih;exact⟨⟨_,_,yA (n:=n) F3 aw aA lT xj,b3,k3,aad X G a3⟩,⟨_,_,wG (n:=n) F4 aw aA tK,b4,k4,aad X G a4⟩⟩
 have tK:=λn=>(YY n).1
 have lT:=λn=>(YY n).2
 have xk:eM l.prog w K mg base cb "_law_parts" 10 ["_law_some","_law_cell"] (iB K):=⟨_,_,uc F5 B7 xg aw aA ((lT 8)),b5,k5,aad X G a5⟩;have lU:eM l.prog w K mg base cb "_law_wrapped" 1 ["_law_number"] (fJ K):=⟨_,_,qv F6 aw aA,b6,k6,aad X G a6⟩
 have Dm:∀n:Nat,eM l.prog w K mg base cb "_law_call" (n + 1) ["_law_parts_here","_law_thing_here","_law_frame","_law_state"] (lD K n)/\eM l.prog w K mg base cb "_law_loop" (n + 1) ["_law_parts_here","_law_thing_here","_law_frame","_law_state"] (lE K n)/\eM l.prog w K mg base cb "_law_try" (n + 1) ["_law_parts_here","_law_thing_here","_law_frame","_law_state"] (mS K n)/\eM l.prog w K mg base cb "_law_thing" (n + 1) ["_law_parts_here","_law_thing_here","_law_frame","_law_state"] (kj K n)/\eM l.prog w K mg base cb "_law_do" (n + 1) ["_law_parts_here","_law_things_here","_law_frame","_law_state"] (iP K n)/\eM l.prog w K mg base cb "_law_run" (n + 1) ["_law_parts_here","_law_p","_law_n","_law_deep","_law_state"] (kl K n):=by
  intro n
  induction n with
  | zero=>exact⟨⟨_,_,fV (λvs H Q E h=>by obtain⟨H0,a,l,fr,pu,tv,ps,q,dt,k,d,r,s,s',rfl,hq,hP,hT,I,ev,kq⟩:=h;exact ev.no.elim),b7,k7,aad X G a7⟩,⟨_,_,fV (λvs H Q E h=>by obtain⟨H0,a,l,fr,pu,tv,ps,q,dt,k,d,r,s,s',rfl,hq,hP,hT,I,ev,kq⟩:=h;exact ev.no.elim),b8,k8,aad X G a8⟩,⟨_,_,fV (λvs H Q E h=>by obtain⟨H0,a,l,fr,pu,tv,ps,q,dt,k,d,r,s,s',rfl,hq,hP,hT,I,ev,kq⟩:=h;exact ev.no.elim),b9,k9,aad X G a9⟩,⟨_,_,fV (λvs H Q E h=>by obtain⟨H0,a,l,fr,pu,tv,ps,q,dt,k,d,r,s,s',rfl,hq,hP,hT,I,ev,kq⟩:=h;exact ev.no.elim),Yl,Yk,aad X G Yj⟩,⟨_,_,fV (λvs H Q E h=>by obtain⟨H0,a,l,fr,pu,tv,ps,q,dt,k,d,r,s,s',rfl,hq,hP,hT,I,ev,kq⟩:=h;exact ev.no.elim),Yo,Yn,aad X G Ym⟩,⟨_,_,fV (λvs H Q E h=>by obtain⟨H0,a,l,pu,ps,p,k,d,ff,s,s',rfl,hP,I,ev,kq⟩:=h;exact ev.no.elim),Yr,Yq,aad X G Yp⟩⟩
  | succ n ih =>
   obtain⟨qi,qj,tL,oj,mf,nh⟩:=ih;exact⟨⟨_,_,wH (n:=n) F7 aw aA nh lU,b7,k7,aad X G a7⟩,⟨_,_,wI (n:=n) F8 aw aA mf lU,b8,k8,aad X G a8⟩,⟨_,_,yB (n:=n) F9 aw aA mf,b9,k9,aad X G a9⟩,⟨_,_,ud (n:=n) Wb GV aw aA qi qj tL,Yl,Yk,aad X G Yj⟩,⟨_,_,As (n:=n) Wc aw aA oj,Yo,Yn,aad X G Ym⟩,⟨_,_,yD (n:=n) We aw aA mf,Yr,Yq,aad X G Yp⟩⟩
 have qi:=λn=>(Dm n).1
 have qj:=λn=>(Dm n).2.1
 have tL:=λn=>(Dm n).2.2.1
 have oj:=λn=>(Dm n).2.2.2.1
 have mf:=λn=>(Dm n).2.2.2.2.1
 have nh:=λn=>(Dm n).2.2.2.2.2
 have uk:eM l.prog w K mg base cb "_law_source" 1 ["_law_script"] (gI K):=⟨_,_,sQ Wg AK aw aA,b13,k13,aad X G a13⟩;have qk:eM l.prog w K mg base cb "_law_word" 1 ["_law_cell"] (gU K):=⟨_,_,wK Wh tJ aw aA,b14,k14,aad X G a14⟩
 have WI:∀n:Nat,eM l.prog w K mg base cb "_law_things" (n + 1) ["_law_source_here","_law_many","_law_deep","_law_room"] (en K n):=by
  intro n
  induction n with
  | zero=>exact⟨_,_,fV (λvs H Q E h=>by obtain⟨_,_,_,_,_,_,_,_,_,_,hn,_⟩:=h;exact nomatch hn),Yu,Yt,aad X G Ys⟩
  | succ n ih =>
   have jF:=ih;exact⟨_,_,sR (n:=n) Wi tJ xg aw aA qh jF qk,Yu,Yt,aad X G Ys⟩
 have jF:=λn=>(WI n)
 have Dn:eM l.prog w K mg base cb "is_door" 1 ["takes","gives"] (kn K):=⟨_,_,Av Wj SA aw aA,b16,k16,aad X G a16⟩;have xl:eM l.prog w K mg base (dD l.prog w) "check_door" 2 ["parts","part","inputs"] (jy K cf):=⟨_,_,ue Wk B7 GW jW nW aw aA Dn,b17,k17,aad X G a17⟩;have um:eM l.prog w K mg base cb "kinds_taken" 1 ["part"] (fK K):=⟨_,_,sT Wl aw aA,b18,k18,aad X G a18⟩;have AN:eM l.prog w K mg base cb "heads_of" 2 ["program"] (lG K):=⟨_,_,yG Wm aw aA um,b19,k19,aad X G a19⟩;have j0:dR l.prog w K mg base (dD l.prog w) az "spend" 1 ["self"] (nP K az mg):=⟨⟨_,_,pB Wo (C:=az) (wt:=false) qS fO fP aw aA aC,b21,⟨gA,q21,k21⟩⟩,aC.cl⟩;have vk:eM l.prog w K mg base cb "wrapped" 1 ["number"] (ko K):=⟨_,_,Ay Ws Pc ⟨_,rfl⟩ Pd ⟨_,rfl⟩ aw aA,b24,k24,aad X G a24⟩;have Dp:eM l.prog w K mg base (dD l.prog w) "divided" 2 ["sign","one","other"] (mU K mg):=⟨_,_,AD Wt yR i8 i9 aw aA vk,b25,k25,aad X G a25⟩;have AQ:eM l.prog w K mg base (dD l.prog w) "reckoned" 3 ["sign","one","other"] (lH K mg):=⟨_,_,yL Wu aw aA Dp vk,b26,k26,aad X G a26⟩;have Dq:zL l.prog w K mg base cb aq "Record" 1 ["self","make","fields"] (i4 K aq):=⟨⟨_,_,mY Wx aw aA,b28,⟨pP,eQ,q28,pQ⟩,GX⟩⟩;have KI:zL l.prog w K mg base cb ak "Call" 1 ["self","depth","known"] (kr K ak):=⟨⟨_,_,pF WC aw aA,b33,⟨w9,gz,q33,xc⟩,Pe⟩⟩
 have xm:∀n:Nat,dR l.prog w K mg base (dD l.prog w) az "do_try" (n + 3) ["self","call","tree"] (px K n az ak mg)/\dR l.prog w K mg base (dD l.prog w) az "values_of" (n + 3) ["self","call","trees"] (fL K n az ak mg)/\dR l.prog w K mg base (dD l.prog w) az "value_of_call" (n + 3) ["self","call","tree"] (gr K n az ak mg)/\dR l.prog w K mg base (dD l.prog w) az "value_of_two" (n + 3) ["self","call","tree"] (ic K n az ak mg)/\dR l.prog w K mg base (dD l.prog w) az "value_of" (n + 3) ["self","call","tree"] (dP K n az ak aq mg)/\dR l.prog w K mg base (dD l.prog w) az "do_nesting" (n + 3) ["self","call","tree"] (jA K n az ak mg)/\dR l.prog w K mg base (dD l.prog w) az "do_statement" (n + 3) ["self","call","tree"] (ie K n az ak mg)/\dR l.prog w K mg base (dD l.prog w) az "do_all" (n + 3) ["self","call","trees"] (jT K n az ak mg)/\dR l.prog w K mg base (dD l.prog w) az "given" (n + 3) ["self","part","values","depth"] (nQ K n az mg):=by
  intro n
  induction n with
  | zero=>exact⟨⟨⟨_,_,fV (λvs H Q E h=>by obtain⟨R,L,tv,a,b,x,s,s',r,rfl,I,J,hT,ev,q⟩:=h;exact ev.no.elim),Yx,⟨dw,Yv,Yw⟩⟩,aC.cl⟩,⟨⟨_,_,fV (λvs H Q E h=>by obtain⟨R,L,a,us,ts,s,s',r,rfl,I,J,hA,hU,kM,ev,q,qE⟩:=h;exact ev.no.elim),YA,⟨cA,Yy,Yz⟩⟩,aC.cl⟩,⟨⟨_,_,fV (λvs H Q E h=>by obtain⟨R,L,tv,p,ts,s,s',r,rfl,I,J,hT,kM,ev,q⟩:=h;exact ev.no.elim),YD,⟨bQ,YB,YC⟩⟩,aC.cl⟩,⟨⟨_,_,fV (λvs H Q E h=>by obtain⟨R,L,tv,op,a,b,s,s',r,rfl,I,J,hT,ho,ev,q⟩:=h;exact ev.no.elim),YG,⟨bS,YE,YF⟩⟩,aC.cl⟩,⟨⟨_,_,fV (λvs H Q E h=>by obtain⟨R,L,tv,tree,s,s',r,rfl,I,J,hT,ev,q,qr⟩:=h;exact ev.no.elim),YJ,⟨cR,YH,YI⟩⟩,aC.cl⟩,⟨⟨_,_,fV (λvs H Q E h=>by obtain⟨R,L,tv,t,s,s',r,rfl,I,J,hT,ev,q⟩:=h;exact ev.no.elim),YN,⟨ck,YL,YM⟩⟩,aC.cl⟩,⟨⟨_,_,fV (λvs H Q E h=>by obtain⟨R,L,tv,t,s,s',r,rfl,I,J,hT,ev,q⟩:=h;exact ev.no.elim),YR,⟨bT,YO,YQ⟩⟩,aC.cl⟩,⟨⟨_,_,fV (λvs H Q E h=>by obtain⟨R,L,tv,ts,s,s',r,rfl,I,J,hT,ev,q⟩:=h;exact ev.no.elim),YU,⟨dz,YS,YT⟩⟩,aC.cl⟩,⟨⟨_,_,fV (λvs H Q E h=>by obtain⟨R,il,p,dep,ks,m,s,s',r,rfl,I,hS,ev,q⟩:=h;exact ev.no.elim),YX,⟨dX,YV,YW⟩⟩,aC.cl⟩⟩
  | succ n ih =>
   obtain⟨jq,cE,eF,fj,bW,fY,fq,dC,gE⟩:=ih;exact⟨⟨⟨_,_,nX (n:=n) Wn (C:=az) (wt:=false) qS fO fP AM kA me cQ aw aA aC dC eW eX eY eZ fe fg yH Gz yI yJ,Yx,⟨dw,Yv,Yw⟩⟩,aC.cl⟩,⟨⟨_,_,lM (n:=n) Wq (C:=az) (wt:=false) aw aA aC bW,YA,⟨cA,Yy,Yz⟩⟩,aC.cl⟩,⟨⟨_,_,jC (n:=n) Wr (C:=az) (wt:=false) me cQ uj ⟨_,rfl⟩ AL ⟨_,rfl⟩ xh aw aA aC gE j0 cE,YD,⟨bQ,YB,YC⟩⟩,aC.cl⟩,⟨⟨_,_,jY (n:=n) Ww (C:=az) (wt:=false) yQ ⟨_,rfl⟩ me cQ yR i8 i9 xh aw aA aC AQ cE GC,YG,⟨bS,YE,YF⟩⟩,aC.cl⟩,⟨⟨_,_,mj (n:=n) Wy (C:=az) (wt:=false) aw aA aC eF fj cE Dq,YJ,⟨cR,YH,YI⟩⟩,aC.cl⟩,⟨⟨_,_,kN (n:=n) Wz (C:=az) (wt:=false) aw aA aC dC jq j0 bW,YN,⟨ck,YL,YM⟩⟩,aC.cl⟩,⟨⟨_,_,jZ (n:=n) WA (C:=az) (wt:=false) me cQ AM kA xh Pf aw aA aC fY bW,YR,⟨bT,YO,YQ⟩⟩,aC.cl⟩,⟨⟨_,_,nZ (n:=n) WB (C:=az) (wt:=false) aw aA aC fq,YU,⟨dz,YS,YT⟩⟩,aC.cl⟩,⟨⟨_,_,pG (n:=n) WD (C:=az) (wt:=false) qS fO fP me cQ Pb SE AM kA aw aA aC dC bW KI lN lO lP lQ lR lS GD GF GH GI,YX,⟨dX,YV,YW⟩⟩,aC.cl⟩⟩
 have jq:=λn=>(xm n).1
 have cE:=λn=>(xm n).2.1
 have eF:=λn=>(xm n).2.2.1
 have fj:=λn=>(xm n).2.2.2.1
 have bW:=λn=>(xm n).2.2.2.2.1
 have fY:=λn=>(xm n).2.2.2.2.2.1
 have fq:=λn=>(xm n).2.2.2.2.2.2.1
 have dC:=λn=>(xm n).2.2.2.2.2.2.2.1
 have gE:=λn=>(xm n).2.2.2.2.2.2.2.2
 have om:dR l.prog w K mg base cb az "end_at" 304 ["self","part","inputs"] (pz K az mg):=⟨⟨_,_,n8 WE (C:=az) (wt:=false) me cQ qS fO fP aw aA aC ((gE 300)) eW eX eY eZ fe fg yH yI GJ yJ,b35,⟨fS,q35,k35⟩⟩,aC.cl⟩;have AR:zL l.prog w K mg base cb az "Reading" 1 ["self","program","budget"] (ig K az):=⟨⟨_,_,mn WG (C:=az) (wt:=false) aw aA aC,b36,⟨m8,eh,q36,m9⟩,Dl⟩⟩;have yT:eM l.prog w K mg base cb "plain_run" 305 ["program","part","inputs","budget"] (iF K):=⟨_,_,wU WH aw aA aC xl AN om AR,b37,k37,aad X G a37⟩;exact O2 (P:=l.prog) (w:=w) (base:=base) F38 tJ AK SD xg aw aA xi qh xk ((nh 300)) uk ((jF 4)) qk yT
theorem walk{l:PySem.W.OpenLaw}{q:Program}{loose:List Str}{XP:(Str->Option Value)->Heap->Prop}{YP:World->Heap->Prop}{d:DefRec}{K:Params->aV}(hn:l.most=some 63)(hdf:d.params.defaults=[])
  (hY:∀(w:World) (h:Heap),YP w h->(K w.params).In h)
  (F:∀(w:World) (mg:Str->Option Value) (fa:Addr) (h:Heap),(K w.params).In h->h.Ns mainGlobals mg->mg d.name=some (.ref fa) ->
   ∃fd:FuncData,(∀(s:Shared) (u:Value),BindsTo s fd ⟨[u],[]⟩ [("_law_script",u)])/\∀base:Heap,(K w.params).In base->base.Ns mainGlobals mg->bL l.prog w (K w.params) mg base cb 306 fa fd ["_law_script"] (wD (K w.params))) :
  PySem.W.WalkO q loose XP YP l.row.toRowW d [] (λf vs=>PySem.call f vs) :=
 L2.Jp (n:=63) (k:=306) (x:="_law_script") (CX:=λ_=>cb) (sp:=λw=>wD (K w.params)) hn (by decide) hdf ⟨λ_=>rfl,by decide,by decide,rfl⟩ hY F (λ_ _ a ns hl _ hS=>⟨a,ns,rfl,hS,hl,λ_=>rfl⟩) λ_ _ _ _ _ z=>z
end Mine
noncomputable section
namespace MH
open PySem PySem.W L2 Mine
abbrev OF:=Program->Params->Obj
abbrev TF:=Program->Params->BT
abbrev r(a:Nat):Value:=.ref a
abbrev s(x:Str)(t:Tok):Value:=.str x t
abbrev i(n:Int):Value:=.int n 0
abbrev cF:Str:="/claim/cut.py"
def de(P:Params)(x:Str)(t:Tok)(v:Value):DictEntry:=⟨PyData.keyHash P x,.str x t,v⟩
abbrev fn(a b:Str)(e:Stmt)(dV kV doc pm:Value)(an:Option Addr)(cd ct:Value):FuncData:=PySem.W.fnOf a b (dA e) (dB e) (dS e) dV kV doc pm an cd ct
abbrev fx(g u:Nat)(a b:Str)(e:Stmt)(dV kV doc pm:Value)(an:Option Addr)(cd ct:Value):FuncData:=⟨a,b,dA e,.stmts (dB e),dS e,g,[],dV,kV,doc,pm,an,cd,ct,u⟩
abbrev tu(l:List Value):Obj:=⟨.type "tuple",none,.seq l.toArray 0,#[]⟩
abbrev nf(l:List Value):Obj:=⟨.none,none,.fields l.toArray,#[]⟩
abbrev co(l:List Value):Obj:=⟨.type "code",none,.fields l.toArray,#[]⟩
abbrev fm(l:List (Option Value)):Obj:=⟨.type "frame",none,.plain,l.toArray⟩
abbrev di(l:List DictEntry)(n:Nat):Obj:=⟨.type "dict",none,.dict l.toArray n,#[]⟩
abbrev fo(f:FuncData):Obj:=⟨.type "function",none,.func f,#[]⟩
abbrev no(f:FuncData):Obj:=⟨.none,none,.func f,#[]⟩
abbrev bn(o:Obj)(l r:BT):BT:=.node o l r
abbrev bl(o:Obj):BT:=.node o .nil .nil
abbrev af(o:OF)(l r:TF):TF:=λp P=>.node (o p P) (l p P) (r p P)
abbrev ai(o:OF):TF:=λp P=>.node (o p P) .nil .nil
abbrev aB:TF:=λ_ _=>.nil
abbrev f0_(a b:Str)(e:Stmt):FuncData:=fn a b e .none .none .none .none none .none .none
abbrev jr(g u:Nat)(a b:Str)(e:Stmt):FuncData:=fx g u a b e .none .none .none .none none .none .none
abbrev Dr:OF:=λ_ P=>boot_o_0 P
abbrev Ds:OF:=λ_ P=>boot_o_1 P
abbrev p0:OF:=λ_ P=>boot_o_10 P
abbrev SG:OF:=λ_ P=>boot_o_2 P
abbrev b3_:OF:=λ_ P=>boot_o_3 P
abbrev Dt:OF:=λ_ P=>boot_o_4 P
abbrev Du:OF:=λ_ P=>boot_o_5 P
abbrev Dv:OF:=λ_ P=>boot_o_6 P
abbrev Dw:OF:=λ_ P=>boot_o_7 P
abbrev Dx:OF:=λ_ P=>boot_o_8 P
abbrev Dy:OF:=λ_ P=>boot_o_9 P
abbrev pw:Program:=PySem.Challenge.pw_stackwarden_k68_tries_and_depth
def nj(p:Program):Env:={scope:=p.main.scope,locals:=mainNs,globals:=mainNs,cells:=[],code:=(.ref 13),frame:=some 14}
def cn(p:Program):Code:=.body (behindTheImports p) (nj p)
abbrev BF:List Frame:=[topFrame ⟨0,0,0,0⟩]
def dE(p:Program)(i n:Nat):List Stmt:=((behindTheImports p).drop i).take n
def cH(p:Program):Program:={p with main:={p.main with body:=[tf p 1,tf p 2,tf p 3,tf p 5,tf p 6,tf p 8,tf p 9,tf p 10,tf p 12,tf p 13,tf p 14,tf p 15,tf p 16,tf p 17,tf p 18,tf p 20,tf p 21,tf p 23,tf p 24,tf p 25,tf p 26,tf p 27,tf p 28,tf p 29,tf p 31,tf p 32,tf p 33,tf p 34,tf p 35,tf p 36,tf p 37,tf p 38,tf p 39,tf p 40,tf p 41,tf p 42,tf p 43,tf p 44,tf p 45,tf p 46,tf p 47]}}
abbrev ST(t:BT)(n k:Nat)(os:OsState):SharedT:=⟨t,n,{},Array.mk [],{},k,os⟩
abbrev SH(h:Heap)(k:Nat)(os:OsState):Shared:=⟨h,Array.mk [],{},k,os⟩
local macro_rules | `(tactic| walk_at "qk")=>`(tactic| ((try rewrite [Fast.te14364793385576792824]); (try rewrite [Fast.te10110043849684766642]); (try rewrite [Fast.te14374325043358763698]); (try rewrite [Fast.te15667345088766844465]); (try rewrite [Fast.te14082659384304107361]); (try rewrite [Fast.te11892475500146522536]); (try rewrite [Fast.te5160383126252970620]); (try rewrite [Fast.te3399658132070893891]); (try rewrite [Fast.te5991557255702980513]); (try rewrite [Fast.te10880121769531294198]); (try rewrite [Fast.te821141287760084731]); (try rewrite [Fast.te7409074990110511671]); (try rewrite [Fast.te13664370479719496447]); (try rewrite [Fast.te5923862056798008813]); (try rewrite [Fast.te14722251495701143533]); (try rewrite [Fast.te10994771534591457954]); (try rewrite [Fast.te479339242167458305]); (try rewrite [Fast.te16090120013241838585]); (try rewrite [Fast.te3247288618530077131]); (try rewrite [Fast.te2386780881361962483]); (try rewrite [Fast.te11698064438423848299]); (try rewrite [Fast.te7317090234206586261]); (try rewrite [Fast.te7369524293546568484]); (try rewrite [Fast.te8920871248978507458]); (try rewrite [PySem.W.R.mapR_eq]); kernel_rfl))
def o0:OF:=λp P=>tu []
def o1:OF:=λp P=>nf []
noncomputable def o2:OF:=λp P=>co [(s "<module>" 182),(s "<module>" 183),(s cF 184),(i 1),(i 0),(i 0),(i 0),(i 0),(r 11),(.bool false),(i 181),(r 12),.none,.none,.none,.none,(i 185),(i 1),(s cF 186)]
def o3:OF:=λp P=>fm [(some (r 13)),(some (r 3)),(some (r 3)),none,(some (s "__main__" 164)),none,(some (r 0))]
def H0(p:Program)(P:Params):Heap:=⟨Array.mk [boot_o_0 P,boot_o_1 P,boot_o_2 P,boot_o_3 P,boot_o_4 P,boot_o_5 P,boot_o_6 P,boot_o_7 P,boot_o_8 P,boot_o_9 P,boot_o_10 P,o0 p P,o1 p P,o2 p P,o3 p P],{}⟩
def dq0_(P:Params):List DictEntry:=[de P "__doc__" 166 .none,de P "__package__" 167 .none,de P "__loader__" 168 (.builtin "__main__.__loader__#opaque"),de P "__spec__" 169 .none,de P "__annotations__" 170 (r 6),de P "__builtins__" 171 (r 4),de P "__file__" 173 (s cF 172),de P "__cached__" 174 .none,de P "WardenError" 206 (r 24)]
def dq1_(P:Params):List DictEntry:=dq0_ P++[de P "Nought" 222 (r 37)]
def dq2_(P:Params):List DictEntry:=dq1_ P++[de P "NoDoor" 238 (r 49),de P "is_door" 246 (r 56),de P "check_door" 256 (r 63),de P "elders_of" 267 (r 70),de P "is_under" 276 (r 77),de P "MOST_FRAMES" 278 (.int 12 277),de P "HALF" 282 (.int 2147483648 281),de P "TURN" 284 (.int 4294967296 283)]
def dq3_(P:Params):List DictEntry:=dq2_ P++[de P "wrapped" 291 (r 84),de P "reckoned" 300 (r 91),de P "divided" 309 (r 98),de P "BY_NOUGHT" 311 (.int 1 310),de P "TOO_DEEP" 313 (.int 2 312),de P "kinds_taken" 321 (r 103),de P "heads_of" 327 (r 108)]
def dq4_(P:Params):List DictEntry:=dq3_ P++[de P "Fault" 358 (r 125)]
def dq5_(P:Params):List DictEntry:=dq4_ P++[de P "Gave" 387 (r 145)]
def dq6_(P:Params):List DictEntry:=dq5_ P++[de P "Weary" 407 (r 158)]
def dq7_(P:Params):List DictEntry:=dq6_ P++[de P "Record" 438 (r 178)]
def dq8_(P:Params):List DictEntry:=dq7_ P++[de P "Call" 469 (r 199)]
def dq9_(P:Params):List DictEntry:=dq8_ P++[de P "Reading" 613 (r 300)]
def dq10_(P:Params):List DictEntry:=dq9_ P++[de P "plain_run" 625 (r 311),de P "_law_next" 636 (r 318),de P "_law_source" 645 (r 325),de P "_law_word" 653 (r 332),de P "_law_things" 669 (r 339),de P "_law_named" 677 (r 346),de P "_law_row" 693 (r 353),de P "_law_body" 704 (r 360),de P "_law_parts" 718 (r 367),de P "_law_wrapped" 725 (r 374),de P "_law_call" 737 (r 381)]
def dq11_(P:Params):List DictEntry:=dq10_ P++[de P "_law_loop" 748 (r 388),de P "_law_try" 759 (r 395),de P "_law_thing" 770 (r 402),de P "_law_do" 782 (r 409),de P "_law_run" 795 (r 416),de P "_law_alike" 804 (r 423),de P "law" 810 (r 428)]
def o4:OF:=λp P=>di (de P "__name__" 165 (s "stackwarden.errors" 187)::dq0_ P) 10
def o5:OF:=λp P=>nf [(i 2),(i 0),(r 20)]
def o6:OF:=λp P=>tu [(.type "ValueError")]
def o7:OF:=λp P=>⟨(.type "builtin_function_or_method"),none,(.fields #[(.builtin "type.__prepare__"),(.type "type")]),#[]⟩
noncomputable def o8:OF:=λp P=>di [de P "__module__" 196 (s "stackwarden.errors" 187),de P "__qualname__" 198 (s "WardenError" 197),de P "__firstlineno__" 200 (.int 2 199),de P "__static_attributes__" 201 (r 22)] 4
noncomputable def o9:OF:=λp P=>co [(s "WardenError" 191),(s "WardenError" 192),(s cF 193),(i 2),(i 0),(i 0),(i 0),(i 0),(r 18),(.bool false),(i 181),(r 19),.none,.none,.none,.none,(i 194),(i 2),(s cF 195)]
def Dz:OF:=λp P=>fm [(some (r 20)),(some (r 3)),(some (r 17)),none,(some (s "stackwarden.errors" 187)),none,(some (r 0))]
noncomputable def B9:OF:=λp P=>di [de P "__module__" 196 (s "stackwarden.errors" 187),de P "__firstlineno__" 200 (.int 2 199),de P "__static_attributes__" 201 (r 22),de P "__weakref__" 203 (r 25),de P "__doc__" 204 .none] 3
noncomputable def o12:OF:=λp P=>⟨(.type "type"),none,(.cls {name:="WardenError",bases:=[(.type "ValueError")],mro:=[(r 24),(.type "ValueError"),(.type "Exception"),(.type "BaseException"),(.type "object")],ns:=23,qualname:="WardenError"}),#[(some (r 15)),none,(some (s "WardenError" 189)),(some (s "WardenError" 197)),(some (.builtin "ValueError.__new__")),(some (.bool true))]⟩
def Ca:OF:=λp P=>⟨(.type "getset_descriptor"),none,(.fields #[(s "__weakref__" 202),(r 24),(.builtin "ExceptionGroup.__weakref__"),.none]),#[]⟩
def DA:OF:=λp P=>⟨(.type "super"),none,(.fields #[(r 24),(r 24),(r 24)]),#[]⟩
def DB:OF:=λp P=>⟨(.type "builtin_function_or_method"),none,(.fields #[(.builtin "object.__init_subclass__"),(r 24)]),#[]⟩
def o16:OF:=λp P=>di (de P "__name__" 165 (s "stackwarden.errors" 187)::dq1_ P) 11
def o17:OF:=λp P=>nf [(i 2),(i 0),(r 20),(i 4),(i 0),(r 33)]
noncomputable def o18:OF:=λp P=>⟨(.type "type"),none,(.cls {name:="WardenError",bases:=[(.type "ValueError")],mro:=[(r 24),(.type "ValueError"),(.type "Exception"),(.type "BaseException"),(.type "object")],ns:=23,qualname:="WardenError",subclasses:=[(r 37)]}),#[(some (r 15)),none,(some (s "WardenError" 189)),(some (s "WardenError" 197)),(some (.builtin "ValueError.__new__")),(some (.bool true))]⟩
def qz:OF:=λp P=>tu [(r 24)]
noncomputable def Ea:OF:=λp P=>di [de P "__module__" 214 (s "stackwarden.errors" 187),de P "__qualname__" 216 (s "Nought" 215),de P "__firstlineno__" 218 (.int 4 217),de P "__static_attributes__" 219 (r 35)] 4
noncomputable def GZ:OF:=λp P=>co [(s "Nought" 209),(s "Nought" 210),(s cF 211),(i 4),(i 0),(i 0),(i 0),(i 0),(r 31),(.bool false),(i 181),(r 32),.none,.none,.none,.none,(i 212),(i 4),(s cF 213)]
def G0:OF:=λp P=>fm [(some (r 33)),(some (r 3)),(some (r 30)),none,(some (s "stackwarden.errors" 187)),none,(some (r 0))]
noncomputable def Eb:OF:=λp P=>di [de P "__module__" 214 (s "stackwarden.errors" 187),de P "__firstlineno__" 218 (.int 4 217),de P "__static_attributes__" 219 (r 35),de P "__doc__" 220 .none] 2
noncomputable def DE:OF:=λp P=>⟨(.type "type"),none,(.cls {name:="Nought",bases:=[(r 24)],mro:=[(r 37),(r 24),(.type "ValueError"),(.type "Exception"),(.type "BaseException"),(.type "object")],ns:=36,qualname:="Nought"}),#[(some (r 28)),none,(some (s "Nought" 207)),(some (s "Nought" 215)),(some (.builtin "ValueError.__new__")),(some (.bool true))]⟩
def Ec:OF:=λp P=>⟨(.type "super"),none,(.fields #[(r 37),(r 37),(r 37)]),#[]⟩
def Ed:OF:=λp P=>⟨(.type "builtin_function_or_method"),none,(.fields #[(.builtin "object.__init_subclass__"),(r 37)]),#[]⟩
def o27:OF:=λp P=>di (de P "__name__" 165 (s "stackwarden.words" 279)::dq2_ P) 19
def o28:OF:=λp P=>nf [(i 2),(i 0),(r 20),(i 4),(i 0),(r 33),(i 6),(i 0),(r 45),(i 9),(i 0),(r 55),(i 11),(i 0),(r 62),(i 18),(i 0),(r 69),(i 24),(i 0),(r 76)]
noncomputable def Ee:OF:=λp P=>⟨(.type "type"),none,(.cls {name:="WardenError",bases:=[(.type "ValueError")],mro:=[(r 24),(.type "ValueError"),(.type "Exception"),(.type "BaseException"),(.type "object")],ns:=23,qualname:="WardenError",subclasses:=[(r 37),(r 49)]}),#[(some (r 15)),none,(some (s "WardenError" 189)),(some (s "WardenError" 197)),(some (.builtin "ValueError.__new__")),(some (.bool true))]⟩
noncomputable def G2:OF:=λp P=>di [de P "__module__" 230 (s "stackwarden.errors" 187),de P "__qualname__" 232 (s "NoDoor" 231),de P "__firstlineno__" 234 (.int 6 233),de P "__static_attributes__" 235 (r 47)] 4
noncomputable def IF:OF:=λp P=>co [(s "NoDoor" 225),(s "NoDoor" 226),(s cF 227),(i 6),(i 0),(i 0),(i 0),(i 0),(r 43),(.bool false),(i 181),(r 44),.none,.none,.none,.none,(i 228),(i 6),(s cF 229)]
def IG:OF:=λp P=>fm [(some (r 45)),(some (r 3)),(some (r 42)),none,(some (s "stackwarden.errors" 187)),none,(some (r 0))]
noncomputable def G3:OF:=λp P=>di [de P "__module__" 230 (s "stackwarden.errors" 187),de P "__firstlineno__" 234 (.int 6 233),de P "__static_attributes__" 235 (r 47),de P "__doc__" 236 .none] 2
noncomputable def G4:OF:=λp P=>⟨(.type "type"),none,(.cls {name:="NoDoor",bases:=[(r 24)],mro:=[(r 49),(r 24),(.type "ValueError"),(.type "Exception"),(.type "BaseException"),(.type "object")],ns:=48,qualname:="NoDoor"}),#[(some (r 40)),none,(some (s "NoDoor" 223)),(some (s "NoDoor" 231)),(some (.builtin "ValueError.__new__")),(some (.bool true))]⟩
def KJ:OF:=λp P=>⟨(.type "super"),none,(.fields #[(r 49),(r 49),(r 49)]),#[]⟩
def KL:OF:=λp P=>⟨(.type "builtin_function_or_method"),none,(.fields #[(.builtin "object.__init_subclass__"),(r 49)]),#[]⟩
def IH:OF:=λp P=>no (jr 0 0 "is_door" "is_door" (tf p 5))
noncomputable def Ef:OF:=λp P=>co [(s "is_door" 241),(s "is_door" 242),(s cF 243),(i 9),(i 2),(i 0),(i 0),(i 3),(r 52),(.bool true),(i 181),(r 53),.none,.none,.none,(r 54),(i 244),(i 9),(s cF 245)]
def Eg:OF:=λp P=>fo (fn "is_door" "is_door" (tf p 5) .none .none .none (s "stackwarden.doors" 239) none (r 55) .none)
def Eh:OF:=λp P=>tu [(s "parts" 250),(s "part" 251),(s "inputs" 252),(s "takes" 253)]
def G5:OF:=λp P=>no (jr 0 0 "check_door" "check_door" (tf p 6))
noncomputable def Ei:OF:=λp P=>co [(s "check_door" 247),(s "check_door" 248),(s cF 249),(i 11),(i 3),(i 0),(i 0),(i 3),(r 57),(.bool true),(i 181),(r 58),.none,(r 59),(r 60),(r 61),(i 254),(i 11),(s cF 255)]
def G6:OF:=λp P=>fo (fn "check_door" "check_door" (tf p 6) .none .none .none (s "stackwarden.doors" 239) none (r 62) .none)
def G7:OF:=λp P=>tu [(s "makes" 262),(s "c" 263),(s "elders" 264)]
def II:OF:=λp P=>no (jr 0 0 "elders_of" "elders_of" (tf p 8))
noncomputable def Ej:OF:=λp P=>co [(s "elders_of" 259),(s "elders_of" 260),(s cF 261),(i 18),(i 2),(i 0),(i 0),(i 3),(r 64),(.bool true),(i 181),(r 65),.none,(r 66),(r 67),(r 68),(i 265),(i 18),(s cF 266)]
def Ek:OF:=λp P=>fo (fn "elders_of" "elders_of" (tf p 8) .none .none .none (s "stackwarden.kinds" 257) none (r 69) .none)
def El:OF:=λp P=>tu [(s "makes" 271),(s "c" 272),(s "other" 273)]
def G8:OF:=λp P=>no (jr 0 0 "is_under" "is_under" (tf p 9))
noncomputable def G9:OF:=λp P=>co [(s "is_under" 268),(s "is_under" 269),(s cF 270),(i 24),(i 3),(i 0),(i 0),(i 3),(r 71),(.bool true),(i 181),(r 72),.none,(r 73),(r 74),(r 75),(i 274),(i 24),(s cF 275)]
def Ha:OF:=λp P=>fo (fn "is_under" "is_under" (tf p 9) .none .none .none (s "stackwarden.kinds" 257) none (r 76) .none)
def o52:OF:=λp P=>di (de P "__name__" 165 (s "stackwarden.reading" 328)::dq3_ P) 26
noncomputable def o53:OF:=λp P=>nf [(i 2),(i 0),(r 20),(i 4),(i 0),(r 33),(i 6),(i 0),(r 45),(i 9),(i 0),(r 55),(i 11),(i 0),(r 62),(i 18),(i 0),(r 69),(i 24),(i 0),(r 76),(i 30),(i 0),(r 83),(i 32),(i 0),(r 90),(i 44),(i 0),(r 97),(i 53),(i 0),(r 102),(i 55),(i 0),(r 107)]
def IJ:OF:=λp P=>tu [(s "number" 288)]
def MB:OF:=λp P=>no (jr 0 0 "wrapped" "wrapped" (tf p 14))
noncomputable def KN:OF:=λp P=>co [(s "wrapped" 285),(s "wrapped" 286),(s cF 287),(i 30),(i 1),(i 0),(i 0),(i 3),(r 78),(.bool true),(i 181),(r 79),.none,(r 80),(r 81),(r 82),(i 289),(i 30),(s cF 290)]
def KO:OF:=λp P=>fo (fn "wrapped" "wrapped" (tf p 14) .none .none .none (s "stackwarden.words" 279) none (r 83) .none)
def Hd:OF:=λp P=>tu [(s "sign" 295),(s "one" 296),(s "other" 297)]
def IK:OF:=λp P=>no (jr 0 0 "reckoned" "reckoned" (tf p 15))
noncomputable def He:OF:=λp P=>co [(s "reckoned" 292),(s "reckoned" 293),(s cF 294),(i 32),(i 3),(i 0),(i 0),(i 3),(r 85),(.bool true),(i 181),(r 86),.none,(r 87),(r 88),(r 89),(i 298),(i 32),(s cF 299)]
def Hf:OF:=λp P=>fo (fn "reckoned" "reckoned" (tf p 15) .none .none .none (s "stackwarden.words" 279) none (r 90) .none)
def Hg:OF:=λp P=>tu [(s "sign" 304),(s "one" 305),(s "other" 306)]
def KP:OF:=λp P=>no (jr 0 0 "divided" "divided" (tf p 16))
noncomputable def IL:OF:=λp P=>co [(s "divided" 301),(s "divided" 302),(s cF 303),(i 44),(i 3),(i 0),(i 0),(i 3),(r 92),(.bool true),(i 181),(r 93),.none,(r 94),(r 95),(r 96),(i 307),(i 44),(s cF 308)]
def IM:OF:=λp P=>fo (fn "divided" "divided" (tf p 16) .none .none .none (s "stackwarden.words" 279) none (r 97) .none)
def IP:OF:=λp P=>no (jr 0 0 "kinds_taken" "kinds_taken" (tf p 20))
noncomputable def Hh:OF:=λp P=>co [(s "kinds_taken" 316),(s "kinds_taken" 317),(s cF 318),(i 53),(i 1),(i 0),(i 0),(i 3),(r 99),(.bool true),(i 181),(r 100),.none,.none,.none,(r 101),(i 319),(i 53),(s cF 320)]
def Hi:OF:=λp P=>fo (fn "kinds_taken" "kinds_taken" (tf p 20) .none .none .none (s "stackwarden.trees" 314) none (r 102) .none)
def IQ:OF:=λp P=>no (jr 0 0 "heads_of" "heads_of" (tf p 21))
noncomputable def Hj:OF:=λp P=>co [(s "heads_of" 322),(s "heads_of" 323),(s cF 324),(i 55),(i 1),(i 0),(i 0),(i 3),(r 104),(.bool true),(i 181),(r 105),.none,.none,.none,(r 106),(i 325),(i 55),(s cF 326)]
def IS:OF:=λp P=>fo (fn "heads_of" "heads_of" (tf p 21) .none .none .none (s "stackwarden.trees" 314) none (r 107) .none)
def o72:OF:=λp P=>⟨.none,none,(.dict #[de P "type.__subclasses__.Exception.0" 355 (i 125),de P "type.__subclasses__.Exception.n" 356 (i 1)] 2),#[]⟩
def o73:OF:=λp P=>di (de P "__name__" 165 (s "stackwarden.reading" 328)::dq4_ P) 27
noncomputable def o74:OF:=λp P=>nf [(i 2),(i 0),(r 20),(i 4),(i 0),(r 33),(i 6),(i 0),(r 45),(i 9),(i 0),(r 55),(i 11),(i 0),(r 62),(i 18),(i 0),(r 69),(i 24),(i 0),(r 76),(i 30),(i 0),(r 83),(i 32),(i 0),(r 90),(i 44),(i 0),(r 97),(i 53),(i 0),(r 102),(i 55),(i 0),(r 107),(i 58),(i 0),(r 114)]
def tM:OF:=λp P=>tu [(.type "Exception")]
noncomputable def Pg:OF:=λp P=>di [de P "__module__" 337 (s "stackwarden.reading" 328),de P "__qualname__" 339 (s "Fault" 338),de P "__firstlineno__" 341 (.int 58 340),de P "__init__" 349 (r 122),de P "__static_attributes__" 351 (r 123)] 5
def Ph:OF:=λp P=>nf [(i 60),(i 4),(r 121)]
noncomputable def QE:OF:=λp P=>co [(s "Fault" 332),(s "Fault" 333),(s cF 334),(i 58),(i 0),(i 0),(i 0),(i 0),(r 112),(.bool false),(i 181),(r 113),.none,.none,.none,.none,(i 335),(i 58),(s cF 336)]
def QF:OF:=λp P=>fm [(some (r 114)),(some (r 3)),(some (r 111)),none,(some (s "stackwarden.reading" 328)),none,(some (r 0))]
def MC:OF:=λp P=>tu [(s "self" 345),(s "number" 346)]
def MD:OF:=λp P=>no (jr 0 0 "__init__" "Fault.__init__" (inner (tf p 23)))
noncomputable def KQ:OF:=λp P=>co [(s "__init__" 342),(s "Fault.__init__" 343),(s cF 344),(i 60),(i 2),(i 0),(i 0),(i 3),(r 116),(.bool true),(i 181),(r 117),.none,(r 118),(r 119),(r 120),(i 347),(i 60),(s cF 348)]
def KR:OF:=λp P=>fo (fn "__init__" "Fault.__init__" (inner (tf p 23)) .none .none .none (s "stackwarden.reading" 328) none (r 121) .none)
def KS:OF:=λp P=>tu [(s "number" 350)]
noncomputable def KU:OF:=λp P=>di [de P "__module__" 337 (s "stackwarden.reading" 328),de P "__firstlineno__" 341 (.int 58 340),de P "__init__" 349 (r 122),de P "__static_attributes__" 351 (r 123),de P "__weakref__" 353 (r 126),de P "__doc__" 354 .none] 3
noncomputable def KW:OF:=λp P=>⟨(.type "type"),none,(.cls {name:="Fault",bases:=[(.type "Exception")],mro:=[(r 125),(.type "Exception"),(.type "BaseException"),(.type "object")],ns:=124,qualname:="Fault"}),#[(some (r 109)),none,(some (s "Fault" 330)),(some (s "Fault" 338)),(some (.builtin "Exception.__new__")),(some (.bool true))]⟩
def IT:OF:=λp P=>⟨(.type "getset_descriptor"),none,(.fields #[(s "__weakref__" 352),(r 125),(.builtin "ExceptionGroup.__weakref__"),.none]),#[]⟩
def ME:OF:=λp P=>⟨(.type "super"),none,(.fields #[(r 125),(r 125),(r 125)]),#[]⟩
def MF:OF:=λp P=>⟨(.type "builtin_function_or_method"),none,(.fields #[(.builtin "object.__init_subclass__"),(r 125)]),#[]⟩
noncomputable def o90:OF:=λp P=>⟨.none,none,(.dict #[de P "type.__subclasses__.Exception.0" 355 (i 125),de P "type.__subclasses__.Exception.n" 356 (i 2),de P "type.__subclasses__.Exception.1" 384 (i 145)] 3),#[]⟩
def o91:OF:=λp P=>di (de P "__name__" 165 (s "stackwarden.reading" 328)::dq5_ P) 28
noncomputable def o92:OF:=λp P=>nf [(i 2),(i 0),(r 20),(i 4),(i 0),(r 33),(i 6),(i 0),(r 45),(i 9),(i 0),(r 55),(i 11),(i 0),(r 62),(i 18),(i 0),(r 69),(i 24),(i 0),(r 76),(i 30),(i 0),(r 83),(i 32),(i 0),(r 90),(i 44),(i 0),(r 97),(i 53),(i 0),(r 102),(i 55),(i 0),(r 107),(i 58),(i 0),(r 114),(i 62),(i 0),(r 134)]
noncomputable def Pj:OF:=λp P=>di [de P "__module__" 366 (s "stackwarden.reading" 328),de P "__qualname__" 368 (s "Gave" 367),de P "__firstlineno__" 370 (.int 62 369),de P "__init__" 378 (r 142),de P "__static_attributes__" 380 (r 143)] 5
def MG:OF:=λp P=>nf [(i 64),(i 4),(r 141)]
noncomputable def MI:OF:=λp P=>co [(s "Gave" 361),(s "Gave" 362),(s cF 363),(i 62),(i 0),(i 0),(i 0),(i 0),(r 132),(.bool false),(i 181),(r 133),.none,.none,.none,.none,(i 364),(i 62),(s cF 365)]
def MJ:OF:=λp P=>fm [(some (r 134)),(some (r 3)),(some (r 131)),none,(some (s "stackwarden.reading" 328)),none,(some (r 0))]
def KY:OF:=λp P=>tu [(s "self" 374),(s "value" 375)]
def Pk:OF:=λp P=>no (jr 0 0 "__init__" "Gave.__init__" (inner (tf p 24)))
noncomputable def MK:OF:=λp P=>co [(s "__init__" 371),(s "Gave.__init__" 372),(s cF 373),(i 64),(i 2),(i 0),(i 0),(i 3),(r 136),(.bool true),(i 181),(r 137),.none,(r 138),(r 139),(r 140),(i 376),(i 64),(s cF 377)]
def yU:OF:=λp P=>fo (fn "__init__" "Gave.__init__" (inner (tf p 24)) .none .none .none (s "stackwarden.reading" 328) none (r 141) .none)
def yV:OF:=λp P=>tu [(s "value" 379)]
noncomputable def yW:OF:=λp P=>di [de P "__module__" 366 (s "stackwarden.reading" 328),de P "__firstlineno__" 370 (.int 62 369),de P "__init__" 378 (r 142),de P "__static_attributes__" 380 (r 143),de P "__weakref__" 382 (r 146),de P "__doc__" 383 .none] 3
noncomputable def yX:OF:=λp P=>⟨(.type "type"),none,(.cls {name:="Gave",bases:=[(.type "Exception")],mro:=[(r 145),(.type "Exception"),(.type "BaseException"),(.type "object")],ns:=144,qualname:="Gave"}),#[(some (r 129)),none,(some (s "Gave" 359)),(some (s "Gave" 367)),(some (.builtin "Exception.__new__")),(some (.bool true))]⟩
def AU:OF:=λp P=>⟨(.type "getset_descriptor"),none,(.fields #[(s "__weakref__" 381),(r 145),(.builtin "ExceptionGroup.__weakref__"),.none]),#[]⟩
def DF:OF:=λp P=>⟨(.type "super"),none,(.fields #[(r 145),(r 145),(r 145)]),#[]⟩
def DG:OF:=λp P=>⟨(.type "builtin_function_or_method"),none,(.fields #[(.builtin "object.__init_subclass__"),(r 145)]),#[]⟩
noncomputable def yY:OF:=λp P=>⟨.none,none,(.dict #[de P "type.__subclasses__.Exception.0" 355 (i 125),de P "type.__subclasses__.Exception.n" 356 (i 3),de P "type.__subclasses__.Exception.1" 384 (i 145),de P "type.__subclasses__.Exception.2" 404 (i 158)] 4),#[]⟩
def WJ:OF:=λp P=>di (de P "__name__" 165 (s "stackwarden.reading" 328)::dq6_ P) 29
noncomputable def WK:OF:=λp P=>nf [(i 2),(i 0),(r 20),(i 4),(i 0),(r 33),(i 6),(i 0),(r 45),(i 9),(i 0),(r 55),(i 11),(i 0),(r 62),(i 18),(i 0),(r 69),(i 24),(i 0),(r 76),(i 30),(i 0),(r 83),(i 32),(i 0),(r 90),(i 44),(i 0),(r 97),(i 53),(i 0),(r 102),(i 55),(i 0),(r 107),(i 58),(i 0),(r 114),(i 62),(i 0),(r 134),(i 66),(i 0),(r 154)]
noncomputable def AV:OF:=λp P=>di [de P "__module__" 395 (s "stackwarden.reading" 328),de P "__qualname__" 397 (s "Weary" 396),de P "__firstlineno__" 399 (.int 66 398),de P "__static_attributes__" 400 (r 156)] 4
noncomputable def AW:OF:=λp P=>co [(s "Weary" 390),(s "Weary" 391),(s cF 392),(i 66),(i 0),(i 0),(i 0),(i 0),(r 152),(.bool false),(i 181),(r 153),.none,.none,.none,.none,(i 393),(i 66),(s cF 394)]
def AX:OF:=λp P=>fm [(some (r 154)),(some (r 3)),(some (r 151)),none,(some (s "stackwarden.reading" 328)),none,(some (r 0))]
noncomputable def yZ:OF:=λp P=>di [de P "__module__" 395 (s "stackwarden.reading" 328),de P "__firstlineno__" 399 (.int 66 398),de P "__static_attributes__" 400 (r 156),de P "__weakref__" 402 (r 159),de P "__doc__" 403 .none] 3
noncomputable def y6:OF:=λp P=>⟨(.type "type"),none,(.cls {name:="Weary",bases:=[(.type "Exception")],mro:=[(r 158),(.type "Exception"),(.type "BaseException"),(.type "object")],ns:=157,qualname:="Weary"}),#[(some (r 149)),none,(some (s "Weary" 388)),(some (s "Weary" 396)),(some (.builtin "Exception.__new__")),(some (.bool true))]⟩
def AY:OF:=λp P=>⟨(.type "getset_descriptor"),none,(.fields #[(s "__weakref__" 401),(r 158),(.builtin "ExceptionGroup.__weakref__"),.none]),#[]⟩
def DH:OF:=λp P=>⟨(.type "super"),none,(.fields #[(r 158),(r 158),(r 158)]),#[]⟩
def DJ:OF:=λp P=>⟨(.type "builtin_function_or_method"),none,(.fields #[(.builtin "object.__init_subclass__"),(r 158)]),#[]⟩
def WL:OF:=λp P=>di (de P "__name__" 165 (s "stackwarden.reading" 328)::dq7_ P) 30
noncomputable def WM:OF:=λp P=>nf [(i 2),(i 0),(r 20),(i 4),(i 0),(r 33),(i 6),(i 0),(r 45),(i 9),(i 0),(r 55),(i 11),(i 0),(r 62),(i 18),(i 0),(r 69),(i 24),(i 0),(r 76),(i 30),(i 0),(r 83),(i 32),(i 0),(r 90),(i 44),(i 0),(r 97),(i 53),(i 0),(r 102),(i 55),(i 0),(r 107),(i 58),(i 0),(r 114),(i 62),(i 0),(r 134),(i 66),(i 0),(r 154),(i 68),(i 0),(r 167)]
noncomputable def DK:OF:=λp P=>di [de P "__module__" 415 (s "stackwarden.reading" 328),de P "__qualname__" 417 (s "Record" 416),de P "__firstlineno__" 419 (.int 68 418),de P "__init__" 428 (r 175),de P "__static_attributes__" 431 (r 176)] 5
def DL:OF:=λp P=>nf [(i 70),(i 4),(r 174)]
noncomputable def DM:OF:=λp P=>co [(s "Record" 410),(s "Record" 411),(s cF 412),(i 68),(i 0),(i 0),(i 0),(i 0),(r 165),(.bool false),(i 181),(r 166),.none,.none,.none,.none,(i 413),(i 68),(s cF 414)]
def DN:OF:=λp P=>fm [(some (r 167)),(some (r 3)),(some (r 164)),none,(some (s "stackwarden.reading" 328)),none,(some (r 0))]
def AZ:OF:=λp P=>tu [(s "self" 423),(s "make" 424),(s "fields" 425)]
def KZ:OF:=λp P=>no (jr 0 0 "__init__" "Record.__init__" (iC (tf p 26) 0))
noncomputable def Hk:OF:=λp P=>co [(s "__init__" 420),(s "Record.__init__" 421),(s cF 422),(i 70),(i 3),(i 0),(i 0),(i 3),(r 169),(.bool true),(i 181),(r 170),.none,(r 171),(r 172),(r 173),(i 426),(i 70),(s cF 427)]
def Hl:OF:=λp P=>fo (fn "__init__" "Record.__init__" (iC (tf p 26) 0) .none .none .none (s "stackwarden.reading" 328) none (r 174) .none)
def Hm:OF:=λp P=>tu [(s "fields" 429),(s "make" 430)]
noncomputable def Hn:OF:=λp P=>di [de P "__module__" 415 (s "stackwarden.reading" 328),de P "__firstlineno__" 419 (.int 68 418),de P "__init__" 428 (r 175),de P "__static_attributes__" 431 (r 176),de P "__dict__" 433 (r 179),de P "__weakref__" 435 (r 180),de P "__doc__" 436 .none] 4
noncomputable def Ho:OF:=λp P=>⟨(.type "type"),none,(.cls {name:="Record",bases:=[(.type "object")],mro:=[(r 178),(.type "object")],ns:=177,qualname:="Record"}),#[none,none,(some (s "Record" 408)),(some (s "Record" 416)),(some (.builtin "object.__new__")),(some (.bool true))]⟩
def Hq:OF:=λp P=>⟨(.type "getset_descriptor"),none,(.fields #[(s "__dict__" 432),(r 178),(.builtin "function.__dict__"),(.builtin "function.__dict__#set")]),#[]⟩
def Hr:OF:=λp P=>⟨(.type "getset_descriptor"),none,(.fields #[(s "__weakref__" 434),(r 178),(.builtin "ExceptionGroup.__weakref__"),.none]),#[]⟩
def K0:OF:=λp P=>⟨(.type "super"),none,(.fields #[(r 178),(r 178),(r 178)]),#[]⟩
def K1:OF:=λp P=>⟨(.type "builtin_function_or_method"),none,(.fields #[(.builtin "object.__init_subclass__"),(r 178)]),#[]⟩
def WN:OF:=λp P=>di (de P "__name__" 165 (s "stackwarden.reading" 328)::dq8_ P) 31
noncomputable def WO:OF:=λp P=>nf [(i 2),(i 0),(r 20),(i 4),(i 0),(r 33),(i 6),(i 0),(r 45),(i 9),(i 0),(r 55),(i 11),(i 0),(r 62),(i 18),(i 0),(r 69),(i 24),(i 0),(r 76),(i 30),(i 0),(r 83),(i 32),(i 0),(r 90),(i 44),(i 0),(r 97),(i 53),(i 0),(r 102),(i 55),(i 0),(r 107),(i 58),(i 0),(r 114),(i 62),(i 0),(r 134),(i 66),(i 0),(r 154),(i 68),(i 0),(r 167),(i 73),(i 0),(r 188)]
noncomputable def K2:OF:=λp P=>di [de P "__module__" 446 (s "stackwarden.reading" 328),de P "__qualname__" 448 (s "Call" 447),de P "__firstlineno__" 450 (.int 73 449),de P "__init__" 459 (r 196),de P "__static_attributes__" 462 (r 197)] 5
def K3:OF:=λp P=>nf [(i 75),(i 4),(r 195)]
noncomputable def K4:OF:=λp P=>co [(s "Call" 441),(s "Call" 442),(s cF 443),(i 73),(i 0),(i 0),(i 0),(i 0),(r 186),(.bool false),(i 181),(r 187),.none,.none,.none,.none,(i 444),(i 73),(s cF 445)]
def K5:OF:=λp P=>fm [(some (r 188)),(some (r 3)),(some (r 185)),none,(some (s "stackwarden.reading" 328)),none,(some (r 0))]
def DP:OF:=λp P=>tu [(s "self" 454),(s "depth" 455),(s "known" 456)]
def Hs:OF:=λp P=>no (jr 0 0 "__init__" "Call.__init__" (iC (tf p 27) 0))
noncomputable def DQ:OF:=λp P=>co [(s "__init__" 451),(s "Call.__init__" 452),(s cF 453),(i 75),(i 3),(i 0),(i 0),(i 3),(r 190),(.bool true),(i 181),(r 191),.none,(r 192),(r 193),(r 194),(i 457),(i 75),(s cF 458)]
def DR:OF:=λp P=>fo (fn "__init__" "Call.__init__" (iC (tf p 27) 0) .none .none .none (s "stackwarden.reading" 328) none (r 195) .none)
def DU:OF:=λp P=>tu [(s "depth" 460),(s "known" 461)]
noncomputable def DW:OF:=λp P=>di [de P "__module__" 446 (s "stackwarden.reading" 328),de P "__firstlineno__" 450 (.int 73 449),de P "__init__" 459 (r 196),de P "__static_attributes__" 462 (r 197),de P "__dict__" 464 (r 200),de P "__weakref__" 466 (r 201),de P "__doc__" 467 .none] 4
noncomputable def DY:OF:=λp P=>⟨(.type "type"),none,(.cls {name:="Call",bases:=[(.type "object")],mro:=[(r 199),(.type "object")],ns:=198,qualname:="Call"}),#[none,none,(some (s "Call" 439)),(some (s "Call" 447)),(some (.builtin "object.__new__")),(some (.bool true))]⟩
def DZ:OF:=λp P=>⟨(.type "getset_descriptor"),none,(.fields #[(s "__dict__" 463),(r 199),(.builtin "function.__dict__"),(.builtin "function.__dict__#set")]),#[]⟩
def D1:OF:=λp P=>⟨(.type "getset_descriptor"),none,(.fields #[(s "__weakref__" 465),(r 199),(.builtin "ExceptionGroup.__weakref__"),.none]),#[]⟩
def Ht:OF:=λp P=>⟨(.type "super"),none,(.fields #[(r 199),(r 199),(r 199)]),#[]⟩
def Hu:OF:=λp P=>⟨(.type "builtin_function_or_method"),none,(.fields #[(.builtin "object.__init_subclass__"),(r 199)]),#[]⟩
def WQ:OF:=λp P=>di (de P "__name__" 165 (s "stackwarden.reading" 328)::dq9_ P) 32
noncomputable def WR:OF:=λp P=>nf [(i 2),(i 0),(r 20),(i 4),(i 0),(r 33),(i 6),(i 0),(r 45),(i 9),(i 0),(r 55),(i 11),(i 0),(r 62),(i 18),(i 0),(r 69),(i 24),(i 0),(r 76),(i 30),(i 0),(r 83),(i 32),(i 0),(r 90),(i 44),(i 0),(r 97),(i 53),(i 0),(r 102),(i 55),(i 0),(r 107),(i 58),(i 0),(r 114),(i 62),(i 0),(r 134),(i 66),(i 0),(r 154),(i 68),(i 0),(r 167),(i 73),(i 0),(r 188),(i 78),(i 0),(r 209)]
noncomputable def K6:OF:=λp P=>di [de P "__module__" 477 (s "stackwarden.reading" 328),de P "__qualname__" 479 (s "Reading" 478),de P "__firstlineno__" 481 (.int 78 480),de P "__init__" 490 (r 217),de P "end_at" 500 (r 224),de P "given" 506 (r 229),de P "spend" 513 (r 236),de P "value_of" 524 (r 243),de P "values_of" 530 (r 248),de P "value_of_call" 540 (r 255),de P "value_of_two" 550 (r 262),de P "do_all" 560 (r 269),de P "do_statement" 572 (r 276),de P "do_nesting" 582 (r 283),de P "do_kin" 592 (r 290),de P "do_try" 602 (r 297),de P "__static_attributes__" 606 (r 298)] 17
noncomputable def K7:OF:=λp P=>nf [(i 80),(i 4),(r 216),(i 85),(i 4),(r 223),(i 93),(i 4),(r 228),(i 103),(i 4),(r 235),(i 108),(i 4),(r 242),(i 125),(i 4),(r 247),(i 128),(i 4),(r 254),(i 135),(i 4),(r 261),(i 142),(i 4),(r 268),(i 146),(i 4),(r 275),(i 167),(i 4),(r 282),(i 180),(i 4),(r 289),(i 188),(i 4),(r 296)]
noncomputable def K8:OF:=λp P=>co [(s "Reading" 472),(s "Reading" 473),(s cF 474),(i 78),(i 0),(i 0),(i 0),(i 0),(r 207),(.bool false),(i 181),(r 208),.none,.none,.none,.none,(i 475),(i 78),(s cF 476)]
def K9:OF:=λp P=>fm [(some (r 209)),(some (r 3)),(some (r 206)),none,(some (s "stackwarden.reading" 328)),none,(some (r 0))]
def Hv:OF:=λp P=>tu [(s "self" 485),(s "program" 486),(s "budget" 487)]
def La:OF:=λp P=>no (jr 0 0 "__init__" "Reading.__init__" (iC (tf p 28) 0))
noncomputable def Hw:OF:=λp P=>co [(s "__init__" 482),(s "Reading.__init__" 483),(s cF 484),(i 80),(i 3),(i 0),(i 0),(i 3),(r 211),(.bool true),(i 181),(r 212),.none,(r 213),(r 214),(r 215),(i 488),(i 80),(s cF 489)]
def Hy:OF:=λp P=>fo (fn "__init__" "Reading.__init__" (iC (tf p 28) 0) .none .none .none (s "stackwarden.reading" 328) none (r 216) .none)
def Hz:OF:=λp P=>tu [(s "self" 494),(s "part" 495),(s "inputs" 496),(s "fault" 497)]
def Lb:OF:=λp P=>no (jr 0 0 "end_at" "Reading.end_at" (iC (tf p 28) 1))
noncomputable def HA:OF:=λp P=>co [(s "end_at" 491),(s "Reading.end_at" 492),(s cF 493),(i 85),(i 3),(i 0),(i 0),(i 3),(r 218),(.bool true),(i 181),(r 219),.none,(r 220),(r 221),(r 222),(i 498),(i 85),(s cF 499)]
def HB:OF:=λp P=>fo (fn "end_at" "Reading.end_at" (iC (tf p 28) 1) .none .none .none (s "stackwarden.reading" 328) none (r 223) .none)
def Lc:OF:=λp P=>no (jr 0 0 "given" "Reading.given" (iC (tf p 28) 2))
noncomputable def HC:OF:=λp P=>co [(s "given" 501),(s "Reading.given" 502),(s cF 503),(i 93),(i 4),(i 0),(i 0),(i 3),(r 225),(.bool true),(i 181),(r 226),.none,.none,.none,(r 227),(i 504),(i 93),(s cF 505)]
def HD:OF:=λp P=>fo (fn "given" "Reading.given" (iC (tf p 28) 2) .none .none .none (s "stackwarden.reading" 328) none (r 228) .none)
def HE:OF:=λp P=>tu [(s "self" 510)]
def Ld:OF:=λp P=>no (jr 0 0 "spend" "Reading.spend" (iC (tf p 28) 3))
noncomputable def HG:OF:=λp P=>co [(s "spend" 507),(s "Reading.spend" 508),(s cF 509),(i 103),(i 1),(i 0),(i 0),(i 3),(r 230),(.bool true),(i 181),(r 231),.none,(r 232),(r 233),(r 234),(i 511),(i 103),(s cF 512)]
def HH:OF:=λp P=>fo (fn "spend" "Reading.spend" (iC (tf p 28) 3) .none .none .none (s "stackwarden.reading" 328) none (r 235) .none)
def Le:OF:=λp P=>tu [(s "self" 517),(s "call" 518),(s "tree" 519),(s "word" 520),(s "chosen" 521)]
def Pl:OF:=λp P=>no (jr 0 0 "value_of" "Reading.value_of" (iC (tf p 28) 4))
noncomputable def Lf:OF:=λp P=>co [(s "value_of" 514),(s "Reading.value_of" 515),(s cF 516),(i 108),(i 3),(i 0),(i 0),(i 3),(r 237),(.bool true),(i 181),(r 238),.none,(r 239),(r 240),(r 241),(i 522),(i 108),(s cF 523)]
def Lg:OF:=λp P=>fo (fn "value_of" "Reading.value_of" (iC (tf p 28) 4) .none .none .none (s "stackwarden.reading" 328) none (r 242) .none)
def Pm:OF:=λp P=>no (jr 0 0 "values_of" "Reading.values_of" (iC (tf p 28) 5))
noncomputable def Lh:OF:=λp P=>co [(s "values_of" 525),(s "Reading.values_of" 526),(s cF 527),(i 125),(i 3),(i 0),(i 0),(i 3),(r 244),(.bool true),(i 181),(r 245),.none,.none,.none,(r 246),(i 528),(i 125),(s cF 529)]
def Li:OF:=λp P=>fo (fn "values_of" "Reading.values_of" (iC (tf p 28) 5) .none .none .none (s "stackwarden.reading" 328) none (r 247) .none)
def Lj:OF:=λp P=>tu [(s "self" 534),(s "call" 535),(s "tree" 536),(s "values" 537)]
def Pn:OF:=λp P=>no (jr 0 0 "value_of_call" "Reading.value_of_call" (iC (tf p 28) 6))
noncomputable def HI:OF:=λp P=>co [(s "value_of_call" 531),(s "Reading.value_of_call" 532),(s cF 533),(i 128),(i 3),(i 0),(i 0),(i 3),(r 249),(.bool true),(i 181),(r 250),.none,(r 251),(r 252),(r 253),(i 538),(i 128),(s cF 539)]
def HJ:OF:=λp P=>fo (fn "value_of_call" "Reading.value_of_call" (iC (tf p 28) 6) .none .none .none (s "stackwarden.reading" 328) none (r 254) .none)
def HK:OF:=λp P=>tu [(s "self" 544),(s "call" 545),(s "tree" 546),(s "pair" 547)]
def Lk:OF:=λp P=>no (jr 0 0 "value_of_two" "Reading.value_of_two" (iC (tf p 28) 7))
noncomputable def HL:OF:=λp P=>co [(s "value_of_two" 541),(s "Reading.value_of_two" 542),(s cF 543),(i 135),(i 3),(i 0),(i 0),(i 3),(r 256),(.bool true),(i 181),(r 257),.none,(r 258),(r 259),(r 260),(i 548),(i 135),(s cF 549)]
def HM:OF:=λp P=>fo (fn "value_of_two" "Reading.value_of_two" (iC (tf p 28) 7) .none .none .none (s "stackwarden.reading" 328) none (r 261) .none)
def HN:OF:=λp P=>tu [(s "self" 554),(s "call" 555),(s "trees" 556),(s "tree" 557)]
def Ll:OF:=λp P=>no (jr 0 0 "do_all" "Reading.do_all" (iC (tf p 28) 8))
noncomputable def HP:OF:=λp P=>co [(s "do_all" 551),(s "Reading.do_all" 552),(s cF 553),(i 142),(i 3),(i 0),(i 0),(i 3),(r 263),(.bool true),(i 181),(r 264),.none,(r 265),(r 266),(r 267),(i 558),(i 142),(s cF 559)]
def HQ:OF:=λp P=>fo (fn "do_all" "Reading.do_all" (iC (tf p 28) 8) .none .none .none (s "stackwarden.reading" 328) none (r 268) .none)
def HR:OF:=λp P=>tu [(s "self" 564),(s "call" 565),(s "tree" 566),(s "word" 567),(s "record" 568),(s "value" 569)]
def Lm:OF:=λp P=>no (jr 0 0 "do_statement" "Reading.do_statement" (iC (tf p 28) 9))
noncomputable def HS:OF:=λp P=>co [(s "do_statement" 561),(s "Reading.do_statement" 562),(s cF 563),(i 146),(i 3),(i 0),(i 0),(i 3),(r 270),(.bool true),(i 181),(r 271),.none,(r 272),(r 273),(r 274),(i 570),(i 146),(s cF 571)]
def HU:OF:=λp P=>fo (fn "do_statement" "Reading.do_statement" (iC (tf p 28) 9) .none .none .none (s "stackwarden.reading" 328) none (r 275) .none)
def HV:OF:=λp P=>tu [(s "self" 576),(s "call" 577),(s "tree" 578),(s "word" 579)]
def Ln:OF:=λp P=>no (jr 0 0 "do_nesting" "Reading.do_nesting" (iC (tf p 28) 10))
noncomputable def HW:OF:=λp P=>co [(s "do_nesting" 573),(s "Reading.do_nesting" 574),(s cF 575),(i 167),(i 3),(i 0),(i 0),(i 3),(r 277),(.bool true),(i 181),(r 278),.none,(r 279),(r 280),(r 281),(i 580),(i 167),(s cF 581)]
def HY:OF:=λp P=>fo (fn "do_nesting" "Reading.do_nesting" (iC (tf p 28) 10) .none .none .none (s "stackwarden.reading" 328) none (r 282) .none)
def HZ:OF:=λp P=>tu [(s "self" 586),(s "call" 587),(s "tree" 588),(s "record" 589)]
def Lo:OF:=λp P=>no (jr 0 0 "do_kin" "Reading.do_kin" (iC (tf p 28) 11))
noncomputable def Ia:OF:=λp P=>co [(s "do_kin" 583),(s "Reading.do_kin" 584),(s cF 585),(i 180),(i 3),(i 0),(i 0),(i 3),(r 284),(.bool true),(i 181),(r 285),.none,(r 286),(r 287),(r 288),(i 590),(i 180),(s cF 591)]
def Ic:OF:=λp P=>fo (fn "do_kin" "Reading.do_kin" (iC (tf p 28) 11) .none .none .none (s "stackwarden.reading" 328) none (r 289) .none)
def Ie:OF:=λp P=>tu [(s "self" 596),(s "call" 597),(s "tree" 598),(s "fault" 599)]
def Lp:OF:=λp P=>no (jr 0 0 "do_try" "Reading.do_try" (iC (tf p 28) 12))
noncomputable def Ig:OF:=λp P=>co [(s "do_try" 593),(s "Reading.do_try" 594),(s cF 595),(i 188),(i 3),(i 0),(i 0),(i 3),(r 291),(.bool true),(i 181),(r 292),.none,(r 293),(r 294),(r 295),(i 600),(i 188),(s cF 601)]
def Ih:OF:=λp P=>fo (fn "do_try" "Reading.do_try" (iC (tf p 28) 12) .none .none .none (s "stackwarden.reading" 328) none (r 296) .none)
def Ii:OF:=λp P=>tu [(s "left" 603),(s "program" 604),(s "said" 605)]
noncomputable def Ij:OF:=λp P=>di [de P "__module__" 477 (s "stackwarden.reading" 328),de P "__firstlineno__" 481 (.int 78 480),de P "__init__" 490 (r 217),de P "end_at" 500 (r 224),de P "given" 506 (r 229),de P "spend" 513 (r 236),de P "value_of" 524 (r 243),de P "values_of" 530 (r 248),de P "value_of_call" 540 (r 255),de P "value_of_two" 550 (r 262),de P "do_all" 560 (r 269),de P "do_statement" 572 (r 276),de P "do_nesting" 582 (r 283),de P "do_kin" 592 (r 290),de P "do_try" 602 (r 297),de P "__static_attributes__" 606 (r 298),de P "__dict__" 608 (r 301),de P "__weakref__" 610 (r 302),de P "__doc__" 611 .none] 4
noncomputable def Ik:OF:=λp P=>⟨(.type "type"),none,(.cls {name:="Reading",bases:=[(.type "object")],mro:=[(r 300),(.type "object")],ns:=299,qualname:="Reading"}),#[none,none,(some (s "Reading" 470)),(some (s "Reading" 478)),(some (.builtin "object.__new__")),(some (.bool true))]⟩
def Lq:OF:=λp P=>⟨(.type "getset_descriptor"),none,(.fields #[(s "__dict__" 607),(r 300),(.builtin "function.__dict__"),(.builtin "function.__dict__#set")]),#[]⟩
def Lr:OF:=λp P=>⟨(.type "getset_descriptor"),none,(.fields #[(s "__weakref__" 609),(r 300),(.builtin "ExceptionGroup.__weakref__"),.none]),#[]⟩
def Po:OF:=λp P=>⟨(.type "super"),none,(.fields #[(r 300),(r 300),(r 300)]),#[]⟩
def Pp:OF:=λp P=>⟨(.type "builtin_function_or_method"),none,(.fields #[(.builtin "object.__init_subclass__"),(r 300)]),#[]⟩
def WS:OF:=λp P=>di (de P "__name__" 165 (s "law_stackwarden_k68_tries_and_depth" 626)::dq10_ P) 43
noncomputable def WT:OF:=λp P=>nf [(i 2),(i 0),(r 20),(i 4),(i 0),(r 33),(i 6),(i 0),(r 45),(i 9),(i 0),(r 55),(i 11),(i 0),(r 62),(i 18),(i 0),(r 69),(i 24),(i 0),(r 76),(i 30),(i 0),(r 83),(i 32),(i 0),(r 90),(i 44),(i 0),(r 97),(i 53),(i 0),(r 102),(i 55),(i 0),(r 107),(i 58),(i 0),(r 114),(i 62),(i 0),(r 134),(i 66),(i 0),(r 154),(i 68),(i 0),(r 167),(i 73),(i 0),(r 188),(i 78),(i 0),(r 209),(i 195),(i 0),(r 310),(i 201),(i 0),(r 317),(i 207),(i 0),(r 324),(i 212),(i 0),(r 331),(i 219),(i 0),(r 338),(i 245),(i 0),(r 345),(i 249),(i 0),(r 352),(i 272),(i 0),(r 359),(i 277),(i 0),(r 366),(i 286),(i 0),(r 373),(i 288),(i 0),(r 380)]
def Pq:OF:=λp P=>tu [(s "program" 617),(s "part" 618),(s "inputs" 619),(s "budget" 620),(s "reading" 621),(s "end" 622)]
def SI:OF:=λp P=>no (jr 0 0 "plain_run" "plain_run" (tf p 29))
noncomputable def Pr:OF:=λp P=>co [(s "plain_run" 614),(s "plain_run" 615),(s cF 616),(i 195),(i 4),(i 0),(i 0),(i 3),(r 305),(.bool true),(i 181),(r 306),.none,(r 307),(r 308),(r 309),(i 623),(i 195),(s cF 624)]
def Pt:OF:=λp P=>fo (fn "plain_run" "plain_run" (tf p 29) .none .none .none (s "stackwarden.reading" 328) none (r 310) .none)
def Pu:OF:=λp P=>tu [(s "_law_source_here" 631),(s "_law_many" 632),(s "_law_cell" 633)]
def SJ:OF:=λp P=>no (jr 0 0 "_law_next" "_law_next" (tf p 31))
noncomputable def Pw:OF:=λp P=>co [(s "_law_next" 628),(s "_law_next" 629),(s cF 630),(i 201),(i 2),(i 0),(i 0),(i 3),(r 312),(.bool true),(i 181),(r 313),.none,(r 314),(r 315),(r 316),(i 634),(i 201),(s cF 635)]
def Lu:OF:=λp P=>fo (fn "_law_next" "_law_next" (tf p 31) .none .none .none (s "law_stackwarden_k68_tries_and_depth" 626) none (r 317) .none)
def Lw:OF:=λp P=>tu [(s "_law_script" 640),(s "_law_start" 641),(s "_law_cell" 642)]
def Px:OF:=λp P=>no (jr 0 0 "_law_source" "_law_source" (tf p 32))
noncomputable def Lx:OF:=λp P=>co [(s "_law_source" 637),(s "_law_source" 638),(s cF 639),(i 207),(i 1),(i 0),(i 0),(i 3),(r 319),(.bool true),(i 181),(r 320),.none,(r 321),(r 322),(r 323),(i 643),(i 207),(s cF 644)]
def Ly:OF:=λp P=>fo (fn "_law_source" "_law_source" (tf p 32) .none .none .none (s "law_stackwarden_k68_tries_and_depth" 626) none (r 324) .none)
def Lz:OF:=λp P=>tu [(s "_law_cell" 649),(s "_law_way" 650)]
def Py:OF:=λp P=>no (jr 0 0 "_law_word" "_law_word" (tf p 33))
noncomputable def LA:OF:=λp P=>co [(s "_law_word" 646),(s "_law_word" 647),(s cF 648),(i 212),(i 1),(i 0),(i 0),(i 3),(r 326),(.bool true),(i 181),(r 327),.none,(r 328),(r 329),(r 330),(i 651),(i 212),(s cF 652)]
def LB:OF:=λp P=>fo (fn "_law_word" "_law_word" (tf p 33) .none .none .none (s "law_stackwarden_k68_tries_and_depth" 626) none (r 331) .none)
noncomputable def LC:OF:=λp P=>tu [(s "_law_source_here" 657),(s "_law_many" 658),(s "_law_deep" 659),(s "_law_room" 660),(s "_law_things_here" 661),(s "_law_k" 662),(s "_law_cell" 663),(s "_law_way" 664),(s "_law_arg" 665),(s "_law_first" 666)]
def Pz:OF:=λp P=>no (jr 0 0 "_law_things" "_law_things" (tf p 34))
noncomputable def LD:OF:=λp P=>co [(s "_law_things" 654),(s "_law_things" 655),(s cF 656),(i 219),(i 4),(i 0),(i 0),(i 3),(r 333),(.bool true),(i 181),(r 334),.none,(r 335),(r 336),(r 337),(i 667),(i 219),(s cF 668)]
def LF:OF:=λp P=>fo (fn "_law_things" "_law_things" (tf p 34) .none .none .none (s "law_stackwarden_k68_tries_and_depth" 626) none (r 338) .none)
def LG:OF:=λp P=>tu [(s "_law_names" 673),(s "_law_what" 674)]
def PB:OF:=λp P=>no (jr 0 0 "_law_named" "_law_named" (tf p 35))
noncomputable def LH:OF:=λp P=>co [(s "_law_named" 670),(s "_law_named" 671),(s cF 672),(i 245),(i 2),(i 0),(i 0),(i 3),(r 340),(.bool true),(i 181),(r 341),.none,(r 342),(r 343),(r 344),(i 675),(i 245),(s cF 676)]
def LJ:OF:=λp P=>fo (fn "_law_named" "_law_named" (tf p 35) .none .none .none (s "law_stackwarden_k68_tries_and_depth" 626) none (r 345) .none)
noncomputable def LK:OF:=λp P=>tu [(s "_law_thing_here" 681),(s "_law_names" 682),(s "_law_deep" 683),(s "_law_v" 684),(s "_law_arg" 685),(s "_law_s" 686),(s "_law_less" 687),(s "_law_turns" 688),(s "_law_y" 689),(s "_law_second" 690)]
def PC:OF:=λp P=>no (jr 0 0 "_law_row" "_law_row" (tf p 36))
noncomputable def LL:OF:=λp P=>co [(s "_law_row" 678),(s "_law_row" 679),(s cF 680),(i 249),(i 3),(i 0),(i 0),(i 3),(r 347),(.bool true),(i 181),(r 348),.none,(r 349),(r 350),(r 351),(i 691),(i 249),(s cF 692)]
def LM:OF:=λp P=>fo (fn "_law_row" "_law_row" (tf p 36) .none .none .none (s "law_stackwarden_k68_tries_and_depth" 626) none (r 352) .none)
def LN:OF:=λp P=>tu [(s "_law_things_here" 697),(s "_law_names" 698),(s "_law_deep" 699),(s "_law_body_here" 700),(s "_law_thing_here" 701)]
def PD:OF:=λp P=>no (jr 0 0 "_law_body" "_law_body" (tf p 37))
noncomputable def LO:OF:=λp P=>co [(s "_law_body" 694),(s "_law_body" 695),(s cF 696),(i 272),(i 3),(i 0),(i 0),(i 3),(r 354),(.bool true),(i 181),(r 355),.none,(r 356),(r 357),(r 358),(i 702),(i 272),(s cF 703)]
def LP:OF:=λp P=>fo (fn "_law_body" "_law_body" (tf p 37) .none .none .none (s "law_stackwarden_k68_tries_and_depth" 626) none (r 359) .none)
noncomputable def LQ:OF:=λp P=>tu [(s "_law_some" 708),(s "_law_cell" 709),(s "_law_parts_here" 710),(s "_law_number" 711),(s "_law_p" 712),(s "_law_n" 713),(s "_law_v" 714),(s "_law_body_here" 715)]
def SK:OF:=λp P=>no (jr 0 0 "_law_parts" "_law_parts" (tf p 38))
noncomputable def PF:OF:=λp P=>co [(s "_law_parts" 705),(s "_law_parts" 706),(s cF 707),(i 277),(i 2),(i 0),(i 0),(i 3),(r 361),(.bool true),(i 181),(r 362),.none,(r 363),(r 364),(r 365),(i 716),(i 277),(s cF 717)]
def PH:OF:=λp P=>fo (fn "_law_parts" "_law_parts" (tf p 38) .none .none .none (s "law_stackwarden_k68_tries_and_depth" 626) none (r 366) .none)
def PJ:OF:=λp P=>tu [(s "_law_number" 722)]
def SM:OF:=λp P=>no (jr 0 0 "_law_wrapped" "_law_wrapped" (tf p 39))
noncomputable def PK:OF:=λp P=>co [(s "_law_wrapped" 719),(s "_law_wrapped" 720),(s cF 721),(i 286),(i 1),(i 0),(i 0),(i 3),(r 368),(.bool true),(i 181),(r 369),.none,(r 370),(r 371),(r 372),(i 723),(i 286),(s cF 724)]
def PL:OF:=λp P=>fo (fn "_law_wrapped" "_law_wrapped" (tf p 39) .none .none .none (s "law_stackwarden_k68_tries_and_depth" 626) none (r 373) .none)
def PM:OF:=λp P=>tu [(s "_law_parts_here" 729),(s "_law_thing_here" 730),(s "_law_frame" 731),(s "_law_state" 732),(s "_law_arg" 733),(s "_law_found" 734)]
def SN:OF:=λp P=>no (jr 0 0 "_law_call" "_law_call" (tf p 40))
noncomputable def PN:OF:=λp P=>co [(s "_law_call" 726),(s "_law_call" 727),(s cF 728),(i 288),(i 4),(i 0),(i 0),(i 3),(r 375),(.bool true),(i 181),(r 376),.none,(r 377),(r 378),(r 379),(i 735),(i 288),(s cF 736)]
def PQ:OF:=λp P=>fo (fn "_law_call" "_law_call" (tf p 40) .none .none .none (s "law_stackwarden_k68_tries_and_depth" 626) none (r 380) .none)
def PR:OF:=λp P=>di (de P "__name__" 165 (s "law_stackwarden_k68_tries_and_depth" 626)::dq11_ P) 50
noncomputable def SO:OF:=λp P=>nf [(i 2),(i 0),(r 20),(i 4),(i 0),(r 33),(i 6),(i 0),(r 45),(i 9),(i 0),(r 55),(i 11),(i 0),(r 62),(i 18),(i 0),(r 69),(i 24),(i 0),(r 76),(i 30),(i 0),(r 83),(i 32),(i 0),(r 90),(i 44),(i 0),(r 97),(i 53),(i 0),(r 102),(i 55),(i 0),(r 107),(i 58),(i 0),(r 114),(i 62),(i 0),(r 134),(i 66),(i 0),(r 154),(i 68),(i 0),(r 167),(i 73),(i 0),(r 188),(i 78),(i 0),(r 209),(i 195),(i 0),(r 310),(i 201),(i 0),(r 317),(i 207),(i 0),(r 324),(i 212),(i 0),(r 331),(i 219),(i 0),(r 338),(i 245),(i 0),(r 345),(i 249),(i 0),(r 352),(i 272),(i 0),(r 359),(i 277),(i 0),(r 366),(i 286),(i 0),(r 373),(i 288),(i 0),(r 380),(i 304),(i 0),(r 387),(i 315),(i 0),(r 394),(i 321),(i 0),(r 401),(i 342),(i 0),(r 408),(i 348),(i 0),(r 415),(i 354),(i 0),(r 422),(i 361),(i 0),(r 427)]
def PU:OF:=λp P=>tu [(s "_law_parts_here" 741),(s "_law_thing_here" 742),(s "_law_frame" 743),(s "_law_state" 744),(s "_law_found" 745)]
def SQ:OF:=λp P=>no (jr 0 0 "_law_loop" "_law_loop" (tf p 41))
noncomputable def PV:OF:=λp P=>co [(s "_law_loop" 738),(s "_law_loop" 739),(s cF 740),(i 304),(i 4),(i 0),(i 0),(i 3),(r 382),(.bool true),(i 181),(r 383),.none,(r 384),(r 385),(r 386),(i 746),(i 304),(s cF 747)]
def PX:OF:=λp P=>fo (fn "_law_loop" "_law_loop" (tf p 41) .none .none .none (s "law_stackwarden_k68_tries_and_depth" 626) none (r 387) .none)
def PY:OF:=λp P=>tu [(s "_law_parts_here" 752),(s "_law_thing_here" 753),(s "_law_frame" 754),(s "_law_state" 755),(s "_law_found" 756)]
def SR:OF:=λp P=>no (jr 0 0 "_law_try" "_law_try" (tf p 42))
noncomputable def PZ:OF:=λp P=>co [(s "_law_try" 749),(s "_law_try" 750),(s cF 751),(i 315),(i 4),(i 0),(i 0),(i 3),(r 389),(.bool true),(i 181),(r 390),.none,(r 391),(r 392),(r 393),(i 757),(i 315),(s cF 758)]
def P1:OF:=λp P=>fo (fn "_law_try" "_law_try" (tf p 42) .none .none .none (s "law_stackwarden_k68_tries_and_depth" 626) none (r 394) .none)
def P2:OF:=λp P=>tu [(s "_law_parts_here" 763),(s "_law_thing_here" 764),(s "_law_frame" 765),(s "_law_state" 766),(s "_law_word_here" 767)]
def SS:OF:=λp P=>no (jr 0 0 "_law_thing" "_law_thing" (tf p 43))
noncomputable def P4:OF:=λp P=>co [(s "_law_thing" 760),(s "_law_thing" 761),(s cF 762),(i 321),(i 4),(i 0),(i 0),(i 3),(r 396),(.bool true),(i 181),(r 397),.none,(r 398),(r 399),(r 400),(i 768),(i 321),(s cF 769)]
def P7:OF:=λp P=>fo (fn "_law_thing" "_law_thing" (tf p 43) .none .none .none (s "law_stackwarden_k68_tries_and_depth" 626) none (r 401) .none)
noncomputable def P8:OF:=λp P=>tu [(s "_law_parts_here" 774),(s "_law_things_here" 775),(s "_law_frame" 776),(s "_law_state" 777),(s "_law_thing_here" 778),(s "_law_found" 779)]
def SU:OF:=λp P=>no (jr 0 0 "_law_do" "_law_do" (tf p 44))
noncomputable def P9:OF:=λp P=>co [(s "_law_do" 771),(s "_law_do" 772),(s cF 773),(i 342),(i 4),(i 0),(i 0),(i 3),(r 403),(.bool true),(i 181),(r 404),.none,(r 405),(r 406),(r 407),(i 780),(i 342),(s cF 781)]
def Qa:OF:=λp P=>fo (fn "_law_do" "_law_do" (tf p 44) .none .none .none (s "law_stackwarden_k68_tries_and_depth" 626) none (r 408) .none)
noncomputable def Qb:OF:=λp P=>tu [(s "_law_parts_here" 786),(s "_law_p" 787),(s "_law_n" 788),(s "_law_deep" 789),(s "_law_state" 790),(s "_law_frame" 791),(s "_law_found" 792)]
def SV:OF:=λp P=>no (jr 0 0 "_law_run" "_law_run" (tf p 45))
noncomputable def Qc:OF:=λp P=>co [(s "_law_run" 783),(s "_law_run" 784),(s cF 785),(i 348),(i 5),(i 0),(i 0),(i 3),(r 410),(.bool true),(i 181),(r 411),.none,(r 412),(r 413),(r 414),(i 793),(i 348),(s cF 794)]
def Qd:OF:=λp P=>fo (fn "_law_run" "_law_run" (tf p 45) .none .none .none (s "law_stackwarden_k68_tries_and_depth" 626) none (r 415) .none)
def Qe:OF:=λp P=>tu [(s "_law_found" 799),(s "_law_due" 800),(s "_law_word_here" 801)]
def SW:OF:=λp P=>no (jr 0 0 "_law_alike" "_law_alike" (tf p 46))
noncomputable def Qf:OF:=λp P=>co [(s "_law_alike" 796),(s "_law_alike" 797),(s cF 798),(i 354),(i 2),(i 0),(i 0),(i 3),(r 417),(.bool true),(i 181),(r 418),.none,(r 419),(r 420),(r 421),(i 802),(i 354),(s cF 803)]
def Qg:OF:=λp P=>fo (fn "_law_alike" "_law_alike" (tf p 46) .none .none .none (s "law_stackwarden_k68_tries_and_depth" 626) none (r 422) .none)
def SX:OF:=λp P=>no (jr 0 0 "law" "law" (tf p 47))
noncomputable def Qh:OF:=λp P=>co [(s "law" 805),(s "law" 806),(s cF 807),(i 361),(i 1),(i 0),(i 0),(i 3),(r 424),(.bool true),(i 181),(r 425),.none,.none,.none,(r 426),(i 808),(i 361),(s cF 809)]
def Qi:OF:=λp P=>fo (fn "law" "law" (tf p 47) .none .none .none (s "law_stackwarden_k68_tries_and_depth" 626) none (r 427) .none)
noncomputable def T0:TF:=(af Dr (af Ds (af b3_ (ai Dw) (ai o0)) (af Du (ai Dy) (ai o2))) (af SG (af Dt (ai Dx) (ai o1)) (af Dv (ai p0) (ai o3))))
noncomputable def T1:TF:=(af Dr (af Ds (af o4 (af Dw (ai o6) (ai B9)) (af o0 (ai o1) (ai DB))) (af Du (af Dy (ai o8) (ai Ca)) (af o2 (ai Dz) aB))) (af SG (af Dt (af Dx (ai o7) (ai o12)) (af o5 (ai o9) aB)) (af Dv (af p0 (ai o0) (ai DA)) (af o3 (ai o0) aB))))
noncomputable def T2:TF:=(af Dr (af Ds (af o16 (af Dw (af o6 (ai o0) aB) (af B9 (ai Ed) aB)) (af o0 (af o1 (ai o0) aB) (ai DB))) (af Du (af Dy (af o8 (ai GZ) aB) (ai Ca)) (af o2 (af Dz (ai DE) aB) (ai o7)))) (af SG (af Dt (af Dx (af o7 (ai o1) aB) (ai o18)) (af o17 (af o9 (ai Eb) aB) (ai qz))) (af Dv (af p0 (af o0 (ai G0) aB) (ai DA)) (af o3 (af o0 (ai Ec) aB) (ai Ea)))))
noncomputable def T3:TF:=(af Dr (af Ds (af o27 (af Dw (af o6 (af o0 (ai G6) aB) (ai o0)) (af B9 (af Ed (ai o0) aB) (ai Ef))) (af o0 (af o1 (af o0 (ai o0) aB) (ai KL)) (af DB (af o0 (ai G8) aB) (ai Eh)))) (af Du (af Dy (af o8 (af GZ (ai o1) aB) (ai G4)) (af Ca (af o7 (ai El) aB) (ai o0))) (af o2 (af Dz (af DE (ai Ej) aB) (ai o1)) (af o7 (af IF (ai Ha) aB) (ai G5))))) (af SG (af Dt (af Dx (af o7 (af o1 (ai o0) aB) (ai G3)) (af Ee (af qz (ai o1) aB) (ai Eg))) (af o28 (af o9 (af Eb (ai II) aB) (ai o0)) (af qz (af o1 (ai G9) aB) (ai o0)))) (af Dv (af p0 (af o0 (af G0 (ai G7) aB) (ai KJ)) (af DA (af G2 (ai o0) aB) (ai o1))) (af o3 (af o0 (af Ec (ai Ek) aB) (ai IH)) (af Ea (ai IG) (ai Ei))))))
noncomputable def T4:TF:=(af Dr (af Ds (af o52 (af Dw (af o6 (af o0 (ai G6) (ai o0)) (af o0 (ai o1) aB)) (af B9 (af Ed (ai o0) (ai Hi)) (af Ef (ai Hd) aB))) (af o0 (af o1 (af o0 (ai o0) (ai o0)) (af KL (ai KN) aB)) (af DB (af o0 (ai G8) (ai Hj)) (af Eh (ai Hf) aB)))) (af Du (af Dy (af o8 (af GZ (ai o1) (ai IL)) (af G4 (ai o0) aB)) (af Ca (af o7 (ai El) (ai o1)) (af o0 (ai IK) aB))) (af o2 (af Dz (af DE (ai Ej) (ai IP)) (af o1 (ai o0) aB)) (af o7 (af IF (ai Ha) aB) (af G5 (ai o1) aB))))) (af SG (af Dt (af Dx (af o7 (af o1 (ai o0) (ai KP)) (af G3 (ai IJ) aB)) (af Ee (af qz (ai o1) (ai o0)) (af Eg (ai o0) aB))) (af o53 (af o9 (af Eb (ai II) (ai o1)) (af o0 (ai KO) aB)) (af qz (af o1 (ai G9) (ai IS)) (af o0 (ai o0) aB)))) (af Dv (af p0 (af o0 (af G0 (ai G7) (ai IM)) (af KJ (ai MB) aB)) (af DA (af G2 (ai o0) (ai IQ)) (af o1 (ai He) aB))) (af o3 (af o0 (af Ec (ai Ek) (ai Hh)) (af IH (ai o1) aB)) (af Ea (af IG (ai o0) aB) (af Ei (ai Hg) aB))))))
noncomputable def T5:TF:=(af Dr (af Ds (af o73 (af Dw (af o6 (af o0 (af G6 (ai ME) aB) (ai o0)) (af o0 (ai o1) (ai Pg))) (af B9 (af Ed (ai o0) (ai Hi)) (af Ef (ai Hd) (ai o0)))) (af o0 (af o1 (af o0 (ai o0) (ai o0)) (af KL (ai KN) (ai QF))) (af DB (af o0 (ai G8) (ai Hj)) (af Eh (ai Hf) (ai KS))))) (af Du (af Dy (af o8 (af GZ (ai o1) (ai IL)) (af G4 (ai o0) (ai Ph))) (af Ca (af o7 (ai El) (ai o1)) (af o0 (ai IK) (ai KQ)))) (af o2 (af Dz (af DE (ai Ej) (ai IP)) (af o1 (ai o0) (ai o1))) (af o7 (af IF (ai Ha) (ai tM)) (af G5 (ai o1) (ai KW)))))) (af o72 (af Dt (af Dx (af o7 (af o1 (af o0 (ai MF) aB) (ai KP)) (af G3 (ai IJ) (ai o0))) (af Ee (af qz (ai o1) (ai o0)) (af Eg (ai o0) (ai MD)))) (af o74 (af o9 (af Eb (ai II) (ai o1)) (af o0 (ai KO) (ai o0))) (af qz (af o1 (ai G9) (ai IS)) (af o0 (ai o0) (ai KU))))) (af Dv (af p0 (af o0 (af G0 (ai G7) (ai IM)) (af KJ (ai MB) (ai QE))) (af DA (af G2 (ai o0) (ai IQ)) (af o1 (ai He) (ai KR)))) (af o3 (af o0 (af Ec (ai Ek) (ai Hh)) (af IH (ai o1) (ai MC))) (af Ea (af IG (ai o0) (ai o7)) (af Ei (ai Hg) (ai IT)))))))
noncomputable def u0:TF:=(af o1 (af o0 (af o0 (ai Pj) aB) (ai o0)) (af KL (af KN (ai DF) aB) (ai QF)))
noncomputable def u1:TF:=(af o9 (af Eb (af II (ai o0) aB) (ai o1)) (af o0 (af KO (ai DG) aB) (ai o0)))
noncomputable def u2:TF:=(af o0 (af G0 (af G7 (ai o7) aB) (ai IM)) (af KJ (af MB (ai AU) aB) (ai QE)))
noncomputable def T6:TF:=(af Dr (af Ds (af o91 (af Dw (af o6 (af o0 (af G6 (ai ME) aB) (ai o0)) (af o0 (af o1 (ai yV) aB) (ai Pg))) (af B9 (af Ed (af o0 (ai MJ) aB) (ai Hi)) (af Ef (ai Hd) (ai o0)))) (af o0 u0 (af DB (af o0 (af G8 (ai o0) aB) (ai Hj)) (af Eh (ai Hf) (ai KS))))) (af Du (af Dy (af o8 (af GZ (af o1 (ai tM) aB) (ai IL)) (af G4 (af o0 (ai yX) aB) (ai Ph))) (af Ca (af o7 (af El (ai o1) aB) (ai o1)) (af o0 (ai IK) (ai KQ)))) (af o2 (af Dz (af DE (af Ej (ai MG) aB) (ai IP)) (af o1 (ai o0) (ai o1))) (af o7 (af IF (af Ha (ai MK) aB) (ai tM)) (af G5 (ai o1) (ai KW)))))) (af o90 (af Dt (af Dx (af o7 (af o1 (af o0 (ai MF) aB) (ai KP)) (af G3 (af IJ (ai yW) aB) (ai o0))) (af Ee (af qz (af o1 (ai o0) aB) (ai o0)) (af Eg (ai o0) (ai MD)))) (af o92 u1 (af qz (af o1 (af G9 (ai Pk) aB) (ai IS)) (af o0 (ai o0) (ai KU))))) (af Dv (af p0 u2 (af DA (af G2 (af o0 (ai KY) aB) (ai IQ)) (af o1 (ai He) (ai KR)))) (af o3 (af o0 (af Ec (af Ek (ai MI) aB) (ai Hh)) (af IH (ai o1) (ai MC))) (af Ea (af IG (af o0 (ai yU) aB) (ai o7)) (af Ei (ai Hg) (ai IT)))))))
noncomputable def u3:TF:=(af o0 (af G6 (ai ME) aB) (af o0 (ai AY) aB))
noncomputable def u4:TF:=(af GZ (af o1 (ai tM) aB) (af IL (ai DJ) aB))
noncomputable def u5:TF:=(af o1 (af o0 (ai MF) aB) (af KP (ai DH) aB))
noncomputable def T7:TF:=(af Dr (af Ds (af WJ (af Dw (af o6 u3 (af o0 (af o1 (ai yV) aB) (ai Pg))) (af B9 (af Ed (af o0 (ai MJ) aB) (ai Hi)) (af Ef (af Hd (ai AV) aB) (ai o0)))) (af o0 u0 (af DB (af o0 (af G8 (ai o0) aB) (ai Hj)) (af Eh (af Hf (ai AX) aB) (ai KS))))) (af Du (af Dy (af o8 u4 (af G4 (af o0 (ai yX) aB) (ai Ph))) (af Ca (af o7 (af El (ai o1) aB) (ai o1)) (af o0 (af IK (ai o1) aB) (ai KQ)))) (af o2 (af Dz (af DE (af Ej (ai MG) aB) (ai IP)) (af o1 (af o0 (ai tM) aB) (ai o1))) (af o7 (af IF (af Ha (ai MK) aB) (ai tM)) (af G5 (af o1 (ai yZ) aB) (ai KW)))))) (af yY (af Dt (af Dx (af o7 u5 (af G3 (af IJ (ai yW) aB) (ai o0))) (af Ee (af qz (af o1 (ai o0) aB) (ai o0)) (af Eg (af o0 (ai o0) aB) (ai MD)))) (af WK u1 (af qz (af o1 (af G9 (ai Pk) aB) (ai IS)) (af o0 (af o0 (ai o0) aB) (ai KU))))) (af Dv (af p0 u2 (af DA (af G2 (af o0 (ai KY) aB) (ai IQ)) (af o1 (af He (ai AW) aB) (ai KR)))) (af o3 (af o0 (af Ec (af Ek (ai MI) aB) (ai Hh)) (af IH (af o1 (ai o7) aB) (ai MC))) (af Ea (af IG (af o0 (ai yU) aB) (ai o7)) (af Ei (af Hg (ai y6) aB) (ai IT)))))))
noncomputable def u6:TF:=(af o0 (af o1 (ai yV) aB) (af Pg (ai Hl) aB))
noncomputable def u7:TF:=(af KL (af KN (ai DF) aB) (af QF (ai Hq) aB))
noncomputable def u8:TF:=(af G4 (af o0 (ai yX) aB) (af Ph (ai Hn) aB))
noncomputable def u9:TF:=(af o1 (af o0 (ai tM) aB) (af o1 (ai K0) aB))
noncomputable def YZ:TF:=(af IF (af Ha (ai MK) aB) (af tM (ai KZ) aB))
noncomputable def Y0:TF:=(af G3 (af IJ (ai yW) aB) (af o0 (ai Hm) aB))
noncomputable def Y1:TF:=(af o0 (af KO (ai DG) aB) (af o0 (ai Hr) aB))
noncomputable def Y2:TF:=(af o1 (af G9 (ai Pk) aB) (af IS (ai o0) aB))
noncomputable def Y3:TF:=(af KJ (af MB (ai AU) aB) (af QE (ai Ho) aB))
noncomputable def Y4:TF:=(af IH (af o1 (ai o7) aB) (af MC (ai K1) aB))
noncomputable def Y5:TF:=(af IG (af o0 (ai yU) aB) (af o7 (ai Hk) aB))
noncomputable def T8:TF:=(af Dr (af Ds (af WL (af Dw (af o6 u3 u6) (af B9 (af Ed (af o0 (ai MJ) aB) (af Hi (ai DM) aB)) (af Ef (af Hd (ai AV) aB) (ai o0)))) (af o0 (af o1 (af o0 (af o0 (ai Pj) aB) (af o0 (ai o7) aB)) u7) (af DB (af o0 (af G8 (ai o0) aB) (af Hj (ai AZ) aB)) (af Eh (af Hf (ai AX) aB) (ai KS))))) (af Du (af Dy (af o8 u4 u8) (af Ca (af o7 (af El (ai o1) aB) (af o1 (ai o0) aB)) (af o0 (af IK (ai o1) aB) (ai KQ)))) (af o2 (af Dz (af DE (af Ej (ai MG) aB) (af IP (ai o0) aB)) u9) (af o7 YZ (af G5 (af o1 (ai yZ) aB) (ai KW)))))) (af yY (af Dt (af Dx (af o7 u5 Y0) (af Ee (af qz (af o1 (ai o0) aB) (af o0 (ai DN) aB)) (af Eg (af o0 (ai o0) aB) (ai MD)))) (af WM (af o9 (af Eb (af II (ai o0) aB) (af o1 (ai DK) aB)) Y1) (af qz Y2 (af o0 (af o0 (ai o0) aB) (ai KU))))) (af Dv (af p0 (af o0 (af G0 (af G7 (ai o7) aB) (af IM (ai o0) aB)) Y3) (af DA (af G2 (af o0 (ai KY) aB) (af IQ (ai o1) aB)) (af o1 (af He (ai AW) aB) (ai KR)))) (af o3 (af o0 (af Ec (af Ek (ai MI) aB) (af Hh (ai DL) aB)) Y4) (af Ea Y5 (af Ei (af Hg (ai y6) aB) (ai IT)))))))
noncomputable def T9:TF:=(af Dr (af Ds (af WN (af Dw (af o6 (af o0 (af G6 (ai ME) (ai o1)) (af o0 (ai AY) aB)) u6) (af B9 (af Ed (af o0 (ai MJ) (ai DY)) (af Hi (ai DM) aB)) (af Ef (af Hd (ai AV) aB) (af o0 (ai o0) aB)))) (af o0 (af o1 (af o0 (af o0 (ai Pj) (ai DQ)) (af o0 (ai o7) aB)) u7) (af DB (af o0 (af G8 (ai o0) (ai Hu)) (af Hj (ai AZ) aB)) (af Eh (af Hf (ai AX) aB) (af KS (ai K3) aB))))) (af Du (af Dy (af o8 (af GZ (af o1 (ai tM) (ai o0)) (af IL (ai DJ) aB)) u8) (af Ca (af o7 (af El (ai o1) (ai D1)) (af o1 (ai o0) aB)) (af o0 (af IK (ai o1) aB) (af KQ (ai K2) aB)))) (af o2 (af Dz (af DE (af Ej (ai MG) (ai DU)) (af IP (ai o0) aB)) u9) (af o7 YZ (af G5 (af o1 (ai yZ) aB) (af KW (ai K5) aB)))))) (af yY (af Dt (af Dx (af o7 (af o1 (af o0 (ai MF) (ai DP)) (af KP (ai DH) aB)) Y0) (af Ee (af qz (af o1 (ai o0) (ai DZ)) (af o0 (ai DN) aB)) (af Eg (af o0 (ai o0) aB) (af MD (ai o7) aB)))) (af WO (af o9 (af Eb (af II (ai o0) (ai DR)) (af o1 (ai DK) aB)) Y1) (af qz Y2 (af o0 (af o0 (ai o0) aB) (af KU (ai K4) aB))))) (af Dv (af p0 (af o0 (af G0 (af G7 (ai o7) (ai Hs)) (af IM (ai o0) aB)) Y3) (af DA (af G2 (af o0 (ai KY) (ai Ht)) (af IQ (ai o1) aB)) (af o1 (af He (ai AW) aB) (af KR (ai o0) aB)))) (af o3 (af o0 (af Ec (af Ek (ai MI) (ai DW)) (af Hh (ai DL) aB)) Y4) (af Ea Y5 (af Ei (af Hg (ai y6) aB) (af IT (ai o0) aB)))))))
noncomputable def Y6:TF:=(af Dr (af Ds (af WQ (af Dw (af o6 (af o0 (af G6 (af ME (ai HJ) aB) (ai o1)) (af o0 (af AY (ai o0) aB) (ai HA))) (af o0 (af o1 (af yV (ai o1) aB) (ai o0)) (af Pg (af Hl (ai Po) aB) (ai Le)))) (af B9 (af Ed (af o0 (af MJ (ai o0) aB) (ai DY)) (af Hi (af DM (ai Lp) aB) (ai o1))) (af Ef (af Hd (af AV (ai HV) aB) (ai La)) (af o0 (ai o0) (ai Lh))))) (af o0 (af o1 (af o0 (af o0 (af Pj (ai o0) aB) (ai DQ)) (af o0 (af o7 (ai o0) aB) (ai Lc))) (af KL (af KN (af DF (ai HS) aB) (ai o0)) (af QF (ai Hq) (ai Lg)))) (af DB (af o0 (af G8 (af o0 (ai Ll) aB) (ai Hu)) (af Hj (af AZ (ai Ij) aB) (ai HG))) (af Eh (af Hf (af AX (ai HY) aB) (ai o1)) (af KS (ai K3) (ai Lj)))))) (af Du (af Dy (af o8 (af GZ (af o1 (af tM (ai o1) aB) (ai o0)) (af IL (af DJ (ai Ia) aB) (ai o0))) (af G4 (af o0 (af yX (ai o0) aB) (ai K8)) (af Ph (ai Hn) (ai Pl)))) (af Ca (af o7 (af El (af o1 (ai HN) aB) (ai D1)) (af o1 (af o0 (ai Ih) aB) (ai o0))) (af o0 (af IK (af o1 (ai Ln) aB) (ai Hy)) (af KQ (ai K2) (ai o0))))) (af o2 (af Dz (af DE (af Ej (af MG (ai HL) aB) (ai DU)) (af IP (af o0 (ai Ie) aB) (ai HD))) (af o1 (af o0 (af tM (ai o0) aB) (ai Hv)) (af o1 (ai K0) (ai o1)))) (af o7 (af IF (af Ha (af MK (ai HQ) aB) (ai o7)) (af tM (af KZ (ai Lq) aB) (ai o0))) (af G5 (af o1 (af yZ (ai o1) aB) (ai o0)) (af KW (ai K5) (ai Pn))))))) (af yY (af Dt (af Dx (af o7 (af o1 (af o0 (af MF (ai o0) aB) (ai DP)) (af KP (af DH (ai Lo) aB) (ai HB))) (af G3 (af IJ (af yW (ai HR) aB) (ai K7)) (af o0 (af Hm (ai Pp) aB) (ai o0)))) (af Ee (af qz (af o1 (af o0 (ai o1) aB) (ai DZ)) (af o0 (af DN (ai Ig) aB) (ai HE))) (af Eg (af o0 (af o0 (ai o0) aB) (ai Hw)) (af MD (ai o7) (ai Li))))) (af WR (af o9 (af Eb (af II (af o0 (ai Lk) aB) (ai DR)) (af o1 (af DK (ai o1) aB) (ai HC))) (af o0 (af KO (af DG (ai HU) aB) (ai o1)) (af o0 (ai Hr) (ai o0)))) (af qz (af o1 (af G9 (af Pk (ai HP) aB) (ai o0)) (af IS (af o0 (ai Ik) aB) (ai HH))) (af o0 (af o0 (af o0 (ai o0) aB) (ai Hz)) (af KU (ai K4) (ai o0)))))) (af Dv (af p0 (af o0 (af G0 (af G7 (af o7 (ai HK) aB) (ai Hs)) (af IM (af o0 (ai Ic) aB) (ai o1))) (af KJ (af MB (af AU (ai Lm) aB) (ai K9)) (af QE (ai Ho) (ai Lf)))) (af DA (af G2 (af o0 (af KY (ai o0) aB) (ai Ht)) (af IQ (af o1 (ai Ii) aB) (ai Ld))) (af o1 (af He (af AW (ai HW) aB) (ai o0)) (af KR (ai o0) (ai o1))))) (af o3 (af o0 (af Ec (af Ek (af MI (ai HM) aB) (ai DW)) (af Hh (af DL (ai o0) aB) (ai o0))) (af IH (af o1 (af o7 (ai o1) aB) (ai o0)) (af MC (ai K1) (ai Pm)))) (af Ea (af IG (af o0 (af yU (ai o0) aB) (ai K6)) (af o7 (af Hk (ai Lr) aB) (ai o1))) (af Ei (af Hg (af y6 (ai HZ) aB) (ai Lb)) (af IT (ai o0) (ai HI))))))))
noncomputable def Y7:TF:=(af Pg (af Hl (ai Po) aB) (af Le (ai PH) aB))
noncomputable def Y8:TF:=(af o0 (af o0 (ai Pt) aB) (af Lh (ai o0) aB))
noncomputable def Y9:TF:=(af QF (af Hq (ai Pq) aB) (af Lg (ai o0) aB))
noncomputable def Za:TF:=(af KS (af K3 (ai o0) aB) (af Lj (ai SN) aB))
noncomputable def Zb:TF:=(af Ph (af Hn (ai o0) aB) (af Pl (ai o1) aB))
noncomputable def Zc:TF:=(af KQ (af K2 (ai o1) aB) (af o0 (ai PM) aB))
noncomputable def Zd:TF:=(af o1 (af K0 (ai SI) aB) (af o1 (ai PK) aB))
noncomputable def Ze:TF:=(af tM (af KZ (ai Lq) aB) (af o0 (ai SK) aB))
noncomputable def Zf:TF:=(af KW (af K5 (ai Pw) aB) (af Pn (ai PQ) aB))
noncomputable def Zg:TF:=(af o0 (af Hm (ai Pp) aB) (af o0 (ai o0) aB))
noncomputable def Zh:TF:=(af MD (af o7 (ai o0) aB) (af Li (ai o1) aB))
noncomputable def Zi:TF:=(af o0 (af Hr (ai o0) aB) (af o0 (ai SM) aB))
noncomputable def Zj:TF:=(af KU (af K4 (ai SJ) aB) (af o0 (ai PN) aB))
noncomputable def Zk:TF:=(af QE (af Ho (ai o1) aB) (af Lf (ai PJ) aB))
noncomputable def Zl:TF:=(af KR (af o0 (ai Pu) aB) (af o1 (ai o0) aB))
noncomputable def Zm:TF:=(af MC (af K1 (ai Pr) aB) (af Pm (ai PL) aB))
noncomputable def Zn:TF:=(af o7 (af Hk (ai Lr) aB) (af o1 (ai PF) aB))
noncomputable def Zo:TF:=(af Dr (af Ds (af WS (af Dw (af o6 (af o0 (af G6 (af ME (ai HJ) aB) (af o1 (ai o0) aB)) (af o0 (af AY (ai o0) aB) (af HA (ai PC) aB))) (af o0 (af o1 (af yV (ai o1) aB) (af o0 (ai LC) aB)) Y7)) (af B9 (af Ed (af o0 (af MJ (ai o0) aB) (af DY (ai o1) aB)) (af Hi (af DM (ai Lp) aB) (af o1 (ai LO) aB))) (af Ef (af Hd (af AV (ai HV) aB) (af La (ai o0) aB)) Y8))) (af o0 (af o1 (af o0 (af o0 (af Pj (ai o0) aB) (af DQ (ai Px) aB)) (af o0 (af o7 (ai o0) aB) (af Lc (ai o1) aB))) (af KL (af KN (af DF (ai HS) aB) (af o0 (ai LF) aB)) Y9)) (af DB (af o0 (af G8 (af o0 (ai Ll) aB) (af Hu (ai LA) aB)) (af Hj (af AZ (ai Ij) aB) (af HG (ai LQ) aB))) (af Eh (af Hf (af AX (ai HY) aB) (af o1 (ai o0) aB)) Za)))) (af Du (af Dy (af o8 (af GZ (af o1 (af tM (ai o1) aB) (af o0 (ai Lw) aB)) (af IL (af DJ (ai Ia) aB) (af o0 (ai LM) aB))) (af G4 (af o0 (af yX (ai o0) aB) (af K8 (ai Pz) aB)) Zb)) (af Ca (af o7 (af El (af o1 (ai HN) aB) (af D1 (ai o0) aB)) (af o1 (af o0 (ai Ih) aB) (af o0 (ai o0) aB))) (af o0 (af IK (af o1 (ai Ln) aB) (af Hy (ai LH) aB)) Zc))) (af o2 (af Dz (af DE (af Ej (af MG (ai HL) aB) (af DU (ai Ly) aB)) (af IP (af o0 (ai Ie) aB) (af HD (ai o0) aB))) (af o1 (af o0 (af tM (ai o0) aB) (af Hv (ai o1) aB)) Zd)) (af o7 (af IF (af Ha (af MK (ai HQ) aB) (af o7 (ai o0) aB)) Ze) (af G5 (af o1 (af yZ (ai o1) aB) (af o0 (ai LK) aB)) Zf))))) (af yY (af Dt (af Dx (af o7 (af o1 (af o0 (af MF (ai o0) aB) (af DP (ai o1) aB)) (af KP (af DH (ai Lo) aB) (af HB (ai LL) aB))) (af G3 (af IJ (af yW (ai HR) aB) (af K7 (ai o0) aB)) Zg)) (af Ee (af qz (af o1 (af o0 (ai o1) aB) (af DZ (ai Lz) aB)) (af o0 (af DN (ai Ig) aB) (af HE (ai LP) aB))) (af Eg (af o0 (af o0 (ai o0) aB) (af Hw (ai PB) aB)) Zh))) (af WT (af o9 (af Eb (af II (af o0 (ai Lk) aB) (af DR (ai Lx) aB)) (af o1 (af DK (ai o1) aB) (af HC (ai LN) aB))) (af o0 (af KO (af DG (ai HU) aB) (af o1 (ai o0) aB)) Zi)) (af qz (af o1 (af G9 (af Pk (ai HP) aB) (af o0 (ai LB) aB)) (af IS (af o0 (ai Ik) aB) (af HH (ai o0) aB))) (af o0 (af o0 (af o0 (ai o0) aB) (af Hz (ai o1) aB)) Zj)))) (af Dv (af p0 (af o0 (af G0 (af G7 (af o7 (ai HK) aB) (af Hs (ai o0) aB)) (af IM (af o0 (ai Ic) aB) (af o1 (ai o0) aB))) (af KJ (af MB (af AU (ai Lm) aB) (af K9 (ai LD) aB)) Zk)) (af DA (af G2 (af o0 (af KY (ai o0) aB) (af Ht (ai Py) aB)) (af IQ (af o1 (ai Ii) aB) (af Ld (ai o1) aB))) (af o1 (af He (af AW (ai HW) aB) (af o0 (ai LJ) aB)) Zl))) (af o3 (af o0 (af Ec (af Ek (af MI (ai HM) aB) (af DW (ai o0) aB)) (af Hh (af DL (ai o0) aB) (af o0 (ai PD) aB))) (af IH (af o1 (af o7 (ai o1) aB) (af o0 (ai LG) aB)) Zm)) (af Ea (af IG (af o0 (af yU (ai o0) aB) (af K6 (ai o1) aB)) Zn) (af Ei (af Hg (af y6 (ai HZ) aB) (af Lb (ai o0) aB)) (af IT (af o0 (ai Lu) aB) (ai HI))))))))
noncomputable def Zp:TF:=(af Dr (af Ds (af PR (af Dw (af o6 (af o0 (af G6 (af ME (ai HJ) (ai o1)) (af o1 (ai o0) aB)) (af o0 (af AY (ai o0) (ai Qc)) (af HA (ai PC) aB))) (af o0 (af o1 (af yV (ai o1) (ai o0)) (af o0 (ai LC) aB)) Y7)) (af B9 (af Ed (af o0 (af MJ (ai o0) (ai PY)) (af DY (ai o1) aB)) (af Hi (af DM (ai Lp) (ai Qg)) (af o1 (ai LO) aB))) (af Ef (af Hd (af AV (ai HV) (ai SU)) (af La (ai o0) aB)) Y8))) (af o0 (af o1 (af o0 (af o0 (af Pj (ai o0) (ai PV)) (af DQ (ai Px) aB)) (af o0 (af o7 (ai o0) (ai Qe)) (af Lc (ai o1) aB))) (af KL (af KN (af DF (ai HS) (ai o0)) (af o0 (ai LF) aB)) Y9)) (af DB (af o0 (af G8 (af o0 (ai Ll) (ai P1)) (af Hu (ai LA) aB)) (af Hj (af AZ (ai Ij) (ai Qh)) (af HG (ai LQ) aB))) (af Eh (af Hf (af AX (ai HY) (ai o1)) (af o1 (ai o0) aB)) Za)))) (af Du (af Dy (af o8 (af GZ (af o1 (af tM (ai o1) (ai o0)) (af o0 (ai Lw) aB)) (af IL (af DJ (ai Ia) (ai o0)) (af o0 (ai LM) aB))) (af G4 (af o0 (af yX (ai o0) (ai P4)) (af K8 (ai Pz) aB)) Zb)) (af Ca (af o7 (af El (af o1 (ai HN) (ai SR)) (af D1 (ai o0) aB)) (af o1 (af o0 (ai Ih) (ai o1)) (af o0 (ai o0) aB))) (af o0 (af IK (af o1 (ai Ln) (ai Qa)) (af Hy (ai LH) aB)) Zc))) (af o2 (af Dz (af DE (af Ej (af MG (ai HL) (ai o0)) (af DU (ai Ly) aB)) (af IP (af o0 (ai Ie) (ai SW)) (af HD (ai o0) aB))) (af o1 (af o0 (af tM (ai o0) (ai P8)) (af Hv (ai o1) aB)) Zd)) (af o7 (af IF (af Ha (af MK (ai HQ) (ai o1)) (af o7 (ai o0) aB)) Ze) (af G5 (af o1 (af yZ (ai o1) (ai o0)) (af o0 (ai LK) aB)) Zf))))) (af yY (af Dt (af Dx (af o7 (af o1 (af o0 (af MF (ai o0) (ai PU)) (af DP (ai o1) aB)) (af KP (af DH (ai Lo) (ai Qd)) (af HB (ai LL) aB))) (af G3 (af IJ (af yW (ai HR) (ai SS)) (af K7 (ai o0) aB)) Zg)) (af Ee (af qz (af o1 (af o0 (ai o1) (ai o0)) (af DZ (ai Lz) aB)) (af o0 (af DN (ai Ig) (ai o0)) (af HE (ai LP) aB))) (af Eg (af o0 (af o0 (ai o0) (ai P9)) (af Hw (ai PB) aB)) Zh))) (af SO (af o9 (af Eb (af II (af o0 (ai Lk) (ai PX)) (af DR (ai Lx) aB)) (af o1 (af DK (ai o1) (ai o0)) (af HC (ai LN) aB))) (af o0 (af KO (af DG (ai HU) (ai o1)) (af o1 (ai o0) aB)) Zi)) (af qz (af o1 (af G9 (af Pk (ai HP) (ai o0)) (af o0 (ai LB) aB)) (af IS (af o0 (ai Ik) (ai Qi)) (af HH (ai o0) aB))) (af o0 (af o0 (af o0 (ai o0) (ai Qb)) (af Hz (ai o1) aB)) Zj)))) (af Dv (af p0 (af o0 (af G0 (af G7 (af o7 (ai HK) (ai SQ)) (af Hs (ai o0) aB)) (af IM (af o0 (ai Ic) (ai o1)) (af o1 (ai o0) aB))) (af KJ (af MB (af AU (ai Lm) (ai P7)) (af K9 (ai LD) aB)) Zk)) (af DA (af G2 (af o0 (af KY (ai o0) (ai PZ)) (af Ht (ai Py) aB)) (af IQ (af o1 (ai Ii) (ai SX)) (af Ld (ai o1) aB))) (af o1 (af He (af AW (ai HW) (ai o0)) (af o0 (ai LJ) aB)) Zl))) (af o3 (af o0 (af Ec (af Ek (af MI (ai HM) (ai o1)) (af DW (ai o0) aB)) (af Hh (af DL (ai o0) (ai Qf)) (af o0 (ai PD) aB))) (af IH (af o1 (af o7 (ai o1) (ai o0)) (af o0 (ai LG) aB)) Zm)) (af Ea (af IG (af o0 (af yU (ai o0) (ai P2)) (af K6 (ai o1) aB)) Zn) (af Ei (af Hg (af y6 (ai HZ) (ai SV)) (af Lb (ai o0) aB)) (af IT (af o0 (ai Lu) aB) (af HI (ai o0) aB))))))))
noncomputable def HF(p:Program)(P:Params):Heap:=⟨Array.mk [boot_o_0 P,boot_o_1 P,yY p P,PR p P,boot_o_4 P,boot_o_5 P,boot_o_6 P,boot_o_7 P,boot_o_8 P,boot_o_9 P,boot_o_10 P,o0 p P,SO p P,o2 p P,o3 p P,o6 p P,o7 p P,o8 p P,o0 p P,o1 p P,o9 p P,Dz p P,o0 p P,B9 p P,Ee p P,Ca p P,DA p P,DB p P,qz p P,o7 p P,Ea p P,o0 p P,o1 p P,GZ p P,G0 p P,o0 p P,Eb p P,DE p P,Ec p P,Ed p P,qz p P,o7 p P,G2 p P,o0 p P,o1 p P,IF p P,IG p P,o0 p P,G3 p P,G4 p P,KJ p P,KL p P,o0 p P,o1 p P,IH p P,Ef p P,Eg p P,o0 p P,o1 p P,Eh p P,o0 p P,G5 p P,Ei p P,G6 p P,o0 p P,o1 p P,G7 p P,o0 p P,II p P,Ej p P,Ek p P,o0 p P,o1 p P,El p P,o0 p P,G8 p P,G9 p P,Ha p P,o0 p P,o1 p P,IJ p P,o0 p P,MB p P,KN p P,KO p P,o0 p P,o1 p P,Hd p P,o0 p P,IK p P,He p P,Hf p P,o0 p P,o1 p P,Hg p P,o0 p P,KP p P,IL p P,IM p P,o0 p P,o1 p P,IP p P,Hh p P,Hi p P,o0 p P,o1 p P,IQ p P,Hj p P,IS p P,tM p P,o7 p P,Pg p P,o0 p P,Ph p P,QE p P,QF p P,o0 p P,o1 p P,MC p P,o0 p P,MD p P,KQ p P,KR p P,KS p P,KU p P,KW p P,IT p P,ME p P,MF p P,tM p P,o7 p P,Pj p P,o0 p P,MG p P,MI p P,MJ p P,o0 p P,o1 p P,KY p P,o0 p P,Pk p P,MK p P,yU p P,yV p P,yW p P,yX p P,AU p P,DF p P,DG p P,tM p P,o7 p P,AV p P,o0 p P,o1 p P,AW p P,AX p P,o0 p P,yZ p P,y6 p P,AY p P,DH p P,DJ p P,o0 p P,o7 p P,DK p P,o0 p P,DL p P,DM p P,DN p P,o0 p P,o1 p P,AZ p P,o0 p P,KZ p P,Hk p P,Hl p P,Hm p P,Hn p P,Ho p P,Hq p P,Hr p P,K0 p P,K1 p P,o0 p P,o7 p P,K2 p P,o0 p P,K3 p P,K4 p P,K5 p P,o0 p P,o1 p P,DP p P,o0 p P,Hs p P,DQ p P,DR p P,DU p P,DW p P,DY p P,DZ p P,D1 p P,Ht p P,Hu p P,o0 p P,o7 p P,K6 p P,o0 p P,K7 p P,K8 p P,K9 p P,o0 p P,o1 p P,Hv p P,o0 p P,La p P,Hw p P,Hy p P,o0 p P,o1 p P,Hz p P,o0 p P,Lb p P,HA p P,HB p P,o0 p P,o1 p P,Lc p P,HC p P,HD p P,o0 p P,o1 p P,HE p P,o0 p P,Ld p P,HG p P,HH p P,o0 p P,o1 p P,Le p P,o0 p P,Pl p P,Lf p P,Lg p P,o0 p P,o1 p P,Pm p P,Lh p P,Li p P,o0 p P,o1 p P,Lj p P,o0 p P,Pn p P,HI p P,HJ p P,o0 p P,o1 p P,HK p P,o0 p P,Lk p P,HL p P,HM p P,o0 p P,o1 p P,HN p P,o0 p P,Ll p P,HP p P,HQ p P,o0 p P,o1 p P,HR p P,o0 p P,Lm p P,HS p P,HU p P,o0 p P,o1 p P,HV p P,o0 p P,Ln p P,HW p P,HY p P,o0 p P,o1 p P,HZ p P,o0 p P,Lo p P,Ia p P,Ic p P,o0 p P,o1 p P,Ie p P,o0 p P,Lp p P,Ig p P,Ih p P,Ii p P,Ij p P,Ik p P,Lq p P,Lr p P,Po p P,Pp p P,o0 p P,o1 p P,Pq p P,o0 p P,SI p P,Pr p P,Pt p P,o0 p P,o1 p P,Pu p P,o0 p P,SJ p P,Pw p P,Lu p P,o0 p P,o1 p P,Lw p P,o0 p P,Px p P,Lx p P,Ly p P,o0 p P,o1 p P,Lz p P,o0 p P,Py p P,LA p P,LB p P,o0 p P,o1 p P,LC p P,o0 p P,Pz p P,LD p P,LF p P,o0 p P,o1 p P,LG p P,o0 p P,PB p P,LH p P,LJ p P,o0 p P,o1 p P,LK p P,o0 p P,PC p P,LL p P,LM p P,o0 p P,o1 p P,LN p P,o0 p P,PD p P,LO p P,LP p P,o0 p P,o1 p P,LQ p P,o0 p P,SK p P,PF p P,PH p P,o0 p P,o1 p P,PJ p P,o0 p P,SM p P,PK p P,PL p P,o0 p P,o1 p P,PM p P,o0 p P,SN p P,PN p P,PQ p P,o0 p P,o1 p P,PU p P,o0 p P,SQ p P,PV p P,PX p P,o0 p P,o1 p P,PY p P,o0 p P,SR p P,PZ p P,P1 p P,o0 p P,o1 p P,P2 p P,o0 p P,SS p P,P4 p P,P7 p P,o0 p P,o1 p P,P8 p P,o0 p P,SU p P,P9 p P,Qa p P,o0 p P,o1 p P,Qb p P,o0 p P,SV p P,Qc p P,Qd p P,o0 p P,o1 p P,Qe p P,o0 p P,SW p P,Qf p P,Qg p P,o0 p P,o1 p P,SX p P,Qh p P,Qi p P],{}⟩
noncomputable def K(P:Params):PySem.W.Frag:=(nat_lit 2,yY pw P)::(nat_lit 3,PR pw P)::(nat_lit 15,o6 pw P)::(nat_lit 22,o0 pw P)::(nat_lit 23,B9 pw P)::(nat_lit 24,Ee pw P)::(nat_lit 25,Ca pw P)::(nat_lit 28,qz pw P)::(nat_lit 35,o0 pw P)::(nat_lit 36,Eb pw P)::(nat_lit 37,DE pw P)::(nat_lit 40,qz pw P)::(nat_lit 47,o0 pw P)::(nat_lit 48,G3 pw P)::(nat_lit 49,G4 pw P)::(nat_lit 52,o0 pw P)::(nat_lit 55,Ef pw P)::(nat_lit 56,Eg pw P)::(nat_lit 57,o0 pw P)::(nat_lit 59,Eh pw P)::(nat_lit 60,o0 pw P)::(nat_lit 62,Ei pw P)::(nat_lit 63,G6 pw P)::(nat_lit 64,o0 pw P)::(nat_lit 66,G7 pw P)::(nat_lit 67,o0 pw P)::(nat_lit 69,Ej pw P)::(nat_lit 70,Ek pw P)::(nat_lit 71,o0 pw P)::(nat_lit 73,El pw P)::(nat_lit 74,o0 pw P)::(nat_lit 76,G9 pw P)::(nat_lit 77,Ha pw P)::(nat_lit 78,o0 pw P)::(nat_lit 80,IJ pw P)::(nat_lit 81,o0 pw P)::(nat_lit 83,KN pw P)::(nat_lit 84,KO pw P)::(nat_lit 85,o0 pw P)::(nat_lit 87,Hd pw P)::(nat_lit 88,o0 pw P)::(nat_lit 90,He pw P)::(nat_lit 91,Hf pw P)::(nat_lit 92,o0 pw P)::(nat_lit 94,Hg pw P)::(nat_lit 95,o0 pw P)::(nat_lit 97,IL pw P)::(nat_lit 98,IM pw P)::(nat_lit 99,o0 pw P)::(nat_lit 102,Hh pw P)::(nat_lit 103,Hi pw P)::(nat_lit 104,o0 pw P)::(nat_lit 107,Hj pw P)::(nat_lit 108,IS pw P)::(nat_lit 109,tM pw P)::(nat_lit 116,o0 pw P)::(nat_lit 118,MC pw P)::(nat_lit 119,o0 pw P)::(nat_lit 121,KQ pw P)::(nat_lit 122,KR pw P)::(nat_lit 123,KS pw P)::(nat_lit 124,KU pw P)::(nat_lit 125,KW pw P)::(nat_lit 126,IT pw P)::(nat_lit 129,tM pw P)::(nat_lit 136,o0 pw P)::(nat_lit 138,KY pw P)::(nat_lit 139,o0 pw P)::(nat_lit 141,MK pw P)::(nat_lit 142,yU pw P)::(nat_lit 143,yV pw P)::(nat_lit 144,yW pw P)::(nat_lit 145,yX pw P)::(nat_lit 146,AU pw P)::(nat_lit 149,tM pw P)::(nat_lit 156,o0 pw P)::(nat_lit 157,yZ pw P)::(nat_lit 158,y6 pw P)::(nat_lit 159,AY pw P)::(nat_lit 169,o0 pw P)::(nat_lit 171,AZ pw P)::(nat_lit 172,o0 pw P)::(nat_lit 174,Hk pw P)::(nat_lit 175,Hl pw P)::(nat_lit 176,Hm pw P)::(nat_lit 177,Hn pw P)::(nat_lit 178,Ho pw P)::(nat_lit 179,Hq pw P)::(nat_lit 180,Hr pw P)::(nat_lit 190,o0 pw P)::(nat_lit 192,DP pw P)::(nat_lit 193,o0 pw P)::(nat_lit 195,DQ pw P)::(nat_lit 196,DR pw P)::(nat_lit 197,DU pw P)::(nat_lit 198,DW pw P)::(nat_lit 199,DY pw P)::(nat_lit 200,DZ pw P)::(nat_lit 201,D1 pw P)::(nat_lit 211,o0 pw P)::(nat_lit 213,Hv pw P)::(nat_lit 214,o0 pw P)::(nat_lit 216,Hw pw P)::(nat_lit 217,Hy pw P)::(nat_lit 218,o0 pw P)::(nat_lit 220,Hz pw P)::(nat_lit 221,o0 pw P)::(nat_lit 223,HA pw P)::(nat_lit 224,HB pw P)::(nat_lit 225,o0 pw P)::(nat_lit 228,HC pw P)::(nat_lit 229,HD pw P)::(nat_lit 230,o0 pw P)::(nat_lit 232,HE pw P)::(nat_lit 233,o0 pw P)::(nat_lit 235,HG pw P)::(nat_lit 236,HH pw P)::(nat_lit 237,o0 pw P)::(nat_lit 239,Le pw P)::(nat_lit 240,o0 pw P)::(nat_lit 242,Lf pw P)::(nat_lit 243,Lg pw P)::(nat_lit 244,o0 pw P)::(nat_lit 247,Lh pw P)::(nat_lit 248,Li pw P)::(nat_lit 249,o0 pw P)::(nat_lit 251,Lj pw P)::(nat_lit 252,o0 pw P)::(nat_lit 254,HI pw P)::(nat_lit 255,HJ pw P)::(nat_lit 256,o0 pw P)::(nat_lit 258,HK pw P)::(nat_lit 259,o0 pw P)::(nat_lit 261,HL pw P)::(nat_lit 262,HM pw P)::(nat_lit 263,o0 pw P)::(nat_lit 265,HN pw P)::(nat_lit 266,o0 pw P)::(nat_lit 268,HP pw P)::(nat_lit 269,HQ pw P)::(nat_lit 270,o0 pw P)::(nat_lit 272,HR pw P)::(nat_lit 273,o0 pw P)::(nat_lit 275,HS pw P)::(nat_lit 276,HU pw P)::(nat_lit 277,o0 pw P)::(nat_lit 279,HV pw P)::(nat_lit 280,o0 pw P)::(nat_lit 282,HW pw P)::(nat_lit 283,HY pw P)::(nat_lit 284,o0 pw P)::(nat_lit 286,HZ pw P)::(nat_lit 287,o0 pw P)::(nat_lit 289,Ia pw P)::(nat_lit 290,Ic pw P)::(nat_lit 291,o0 pw P)::(nat_lit 293,Ie pw P)::(nat_lit 294,o0 pw P)::(nat_lit 296,Ig pw P)::(nat_lit 297,Ih pw P)::(nat_lit 298,Ii pw P)::(nat_lit 299,Ij pw P)::(nat_lit 300,Ik pw P)::(nat_lit 301,Lq pw P)::(nat_lit 302,Lr pw P)::(nat_lit 305,o0 pw P)::(nat_lit 307,Pq pw P)::(nat_lit 308,o0 pw P)::(nat_lit 310,Pr pw P)::(nat_lit 311,Pt pw P)::(nat_lit 312,o0 pw P)::(nat_lit 314,Pu pw P)::(nat_lit 315,o0 pw P)::(nat_lit 317,Pw pw P)::(nat_lit 318,Lu pw P)::(nat_lit 319,o0 pw P)::(nat_lit 321,Lw pw P)::(nat_lit 322,o0 pw P)::(nat_lit 324,Lx pw P)::(nat_lit 325,Ly pw P)::(nat_lit 326,o0 pw P)::(nat_lit 328,Lz pw P)::(nat_lit 329,o0 pw P)::(nat_lit 331,LA pw P)::(nat_lit 332,LB pw P)::(nat_lit 333,o0 pw P)::(nat_lit 335,LC pw P)::(nat_lit 336,o0 pw P)::(nat_lit 338,LD pw P)::(nat_lit 339,LF pw P)::(nat_lit 340,o0 pw P)::(nat_lit 342,LG pw P)::(nat_lit 343,o0 pw P)::(nat_lit 345,LH pw P)::(nat_lit 346,LJ pw P)::(nat_lit 347,o0 pw P)::(nat_lit 349,LK pw P)::(nat_lit 350,o0 pw P)::(nat_lit 352,LL pw P)::(nat_lit 353,LM pw P)::(nat_lit 354,o0 pw P)::(nat_lit 356,LN pw P)::(nat_lit 357,o0 pw P)::(nat_lit 359,LO pw P)::(nat_lit 360,LP pw P)::(nat_lit 361,o0 pw P)::(nat_lit 363,LQ pw P)::(nat_lit 364,o0 pw P)::(nat_lit 366,PF pw P)::(nat_lit 367,PH pw P)::(nat_lit 368,o0 pw P)::(nat_lit 370,PJ pw P)::(nat_lit 371,o0 pw P)::(nat_lit 373,PK pw P)::(nat_lit 374,PL pw P)::(nat_lit 375,o0 pw P)::(nat_lit 377,PM pw P)::(nat_lit 378,o0 pw P)::(nat_lit 380,PN pw P)::(nat_lit 381,PQ pw P)::(nat_lit 382,o0 pw P)::(nat_lit 384,PU pw P)::(nat_lit 385,o0 pw P)::(nat_lit 387,PV pw P)::(nat_lit 388,PX pw P)::(nat_lit 389,o0 pw P)::(nat_lit 391,PY pw P)::(nat_lit 392,o0 pw P)::(nat_lit 394,PZ pw P)::(nat_lit 395,P1 pw P)::(nat_lit 396,o0 pw P)::(nat_lit 398,P2 pw P)::(nat_lit 399,o0 pw P)::(nat_lit 401,P4 pw P)::(nat_lit 402,P7 pw P)::(nat_lit 403,o0 pw P)::(nat_lit 405,P8 pw P)::(nat_lit 406,o0 pw P)::(nat_lit 408,P9 pw P)::(nat_lit 409,Qa pw P)::(nat_lit 410,o0 pw P)::(nat_lit 412,Qb pw P)::(nat_lit 413,o0 pw P)::(nat_lit 415,Qc pw P)::(nat_lit 416,Qd pw P)::(nat_lit 417,o0 pw P)::(nat_lit 419,Qe pw P)::(nat_lit 420,o0 pw P)::(nat_lit 422,Qf pw P)::(nat_lit 423,Qg pw P)::(nat_lit 424,o0 pw P)::(nat_lit 427,Qh pw P)::(nat_lit 428,Qi pw P)::[]
abbrev ML:List Addr:=[2,3,15,22,23,24,25,28,35,36,37,40,47,48,49,52,55,56,57,59,60,62,63,64,66,67,69,70,71,73,74,76,77,78,80,81,83,84,85,87,88,90,91,92,94,95,97,98,99,102,103,104,107,108,109,116,118,119,121,122,123,124,125,126,129,136,138,139,141,142,143,144,145,146,149,156,157,158,159,169,171,172,174,175,176,177,178,179,180,190,192,193,195,196,197,198,199,200,201,211,213,214,216,217,218,220,221,223,224,225,228,229,230,232,233,235,236,237,239,240,242,243,244,247,248,249,251,252,254,255,256,258,259,261,262,263,265,266,268,269,270,272,273,275,276,277,279,280,282,283,284,286,287,289,290,291,293,294,296,297,298,299,300,301,302,305,307,308,310,311,312,314,315,317,318,319,321,322,324,325,326,328,329,331,332,333,335,336,338,339,340,342,343,345,346,347,349,350,352,353,354,356,357,359,360,361,363,364,366,367,368,370,371,373,374,375,377,378,380,381,382,384,385,387,388,389,391,392,394,395,396,398,399,401,402,403,405,406,408,409,410,412,413,415,416,417,419,420,422,423,424,427,428]
theorem p4:∀P,ML=(K P).map (·.1):=λ_=>by kernel_rfl
abbrev hK:Hook:=kHook K ML p4
theorem WU(w:World):(λos=>topGo treeTable pw w 11 (some (.ref 6)) 12 ⟨boot_heap w.params,Array.mk [],boot_drawn,boot_toks,os⟩ (topStub pw))=λos=>some (SH (H0 pw w.params) 187 os,(⟨denote treeTable (cn pw),cn pw,⟨0,0,0,0⟩,BF⟩:Thread)):=by
 walk_at "qk"
theorem Qj(w:World):(λos=>segRun treeTable pw w 11 (some (.ref 6)) 1 1 (SH (H0 pw w.params) 187 os) (blockOf (behindTheImports pw) (nj pw) (cn pw) ⟨0,0,0,0⟩ BF))=λos=>some (.next,(ST (T0 pw w.params) 15 187 os).abs,cn pw,⟨0,0,0,0⟩):=by
 walk_at "qk"
theorem WV(w:World):(λos=>segRunT treeTable pw w 11 (some (.ref 6)) 1 196 (ST (T0 pw w.params) 15 187 os) (piecesOf (dE pw 0 2) (nj pw) (cn pw) ⟨0,0,0,0⟩ BF))=λos=>some (.next,ST (T1 pw w.params) 28 207 os,cn pw,⟨2,0,3,8⟩):=by
 walk_at "qk"
theorem WW(w:World):(λos=>segRunT treeTable pw w 11 (some (.ref 6)) 1 214 (ST (T1 pw w.params) 28 207 os) (piecesOf (dE pw 2 1) (nj pw) (cn pw) ⟨2,0,3,8⟩ BF))=λos=>some (.next,ST (T2 pw w.params) 40 223 os,cn pw,⟨4,0,5,8⟩):=by
 walk_at "qk"
theorem WX(w:World):(λos=>segRunT treeTable pw w 11 (some (.ref 6)) 1 388 (ST (T2 pw w.params) 40 223 os) (piecesOf (dE pw 3 11) (nj pw) (cn pw) ⟨4,0,5,8⟩ BF))=λos=>some (.next,ST (T3 pw w.params) 78 285 os,cn pw,⟨29,0,29,4⟩):=by
 walk_at "qk"
theorem WY(w:World):(λos=>segRunT treeTable pw w 11 (some (.ref 6)) 1 180 (ST (T3 pw w.params) 78 285 os) (piecesOf (dE pw 14 9) (nj pw) (cn pw) ⟨29,0,29,4⟩ BF))=λos=>some (.next,ST (T4 pw w.params) 109 330 os,cn pw,⟨57,0,57,8⟩):=by
 walk_at "qk"
theorem WZ(w:World):(λos=>segRunT treeTable pw w 11 (some (.ref 6)) 1 229 (ST (T4 pw w.params) 109 330 os) (piecesOf (dE pw 23 1) (nj pw) (cn pw) ⟨57,0,57,8⟩ BF))=λos=>some (.next,ST (T5 pw w.params) 129 359 os,cn pw,⟨58,0,61,28⟩):=by
 walk_at "qk"
theorem W0(w:World):(λos=>segRunT treeTable pw w 11 (some (.ref 6)) 1 229 (ST (T5 pw w.params) 129 359 os) (piecesOf (dE pw 24 1) (nj pw) (cn pw) ⟨58,0,61,28⟩ BF))=λos=>some (.next,ST (T6 pw w.params) 149 388 os,cn pw,⟨62,0,65,26⟩):=by
 walk_at "qk"
theorem W2(w:World):(λos=>segRunT treeTable pw w 11 (some (.ref 6)) 1 197 (ST (T6 pw w.params) 149 388 os) (piecesOf (dE pw 25 1) (nj pw) (cn pw) ⟨62,0,65,26⟩ BF))=λos=>some (.next,ST (T7 pw w.params) 162 408 os,cn pw,⟨66,0,67,8⟩):=by
 walk_at "qk"
theorem W3(w:World):(λos=>segRunT treeTable pw w 11 (some (.ref 6)) 1 225 (ST (T7 pw w.params) 162 408 os) (piecesOf (dE pw 26 1) (nj pw) (cn pw) ⟨66,0,67,8⟩ BF))=λos=>some (.next,ST (T8 pw w.params) 183 439 os,cn pw,⟨68,0,72,28⟩):=by
 walk_at "qk"
theorem W4(w:World):(λos=>segRunT treeTable pw w 11 (some (.ref 6)) 1 225 (ST (T8 pw w.params) 183 439 os) (piecesOf (dE pw 27 1) (nj pw) (cn pw) ⟨68,0,72,28⟩ BF))=λos=>some (.next,ST (T9 pw w.params) 204 470 os,cn pw,⟨73,0,77,26⟩):=by
 walk_at "qk"
theorem SY(w:World):(λos=>segRunT treeTable pw w 11 (some (.ref 6)) 1 622 (ST (T9 pw w.params) 204 470 os) (piecesOf (dE pw 28 1) (nj pw) (cn pw) ⟨73,0,77,26⟩ BF))=λos=>some (.next,ST (Y6 pw w.params) 305 614 os,cn pw,⟨78,0,194,34⟩):=by
 walk_at "qk"
theorem S0(w:World):(λos=>segRunT treeTable pw w 11 (some (.ref 6)) 1 374 (ST (Y6 pw w.params) 305 614 os) (piecesOf (dE pw 29 12) (nj pw) (cn pw) ⟨78,0,194,34⟩ BF))=λos=>some (.next,ST (Zo pw w.params) 382 738 os,cn pw,⟨288,0,303,15⟩):=by
 walk_at "qk"
theorem S1(w:World):(λos=>segRunT treeTable pw w 11 (some (.ref 6)) 1 226 (ST (Zo pw w.params) 382 738 os) (piecesOf (dE pw 41 7) (nj pw) (cn pw) ⟨288,0,303,15⟩ BF))=λos=>some (.next,ST (Zp pw w.params) 429 811 os,cn pw,⟨361,0,382,15⟩):=by
 walk_at "qk"
theorem W5(w:World):(λos=>topRun treeTable pw w 11 (some (.ref 6)) 2 (ST (Zp pw w.params) 429 811 os).abs ⟨doneF .next,cn pw,⟨361,0,382,15⟩,BF⟩)=λos=>some (SH (HF pw w.params) 811 os):=by
 walk_at "qk"
theorem S4:behindTheImports pw=dE pw 0 2++(dE pw 2 1++(dE pw 3 11++(dE pw 14 9++(dE pw 23 1++(dE pw 24 1++(dE pw 25 1++(dE pw 26 1++(dE pw 27 1++(dE pw 28 1++(dE pw 29 12++(dE pw 41 7++([])))))))))))):=by
 kernel_rfl
theorem W6(w:World)(os:OsState):topRun treeTable pw w 11 (some (.ref 6)) (12 + (1 + (196 + (214 + (388 + (180 + (229 + (229 + (197 + (225 + (225 + (622 + (374 + (226 + 2)))))))))))))) ⟨boot_heap w.params,Array.mk [],boot_drawn,boot_toks,os⟩ (topStub pw)=some (SH (HF pw w.params) 811 os):=by
 have k:topRun treeTable pw w 11 (some (.ref 6)) (196 + (214 + (388 + (180 + (229 + (229 + (197 + (225 + (225 + (622 + (374 + (226 + 2)))))))))))) (ST (T0 pw w.params) 15 187 os).abs (restOf (dE pw 0 2++(dE pw 2 1++(dE pw 3 11++(dE pw 14 9++(dE pw 23 1++(dE pw 24 1++(dE pw 25 1++(dE pw 26 1++(dE pw 27 1++(dE pw 28 1++(dE pw 29 12++(dE pw 41 7++([]))))))))))))) (nj pw) (cn pw) ⟨0,0,0,0⟩ BF)=some (SH (HF pw w.params) 811 os):=piece_app (segRun_of (congrFun (WV w) os)) (piece_app (segRun_of (congrFun (WW w) os)) (piece_app (segRun_of (congrFun (WX w) os)) (piece_app (segRun_of (congrFun (WY w) os)) (piece_app (segRun_of (congrFun (WZ w) os)) (piece_app (segRun_of (congrFun (W0 w) os)) (piece_app (segRun_of (congrFun (W2 w) os)) (piece_app (segRun_of (congrFun (W3 w) os)) (piece_app (segRun_of (congrFun (W4 w) os)) (piece_app (segRun_of (congrFun (SY w) os)) (piece_app (segRun_of (congrFun (S0 w) os)) (piece_app (segRun_of (congrFun (S1 w) os)) (congrFun (W5 w) os))))))))))))
 rw[← S4]at k
 exact go_top (congrFun (WU w) os) (piece_block (congrFun (Qj w) os) k)
theorem l0(w:World):(λos=>staticsOk (importedModules pw.main.body) (boot_heap w.params) (HF pw w.params)&&namesBound pw (HF pw w.params)&&gensDone (SH (HF pw w.params) 811 os)&&laidKept (boot_heap w.params) (HF pw w.params))=λ_=>true:=by
 walk_at "qk"
theorem l1(w:World):(λos=>PyProof.Rows.seen ((PyProof.Rows.recsOf (cH pw)).map (·.name)) (PyProof.Rows.ownsOf (cH pw)) [] {(SH (HF pw w.params) 811 os)with gens:=#[]})=λ_=>PyProof.Rows.expectedOf (cH pw):=by
 walk_at "qk"
theorem l2(w:World):(λos=>(SH (HF pw w.params) 811 os).heap.bltView)=λ_=>bltViewBooted:=by
 walk_at "qk"
theorem l3(w:World):(λos=>(SH (HF pw w.params) 811 os).heap.keysOk (looseW (cH pw) []) ((PyProof.Rows.recsOf (cH pw)).map (·.name)) ((PyProof.Rows.litsOf (cH pw)).map (·.1)) ((PyProof.Rows.clssOf (cH pw) (looseW (cH pw) [])).map (·.name))&&(SH (HF pw w.params) 811 os).heap.accountedOkI (importedModules pw.main.body)&&(SH (HF pw w.params) 811 os).heap.isNs mainGlobals&&(SH (HF pw w.params) 811 os).heap.isNs builtinsNs&&PyProof.Rows.tablesOk (cH pw) (SH (HF pw w.params) 811 os).heap&&(λs=>xlAt (cH pw) [] s&&recOk (RowW.records (OpenRow.toRowW PySem.Challenge.rw_stackwarden_k68_tries_and_depth.row)) s) (SH (HF pw w.params) 811 os)&&(if true then(SH (HF pw w.params) 811 os).gens.size == 0 else !leftWithCleanup (SH (HF pw w.params) 811 os).gens))=λ_=>true:=by
 walk_at "qk"
theorem l4(w:World):(λos=>PyProof.Rows.tabsOk (cH pw) (SH (HF pw w.params) 811 os))=λ_=>true:=by
 walk_at "qk"
theorem l5(w:World):(λos=>pinSeenD (cH pw) (PyProof.Rows.drecsOf (cH pw)) (SH (HF pw w.params) 811 os))=λ_=>pinGoodD (PyProof.Rows.drecsOf (cH pw)):=by
 walk_at "qk"
theorem l6(w:World):(λos=>PyProof.Rows.plainSeenE (cH pw) (looseW (cH pw) []) (SH (HF pw w.params) 811 os))=λ_=>PyProof.Rows.plainGoodE (cH pw) (looseW (cH pw) []):=by
 walk_at "qk"
theorem l7(w:World):(λos=>PyProof.Rows.plainSeenD (cH pw) [] (SH (HF pw w.params) 811 os))=λ_=>PyProof.Rows.plainGoodD (cH pw) []:=by
 walk_at "qk"
theorem l8(w:World):(λos=>wideSeen (cH pw) (SH (HF pw w.params) 811 os))=λ_=>wideGood (cH pw):=by
 walk_at "qk"
theorem l9(w:World):(λos=>clsSeenW (cH pw) [] (SH (HF pw w.params) 811 os))=λ_=>clsGoodW (cH pw) []:=by
 walk_at "qk"
theorem lY(w:World):(λos=>hK.obs (SH (HF pw w.params) 811 os))=λ_=>hK.val w:=by
 show(λos=>ML.map (SH (HF pw w.params) 811 os).heap.get?)=λ_=>(K w.params).map λp=>some p.2
 unfold K
 walk_at "qk"
theorem hl:LeftO pw (cH pw) [] (λs=>xlAt (cH pw) [] s&&recOk (RowW.records (OpenRow.toRowW PySem.Challenge.rw_stackwarden_k68_tries_and_depth.row)) s) hK.obs hK.val 6712:=by
 refine LeftO.of_pieces (m₀:=11) (ann:=(some (.ref 6))) (M:=(12 + (1 + (196 + (214 + (388 + (180 + (229 + (229 + (197 + (225 + (225 + (622 + (374 + (226 + 2))))))))))))))) (boot_open (by kernel_rfl) (by decide) (λs=>by kernel_rfl)) (λw=>?_) W6 (by decide) (λw=>?_)
 ·walk_at "qk"
 ·funext os
  exact looks_pair (congrFun (l0 w) os) (looks_pair (looks_pair (congrFun (l1 w) os) (looks_pair (congrFun (l2 w) os) (looks_pair (congrFun (l3 w) os) (looks_pair (congrFun (l4 w) os) (looks_pair (congrFun (l5 w) os) (looks_pair (congrFun (l6 w) os) (looks_pair (congrFun (l7 w) os) (looks_pair (congrFun (l8 w) os) (congrFun (l9 w) os))))))))) (congrFun (lY w) os))
end MH
end
open PySem PySem.W PyProof.Rows
local macro_rules | `(tactic| walk_at "dk") => `(tactic| (refine' ⟨_, _, ?w, L2.rj ?x ?y ?z⟩; (case w => k_is); (case x => k_is); (case y => k_is); (case z => k_is)))
local macro_rules | `(tactic| walk_at "mk") => `(tactic| (refine' ⟨⟨_, L2.rj ?x ?y ?z⟩, ?w⟩; (case x => k_is); (case y => k_is); (case z => k_is); (case w => k_is)))
set_option maxRecDepth 100000 in
set_option maxHeartbeats 0 in
theorem PySem.Challenge.cw_stackwarden_k68_tries_and_depth_holds : PySem.Challenge.rw_stackwarden_k68_tries_and_depth.Holds := by
  w_on; refine PySem.W.holds_law (by kernel_rfl) fun said => ?_
  refine PySem.W.holds_open (q := (MH.cH PySem.Challenge.pw_stackwarden_k68_tries_and_depth)) (loose := []) (Xt := (fun s => xlAt (MH.cH PySem.Challenge.pw_stackwarden_k68_tries_and_depth) [] s && recOk (RowW.records (OpenRow.toRowW PySem.Challenge.rw_stackwarden_k68_tries_and_depth.row)) s)) (XP := XL (MH.cH PySem.Challenge.pw_stackwarden_k68_tries_and_depth) []) (Yf := Hook.obs (kHook MH.K MH.ML MH.p4)) (Ya := Hook.val (kHook MH.K MH.ML MH.p4)) (YP := Hook.says (kHook MH.K MH.ML MH.p4)) (N := 6712) MH.hl (Hook.of (kHook MH.K MH.ML MH.p4)) (Hook.keeps (kHook MH.K MH.ML MH.p4)) (fun s e => xl_of s (Bool.and_eq_true_iff.mp e).1) XL.keeps (by rfl) (by rfl) (by rfl) (fun s e => recFacts_of (Bool.and_eq_true_iff.mp e).2) (by rfl) (by first | assumption | decide +kernel) (by decide +kernel) ⟨rfl, rfl, rfl, rfl, rfl, by decide +kernel⟩ ?hw ?hc
  case hw => w_witness2
  k_fill
  refine Mine.walk (l := PySem.Challenge.rw_stackwarden_k68_tries_and_depth) rfl rfl (fun w h Y => PySem.W.kIn_of Y) ?F
  case F =>
    intro w mg fa h KX G hmg
    refine' Mine.all_mk KX G hmg ?pH ?pJ ?pL ?pM ?pO ?pP ?pQ ?ja ?gy ?eQ ?wY ?wZ ?w4 ?w6 ?w8 ?w9 ?xc ?jD ?jE ?gz ?mZ ?m4 ?m5 ?m6 ?m7 ?m8 ?m9 ?eR ?ik ?ip ?dw ?gA ?cA ?bQ ?bS ?cR ?ck ?bT ?dz ?dX ?fS ?eh ?d0 ?d1 ?d2 ?d3 ?d4 ?d5 ?d6 ?d7 ?d8 ?d9 ?VE ?VF ?VG ?VH ?VI ?VJ ?VL ?VM ?VN ?VO ?VP ?VQ ?VR ?VS ?VT ?VU ?VV ?VW ?VX ?VY ?VZ ?V0 ?V1 ?V2 ?V3 ?V4 ?V5 ?V6 ?V7 ?V8 ?V9 ?Wa ?gY ?pC ?eE ?i7 ?sW ?bP ?cQ ?ij ?kA ?jV ?jW ?nW ?fR ?i8 ?i9 ?c9 ?fO ?fP ?pR ?pS ?pT ?pU ?pV ?pW ?pX ?pY ?oi ?pZ ?sY ?sZ ?tm ?tp ?tw ?tD ?tE ?tH ?qR ?tI ?nT ?sO ?nU ?lI ?eW ?eX ?eY ?eZ ?fe ?fg ?yH ?Gz ?yI ?yJ ?GC ?lN ?lO ?lP ?lQ ?lR ?lS ?GD ?GF ?GH ?GI ?GJ ?yE ?sM ?sX ?fN ?nR ?cz ?jU ?i5 ?yO ?gL ?nS ?yN
    (case pH => k_is)
    (case pJ => k_is)
    (case pL => k_is)
    (case pM => k_is)
    (case pO => k_is)
    (case pP => k_is)
    (case pQ => k_is)
    (case ja => k_is)
    (case gy => k_is)
    (case eQ => k_is)
    (case wY => k_is)
    (case wZ => k_is)
    (case w4 => k_is)
    (case w6 => k_is)
    (case w8 => k_is)
    (case w9 => k_is)
    (case xc => k_is)
    (case jD => k_is)
    (case jE => k_is)
    (case gz => k_is)
    (case mZ => k_is)
    (case m4 => k_is)
    (case m5 => k_is)
    (case m6 => k_is)
    (case m7 => k_is)
    (case m8 => k_is)
    (case m9 => k_is)
    (case eR => k_is)
    (case ik => k_is)
    (case ip => k_is)
    (case dw => k_is)
    (case gA => k_is)
    (case cA => k_is)
    (case bQ => k_is)
    (case bS => k_is)
    (case cR => k_is)
    (case ck => k_is)
    (case bT => k_is)
    (case dz => k_is)
    (case dX => k_is)
    (case fS => k_is)
    (case eh => k_is)
    (case d0 => walk_at "dk")
    (case d1 => walk_at "dk")
    (case d2 => walk_at "dk")
    (case d3 => walk_at "dk")
    (case d4 => walk_at "dk")
    (case d5 => walk_at "dk")
    (case d6 => walk_at "dk")
    (case d7 => walk_at "dk")
    (case d8 => walk_at "dk")
    (case d9 => walk_at "dk")
    (case VE => walk_at "dk")
    (case VF => walk_at "dk")
    (case VG => walk_at "dk")
    (case VH => walk_at "dk")
    (case VI => walk_at "dk")
    (case VJ => walk_at "dk")
    (case VL => walk_at "dk")
    (case VM => walk_at "dk")
    (case VN => walk_at "dk")
    (case VO => walk_at "dk")
    (case VP => walk_at "mk")
    (case VQ => walk_at "mk")
    (case VR => walk_at "mk")
    (case VS => walk_at "mk")
    (case VT => walk_at "dk")
    (case VU => walk_at "dk")
    (case VV => walk_at "dk")
    (case VW => walk_at "mk")
    (case VX => walk_at "mk")
    (case VY => walk_at "mk")
    (case VZ => walk_at "mk")
    (case V0 => walk_at "mk")
    (case V1 => walk_at "mk")
    (case V2 => walk_at "mk")
    (case V3 => walk_at "mk")
    (case V4 => walk_at "mk")
    (case V5 => walk_at "mk")
    (case V6 => walk_at "dk")
    (case V7 => k_is)
    (case V8 => k_is)
    (case V9 => k_is)
    (case Wa => k_is)
    (case gY => k_is)
    (case pC => k_is)
    (case eE => k_is)
    (case i7 => k_is)
    (case sW => k_is)
    (case bP => k_is)
    (case cQ => kts_isx)
    (case ij => k_is)
    (case kA => kts_isx)
    (case jV => k_is)
    (case jW => k_exc)
    (case nW => kts_isx)
    (case fR => k_is)
    (case i8 => k_exc)
    (case i9 => kts_isx)
    (case c9 => k_is)
    (case fO => k_exc)
    (case fP => kts_isx)
    (case pR => k_is)
    (case pS => k_is)
    (case pT => k_is)
    (case pU => k_is)
    (case pV => k_is)
    (case pW => k_is)
    (case pX => k_is)
    (case pY => k_is)
    (case oi => kernel_rfl!)
    (case pZ => k_is)
    (case sY => k_is)
    (case sZ => k_is)
    (case tm => k_is)
    (case tp => k_is)
    (case tw => k_is)
    (case tD => k_is)
    (case tE => k_is)
    (case tH => k_is)
    (case qR => kernel_rfl!)
    (case tI => k_is)
    (case nT => refine L2.v7 ?_ ?_ ?_ ?_ ?_ ?_ <;> first | (show _ = some true; kit_is) | (show _ = some false; kit_is))
    (case sO => refine L2.v7 ?_ ?_ ?_ ?_ ?_ ?_ <;> first | (show _ = some true; kit_is) | (show _ = some false; kit_is))
    (case nU => refine L2.v7 ?_ ?_ ?_ ?_ ?_ ?_ <;> first | (show _ = some true; kit_is) | (show _ = some false; kit_is))
    (case lI => refine L2.v7 ?_ ?_ ?_ ?_ ?_ ?_ <;> first | (show _ = some true; kit_is) | (show _ = some false; kit_is))
    (case eW => k_is)
    (case eX => k_is)
    (case eY => k_is)
    (case eZ => k_is)
    (case fe => k_is)
    (case fg => k_is)
    (case yH => k_is)
    (case Gz => k_is)
    (case yI => k_is)
    (case yJ => k_is)
    (case GC => k_is)
    (case lN => k_is)
    (case lO => k_is)
    (case lP => k_is)
    (case lQ => k_is)
    (case lR => k_is)
    (case lS => k_is)
    (case GD => k_is)
    (case GF => k_is)
    (case GH => k_is)
    (case GI => k_is)
    (case GJ => k_is)
    (case yE => k_is)
    (case sM => k_is)
    (case sX => k_is)
    (case fN => k_is)
    (case nR => k_is)
    (case cz => k_is)
    (case jU => k_is)
    (case i5 => k_is)
    (case yO => k_is)
    (case gL => k_is)
    (case nS => k_is)
    (case yN => k_is)
#print axioms PySem.Challenge.cw_stackwarden_k68_tries_and_depth_holds
