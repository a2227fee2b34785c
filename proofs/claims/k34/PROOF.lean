import PyProof.Rows.All
import Wide.All
import OpenK.AllK
import Wide.FinOn
import Lean
import PyProof.EqAt
import PyProof.EqKinds
import PyProof.TupleCall
import PyProof.ZipIter
import KE.KTryDeep
import KE.KIsAll
import KE.KIntText
import PyProof.ExcArgsOwn
import PySem.Challenge.RW_stackwarden_k34_goings_on_and_budget
def aac:=@List.getElem?_append_left
def aad:=@PySem.Heap.get?_push_of_some
def aae:=@PySem.F.plainAttrs_list
def aaf:=@Nat.le_refl
def aag:=@PySem.W.mg_of
def aah:=@List.length_map
def aai:=@Or.inl
def aaj:=@List.getElem?_append_right
def aak:=@Bool.false_ne_true
def aal:=@PySem.wpAny_bind
def aam:=@List.mem_cons
def aan:=@if_neg
def aao:=@Nat.lt_of_lt_of_le
def aap:=@PySem.Heap.lt_size
def aaq:=@if_pos
def aar:=@List.getElem?_map
def aas:=@PySem.wpAny_pure
def aat:=@List.mem_of_getElem?
def aau:=@List.getElem?_set_self
def aav:=@PySem.Heap.get?_push_size
def aaw:=@Nat.le_of_ble_eq_true
def aax:=@Nat.ne_of_lt
def aay:=@List.getElem?_set_ne
def aaz:=@List.mem_cons_self
def aaA:=@PySem.F.slot_list_append
def aaB:=@PySem.F.type_list_append
def aaC:=@List.length_take
def aaD:=@List.size_toArray
def aaE:=@Option.some.inj
def aaF:=@List.mem_cons_of_mem
def aaG:=@List.length_append
def aaH:=@decide_eq_false
def aaI:=@Nat.lt_of_le_of_lt
def aaJ:=@PySem.F.slot_list_pop
def aaK:=@PySem.F.type_list_pop
def aaL:=@List.length_set
def aaM:=@decide_eq_true
def aaN:=@List.mem_singleton
def aaO:=@Nat.le_trans
def aaP:=@List.mem_append_right
def aaQ:=@List.mem_append
def aaR:=@PySem.PassesOwn.never
def aaS:=@PySem.W.mg_none_of
def aaT:=@List.length_cons
def aaU:=@List.map_append
def aaV:=@List.getElem?_of_mem
def aaW:=@List.take_append_drop
def aaX:=@Nat.le_of_lt
def aaY:=@List.length_drop
def aaZ:=@List.dropLast_concat
def aa0:=@Int.toNat_natCast
def aa1:=@of_decide_eq_true
def aa2:=@List.replicate_succ
def aa3:=@Nat.sub_self
def aa4:=@List.take_succ_eq_append_getElem
def aa5:=@Int.emod_lt_of_pos
def aa6:=@Int.emod_nonneg
def aa7:=@List.getElem?_cons_succ
def aa8:=@Nat.succ_ne_zero
def aa9:=@List.mem_flatMap
def aba:=@Nat.zero_le
def abb:=@List.getElem?_drop
def abc:=@PySem.wpAny_passesOwn
def abd:=@List.append_nil
def abe:=@PySem.W.kia_one
def abf:=@Nat.lt_irrefl
def abg:=@PySem.wpAny_truthy_bool
def abh:=@List.flatten_cons
def abi:=@List.mem_append_left
def abj:=@PySem.wpAny_mono
def abk:=@List.getElem?_take_of_lt
def abl:=@List.mem_flatten
def abm:=@PySem.mem_of_lookup
def abn:=@PyProof.Rows.slot_tuple_getitem
def abo:=@List.getElem?_cons_zero
def abp:=@List.flatten_singleton
def abq:=@PySem.wpAny_newObj_type
def abr:=@List.flatMap_cons
def abt:=@List.pairwise_flatten
def abu:=@PyProof.Rows.callWith_type1
def abv:=@congrArg
def abw:=@List.flatten_append
def abx:=@PySem.wpAny_execs_nil
def aby:=@List.mem_or_eq_of_mem_set
def abz:=@Nat.ne_of_gt
def abA:=@PySem.wpAny_Call_Name_kw
def abB:=@Nat.succ.inj
def abC:=@List.append_assoc
def abD:=@List.nodup_append
def abE:=@List.getElem?_set
def acd:=@PyProof.Rows.subscriptTail_builtinR
def ace:=@PySem.Calls.callWith_builtin
def acf:=@List.take_of_length_le
def acg:=@PySem.wpAny_holding
def ach:=@Nat.lt_succ_self
def aci:=@Bool.and_eq_true
def acj:=@Bool.not_eq_true
def ack:=@List.all_eq_true
def acm:=@decide_eq_decide
def acn:=@List.dropLast_eq_take
def aco:=@PySem.call_meets
def acp:=@PySem.F.slot_int_rmul
def acq:=@Nat.zero_add
def acr:=@PySem.W.plainGet_of
def acs:=@PySem.W.callWith_K
def acu:=@Nat.eq_zero_or_pos
def acv:=@PySem.Calls.Name_function_global
def acw:=@Int.fdiv_eq_ediv_of_nonneg
def acx:=@List.map_cons
def acy:=@Nat.add_assoc
def acz:=@List.reverse_cons
def acA:=@PySem.wpAny_pyIter_list
def acB:=@List.ext_getElem?
def acC:=@True.intro
def acD:=@PySem.typeIs_int
def acE:=@PySem.wpAny_binaryOp_repeat_ref
def acF:=@Ne.symm
def acG:=@PySem.F.args_tuple_add_2
def acI:=@List.lookup_cons
def acJ:=@Nat.le_of_eq
def acK:=@PySem.wpAny_comprehension_free
def acL:=@List.getElem_mem
def acM:=@Nat.le_add_right
def acN:=@List.take_length
def acO:=@PySem.F.entry_tuple_add
def acP:=@PyProof.Rows.intBits_le
def acQ:=@Nat.lt_add_of_pos_right
def acR:=@PySem.wpAny_ite_false
def acS:=@PySem.W.cellsFrom_some
def acT:=@PySem.F.slot_tuple_add
def acW:=@PySem.W.methodCall_KW
def acX:=@PySem.F.slot_dict_get
def acY:=@List.eq_nil_or_concat
def acZ:=@PySem.strKind_is
def ac1:=@beq_eq_false_iff_ne
abbrev ax:=PySem.W.Frag
theorem Vh:0<=PySem.sizeLine:=by decide
theorem Nn:1<=PySem.sizeLine:=by decide
theorem GQ:2<=PySem.sizeLine:=by decide
theorem Yp:3<=PySem.sizeLine:=by decide
theorem XD:4<=PySem.sizeLine:=by decide
theorem sz6:6<=PySem.sizeLine:=by decide
theorem bN{α:Type}{a b:α}(h:a∈[b]):a=b:=aaN.mp h
theorem bU{α:Type}{l:List α}{i:Nat}{a:α}(h:l[i]?=some a):∃h:i < l.length,l[i]=a:=List.getElem?_eq_some_iff.mp h
theorem dh{α:Type}{l:List α}{i:Nat}(h:i < l.length):l[i]?=some l[i]:=List.getElem?_eq_getElem h
set_option Elab.async false
set_option compiler.extract_closed false
set_option linter.all false
set_option maxRecDepth 100000
namespace L2
open PySem PySem.Spec PyProof.Rows
abbrev Key:=Sum Int Str
def Rl:Key->Value->Bool
 | .inl k,v=>Value.isInt k v
 | .inr x,v=>Value.isStrOf x v
def Yq(w:World):Key->Int
 | .inl k=>hashInt k
 | .inr x=>hashStr w x
theorem cB:∀{k:Key} {v:Value},Rl k v=true->(∃i t,k=Sum.inl i/\v=Value.int i t)∨(∃x t,k=Sum.inr x/\v=Value.str x t)
 | .inl i,v,h=>by
  obtain⟨t,e⟩:=Value.isInt_shape (k:=i) (v:=v) h;exact .inl ⟨i,t,rfl,e⟩
 | .inr x,v,h=>by
  obtain⟨t,e⟩:=Value.isStrOf_shape (x:=x) (v:=v) h;exact .inr ⟨x,t,rfl,e⟩
theorem Sd(a b:Int):decide ((Sum.inl a:Key)=Sum.inl b)=(a == b):=by
 by_cases e:a=b
 ·subst e;simp
 ·have h:¬ (Sum.inl a:Key)=Sum.inl b:=λq=>e (Sum.inl.inj q)
  rw[aaH h];exact(ac1.mpr e).symm
theorem Se(a b:Str):decide ((Sum.inr a:Key)=Sum.inr b)=decide (a=b):=by
 by_cases e:a=b
 ·subst e;simp
 ·have h:¬ (Sum.inr a:Key)=Sum.inr b:=λq=>e (Sum.inr.inj q)
  rw[aaH h,aaH e]
theorem Sf(a:Int)(b:Str):decide ((Sum.inl a:Key)=Sum.inr b)=false:=aaH (λq=>nomatch q)
theorem Si(a:Str)(b:Int):decide ((Sum.inr a:Key)=Sum.inl b)=false:=aaH (λq=>nomatch q)
def FC(prog:Program)(w:World):PySem.KeyKind prog w Key where
 is:=Rl
 hash:=Yq w
 inj:=λv a b ha hb=>by
  rcases cB ha with⟨i,t,rfl,rfl⟩ | ⟨x,t,rfl,rfl⟩
  ·rcases cB hb with⟨j,u,rfl,e⟩ | ⟨y,u,rfl,e⟩
   ·injection e with e1 _;rw[e1]
   ·exact nomatch e
  ·rcases cB hb with⟨j,u,rfl,e⟩ | ⟨y,u,rfl,e⟩
   ·exact nomatch e
   ·injection e with e1 _;rw[e1]
 byValue:=λk v h=>by
  rcases cB h with⟨i,t,rfl,rfl⟩ | ⟨x,t,rfl,rfl⟩<;>rfl
 pyHash:=λhv h=>by
  rcases cB hv with⟨i,t,rfl,rfl⟩ | ⟨x,t,rfl,rfl⟩
  ·exact wpAny_pyHash_int h
  ·exact wpAny_pyHash_str h
 eqBool:=λhu hv h=>by
  rcases cB hu with⟨i,t,rfl,rfl⟩ | ⟨x,t,rfl,rfl⟩
  ·rcases cB hv with⟨j,u,rfl,rfl⟩ | ⟨y,u,rfl,rfl⟩
   ·rw[Sd]at h;exact wpAny_eqBool_int h
   ·rw[Sf]at h;exact SeqAt.EqAt.int_str i t y u _ _ _ _ h
  ·rcases cB hv with⟨j,u,rfl,rfl⟩ | ⟨y,u,rfl,rfl⟩
   ·rw[Si]at h;exact SeqAt.EqAt.str_int x t j u _ _ _ _ h
   ·rw[Se]at h;exact wpAny_eqBool_str h
 «strs»:=λk x t v h=>by
  rcases cB h with⟨i,u,rfl,e⟩ | ⟨y,u,rfl,e⟩
  ·exact nomatch e
  ·injection e with e1 _
   subst e1;cases v<;>rfl
inductive V where
 | non | bl (b:Bool) | int (i:Int) | str (x:Str) | byt (b:Array UInt8) | flt (b:UInt64) | ref (a:Addr) | ty (n:String)
 deriving DecidableEq
def RelV:V->Value->Prop
 | .non,u=>u=Value.none
 | .bl b,u=>u=Value.bool b
 | .int i,u=>∃t,u=Value.int i t
 | .str x,u=>∃t,u=Value.str x t
 | .byt b,u=>∃t,u=Value.bytes b t
 | .flt b,u=>∃t,u=Value.float b t
 | .ref a,u=>u=Value.ref a
 | .ty n,u=>u=Value.type n
abbrev Vals:List V->List Value->Prop:=Paired RelV
theorem Vals.length{xs:List V}{us:List Value}(r:Vals xs us):xs.length=us.length:=Paired.length r
theorem Vals.get:∀{xs:List V} {us:List Value} {i:Nat} {x:V},Vals xs us->xs[i]?=some x->∃u,us[i]?=some u/\RelV x u
 | _,_,_,_,.nil,e=>by simp at e
 | _,_,0,_,.cons r _,e=>by simp at e;subst e;exact⟨_,rfl,r⟩
 | _,_,i + 1,x,.cons _ t,e=>by
  obtain⟨u,h1,h2⟩:=Vals.get (i:=i) (x:=x) t (by simpa using e);exact⟨u,by simpa using h1,h2⟩
theorem Vals.set{x:V}{u:Value}(r:RelV x u):∀{xs:List V} {us:List Value} (i:Nat),Vals xs us->Vals (xs.set i x) (us.set i u)
 | _,_,_,.nil=>.nil
 | _,_,0,.cons _ t=>.cons r t
 | _,_,i + 1,.cons q t=>.cons q (Vals.set r i t)
theorem Vals.append:∀{xs ys:List V} {us ws:List Value},Vals xs us->Vals ys ws->Vals (xs++ys) (us++ws)
 | _,_,_,_,.nil,s=>s
 | _,_,_,_,.cons r t,s=>.cons r (Vals.append t s)
theorem Vals.take:∀{xs:List V} {us:List Value} (n:Nat),Vals xs us->Vals (xs.take n) (us.take n)
 | _,_,0,_=>.nil
 | _,_,_ + 1,.nil=>.nil
 | _,_,n + 1,.cons r t=>.cons r (Vals.take n t)
theorem Vals.drop:∀{xs:List V} {us:List Value} (n:Nat),Vals xs us->Vals (xs.drop n) (us.drop n)
 | _,_,0,r=>r
 | _,_,_ + 1,.nil=>.nil
 | _,_,n + 1,.cons _ t=>Vals.drop n t
def yC:Option V->Option Value->Prop
 | some v,some u=>RelV v u
 | none,none=>True
 | _,_=>False
def KV{κ:Type}:List (κ×V)->List (κ×Value)->Prop:=Paired λ(p:κ×V) (q:κ×Value)=>p.1=q.1/\RelV p.2 q.2
def kV:Key->V
 | .inl i=>.int i
 | .inr x=>.str x
inductive HO where
 | lst (xs:List V)
 | tup (xs:List V)
 | dK (kvs:List (Key×V)) | dT (kvs:List (List Key×V))
 | set (S:Int->Bool) (n:Nat)
 | ins (C dx:Addr) (fs:List (Str×V))
 | own (x:Addr)
 | xd (fs:List (Str×V))
 | met (f x:Addr)
 | rng (lo hi:Int)
 | vX (o:Obj) (u:HO)
 | tbl (ps:Array Value)
 | ext (φ:Heap->Prop)
abbrev Hp:=Addr->Option HO
def upd(H:Hp)(a:Addr)(o:HO):Hp:=λb=>if b=a then some o else H b
theorem uS{H:Hp}{a:Addr}{o:HO}:upd H a o a=some o:=by unfold upd;rw[if_pos rfl]
theorem uN{H:Hp}{a b:Addr}{o:HO}(h:b≠a):upd H a o b=H b:=by unfold upd;rw[if_neg h]
theorem Rm{H:Hp}{a b:Addr}{o u:HO}(h:H a=some o)(h':H b=some u)(d:o≠u):a≠b:=by
 intro e;subst e;rw[h]at h';exact d (aaE h')
theorem nN{H:Hp}{a b:Addr}{o:HO}(h:H a=some o)(h':H b=none):a≠b:=by
 intro e;subst e;rw[h]at h';cases h'
section
variable (P:Program) (w:World)
def jd(H:Hp)(h:Heap)(a:Addr):HO->Prop
 | .lst xs=>xs.length<=sizeLine/\∃(its:List Value) (n:Nat),Vals xs its/\h.get? a=some {cls:=.type "list",data:=.seq its.toArray n}
 | .tup xs=>xs.length<=sizeLine/\∃its:List Value,Vals xs its/\IsTup h a its.toArray
 | .dK kvs=>kvs.length<=sizeLine/\(a == sysModules)=false/\∃vs,KV kvs vs/\h.DictOf (FC P w) a vs
 | .dT kvs=>kvs.length<=sizeLine/\(a == sysModules)=false/\∃xs:List (List Key×Addr×Value),
   Paired (λ(p:List Key×V) (q:List Key×Addr×Value)=>p.1=q.1/\H q.2.1=some (.tup (p.1.map kV))/\RelV p.2 q.2.2) kvs xs /\
   ∃o es ep,h.get? a=some o/\o.ExactDict/\o.data=.dict es ep/\es.toList=xs.map (entryOfKey (tupleKind (FC P w)))/\(xs.map (·.1)).Nodup
 | .set S n=>h.SetOf (intKind P w) a S n
 | .ins C dx fs=>H dx=some (.own a)/\fs.length<=1000/\dx≠a/\h.get? a=some (PySem.W.instObj C dx) /\
   ∃mA,h.Ns1 dx mA/\(∀f,yC (fs.lookup f) (mA f))/\PySem.Within mA (fs.map (·.1))
 | .own _=>∃o,h.get? a=some o
 | .xd fs=>∃mA,h.Ns1 a mA/\∀f,yC (fs.lookup f) (mA f)
 | .rng lo hi=>∃t u v,h.get? a=some {cls:=.type "range",data:=.fields #[.int lo t,.int hi u,.int 1 v]}
 | .vX o u=>h.get? a=some o/\jd H h a u
 | .tbl ps=>h.get? a=some {cls:=.none,data:=.fields ps}
 | .met f x=>h.get? a=some (PySem.W.methodObj (.ref f) (.ref x))
 | .ext φ=>φ h/\(∃o,h.get? a=some o)/\∀h1 h2:Heap,φ h1->(∀o,h1.get? a=some o->h2.get? a=some o)->φ h2
def wF(H:Hp)(h:Heap):Prop:=∀a o,H a=some o->jd P w H h a o
end
section
variable {P:Program} {w:World} {H H':Hp} {h h':Heap} {a:Addr} {o:HO}
theorem jd.lt(x:jd P w H h a o):a < h.objs.size:=by
 cases o with
 | lst xs=>obtain⟨_,_,_,_,e⟩:=x;exact aap e
 | tup xs=>obtain⟨_,_,_,p⟩:=x;exact p.lt
 | dK kvs=>obtain⟨_,_,_,_,o,_,_,e,_⟩:=x;exact aap e
 | dT kvs=>obtain⟨_,_,_,_,o,_,_,e,_⟩:=x;exact aap e
 | set S n=>obtain⟨o,_,_,_,e,_⟩:=x;exact aap e
 | ins C dx fs=>obtain⟨_,_,_,e,_⟩:=x;exact aap e
 | own y=>obtain⟨_,e⟩:=x;exact aap e
 | xd fs=>obtain⟨_,⟨_,_,_,e,_⟩,_⟩:=x;exact aap e
 | rng lo hi=>obtain⟨_,_,_,e⟩:=x;exact aap e
 | vX ob u=>obtain⟨e,_⟩:=x;exact aap e
 | tbl ps=>exact aap (show h.get? a=some _ from x)
 | met f y=>exact aap (show h.get? a=some _ from x)
 | ext φ=>obtain⟨_,⟨_,e⟩,_⟩:=x;exact aap e
theorem Paired.Vv{α β:Type}{F G:α->β->Prop}:∀{l₁:List α} {l₂:List β},Paired F l₁ l₂->(∀a b,F a b->G a b)->Paired G l₁ l₂
 | _,_,.nil,_=>.nil
 | _,_,.cons r t,f=>.cons (f _ _ r) (Paired.Vv t f)
theorem jd.DF(x:jd P w H h a o)(k:∀b u,(b=a∨H b=some (.own a))->h.get? b=some u->h'.get? b=some u)
  (ho:∀b,H b=some (.own a)->H' b=some (.own a)) (ht:∀b xs,H b=some (.tup xs)->H' b=some (.tup xs)):jd P w H' h' a o:=by
 induction o with
 | lst xs=>obtain⟨z,its,n,r,e⟩:=x;exact⟨z,its,n,r,k _ _ (.inl rfl) e⟩
 | tup xs=>obtain⟨z,its,r,ob,e,c⟩:=x;exact⟨z,its,r,ob,k _ _ (.inl rfl) e,c⟩
 | dK kvs=>obtain⟨z,y,vs,r,ob,es,ep,e,c⟩:=x;exact⟨z,y,vs,r,ob,es,ep,k _ _ (.inl rfl) e,c⟩
 | dT kvs =>
  obtain⟨z,y,xs,r,ob,es,ep,e,c⟩:=x;exact⟨z,y,xs,Paired.Vv r λp q z=>⟨z.1,ht _ _ z.2.1,z.2.2⟩,ob,es,ep,k _ _ (.inl rfl) e,c⟩
 | set S n=>obtain⟨ob,es,ep,t,e,c⟩:=x;exact⟨ob,es,ep,t,k _ _ (.inl rfl) e,c⟩
 | ins C dx fs =>
  obtain⟨d,z,ne,e,mA,⟨od,es,ep,e2,c⟩,r⟩:=x;exact⟨ho _ d,z,ne,k _ _ (.inl rfl) e,mA,⟨od,es,ep,k _ _ (.inr d) e2,c⟩,r⟩
 | own y=>obtain⟨ob,e⟩:=x;exact⟨ob,k _ _ (.inl rfl) e⟩
 | xd fs=>obtain⟨mA,⟨od,es,ep,e,c⟩,r⟩:=x;exact⟨mA,⟨od,es,ep,k _ _ (.inl rfl) e,c⟩,r⟩
 | rng lo hi=>obtain⟨t,u,v,e⟩:=x;exact⟨t,u,v,k _ _ (.inl rfl) e⟩
 | vX ob u ih=>obtain⟨e,q⟩:=x;exact⟨k _ _ (.inl rfl) e,ih q⟩
 | tbl ps =>
  have e:h.get? a=some {cls:=.none,data:=.fields ps}:=x;show h'.get? a=some {cls:=.none,data:=.fields ps};exact k a _ (.inl rfl) e
 | met f y =>
  have e:h.get? a=some (PySem.W.methodObj (.ref f) (.ref y)):=x;show h'.get? a=some (PySem.W.methodObj (.ref f) (.ref y));exact k a _ (.inl rfl) e
 | ext φ=>obtain⟨p,⟨o,e⟩,st⟩:=x;exact⟨st _ _ p λo q=>k _ _ (.inl rfl) q,⟨o,k _ _ (.inl rfl) e⟩,st⟩
theorem wF.lt(x:wF P w H h)(e:H a=some o):a < h.objs.size:=(x a o e).lt
theorem wF.fresh(x:wF P w H h)(e:h.objs.size<=a):H a=none:=by
 cases q:H a with
 | none=>rfl
 | some u=>exact absurd (aao (x.lt q) e) (abf _)
theorem wF.kept(x:wF P w H h)(k:∀b u,h.get? b=some u->h'.get? b=some u):wF P w H h':=λa o e =>
 (x a o e).DF (λb u _ q=>k b u q) (λ_ q=>q) λ_ _ q=>q
theorem wF.laid(x:wF P w H h)(k:∀b u,h.get? b=some u->h'.get? b=some u)(hp:h.objs.size<=a)(new:jd P w (upd H a o) h' a o):wF P w (upd H a o) h':=λb u e=>by
 have hn:=x.fresh hp;by_cases hb:b=a
 ·subst hb;rw[uS]at e;cases e;exact new
 ·rw[uN hb]at e;exact(x b u e).DF (λc v _ q=>k c v q) (λc q=>by rw[uN (nN q hn)];exact q) λc xs q=>by rw[uN (nN q hn)];exact q
end
def Rd(H:Hp)(a:Addr)(u:HO):Prop:=H a=some u∨∃o,H a=some (.vX o u)
theorem Rd.ok{P:Program}{w:World}{H:Hp}{h:Heap}{a:Addr}{u:HO}(r:Rd H a u)(x:wF P w H h):jd P w H h a u:=by
 rcases r with r | ⟨o,r⟩
 ·exact x a u r
 ·obtain⟨_,q⟩:=x a _ r;exact q
def XE:Option HO->Prop
 | some (.lst _)=>True
 | some (.dK _)=>True
 | some (.dT _)=>True
 | some (.set _ _)=>True
 | some (.ins _ _ _)=>True
 | some (.ext _)=>True
 | _=>False
section
variable {P:Program} {w:World} {H:Hp} {h h':Heap} {x e:Addr} {o':HO}
theorem wF.write(ok:wF P w H h)(mu:XE (H x))(he:e=x∨H e=some (.own x))(k:∀b u,b≠e->h.get? b=some u->h'.get? b=some u)(heo:∃u,h'.get? e=some u)
  (new:jd P w (upd H x o') h' x o'):wF P w (upd H x o') h':=λb u q=>by
 have nown:∀c y,H c=some (.own y)->c≠x:=λc y r z=>by subst z;rw[r]at mu;exact mu
 have ntup:∀c xs,H c=some (.tup xs)->c≠x:=λc xs r z=>by subst z;rw[r]at mu;exact mu
 by_cases hb:b=x
 ·subst hb;rw[uS]at q;cases q;exact new
 ·rw[uN hb]at q;by_cases hbe:b=e
  ·have q':H b=some (.own x):=by
    rcases he with z | z
    ·exact absurd (hbe.trans z) hb
    ·rw[hbe];exact z
   rw[q]at q';cases q';obtain⟨v,hv⟩:=heo;exact⟨v,by rw[hbe];exact hv⟩
  ·refine(ok b u q).DF (λc v hc r=>k c v ?_ r) (λc r=>by rw[uN (nown c b r)];exact r) λc xs r=>by rw[uN (ntup c xs r)];exact r
   rcases hc with rfl | hc
   ·exact hbe
   ·rintro rfl;rcases he with z | z
    ·exact nown c b hc z
    ·rw[hc]at z;cases z;exact hb rfl
end
structure Un(fs ex:List Addr)(H H':Hp)(h h':Heap):Prop where
 keep:∀b o,h.get? b=some o->H b=none->b∉fs->b∉ex->h'.get? b=some o
 slot:∀b o,h.get? b=some o->H b=none->b∈fs->b∉ex->∃sl,h'.get? b=some {o with slots:=sl}
 free:∀b o,h.get? b=some o->H b=none->b∉ex->H' b=none
 there:∀b o,h.get? b=some o->b∉ex->∃o',h'.get? b=some o'
 tups:∀b xs,H b=some (.tup xs)->H' b=some (.tup xs)
 mv:∀b o u,H b=some (.vX o u)->H' b=some (.vX o u)
 tbls:∀b ps,H b=some (.tbl ps)->∃more,H' b=some (.tbl (ps++more))
section
variable {fs fs' ex ex':List Addr} {H H1 H2:Hp} {h h1 h2 h':Heap} {a x e:Addr} {o:HO}
theorem Un.any(u:Un fs ex H H1 h h1){b:Addr}{ob:Obj}(q:h.get? b=some ob)(n:H b=none)(hx:b∉ex):∃sl,h1.get? b=some {ob with slots:=sl}:=by
 by_cases hb:b∈fs
 ·exact u.slot b ob q n hb hx
 ·exact⟨ob.slots,u.keep b ob q n hb hx⟩
theorem Un.kept(k:∀b u,h.get? b=some u->h'.get? b=some u):Un fs ex H H h h' :=
 ⟨λb ob q _ _ _=>k b ob q,λb ob q _ _ _=>⟨ob.slots,k b ob q⟩,λ_ _ _ n _=>n,λb ob q _=>⟨ob,k b ob q⟩,λ_ _ q=>q,λ_ _ _ q=>q,λ_ ps q=>⟨#[],by rw[q];simp⟩⟩
theorem Un.refl:Un fs ex H H h h:=Un.kept λ_ _ q=>q
theorem Un.laid(k:∀b u,h.get? b=some u->h'.get? b=some u)(hp:h.objs.size<=a)(hn:H a=none):Un fs ex H (upd H a o) h h' where
 keep:=λb u q _ _ _=>k b u q
 slot:=λb u q _ _ _=>⟨u.slots,k b u q⟩
 free:=λb u q n _=>by rw[uN (aax (aao (aap q) hp))];exact n
 there:=λb u q _=>⟨u,k b u q⟩
 tups:=λb xs q=>by rw[uN (nN q hn)];exact q
 mv:=λb u xs q=>by rw[uN (nN q hn)];exact q
 tbls:=λb ps q=>⟨#[],by rw[uN (nN q hn),q];simp⟩
theorem Un.write(mu:XE (H x))(he:e=x∨H e=some (.own x))(k:∀b u,b≠e->h.get? b=some u->h'.get? b=some u)(heo:∃u,h'.get? e=some u):Un fs ex H (upd H x o) h h':=by
 have hx:∀b,H b=none->b≠x:=λb n z=>by subst z;rw[n]at mu;exact mu
 have hb:∀b,H b=none->b≠e:=λb n z=>by
  subst z;rcases he with r | r
  ·exact hx b n r
  ·rw[n]at r;cases r
 have hm:∀b u,H b=some u->¬ XE (some u)->b≠x:=λb u q nm z=>by subst z;rw[q]at mu;exact nm mu
 refine⟨λb u q n _ _=>k b u (hb b n) q,λb u q n _ _=>⟨u.slots,k b u (hb b n) q⟩,λb u q n _=>by rw[uN (hx b n)];exact n,λb u q _=>?_,
  λb xs q=>by rw[uN (hm b _ q λz=>z)];exact q,λb u xs q=>by rw[uN (hm b _ q λz=>z)];exact q,λb ps q=>⟨#[],by rw[uN (hm b _ q λz=>z),q];simp⟩⟩
 by_cases hbe:b=e
 ·subst hbe;exact heo
 ·exact⟨u,k b u hbe q⟩
end
def XF(h:Heap)(H:Hp):List Addr:=(List.range h.objs.size).filter λa=>(H a).isSome
def zS(h:Heap)(H:Hp):Heap:=PySem.W.hideAll h (XF h H)
theorem GR(h:Heap)(H:Hp):(zS h H).objs.size=h.objs.size:=PySem.W.hideAll_size _ _
theorem JH{h:Heap}{H:Hp}{b:Addr}{o:Obj}(e:h.get? b=some o)(n:H b=none):(zS h H).get? b=some o :=
 PySem.W.hideAll_get _ e λhm=>by
  have q:(H b).isSome=true:=(List.mem_filter.mp hm).2;rw[n]at q;simp at q
theorem NW{h:Heap}{H:Hp}{b:Addr}{o:Obj}(e:(zS h H).get? b=some o):h.get? b=some o/\H b=none:=by
 have e':h.get? b=some o:=PySem.W.of_hideAll (XF h H) e;refine⟨e',?_⟩
 cases q:H b with
 | none=>rfl
 | some x =>
  have hm:b∈XF h H:=List.mem_filter.mpr ⟨List.mem_range.mpr (Heap.lt_size e'),by simp[q]⟩;have z:(zS h H).get? b=none:=PySem.W.hideAll_none (XF h H) hm;rw[z]at e;cases e
def NX(g h:Heap)(L:Addr):List (Addr×Obj):=(List.range h.objs.size).filterMap λa=>if a=L∨(g.get? a).isSome=true then none else(h.get? a).map λo=>(a,o)
def rest(g h:Heap)(L d:Addr):List (Addr×Obj):=(NX g h L).filter λp=>decide (p.1≠d)
structure Mod(K:ax)(mg:Str->Option Value)(base:Heap):Prop where
 kin:K.In base
 glob:base.Ns mainGlobals mg
 blt:∃mb,base.Ns builtinsNs mb/\∀x:Str,x≠"__name__"->mb x=bootBuiltins x
 nolimit:base.NoLimit
structure Cx where
 prog:Program
 w:World
 K:ax
 mg:Str->Option Value
 base:Heap
 A:Around
 N:List Str
 s₀:Shared
 H₀:Hp
 env:Env
 outer:List Env
 stack:List Env
 ex:List Addr
 fn:Str->Bool
 calm:Bool
 pn:List (Addr×Obj)
 xe:Value->Shared->Prop
def bT(l:List Env):List Addr:=l.filterMap (·.frame)
abbrev Cx.fs(X:Cx):List Addr:=bT X.outer
def XG(sc:Scope)(x:Str):Prop:=sc.names.lookup x=some .local∨sc.names.lookup x=some .cell∨sc.names.lookup x=some .free
def Loc(sc:Scope)(x:Str):Prop:=sc.names.lookup x=some .local∨sc.names.lookup x=some .cell
def Look(env:Env)(h:Heap)(m:Str->Option Value)(x:Str)(u:Value):Prop :=
 (env.kindOf x=some .local/\m x=some u)∨((env.kindOf x=some .cell∨env.kindOf x=some .free)/\∃c,env.cells.lookup x=some c/\h.IsCell c (some u))
structure Cx.Ok(X:Cx):Prop where
 mod:Mod X.K X.mg X.base
 kind:X.env.scope.kind=.function
 glob:X.env.globals=mainGlobals
 blt:X.env.builtins=builtinsNs
 above:X.s₀.heap.objs.size<=X.env.locals
 inj:∀x y c,X.env.cells.lookup x=some c->X.env.cells.lookup y=some c->x=y
 has:∀x,(X.env.kindOf x=some .cell∨X.env.kindOf x=some .free)->∃c,X.env.cells.lookup x=some c
 cab:∀x c,X.fn x=true->X.env.cells.lookup x=some c->X.s₀.heap.objs.size<=c
 hd:X.calm=true->X.A.handled=none
 frames:X.A.frames=some X.stack
 stk:X.stack=X.outer∨(X.stack=X.env::X.outer/\X.env.frame=some X.env.locals)
 exf:∀b∈X.ex,b≠X.env.locals/\∀x c,X.env.cells.lookup x=some c->c≠b
 bs:∀b o,X.base.get? b=some o->X.s₀.heap.get? b=some o/\X.H₀ b=none
 bsz:X.base.objs.size<=X.s₀.heap.objs.size
 noex:∀b o,X.base.get? b=some o->b∉X.ex
 exfs:∀b∈X.ex,b∉X.fs
 vY:X.s₀.heap.FunFrames X.base X.outer
 frf:∀b∈X.fs,X.H₀ b=none
structure Inv(X:Cx)(pins:List (Addr×Obj))(σ:List (Option V))(H:Hp)(s:Shared):Prop where
 ok:X.Ok
 os:s.os=X.s₀.os
 bare:AllBare s.gens
 base:Un X.fs X.ex X.H₀ H X.s₀.heap s.heap
 loc:∃m,s.heap.Ns X.env.locals m/\∀(i:Nat) (x:Str) (v:V),X.N[i]?=some x->σ[i]?=some (some v)->XG X.env.scope x->∃u,RelV v u/\Look X.env s.heap m x u
 cell:∀x c,X.env.cells.lookup x=some c->∃v,s.heap.IsCell c v
 free:H X.env.locals=none
 freeC:∀x c,X.env.cells.lookup x=some c->H c=none
 pin:∀p∈X.pn++pins,s.heap.get? p.1=some p.2/\H p.1=none/\p.1≠X.env.locals/\p.1∉X.fs/\∀v,p.2.data≠.cell v
 hok:wF X.prog X.w H s.heap
 len:σ.length=X.N.length
section
variable {X:Cx} {pins:List (Addr×Obj)} {σ:List (Option V)} {H H':Hp} {s:Shared} {h':Heap}
theorem Cx.Ok.Yr(ok:X.Ok){b:Addr}{o:Obj}(e:X.base.get? b=some o):b∉X.fs:=λhb=>by
 have:=(ok.vY.mem hb).1;rw[e]at this;cases this
theorem Inv.bs(I:Inv X pins σ H s):∀b o,X.base.get? b=some o->s.heap.get? b=some o/\H b=none:=λb o e =>
 ⟨I.base.keep b o (I.ok.bs b o e).1 (I.ok.bs b o e).2 (I.ok.Yr e) (I.ok.noex b o e),I.base.free b o (I.ok.bs b o e).1 (I.ok.bs b o e).2 (I.ok.noex b o e)⟩
theorem Inv.bk(I:Inv X pins σ H s):∀b o,X.base.get? b=some o->s.heap.get? b=some o:=λb o e=>(I.bs b o e).1
theorem Inv.mod(I:Inv X pins σ H s):Mod X.K X.mg X.base:=I.ok.mod
theorem Inv.yz(I:Inv X pins σ H s):X.K.In s.heap:=I.ok.mod.kin.keeps I.bk
theorem Inv.lt(I:Inv X pins σ H s):X.env.locals < s.heap.objs.size:=let ⟨_,hn,_⟩:=I.loc;hn.lt
theorem Inv.sz(I:Inv X pins σ H s):X.s₀.heap.objs.size<=s.heap.objs.size:=aaO I.ok.above (aaX I.lt)
theorem Inv.Ys(I:Inv X pins σ H s){a:Addr}(h:s.heap.objs.size<=a):a∉X.fs:=λhb=>by
 obtain⟨_,o,ho,_⟩:=I.ok.vY.mem hb;exact absurd (aao (aap ho) (aaO I.sz h)) (abf _)
theorem Inv.Sj(I:Inv X pins σ H s):∀x c,X.env.cells.lookup x=some c->c≠X.env.locals:=λx c e z=>by
 obtain⟨v,o,ho,hd⟩:=I.cell x c e;obtain⟨m,⟨o',es,ep,ho',hd',_⟩,_⟩:=I.loc;rw[z,ho']at ho;cases ho;rw[hd']at hd;cases hd
theorem Inv.vY(I:Inv X pins σ H s):s.heap.FunFrames X.base X.outer:=by
 have all:∀(l:List Env),(∀b∈bT l,b∈X.fs)->X.s₀.heap.FunFrames X.base l->s.heap.FunFrames X.base l:=by
  intro l
  induction l with
  | nil=>intro _ _;trivial
  | cons env r ih =>
   intro hs hl;obtain⟨hk,⟨L,o,hf,hn,ho,hd⟩,hr⟩:=hl;have hL:L∈X.fs:=hs L (by unfold bT;rw[List.filterMap_cons,hf];exact List.mem_cons_self);obtain⟨sl,e⟩:=I.base.slot L o ho (I.ok.frf L hL) hL λz=>I.ok.exfs L z hL
   exact⟨hk,⟨L,_,hf,hn,e,hd⟩,ih (λb hb=>hs b (by unfold bT;rw[List.filterMap_cons,hf];exact List.mem_cons_of_mem _ hb)) hr⟩
 exact all X.outer (λ_ hb=>hb) I.ok.vY
theorem Inv.stack(I:Inv X pins σ H s):s.heap.FunFrames X.base X.stack:=by
 rcases I.ok.stk with e | ⟨e,hf⟩
 ·rw[e];exact I.vY
 ·rw[e];obtain⟨m,hn,_⟩:=I.loc;refine .cons (by rw[I.ok.kind];decide) hf hn ?_ I.vY;exact Heap.get?_none_of_le (aaO I.ok.bsz I.ok.above)
theorem Inv.DG(I:Inv X pins σ H s):∀b∈bT X.stack,b∈X.env.locals::X.fs:=λb hb=>by
 rcases I.ok.stk with e | ⟨e,hf⟩
 ·rw[e]at hb;exact aaF _ hb
 ·rw[e]at hb;unfold bT at hb;rw[List.filterMap_cons,hf]at hb;exact hb
theorem Inv.FD(I:Inv X pins σ H s):∀b∈bT X.stack,H b=none:=λb hb=>by
 rcases aam.mp (I.DG b hb)with e | hb
 ·rw[e];exact I.free
 ·obtain⟨_,o,ho,_⟩:=I.ok.vY.mem hb;exact I.base.free b o ho (I.ok.frf b hb) λz=>I.ok.exfs b z hb
theorem Inv.step{g':Array GenState}{t':Nat}{d':Drawn}{ch:List Addr}(I:Inv X pins σ H s)
  (hch:∀b∈ch,(b∈X.ex∨X.s₀.heap.objs.size<=b)/\b≠X.env.locals/\(∀x c,X.env.cells.lookup x=some c->c≠b)/\∀p∈X.pn++pins,p.1≠b)
  (keep:∀b o,b≠X.env.locals->b∉X.fs->b∉ch->s.heap.get? b=some o->H b=none->h'.get? b=some o)
  (slot:∀b o,b≠X.env.locals->b∈X.fs->b∉ch->s.heap.get? b=some o->H b=none->∃sl,h'.get? b=some {o with slots:=sl}) (free:∀b o,b∉ch->s.heap.get? b=some o->H b=none->H' b=none)
  (there:∀b o,b∉ch->s.heap.get? b=some o->∃o',h'.get? b=some o')
  (tups:∀b xs,H b=some (.tup xs)->H' b=some (.tup xs)) (mv:∀b o u,H b=some (.vX o u)->H' b=some (.vX o u)) (tbls:∀b ps,H b=some (.tbl ps)->∃more,H' b=some (.tbl (ps++more)))
  (ns:∀m,s.heap.Ns X.env.locals m->h'.Ns X.env.locals m) (hok:wF X.prog X.w H' h') (hg:AllBare g') :
  Inv X pins σ H' {s with heap:=h',gens:=g',drawn:=d',toks:=t'}:=by
 have neL:∀b o,X.s₀.heap.get? b=some o->b≠X.env.locals:=λb o e=>aax (aao (aap e) I.ok.above)
 have neC:∀b o,X.s₀.heap.get? b=some o->b∉X.ex->b∉ch:=λb o e hx hb=>by
  rcases (hch b hb).1 with z | z
  ·exact hx z
  ·exact absurd (aao (aap e) z) (abf _)
 have cellK:∀x c,X.env.cells.lookup x=some c->∀v,s.heap.IsCell c v->h'.IsCell c v:=λx c e v ⟨o,ho,hd⟩=>by
  have nch:c∉ch:=λz=>(hch c z).2.2.1 x c e rfl
  by_cases hc:c∈X.fs
  ·obtain⟨sl,q⟩:=slot c o (I.Sj x c e) hc nch ho (I.freeC x c e);exact⟨_,q,hd⟩
  ·exact⟨o,keep c o (I.Sj x c e) hc nch ho (I.freeC x c e),hd⟩
 refine⟨I.ok,I.os,hg,⟨λb o e n hb hx=>?_,λb o e n hb hx=>?_,λb o e n hx=>?_,λb o e hx=>?_,λb xs e=>tups b xs (I.base.tups b xs e),λb o xs e=>mv b o xs (I.base.mv b o xs e),λb ps e=>?_⟩,?_,λx c e=>?_,?_,λx c e=>?_,λp hp=>?_,hok,I.len⟩
 ·exact keep b o (neL b o e) hb (neC b o e hx) (I.base.keep b o e n hb hx) (I.base.free b o e n hx)
 ·obtain⟨sl,e1⟩:=I.base.slot b o e n hb hx;obtain⟨sl',e2⟩:=slot b _ (neL b o e) hb (neC b o e hx) e1 (I.base.free b o e n hx);exact⟨sl',e2⟩
 ·obtain⟨o',e1⟩:=I.base.there b o e hx;exact free b o' (neC b o e hx) e1 (I.base.free b o e n hx)
 ·obtain⟨o',e1⟩:=I.base.there b o e hx;exact there b o' (neC b o e hx) e1
 ·obtain⟨m1,e1⟩:=I.base.tbls b ps e;obtain⟨m2,e2⟩:=tbls b _ e1;exact⟨m1++m2,by rw[e2,Array.append_assoc]⟩
 ·obtain⟨m,hn,hl⟩:=I.loc;refine⟨m,ns m hn,λi x v e1 e2 e3=>?_⟩;obtain⟨u,r,l⟩:=hl i x v e1 e2 e3;refine⟨u,r,?_⟩;rcases l with l | ⟨k,c,e,z⟩
  ·exact .inl l
  ·exact .inr ⟨k,c,e,cellK x c e _ z⟩
 ·obtain⟨v,z⟩:=I.cell x c e;exact⟨v,cellK x c e v z⟩
 ·obtain⟨m,⟨o,_,_,ho,_⟩,_⟩:=I.loc;exact free _ o (λz=>(hch _ z).2.1 rfl) ho I.free
 ·obtain⟨v,o,ho,hd⟩:=I.cell x c e;exact free c o (λz=>(hch c z).2.2.1 x c e rfl) ho (I.freeC x c e)
 ·obtain⟨e,n,ne,nf,d⟩:=I.pin p hp;have nch:p.1∉ch:=λz=>(hch p.1 z).2.2.2 p hp rfl
  exact⟨keep p.1 p.2 ne nf nch e n,free p.1 p.2 nch e n,ne,nf,d⟩
theorem Inv.un{t':Nat}(I:Inv X pins σ H s)(u:Un X.fs [] H H' s.heap h')(hok:wF X.prog X.w H' h'):Inv X pins σ H' {s with heap:=h',toks:=t'}:=by
 obtain⟨m,⟨o,es,ep,ho,r⟩,_⟩:=id I.loc;obtain⟨sl,hL⟩:=u.any ho I.free (by simp)
 exact I.step (g':=s.gens) (d':=s.drawn) (ch:=[]) (λ_ z=>nomatch z) (λb o _ hb _ e n=>u.keep b o e n hb (by simp)) (λb o _ hb _ e n=>u.slot b o e n hb (by simp)) (λb o _ e n=>u.free b o e n (by simp)) (λb o _ e=>u.there b o e (by simp)) u.tups u.mv u.tbls (λm' hm=>by
  obtain⟨o',es',ep',ho',r'⟩:=hm;rw[ho]at ho';cases ho';exact⟨_,es',ep',hL,r'⟩) hok I.bare
theorem Inv.call{g':Array GenState}{t':Nat}{d':Drawn}{ch:List Addr}(I:Inv X pins σ H s)(u:Un (bT X.stack) ch H H' s.heap h')(hok:wF X.prog X.w H' h')(hg:AllBare g')
  (hch:∀b∈ch,(b∈X.ex∨X.s₀.heap.objs.size<=b)/\b≠X.env.locals/\(∀x c,X.env.cells.lookup x=some c->c≠b)/\∀p∈X.pn++pins,p.1≠b) :
  Inv X pins σ H' {s with heap:=h',gens:=g',drawn:=d',toks:=t'}:=by
 obtain⟨m,⟨o,es,ep,ho,r⟩,_⟩:=id I.loc;obtain⟨sl,hL⟩:=u.any ho I.free λz=>(hch _ z).2.1 rfl
 exact I.step (ch:=ch) hch (λb o hL hb hc e n=>u.keep b o e n (λz=>(aam.mp (I.DG b z)).elim hL hb) hc) (λb o _ _ hc e n=>u.any e n hc) (λb o hc e n=>u.free b o e n hc) (λb o hc e=>u.there b o e hc) u.tups u.mv u.tbls (λm' hm=>by
  obtain⟨o',es',ep',ho',r'⟩:=hm;rw[ho]at ho';cases ho';exact⟨_,es',ep',hL,r'⟩) hok hg
theorem Inv.turned{t':Nat}{it:Addr}(I:Inv X pins σ H s)(k:∀b o,b≠it->s.heap.get? b=some o->h'.get? b=some o)(hn:H it=none)(hL:it≠X.env.locals)
  (h1:it∈X.ex∨X.s₀.heap.objs.size<=it) (h2:∀x c,X.env.cells.lookup x=some c->c≠it) (h3:∀p∈X.pn++pins,p.1≠it):Inv X pins σ H {s with heap:=h',toks:=t'}:=by
 have nit:∀b u,H b=some u->b≠it:=λb u e z=>by rw[z,hn]at e;cases e
 refine I.step (g':=s.gens) (d':=s.drawn) (ch:=[it]) (λb hb=>?_) (λb o _ _ hc e _=>k b o (λz=>hc (by simp[z])) e) (λb o _ _ hc e _=>⟨o.slots,k b o (λz=>hc (by simp[z])) e⟩) (λ_ _ _ _ n=>n)
  (λb o hc e=>⟨o,k b o (λz=>hc (by simp[z])) e⟩) (λ_ _ e=>e) (λ_ _ _ e=>e) (λb ps e=>⟨#[],by rw[e];simp⟩) (λm hm=>?_) (λb u e=>?_) I.bare
 ·have e:b=it:=by simpa using hb
  subst e;exact⟨h1,hL,h2,h3⟩
 ·obtain⟨o,es,ep,ho,r⟩:=hm;exact⟨o,es,ep,k _ o (acF hL) ho,r⟩
 ·refine(I.hok b u e).DF (λc v hc q=>k c v ?_ q) (λ_ q=>q) λ_ _ q=>q
  rcases hc with z | z
  ·rw[z];exact nit b u e
  ·exact nit c _ z
theorem Inv.tok(I:Inv X pins σ H s)(t:Nat):Inv X pins σ H {s with toks:=t}:=I.un (h':=s.heap) (t':=t) Un.refl I.hok
theorem Inv.kept{t':Nat}(I:Inv X pins σ H s)(k:∀b u,s.heap.get? b=some u->h'.get? b=some u):Inv X pins σ H {s with heap:=h',toks:=t'}:=I.un (Un.kept k) (I.hok.kept k)
theorem Inv.laid{a:Addr}{o:HO}{t':Nat}(I:Inv X pins σ H s)(k:∀b u,s.heap.get? b=some u->h'.get? b=some u)(hp:s.heap.objs.size<=a)(new:jd X.prog X.w (upd H a o) h' a o):
  Inv X pins σ (upd H a o) {s with heap:=h',toks:=t'}:=I.un (Un.laid k hp (I.hok.fresh hp)) (I.hok.laid k hp new)
theorem Inv.write{x e:Addr}{o:HO}{t':Nat}(I:Inv X pins σ H s)(mu:XE (H x))(he:e=x∨H e=some (.own x))(k:∀b u,b≠e->s.heap.get? b=some u->h'.get? b=some u)(heo:∃u,h'.get? e=some u)
  (new:jd X.prog X.w (upd H x o) h' x o):Inv X pins σ (upd H x o) {s with heap:=h',toks:=t'}:=I.un (Un.write mu he k heo) (I.hok.write mu he k heo new)
theorem Inv.weak{σ':List (Option V)}(I:Inv X pins σ H s)(hl:σ'.length=σ.length)(w:∀(i:Nat) v,σ'[i]?=some (some v)->σ[i]?=some (some v)):Inv X pins σ' H s :=
 ⟨I.ok,I.os,I.bare,I.base,let ⟨m,hn,hl'⟩:=I.loc;⟨m,hn,λi x v e1 e2 e3=>hl' i x v e1 (w i v e2) e3⟩,I.cell,I.free,I.freeC,I.pin,I.hok,hl.trans I.len⟩
theorem Inv.FE{pins':List (Addr×Obj)}(I:Inv X pins σ H s)(h:∀p∈pins',s.heap.get? p.1=some p.2/\H p.1=none/\p.1≠X.env.locals/\p.1∉X.fs/\∀v,p.2.data≠.cell v):Inv X pins' σ H s :=
 ⟨I.ok,I.os,I.bare,I.base,I.loc,I.cell,I.free,I.freeC,λp hp=>(aaQ.mp hp).elim (λz=>I.pin p (abi _ z)) (h p),I.hok,I.len⟩
theorem BI{N:List Str}(hN:N.Nodup){i j:Nat}{x:Str}(a:N[i]?=some x)(b:N[j]?=some x):i=j:=by
 obtain⟨h1,e1⟩:=bU a;obtain⟨h2,e2⟩:=bU b;exact(List.getElem_inj hN).mp (e1.trans e2.symm)
theorem za{M:Model}{A:Around}{E:Value->Shared->Prop}{i:Nat}{x:Str}{v:V}{u:Value}{Q:Unit->Shared->Prop}(I:Inv X pins σ H s)(hN:X.N.Nodup)(hi:X.N[i]?=some x)(hx:Loc X.env.scope x)(r:RelV v u)
  (h:∀s',Inv X pins (σ.set i (some v)) H s'->(∃a,Heap.SameBut a s.heap s'.heap/\(a=X.env.locals∨X.env.cells.lookup x=some a))->Q () s') (hf:X.fn x=true∨X.env.scope.names.lookup x=some .local:=by first | exact .inl rfl | exact .inr rfl | assumption):wpAny M A (storeName X.env x u) Q E s:=by
 obtain⟨m,hn,hl⟩:=id I.loc;have hcls:(X.env.scope.kind == .class||(X.env.scope.kind == .module&&X.env.locals != X.env.globals))=false:=by rw[I.ok.kind];rfl
 have hiσ:i < σ.length:=by rw[I.len];exact(bU hi).1
 have Sj:=I.Sj
 have tracked:∀{a:Addr} {h':Heap},(∃o,s.heap.get? a=some o/\H a=none)->Heap.SameBut a s.heap h'->wF X.prog X.w H h':=λ{a h'} ha hs b ob e=>by
  obtain⟨_,_,hfree⟩:=ha;refine(I.hok b ob e).DF (λc w' hc q=>(hs.2 c ?_).trans q) (λ_ q=>q) λ_ _ q=>q
  rintro rfl;rcases hc with rfl | hc
  ·rw[hfree]at e;cases e
  ·rw[hfree]at hc;cases hc
 rcases hx with hk | hk
 ·refine wpAny_storeName_local hk hn (λh' hn' hs=>?_) hcls;obtain⟨oL,_,_,hoL,_⟩:=id hn;refine h _ ⟨I.ok,I.os,I.bare,⟨λb o e n hb hx=>?_,λb o e n hb hx=>?_,I.base.free,λb o e hx=>?_,I.base.tups,I.base.mv,I.base.tbls⟩,⟨_,hn',λj y v' e1 e2 e3=>?_⟩,λy c e=>?_,I.free,I.freeC,λp hp=>?_,tracked ⟨oL,hoL,I.free⟩ hs,by simpa using I.len⟩ ⟨_,hs,.inl rfl⟩
  ·exact(hs.2 b (aax (aao (aap e) I.ok.above))).trans (I.base.keep b o e n hb hx)
  ·obtain⟨sl,e1⟩:=I.base.slot b o e n hb hx;exact⟨sl,(hs.2 b (aax (aao (aap e) I.ok.above))).trans e1⟩
  ·obtain⟨o',e1⟩:=I.base.there b o e hx;exact⟨o',(hs.2 b (aax (aao (aap e) I.ok.above))).trans e1⟩
  ·by_cases hj:j=i
   ·subst hj;rw[hi]at e1;cases e1;rw[List.getElem?_set_self hiσ]at e2;cases e2;exact⟨u,r,.inl ⟨hk,by simp⟩⟩
   ·rw[aay (acF hj)]at e2;obtain⟨u',r',q⟩:=hl j y v' e1 e2 e3;refine⟨u',r',?_⟩;rcases q with⟨k,e⟩ | ⟨k,c,e,z⟩
    ·refine .inl ⟨k,?_⟩;have:y≠x:=λe=>hj (BI hN e1 (e ▸ hi))
     simp[this,e]
    ·exact .inr ⟨k,c,e,z.sameBut hs (Sj y c e)⟩
  ·obtain⟨w',z⟩:=I.cell y c e;exact⟨w',z.sameBut hs (Sj y c e)⟩
  ·obtain⟨e,n,ne,nf,d⟩:=I.pin p hp;exact⟨(hs.2 p.1 ne).trans e,n,ne,nf,d⟩
 ·have hfn:X.fn x=true:=by
   rcases hf with z | z
   ·exact z
   ·rw[z]at hk;cases hk
  obtain⟨c,hc⟩:=I.ok.has x (.inl hk);obtain⟨w',z⟩:=I.cell x c hc;refine wpAny_storeName_cell I.ok.kind hk hc z (λh' hc' hs=>?_);obtain⟨oc,hoc,hocd⟩:=id z;refine h {s with heap:=h'} ⟨I.ok,I.os,I.bare,⟨λb o e n hb hx=>?_,λb o e n hb hx=>?_,I.base.free,λb o e hx=>?_,I.base.tups,I.base.mv,I.base.tbls⟩,⟨m,hn.sameBut hs (Ne.symm (Sj x c hc)),λj y v' e1 e2 e3=>?_⟩,λy c' e=>?_,I.free,I.freeC,λp hp=>?_,tracked ⟨oc,hoc,I.freeC x c hc⟩ hs,by simpa using I.len⟩ ⟨c,hs,.inr hc⟩
  ·exact(hs.2 b (aax (aao (aap e) (I.ok.cab x c hfn hc)))).trans (I.base.keep b o e n hb hx)
  ·obtain⟨sl,e1⟩:=I.base.slot b o e n hb hx;exact⟨sl,(hs.2 b (aax (aao (aap e) (I.ok.cab x c hfn hc)))).trans e1⟩
  ·obtain⟨o',e1⟩:=I.base.there b o e hx;exact⟨o',(hs.2 b (aax (aao (aap e) (I.ok.cab x c hfn hc)))).trans e1⟩
  ·by_cases hj:j=i
   ·subst hj;rw[hi]at e1;cases e1;rw[aau hiσ]at e2;cases e2;exact⟨u,r,.inr ⟨.inl hk,c,hc,hc'⟩⟩
   ·rw[aay (acF hj)]at e2;obtain⟨u',r',q⟩:=hl j y v' e1 e2 e3;refine⟨u',r',?_⟩;rcases q with q | ⟨k,c',e,z'⟩
    ·exact .inl q
    ·refine .inr ⟨k,c',e,z'.sameBut hs ?_⟩;rintro rfl;exact hj (BI hN e1 (I.ok.inj _ _ _ e hc ▸ hi))
  ·by_cases hcc:c'=c
   ·subst hcc;exact⟨_,hc'⟩
   ·obtain⟨w2,z2⟩:=I.cell y c' e;exact⟨w2,z2.sameBut hs hcc⟩
  ·obtain⟨e,n,ne,nf,d⟩:=I.pin p hp;refine⟨(hs.2 p.1 ?_).trans e,n,ne,nf,d⟩;intro q;rw[q,hoc]at e;have q':oc=p.2:=aaE e;exact d w' (by rw[← q'];exact hocd)
theorem BJ{M:Model}{A:Around}{E:Value->Shared->Prop}{i:Nat}{x:Str}{v:V}{u:Value}{Q:Unit->Shared->Prop}(I:Inv X pins σ H s)(hN:X.N.Nodup)(hi:X.N[i]?=some x)(hx:Loc X.env.scope x)(r:RelV v u)
  (h:∀s',Inv X pins (σ.set i (some v)) H s'->Q () s') (hf:X.fn x=true∨X.env.scope.names.lookup x=some .local:=by first | exact .inl rfl | exact .inr rfl | assumption):wpAny M A (storeName X.env x u) Q E s :=
 za I hN hi hx r (λs' I' _=>h s' I') hf
theorem Inv.Vw{s':Shared}{ch:List Addr}(I:Inv X pins σ H s)(ho:s'.os=s.os)(u:Un (bT X.stack) ch H H' s.heap s'.heap)(hok:wF X.prog X.w H' s'.heap)(hg:AllBare s'.gens)
  (hch:∀b∈ch,(b∈X.ex∨X.s₀.heap.objs.size<=b)/\b≠X.env.locals/\(∀x c,X.env.cells.lookup x=some c->c≠b)/\∀p∈X.pn++pins,p.1≠b):Inv X pins σ H' s':=by
 obtain⟨h',g',d',t',o'⟩:=s';have e:o'=s.os:=ho;subst e;exact I.call (g':=g') (t':=t') (d':=d') u hok hg hch
end
abbrev XK:=Value->Option Addr->Hp->Prop
abbrev St:=List (Option V)
abbrev VK:=V->Hp->Prop
abbrev TE:=St->Hp->VK->Prop
abbrev TT:=St->Hp->(Bool->Hp->Prop)->Prop
abbrev TA:=St->Hp->(List V->Hp->Prop)->Prop
structure Ends where
 nx:St->Hp->Prop
 rt:VK
 bk:St->Hp->Prop:=λ_ _=>False
 ct:St->Hp->Prop:=λ_ _=>False
abbrev TS:=Ends->St->Hp->Prop
def EP(X:Cx)(pins:List (Addr×Obj))(σ:St)(Q:VK)(u:Value)(s':Shared):Prop:=∃v H',Inv X pins σ H' s'/\RelV v u/\Q v H'
def TP(X:Cx)(pins:List (Addr×Obj))(σ:St)(Q:Bool->Hp->Prop)(b:Bool)(s':Shared):Prop:=∃H',Inv X pins σ H' s'/\Q b H'
def AP(X:Cx)(pins:List (Addr×Obj))(σ:St)(Q:List V->Hp->Prop)(us:List Value)(s':Shared):Prop:=∃vs H',Inv X pins σ H' s'/\Vals vs us/\Q vs H'
def SP(X:Cx)(pins:List (Addr×Obj))(D:Ends)(f:Flow)(s':Shared):Prop :=
 match f with
 | .next=>∃σ' H',Inv X pins σ' H' s'/\D.nx σ' H'
 | .brk=>∃σ' H',Inv X pins σ' H' s'/\D.bk σ' H'
 | .cont=>∃σ' H',Inv X pins σ' H' s'/\D.ct σ' H'
 | .ret u=>∃v σ' H',Inv X pins σ' H' s'/\RelV v u/\D.rt v H'
def PE(X:Cx)(e:Expr)(t:TE):Prop :=
 ∀(pins:List (Addr×Obj)) (s:Shared) (σ:St) (H:Hp) (Q:VK),Inv X pins σ H s->t σ H Q->wpAny (model X.prog X.w) X.A (eval e X.env) (EP X pins σ Q) X.xe s
def PT(X:Cx)(e:Expr)(t:TT):Prop :=
 ∀(pins:List (Addr×Obj)) (s:Shared) (σ:St) (H:Hp) (Q:Bool->Hp->Prop),Inv X pins σ H s->t σ H Q->wpAny (model X.prog X.w) X.A (isTrue e X.env (eval e X.env)) (TP X pins σ Q) X.xe s
def PW(X:Cx)(e:Expr)(t:TT):Prop :=
 ∀(whole:Sem Value) (pins:List (Addr×Obj)) (s:Shared) (σ:St) (H:Hp) (Q:Bool->Hp->Prop),Inv X pins σ H s->t σ H Q->wpAny (model X.prog X.w) X.A (isTrue e X.env whole) (TP X pins σ Q) X.xe s
theorem PW.pt{X:Cx}{e:Expr}{t:TT}(h:PW X e t):PT X e t:=h _
def PA(X:Cx)(es:List Expr)(t:TA):Prop :=
 ∀(pos:Pos) (pins:List (Addr×Obj)) (s:Shared) (σ:St) (H:Hp) (Q:List V->Hp->Prop),Inv X pins σ H s->t σ H Q->wpAny (model X.prog X.w) X.A (spliced (backTo pos (starEach es X.env))) (AP X pins σ Q) X.xe s
def PS(X:Cx)(st:Stmt)(t:TS):Prop :=
 ∀(pins:List (Addr×Obj)) (s:Shared) (σ:St) (H:Hp) (D:Ends),Inv X pins σ H s->t D σ H->wpAny (model X.prog X.w) X.A (exec st X.env) (SP X pins D) X.xe s
def BG(X:Cx)(st:List Stmt)(t:TS):Prop :=
 ∀(pins:List (Addr×Obj)) (s:Shared) (σ:St) (H:Hp) (D:Ends),Inv X pins σ H s->t D σ H->wpAny (model X.prog X.w) X.A (execs st X.env) (SP X pins D) X.xe s
theorem c8{α:Type}{t:Sem α}{Q Q':α->Shared->Prop}{M:Model}{A:Around}{E:Value->Shared->Prop}{s:Shared}(h:wpAny M A t Q E s)(hQ:∀a s,Q a s->Q' a s):wpAny M A t Q' E s:=abj h hQ λ_ _ x=>x
section
variable {X:Cx}
def Sk(i:Nat):TE:=λσ H Q=>∃v,σ[i]?=some (some v)/\Q v H
def tC(v:V):TE:=λ_ H Q=>Q v H
theorem JI{i:Nat}{x:Str}{pos:Pos}(hN:X.N[i]?=some x)(hv:XG X.env.scope x)(hd:(x == ("__debug__" : Str))=false:=by decide)(hcd:(x == ("__classdict__" : Str))=false:=by decide):PE X (.Name x pos) (Sk i):=by
 intro pins s σ H Q I h;obtain⟨v,e,h⟩:=h;obtain⟨m,hn,hl⟩:=I.loc;obtain⟨u,r,l⟩:=hl i x v hN e hv;have fin:EP X pins σ Q u s:=⟨v,H,I,r,h⟩;rcases l with⟨hk,hm⟩ | ⟨hk,c,hc,hcell⟩
 ·exact wpAny_Name (wpAny_loadName_local I.ok.kind hk hn hm fin) hd
 ·rcases hk with hk | hk
  ·exact wpAny_Name (wpAny_loadName_cell I.ok.kind hk hc hcell fin) hd
  ·exact wpAny_Name (wpAny_loadName_free I.ok.kind hk hc hcell fin hcd) hd
theorem pI{i j pos}:PE X (.Constant (.int i) j pos) (tC (.int i)):=λ_ _ _ H _ I h=>wpAny_Constant_int ⟨.int i,H,I.tok _,⟨_,rfl⟩,h⟩
theorem uR{b j pos}:PE X (.Constant (.bool b) j pos) (tC (.bl b)):=λ_ _ _ H _ I h=>Constant_bool ⟨.bl b,H,I,rfl,h⟩
theorem je{j pos}:PE X (.Constant .none j pos) (tC .non):=λ_ _ _ H _ I h=>Constant_none ⟨.non,H,I,rfl,h⟩
theorem aV{x j pos}:PE X (.Constant (.str x) j pos) (tC (.str x)):=λ_ _ _ H _ I h=>Calls.Constant_str ⟨.str x,H,I.tok _,⟨_,rfl⟩,h⟩
def Gl(X:Cx)(x:Str):Prop:=X.env.kindOf x=some .globalImplicit
theorem zT{E:Value->Shared->Prop}{pins:List (Addr×Obj)}{s:Shared}{σ:St}{H:Hp}{x:Str}{u:Value}{pos:Pos}{Q:Value->Shared->Prop}(I:Inv X pins σ H s)(hg:Gl X x)(hm:X.mg x=some u)(h:Q u s)
  (hd:(x == ("__debug__" : Str))=false:=by decide):wpAny (model X.prog X.w) X.A (eval (.Name x pos) X.env) Q E s :=
 acv I.ok.kind hg (Calls.loadGlobal_global (by rw[I.ok.glob];exact I.mod.glob.keeps I.bk) hm h) hd
theorem wX{E:Value->Shared->Prop}{pins:List (Addr×Obj)}{s:Shared}{σ:St}{H:Hp}{x:Str}{u:Value}{pos:Pos}{Q:Value->Shared->Prop}(I:Inv X pins σ H s)(hg:Gl X x)(hm:X.mg x=none)(hv:bootBuiltins x=some u)(h:Q u s)
  (hn:x≠"__name__":=by decide) (hd:(x == ("__debug__" : Str))=false:=by decide):wpAny (model X.prog X.w) X.A (eval (.Name x pos) X.env) Q E s:=by
 obtain⟨mb,h1,h2⟩:=I.mod.blt;exact acv I.ok.kind hg (Calls.loadGlobal_builtin (by rw[I.ok.glob];exact I.mod.glob.keeps I.bk) hm (by rw[I.ok.blt];exact h1.keeps I.bk) ((h2 x hn).trans hv) h) hd
theorem i3{x:Str}{v:V}{u:Value}{pos:Pos}(hg:Gl X x)(hm:X.mg x=some u)(r:RelV v u)(hd:(x == ("__debug__" : Str))=false:=by decide):PE X (.Name x pos) (tC v) :=
 λ_ _ _ H _ I h=>zT I hg hm ⟨v,H,I,r,h⟩ hd
theorem NY{x:Str}{v:V}{u:Value}{pos:Pos}(hg:Gl X x)(hm:X.mg x=none)(hv:bootBuiltins x=some u)(r:RelV v u)(hn:x≠"__name__":=by decide)(hd:(x == ("__debug__" : Str))=false:=by decide):PE X (.Name x pos) (tC v) :=
 λ_ _ _ H _ I h=>wX I hg hm hv ⟨v,H,I,r,h⟩ hn hd
variable {a b:Expr} {ta tb:TE} {pos:Pos}
def tB(t:TE):TT:=λσ H Q=>t σ H λx H1=>∃c,x=.bl c/\Q c H1
theorem wY{e:Expr}{t:TE}(h:PE X e t)(he:∀whole,isTrue e X.env whole=(do let v ← whole;standAt e.pos;holding [v] (truthy v)):=by intro _;rfl):PT X e (tB t):=by
 intro pins s σ H Q I hw;refine isTrue_plain (c8 (h pins s σ H _ I hw) λv s1 ⟨x,H1,I1,r1,q1⟩=>?_) (he _);obtain⟨d,rfl,q⟩:=q1;cases r1;exact abg ⟨H1,I1,q⟩
variable {tA tB':TT} {rest:List Expr}
def Vx(t u:TT):TT:=λσ H Q=>t σ H λc H1=>if c=true then u σ H1 Q else Q false H1
def tOr(t u:TT):TT:=λσ H Q=>t σ H λc H1=>if c=true then Q true H1 else u σ H1 Q
def Yt(t:TT):TT:=λσ H Q=>t σ H λc H1=>Q (!c) H1
theorem pw_and1(ha:PT X a tA):PW X (.BoolOp .And [a] pos) tA:=by
 intro wh pins s σ H Q I h;refine isTrue_and (c8 (ha pins s σ H Q I h) λc s1 e=>?_)
 cases c with
 | true=>exact isTrue_and_nil e
 | false=>exact e
theorem pw_or1(ha:PT X a tA):PW X (.BoolOp .Or [a] pos) tA:=by
 intro wh pins s σ H Q I h;refine isTrue_or (c8 (ha pins s σ H Q I h) λc s1 e=>?_)
 cases c with
 | false=>exact isTrue_or_nil e
 | true=>exact e
theorem pw_and(ha:PT X a tA)(hb:PW X (.BoolOp .And (b::rest) pos) tB'):PW X (.BoolOp .And (a::b::rest) pos) (Vx tA tB'):=by
 intro wh pins s σ H Q I h;refine isTrue_and (c8 (ha pins s σ H _ I h) λc s1 ⟨H1,I1,q1⟩=>?_)
 cases c with
 | true=>exact hb wh pins s1 σ H1 Q I1 q1
 | false=>exact⟨H1,I1,q1⟩
theorem pw_or(ha:PT X a tA)(hb:PW X (.BoolOp .Or (b::rest) pos) tB'):PW X (.BoolOp .Or (a::b::rest) pos) (tOr tA tB'):=by
 intro wh pins s σ H Q I h;refine isTrue_or (c8 (ha pins s σ H _ I h) λc s1 ⟨H1,I1,q1⟩=>?_)
 cases c with
 | true=>exact⟨H1,I1,q1⟩
 | false=>exact hb wh pins s1 σ H1 Q I1 q1
theorem zU(ha:PT X a tA):PT X (.UnaryOp .Not a pos) (Yt tA):=by
 intro pins s σ H Q I h;exact isTrue_not (ha pins s σ H (λc H1=>Q (!c) H1) I h)
def Vy(ta tb:TE):TE:=λσ H Q=>ta σ H λx H1=>∃c,x=.bl c/\if c=true then tb σ H1 Q else Q (.bl false) H1
theorem DH{op}{t:TE}(h:PE X a t):PE X (.BoolOp op [a] pos) t:=λpins s σ H Q I hw=>BoolOp_one (h pins s σ H Q I hw)
theorem DJ(ha:PE X a ta)(hb:PE X (.BoolOp .And (b::rest) pos) tb):PE X (.BoolOp .And (a::b::rest) pos) (Vy ta tb):=by
 intro pins s σ H Q I h;refine BoolOp_and (c8 (ha pins s σ H _ I h) λv s1 ⟨x,H1,I1,r1,q1⟩=>?_);obtain⟨c,rfl,q1⟩:=q1;cases r1;refine abg ?_
 cases c with
 | true=>exact hb pins s1 σ H1 Q I1 q1
 | false=>exact⟨.bl false,H1,I1,rfl,q1⟩
def tIf(t:TT)(ta tb:TE):TE:=λσ H Q=>t σ H λc H1=>if c=true then ta σ H1 Q else tb σ H1 Q
theorem BK{c:Expr}(hc:PT X c tA)(ha:PE X a ta)(hb:PE X b tb):PE X (.IfExp c a b pos) (tIf tA ta tb):=by
 intro pins s σ H Q I h;refine wpAny_IfExp (c8 (hc pins s σ H _ I h) λd s1 ⟨H1,I1,q1⟩=>?_)
 cases d with
 | true=>exact ha pins s1 σ H1 Q I1 q1
 | false=>exact hb pins s1 σ H1 Q I1 q1
end
def bt(K:ax)(H:Hp)(a:Addr)(xs:List V):Prop :=
 Rd H a (.lst xs) ∨
  ∃(o:Obj) (its:Array Value) (n:Nat),K.lookup a=some o/\o.cls=.type "list"/\o.dict=none/\o.data=.seq its n/\its.size<=sizeLine/\Vals xs its.toList
def bu(K:ax)(H:Hp)(a:Addr)(xs:List V):Prop :=
 Rd H a (.tup xs) ∨
  ∃(o:Obj) (its:Array Value) (n:Nat),K.lookup a=some o/\o.cls=.type "tuple"/\o.data=.seq its n/\its.size<=sizeLine/\Vals xs its.toList
def Yu:Value->Option V
 | .none=>some .non
 | .bool b=>some (.bl b)
 | .int i _=>some (.int i)
 | .str x _=>some (.str x)
 | .bytes b _=>some (.byt b)
 | .float b _=>some (.flt b)
 | .ref a=>some (.ref a)
 | .type n=>some (.ty n)
 | _=>none
theorem RelV.abs{x:V}{u:Value}(r:RelV x u):Yu u=some x:=by
 cases x with
 | non=>cases r;rfl
 | bl _=>cases r;rfl
 | int _=>obtain⟨t,rfl⟩:=r;rfl
 | str _=>obtain⟨t,rfl⟩:=r;rfl
 | byt _=>obtain⟨t,rfl⟩:=r;rfl
 | flt _=>obtain⟨t,rfl⟩:=r;rfl
 | ref _=>cases r;rfl
 | ty _=>cases r;rfl
theorem RelV.inj{x y:V}{u:Value}(r:RelV x u)(q:RelV y u):x=y:=aaE (r.abs.symm.trans q.abs)
theorem Vals.inj:∀{xs ys:List V} {us:List Value},Vals xs us->Vals ys us->xs=ys
 | _,_,_,.nil,.nil=>rfl
 | _,_,_,.cons r t,.cons r' t'=>by rw[r.inj r',Vals.inj t t']
section
variable {X:Cx} {pins:List (Addr×Obj)} {σ:St} {H:Hp} {s:Shared} {a:Addr} {xs ys:List V}
theorem bt.of{K:ax}(h:H a=some (.lst xs)):bt K H a xs:=.inl (.inl h)
theorem bu.of{K:ax}(h:H a=some (.tup xs)):bu K H a xs:=.inl (.inl h)
theorem Inv.list(I:Inv X pins σ H s)(h:bt X.K H a xs):∃its:List Value,Vals xs its/\PlainL s.heap a its.toArray/\xs.length<=sizeLine:=by
 rcases h with h | ⟨o,its,n,hk,hc,hd,hs,hz,r⟩
 ·obtain⟨z,its,n,r,e⟩:=h.ok I.hok;exact⟨its,r,⟨_,n,e,rfl,rfl,rfl⟩,z⟩
 ·refine⟨its.toList,r,⟨o,n,I.yz a o hk,hc,hd,by simpa using hs⟩,?_⟩;have e:=r.length;simp only[Array.length_toList]at e;omega
theorem Inv.tuple(I:Inv X pins σ H s)(h:bu X.K H a xs):∃its:List Value,Vals xs its/\IsTup s.heap a its.toArray/\xs.length<=sizeLine:=by
 rcases h with h | ⟨o,its,n,hk,hc,hs,hz,r⟩
 ·obtain⟨z,its,r,p⟩:=h.ok I.hok;exact⟨its,r,p,z⟩
 ·refine⟨its.toList,r,⟨o,I.yz a o hk,hc,n,by simpa using hs⟩,?_⟩;have e:=r.length;simp only[Array.length_toList]at e;omega
theorem Inv.JJ(I:Inv X pins σ H s)(h:bt X.K H a xs)(h':bt X.K H a ys):xs=ys:=by
 obtain⟨its,r,⟨o,n,e,_,_,d⟩,_⟩:=I.list h;obtain⟨its',r',⟨o',n',e',_,_,d'⟩,_⟩:=I.list h';rw[e]at e';cases e';rw[d]at d'
 injection d' with d1 _
 have:its=its':=by simpa using congrArg Array.toList d1
 subst this;exact r.inj r'
theorem Inv.GS(I:Inv X pins σ H s)(h:bu X.K H a xs)(h':bu X.K H a ys):xs=ys:=by
 obtain⟨its,r,⟨o,e,_,n,d⟩,_⟩:=I.tuple h;obtain⟨its',r',⟨o',e',_,n',d'⟩,_⟩:=I.tuple h';rw[e]at e';cases e';rw[d]at d'
 injection d' with d1 _
 have:its=its':=by simpa using congrArg Array.toList d1
 subst this;exact r.inj r'
end
abbrev Cx.vZ(X:Cx)(E:Value->Shared->Prop):Cx:={X with xe:=E}
abbrev Cx.XH(X:Cx):Cx:=X.vZ λ_ _=>False
theorem Cx.Ok.vZ{X:Cx}(ok:X.Ok)(E:Value->Shared->Prop):(X.vZ E).Ok :=
 ⟨ok.mod,ok.kind,ok.glob,ok.blt,ok.above,ok.inj,ok.has,ok.cab,ok.hd,ok.frames,ok.stk,ok.exf,ok.bs,ok.bsz,ok.noex,ok.exfs,ok.vY,ok.frf⟩
theorem Cx.Ok.iH{X:Cx}{E:Value->Shared->Prop}(ok:(X.vZ E).Ok):X.Ok :=
 ⟨ok.mod,ok.kind,ok.glob,ok.blt,ok.above,ok.inj,ok.has,ok.cab,ok.hd,ok.frames,ok.stk,ok.exf,ok.bs,ok.bsz,ok.noex,ok.exfs,ok.vY,ok.frf⟩
section
variable {X:Cx} {pins:List (Addr×Obj)} {σ:St} {H:Hp} {s:Shared} {E:Value->Shared->Prop}
theorem Inv.vZ(I:Inv X pins σ H s)(E:Value->Shared->Prop):Inv (X.vZ E) pins σ H s:=⟨I.ok.vZ E,I.os,I.bare,I.base,I.loc,I.cell,I.free,I.freeC,I.pin,I.hok,I.len⟩
theorem Inv.iH(I:Inv (X.vZ E) pins σ H s):Inv X pins σ H s:=⟨I.ok.iH,I.os,I.bare,I.base,I.loc,I.cell,I.free,I.freeC,I.pin,I.hok,I.len⟩
theorem SP.iH{D:Ends}{f:Flow}{s':Shared}(h:SP (X.vZ E) pins D f s'):SP X pins D f s':=by
 cases f with
 | next=>obtain⟨σ',H',I,q⟩:=h;exact⟨σ',H',I.iH,q⟩
 | brk=>obtain⟨σ',H',I,q⟩:=h;exact⟨σ',H',I.iH,q⟩
 | cont=>obtain⟨σ',H',I,q⟩:=h;exact⟨σ',H',I.iH,q⟩
 | ret u=>obtain⟨v,σ',H',I,r,q⟩:=h;exact⟨v,σ',H',I.iH,r,q⟩
theorem BG.XH{st:List Stmt}{t:TS}(h:BG X.XH st t):BG X st t:=λpins s σ H D I hw =>
 abj (h pins s σ H D (I.vZ _) hw) (λ_ _ q=>q.iH) λ_ _ z=>False.elim z
end
section
variable {X:Cx} {st:Stmt} {rest:List Stmt} {t u:TS} {e:Expr} {te:TE} {pos:Pos}
def iu:TS:=λD σ H=>D.nx σ H
def NZ(t u:TS):TS:=λD σ H=>t {D with nx:=u D} σ H
theorem aX:BG X [] iu:=λ_ _ σ H _ I h=>abx ⟨σ,H,I,h⟩
theorem qK(h1:PS X st t)(h2:BG X rest u):BG X (st::rest) (NZ t u):=by
 intro pins s σ H D I h;refine wpAny_execs_cons (c8 (h1 pins s σ H {D with nx:=u D} I h) λf s1 q=>?_)
 cases f with
 | next =>
  obtain⟨σ',H',I',q⟩:=q;exact h2 pins s1 σ' H' D I' q
 | ret v=>exact q
 | brk=>exact q
 | cont=>exact q
theorem qO(h1:PS X st t):BG X [st] t:=by
 intro pins s σ H D I h;refine wpAny_execs_cons (c8 (h1 pins s σ H D I h) λf s1 q=>?_)
 cases f with
 | next=>exact abx q
 | ret v=>exact q
 | brk=>exact q
 | cont=>exact q
theorem Inv.quiet{pins:List (Addr×Obj)}{σ:St}{H:Hp}{s:Shared}(I:Inv X pins σ H s):interactive X.env=false:=by simp[interactive,I.ok.kind]
def Vz(te:TE):TS:=λD σ H=>te σ H λ_ H1=>D.nx σ H1
theorem bC(he:PE X e te)(hs:swapsWith e none pos.line X.env=pure false:=by rfl):PS X (.Expr e pos) (Vz te):=by
 intro pins s σ H D I h;exact wpAny_Expr_any (c8 (he pins s σ H _ I h) λv s1 ⟨x,H1,I1,r1,q1⟩=>⟨σ,H1,I1,q1⟩) I.quiet hs
def Yv(te:TE):TS:=λD σ H=>te σ H D.rt
theorem aE(he:PE X e te):PS X (.Return (some e) pos) (Yv te):=by
 intro pins s σ H D I h;exact wpAny_Return_some (c8 (he pins s σ H _ I h) λv s1 ⟨x,H1,I1,r1,q1⟩=>⟨x,σ,H1,I1,r1,q1⟩)
def VA:TS:=λD _ H=>D.rt .non H
theorem FF:PS X (.Return none pos) VA:=λ_ _ σ H _ I h=>wpAny_Return_none ⟨.non,σ,H,I,rfl,h⟩
def Yw(c:TT)(t u:TS):TS:=λD σ H=>c σ H λb H1=>if b=true then t D σ H1 else u D σ H1
theorem bg{c:Expr}{a b:List Stmt}{tc:TT}(hc:PT X c tc)(ha:BG X a t)(hb:BG X b u):PS X (.If c a b pos) (Yw tc t u):=by
 intro pins s σ H D I h;refine wpAny_If (c8 (hc pins s σ H _ I h) λd s1 ⟨H1,I1,q1⟩=>?_)
 cases d with
 | true=>exact ha pins s1 σ H1 D I1 q1
 | false=>exact hb pins s1 σ H1 D I1 q1
def Sl:TS:=λ_ _ _=>False
theorem mH:PS X st Sl:=λ_ _ _ _ _ _ h=>h.elim
end
abbrev TG:=V->St->Hp->(St->Hp->Prop)->Prop
abbrev Np:=List V->St->Hp->(St->Hp->Prop)->Prop
def PG(X:Cx)(target:Expr)(t:TG):Prop :=
 ∀(pins:List (Addr×Obj)) (s:Shared) (σ:St) (H:Hp) (v:V) (u:Value) (Q:St->Hp->Prop),Inv X pins σ H s->RelV v u->t v σ H Q ->
  wpAny (model X.prog X.w) X.A (assign target X.env u) (λ_ s'=>∃σ' H',Inv X pins σ' H' s'/\Q σ' H') X.xe s
def VB(X:Cx)(ts:List Expr)(t:Np):Prop :=
 ∀(pins:List (Addr×Obj)) (s:Shared) (σ:St) (H:Hp) (vs:List V) (us:List Value) (Q:St->Hp->Prop),Inv X pins σ H s->Vals vs us->t vs σ H Q ->
  wpAny (model X.prog X.w) X.A (assignInOrder ((assignEach ts X.env).map (·.2)) us) (λ_ s'=>∃σ' H',Inv X pins σ' H' s'/\Q σ' H') X.xe s
abbrev Sm:=V->V->V->Hp->(Hp->Prop)->Prop
def VC(X:Cx)(t:Sm):Prop :=
 ∀(pins:List (Addr×Obj)) (s:Shared) (σ:St) (H:Hp) (o i v:V) (ov iv u:Value) (Q:Hp->Prop),Inv X pins σ H s->RelV o ov->RelV i iv->RelV v u->t o i v H Q ->
  wpAny (model X.prog X.w) X.A (setItem ov iv u) (λ_ s'=>∃H',Inv X pins σ H' s'/\Q H') X.xe s
section
variable {X:Cx} {pos:Pos}
def wZ(i:Nat):TG:=λv σ H Q=>Q (σ.set i (some v)) H
theorem dW{i:Nat}{x:Str}(hN:X.N.Nodup)(hi:X.N[i]?=some x)(hx:Loc X.env.scope x)(hf:X.fn x=true∨X.env.scope.names.lookup x=some .local:=by first | exact .inl rfl | exact .inr rfl | assumption):PG X (.Name x pos) (wZ i):=by
 intro pins s σ H v u Q I r h;exact wpAny_assign_Name (BJ I hN hi hx r (λs' I'=>⟨_,H,I',h⟩) hf)
def Yx:Np:=λvs σ H Q=>vs=[]/\Q σ H
def Rn(t:TG)(u:Np):Np:=λvs σ H Q=>∃v r,vs=v::r/\t v σ H λσ' H'=>u r σ' H' Q
theorem FG:VB X [] Yx:=by
 intro pins s σ H vs us Q I r h;obtain⟨e,h⟩:=h;subst e;cases r;exact assignInOrder_nil ⟨σ,H,I,h⟩
theorem w6{e:Expr}{es:List Expr}{t:TG}{u:Np}(h1:PG X e t)(h2:VB X es u)
  (hs:(assignEach (e::es) X.env).map (·.2)=assign e X.env::(assignEach es X.env).map (·.2):=by rfl):VB X (e::es) (Rn t u):=by
 intro pins s σ H vs us Q I r h;obtain⟨v,vr,e1,h⟩:=h;subst e1
 cases r with
 | cons r rr =>
  rw[hs];refine assignInOrder_cons (c8 (h1 pins s σ H _ _ _ I r h) λ_ s1 ⟨σ1,H1,I1,q1⟩=>?_);exact h2 pins s1 σ1 H1 _ _ Q I1 rr q1
def VD(K:ax)(n:Nat)(t:Np):TG:=λv σ H Q=>∃a xs,v=.ref a/\bu K H a xs/\xs.length=n/\t xs σ H Q
theorem JK{es:List Expr}{k:Nat}{t:Np}{n:Nat}(hc:X.calm=true)(h:VB X es t)
  (hn:(assignEach es X.env).length=n:=by rfl) (hst:(assignEach es X.env).findIdx? (·.1)=none:=by rfl):PG X (.Tuple es k pos) (VD X.K n t):=by
 intro pins s σ H v u Q I r hw;obtain⟨a,xs,e1,hq,hl,hw⟩:=hw;subst e1;cases r;obtain⟨its,rv,ht,hz⟩:=I.tuple hq;refine assign_Tuple_tuple (I.ok.hd hc) ht (by simp[hn,← hl,rv.length]) hst λh' hx=>?_
 have I1:Inv X pins σ H {s with heap:=h'}:=I.kept (t':=s.toks) λb o e=>hx b o (aax (aap e)) e
 exact h pins _ σ H xs _ Q I1 (by simpa using rv) hw
def VE(to ti:TE)(t:Sm):TG:=λv σ H Q=>to σ H λo H1=>ti σ H1 λi H2=>t o i v H2 λH3=>Q σ H3
theorem zV{o i:Expr}{to ti:TE}{t:Sm}(ho:PE X o to)(hi:PE X i ti)(hs:VC X t)
  (ha:∀v,assign (.Subscript o i pos) X.env v=(do
   let ov ← holding [v] (eval o X.env)
   let iv ← holding [v,ov] (eval i X.env)
   standAt pos
   holding [v,ov,iv] (setItem ov iv v)
   release [v,ov,iv] []):=by intro _;rfl):PG X (.Subscript o i pos) (VE to ti t):=by
 intro pins s σ H v u Q I r h;rw[ha];refine aal (acg (c8 (ho pins s σ H _ I h) λov s1 ⟨x,H1,I1,r1,q1⟩=>?_));refine aal (acg (c8 (hi pins s1 σ H1 _ I1 q1) λiv s2 ⟨y,H2,I2,r2,q2⟩=>?_));refine aal (wpAny_standAt (aal (acg (c8 (hs pins s2 σ H2 x y v ov iv u _ I2 r1 r2 r q2) λ_ s3 ⟨H3,I3,q3⟩=>?_))));exact wpAny_release ⟨σ,H3,I3,q3⟩
def N0(te:TE)(g:TG):TS:=λD σ H=>te σ H λx H1=>g x σ H1 D.nx
theorem zW{tg e:Expr}{te:TE}{g:TG}(he:PE X e te)(hg:PG X tg g)(hs:swapsWithSole [tg] e pos.line X.env=pure false:=by rfl)(hw:swappedStores [tg] e X.env=pure none:=by rfl)
  (h1:(assignEach [tg] X.env).map (·.2)=[assign tg X.env]:=by rfl):PS X (.Assign [tg] e pos) (N0 te g):=by
 intro pins s σ H D I h;refine wpAny_Assign_stores (c8 (he pins s σ H _ I h) λv s1 ⟨x,H1,I1,r1,q1⟩=>?_) hs hw;rw[h1];exact c8 (hg pins s1 σ H1 x v _ I1 r1 q1) λ_ s2 q=>q
theorem bI{i:Nat}{x:Str}{e:Expr}{te:TE}{pos':Pos}(hN:X.N.Nodup)(hi:X.N[i]?=some x)(hx:Loc X.env.scope x)(he:PE X e te)(hs:swapsWith e (some (.Name x pos')) pos.line X.env=pure false:=by rfl)(hf:X.fn x=true∨X.env.scope.names.lookup x=some .local:=by first | exact .inl rfl | exact .inr rfl | assumption):
  PS X (.Assign [.Name x pos'] e pos) (N0 te (wZ i)):=by
 intro pins s σ H D I h;refine wpAny_Assign_Name (c8 (he pins s σ H _ I h) λv s1 ⟨y,H1,I1,r1,q1⟩=>?_) hs;exact BJ I1 hN hi hx r1 (λs2 I2=>⟨_,H1,I2,q1⟩) hf
end
section
variable {X:Cx} {pos:Pos}
def JL(c:TT)(tb:TS):TS:=λD σ H=>∃W:Nat->St->Hp->Prop,(∃m,W m σ H)/\∀m σ H,W m σ H ->
 c σ H λb H1=>if b=true then ∃N:St->Hp->Prop,(∀σ' H',N σ' H'->∃m',m' < m/\W m' σ' H')/\tb {D with nx:=N,ct:=N,bk:=D.nx} σ H1 else D.nx σ H1
theorem w8{c:Expr}{body:List Stmt}{tc:TT}{tb:TS}(hp:PassesOwn (model X.prog X.w) X.A X.env X.xe)(hc:PT X c tc)(hb:BG X body tb):PS X (.While c body [] pos) (JL tc tb):=by
 intro pins s σ H D I h;obtain⟨W,⟨m0,w0⟩,turn⟩:=h;refine wpAny_While (codeAny_whileLoop (λn s'=>∃σ' H',Inv X pins σ' H' s'/\W n σ' H') ?_ m0 ⟨σ,H,I,w0⟩);rintro n s1 ⟨σ1,H1,I1,w1⟩;refine abc hp (c8 (hc pins s1 σ1 H1 _ I1 (turn n σ1 H1 w1)) λb s2 ⟨H2,I2,q2⟩=>?_)
 cases b with
 | true =>
  obtain⟨N,hN,q2⟩:=q2;rw[aaq rfl];refine abc hp (c8 (hb pins s2 σ1 H2 _ I2 q2) λf s3 q3=>?_)
  cases f with
  | next =>
   obtain⟨σ3,H3,I3,n3⟩:=q3;obtain⟨m',hm,w3⟩:=hN σ3 H3 n3;exact⟨m',hm,σ3,H3,I3,w3⟩
  | cont =>
   obtain⟨σ3,H3,I3,n3⟩:=q3;obtain⟨m',hm,w3⟩:=hN σ3 H3 n3;exact⟨m',hm,σ3,H3,I3,w3⟩
  | brk=>exact q3
  | ret v=>exact q3
 | false =>
  rw[aan aak];exact abx ⟨σ1,H2,I2,q2⟩
end
structure It where
 go:Nat->Hp->Prop
 yld:Nat->Hp->V->Hp->Prop
 stop:Nat->Hp->Prop
def rM(X:Cx)(pins:List (Addr×Obj))(H:Hp)(b:Addr):Prop :=
 H b=none/\b≠X.env.locals/\b∉X.fs/\(b∈X.ex∨X.s₀.heap.objs.size<=b)/\(∀x c,X.env.cells.lookup x=some c->c≠b)/\∀p∈X.pn++pins,p.1≠b
theorem Inv.N1{X:Cx}{pins:List (Addr×Obj)}{σ:St}{H H':Hp}{s:Shared}{b:Addr}(I:Inv X pins σ H s)(hb:s.heap.objs.size<=b)(hn:H' b=none):rM X pins H' b:=by
 refine⟨hn,abz (aao I.lt hb),I.Ys hb,.inr (aaO I.sz hb),λx c e z=>?_,λp hp z=>?_⟩
 ·obtain⟨v,q⟩:=I.cell x c e;exact absurd (aao q.lt (by rw[z];exact hb)) (abf _)
 ·exact absurd (aao (aap (I.pin p hp).1) (by rw[z];exact hb)) (abf _)
structure Turn(P:Program)(w:World)(K:ax)(tg:Expr)(J:It)(fp:List Addr)(it:Addr)(tn:Nat->Heap->Prop):Prop where
 mem:it∈fp
 obj:∀i h,tn i h->∀b∈fp,∃o,h.get? b=some o/\∀v,o.data≠.cell v
 keep:∀i h h',tn i h->(∀b∈fp,∀o,h.get? b=some o->h'.get? b=some o)->tn i h'
 item:∀(X:Cx),X.prog=P->X.w=w->X.K=K->X.calm=true->∀(i:Nat) (pins:List (Addr×Obj)) (s:Shared) (σ:St) (H:Hp) (E:Value->Shared->Prop),Inv X pins σ H s->(∀b∈fp,rM X pins H b)->tn i s.heap->J.go i H ->
  wpAny (model P w) X.A (pyNext (.ref it)) (λr s1=>∃u,r=some u /\
   wpAny (model P w) X.A (letOwnedTupleGo tg (.ref it) u) (λ_ s2=>∃x H',Inv X pins σ H' s2/\RelV x u/\J.yld i H x H'/\tn (i + 1) s2.heap/\∀b∈fp,H' b=none) E s1) E s
 done:∀(X:Cx),X.prog=P->X.w=w->X.K=K->X.calm=true->∀(i:Nat) (pins:List (Addr×Obj)) (s:Shared) (σ:St) (H:Hp) (E:Value->Shared->Prop),Inv X pins σ H s->(∀b∈fp,rM X pins H b)->tn i s.heap->J.stop i H ->
  wpAny (model P w) X.A (pyNext (.ref it)) (λr s1=>r=none/\Inv X pins σ H s1) E s
 self:∀(A:Around) (i:Nat) (s:Shared) (Q:Value->Shared->Prop) (E:Value->Shared->Prop),tn i s.heap->Q (.ref it) s->wpAny (model P w) A (pyIter (.ref it)) Q E s
abbrev TI:=St->Hp->(It->Hp->Prop)->Prop
def PIE(X:Cx)(pins:List (Addr×Obj))(σ:St)(tg:Expr)(R:It->Hp->Prop)(itv:Value)(s2:Shared):Prop :=
 ∃(it:Addr) (fp:List Addr) (tn:Nat->Heap->Prop) (J:It) (H':Hp),itv=.ref it/\Inv X pins σ H' s2/\Turn X.prog X.w X.K tg J fp it tn/\tn 0 s2.heap/\(∀b∈fp,rM X pins H' b)/\R J H'
def PI(X:Cx)(tg iter:Expr)(wi:TI):Prop :=
 ∀(pins:List (Addr×Obj)) (s:Shared) (σ:St) (H:Hp) (R:It->Hp->Prop),Inv X pins σ H s->wi σ H R ->
  wpAny (model X.prog X.w) X.A (eval iter X.env) (λv s1=>wpAny (model X.prog X.w) X.A (pyIter v) (PIE X pins σ tg R) X.xe s1) X.xe s
theorem JM{M:Model}{A:Around}{E:Value->Shared->Prop}{s:Shared}{tg:Expr}{it:Addr}{u:Value}{o:Obj}{n:String}{vs:Array Value}{Q:Unit->Shared->Prop}(ho:s.heap.get? it=some o)(hc:o.cls=.type n)(hd:o.data=.fields vs)
  (hn:["enumerate","zip","dict_itemiterator","dict_reverseitemiterator","odict_iterator","itertools.zip_longest","itertools.pairwise"].contains n=false) (hQ:Q () s):wpAny M A (letOwnedTupleGo tg (.ref it) u) Q E s:=by
 unfold letOwnedTupleGo;cases tg<;>first
  | exact aas hQ
  | (cases u<;>first
    | exact aas hQ
    | (refine aal (wpAny_load ho ?_)
       rw[hc,hd];show wpAny M A (if (["enumerate","zip","dict_itemiterator","dict_reverseitemiterator","odict_iterator","itertools.zip_longest","itertools.pairwise"].contains n&&vs[0]? == some (rawInt _))=true then _ else _) Q E s;rw[aan (by intro h;rw[hn,Bool.false_and]at h;cases h)];exact aas hQ))
def Ro(K:ax)(a:Addr):It :=
 ⟨λi H=>∃xs x,bt K H a xs/\xs[i]?=some x,λi H x H'=>H'=H/\∀xs,bt K H a xs->xs[i]?=some x,λi H=>∃xs,bt K H a xs/\xs.length<=i⟩
def Yy(K:ax)(a:Addr):It :=
 ⟨λi H=>∃xs x,bu K H a xs/\xs[i]?=some x,λi H x H'=>H'=H/\∀xs,bu K H a xs->xs[i]?=some x,λi H=>∃xs,bu K H a xs/\xs.length<=i⟩
def VF(lo:Int)(n:Nat):It:=⟨λi _=>i < n,λi H x H'=>H'=H/\x=.int (lo + i),λi _=>n<=i⟩
theorem zb{P:Program}{w:World}{K:ax}{tg:Expr}(a it:Addr):Turn P w K tg (Ro K a) [it] it (λi h=>h.IsListIter it a i) where
 mem:=by simp
 obj:=λi h st b hb=>by
  have e:b=it:=by simpa using hb
  subst e;obtain⟨o,e,c,d⟩:=st;exact⟨o,e,λv z=>by rw[d]at z;cases z⟩
 keep:=λi h h' st k=>st.at λo e=>k it (by simp) o e
 item:=by
  intro X hP hw hK hc i pins s σ H E I hf st hg;subst hP hw hK;obtain⟨xs,x,hq,hx⟩:=hg;obtain⟨its,rv,p,hz⟩:=I.list hq;obtain⟨u,hu,ru⟩:=rv.get hx;obtain⟨f0,f1,f2,f3,f4,f5⟩:=hf it (by simp);refine wpAny_pyNext_list_item st p.isList (x:=u) (by simpa using hu) λh' st' sb=>?_
  have I1:Inv X pins σ H {s with heap:=h'}:=I.turned (t':=s.toks) (λb o hb e=>(sb.2 b hb).trans e) f0 f1 f3 f4 f5;obtain⟨o,e,c,d⟩:=id st';exact⟨u,rfl,JM (s:={s with heap:=h'}) e c d (by decide) ⟨x,H,I1,ru,⟨rfl,λys hy=>by rw[I.JJ hy hq];exact hx⟩,st',λb hb=>(hf b hb).1⟩⟩
 done:=by
  intro X hP hw hK hc i pins s σ H E I hf st hg;subst hP hw hK;obtain⟨xs,hq,hx⟩:=hg;obtain⟨its,rv,p,hz⟩:=I.list hq;obtain⟨f0,f1,f2,f3,f4,f5⟩:=hf it (by simp);have hl:=rv.length;exact wpAny_pyNext_list_end (I.ok.hd hc) st p.isList (by simp;omega) λh' eb=>⟨rfl,I.turned (t':=s.toks) (λb o hb e=>eb b o hb e) f0 f1 f3 f4 f5⟩
 self:=λ_ _ _ _ _ st h=>wpAny_pyIter_listiter st h
theorem DK{P:Program}{w:World}{K:ax}{tg:Expr}(a it:Addr):Turn P w K tg (Yy K a) [it] it (λi h=>h.IsTupleIter it a i) where
 mem:=by simp
 obj:=λi h st b hb=>by
  have e:b=it:=by simpa using hb
  subst e;obtain⟨o,e,c,d⟩:=st;exact⟨o,e,λv z=>by rw[d]at z;cases z⟩
 keep:=λi h h' st k=>st.at λo e=>k it (by simp) o e
 item:=by
  intro X hP hw hK hc i pins s σ H E I hf st hg;subst hP hw hK;obtain⟨xs,x,hq,hx⟩:=hg;obtain⟨its,rv,p,hz⟩:=I.tuple hq;obtain⟨u,hu,ru⟩:=rv.get hx;obtain⟨f0,f1,f2,f3,f4,f5⟩:=hf it (by simp);refine wpAny_pyNext_tuple_item st (show s.heap.IsTuple a its.toArray from p) (x:=u) (by simpa using hu) λh' st' sb=>?_
  have I1:Inv X pins σ H {s with heap:=h'}:=I.turned (t':=s.toks) (λb o hb e=>(sb.2 b hb).trans e) f0 f1 f3 f4 f5;obtain⟨o,e,c,d⟩:=id st';exact⟨u,rfl,JM (s:={s with heap:=h'}) e c d (by decide) ⟨x,H,I1,ru,⟨rfl,λys hy=>by rw[I.GS hy hq];exact hx⟩,st',λb hb=>(hf b hb).1⟩⟩
 done:=by
  intro X hP hw hK hc i pins s σ H E I hf st hg;subst hP hw hK;obtain⟨xs,hq,hx⟩:=hg;obtain⟨its,rv,p,hz⟩:=I.tuple hq;obtain⟨f0,f1,f2,f3,f4,f5⟩:=hf it (by simp);have hl:=rv.length;exact wpAny_pyNext_tuple_end (I.ok.hd hc) st (show s.heap.IsTuple a its.toArray from p) (by simp;omega) λh' eb=>⟨rfl,I.turned (t':=s.toks) (λb o hb e=>eb b o hb e) f0 f1 f3 f4 f5⟩
 self:=λ_ _ _ _ _ st h=>wpAny_pyIter_tupleiter st h
theorem DL{P:Program}{w:World}{K:ax}{tg:Expr}(it:Addr)(lo:Int)(n:Nat):Turn P w K tg (VF lo n) [it] it (λi h=>IsRangeIter h it (lo + (i:Nat) * 1) ((n:Int) - (i:Nat)) 1) where
 mem:=by simp
 obj:=λi h st b hb=>by
  have e:b=it:=by simpa using hb
  subst e
  exact⟨_,st,λv z=>by
   have z':Data.fields _=Data.cell v:=z;cases z'⟩
 keep:=λi h h' st k=>k it (by simp) _ st
 item:=by
  intro X hP hw hK hc i pins s σ H E I hf st hg;subst hP hw hK;obtain⟨f0,f1,f2,f3,f4,f5⟩:=hf it (by simp);have W:=Walks.range (prog:=X.prog) (w:=X.w) (I.ok.hd hc) it lo 1 n;refine W.item i s _ _ hg st λv h' tk hv st' kk=>?_
  obtain⟨t,rfl⟩:=hv;have I1:Inv X pins σ H {s with heap:=h',toks:=tk}:=I.turned (λb o hb e=>kk b o (by simpa using hb) e) f0 f1 f3 f4 f5;refine⟨_,rfl,JM (s:={s with heap:=h',toks:=tk}) (n:="range_iterator") st' rfl rfl (by decide) ⟨.int (lo + i),H,I1,⟨t,?_⟩,⟨rfl,rfl⟩,st',λb hb=>(hf b hb).1⟩⟩;rw[Int.mul_one]
 done:=by
  intro X hP hw hK hc i pins s σ H E I hf st hg;subst hP hw hK;obtain⟨f0,f1,f2,f3,f4,f5⟩:=hf it (by simp);exact wpAny_pyNext_range_end (I.ok.hd hc) st (by have:n<=i:=hg;omega) λh' eb=>⟨rfl,I.turned (t':=s.toks) (λb o hb e=>eb b o hb e) f0 f1 f3 f4 f5⟩
 self:=λ_ _ _ _ _ st h=>wpAny_pyIter_rangeiter st h
section
variable {X:Cx} {tg:Expr}
def VG(K:ax)(tl:TE):TI:=λσ H R=>tl σ H λx H1=>∃a,x=.ref a/\(∃xs,bt K H1 a xs)/\R (Ro K a) H1
theorem kJ{l:Expr}{tl:TE}(hl:PE X l tl):PI X tg l (VG X.K tl):=by
 intro pins s σ H R I h;refine c8 (hl pins s σ H _ I h) λv s1 ⟨x,H1,I1,r1,q1⟩=>?_
 obtain⟨a,e,⟨xs,hq⟩,q⟩:=q1;subst e;cases r1;obtain⟨its,rv,p,hz⟩:=I1.list hq;refine wpAny_pyIter_list p.isList ?_;refine⟨s1.heap.objs.size,[s1.heap.objs.size],_,_,H1,rfl,I1.kept (t':=s1.toks) λb o e=>Heap.get?_push_of_some _ e,zb a _,⟨_,Heap.get?_push_size _ rfl,rfl,rfl⟩,λb hb=>?_,q⟩;have e:b=s1.heap.objs.size:=by simpa using hb
 subst e;exact I1.N1 (aaf _) (I1.hok.fresh (aaf _))
theorem JN{pins:List (Addr×Obj)}{σ:St}{H:Hp}{s:Shared}{R:It->Hp->Prop}{E:Value->Shared->Prop}{lo hi:Int}{t u v:Tok}{tk:Nat}(I:Inv X pins σ H s)(h1:-(2 ^ 62)<=lo)(h2:lo < 2 ^ 62)(h3:-(2 ^ 62)<=hi)(h4:hi < 2 ^ 62)
  (q:R (VF lo (hi - lo).toNat) H):wpAny (model X.prog X.w) X.A (pyIter (.ref s.heap.objs.size)) (PIE X pins σ tg R) E {s with heap:=s.heap.push {cls:=.type "range",data:=.fields #[.int lo t,.int hi u,.int 1 v]},toks:=tk}:=by
 refine wpAny_pyIter_range (IsRange.new ..) (small_one h1 h2 h3 h4) ?_;have I1:Inv X pins σ H {s with heap:=s.heap.push {cls:=.type "range",data:=.fields #[.int lo t,.int hi u,.int 1 v]},toks:=tk}:=I.kept λb o e=>aad _ e
 refine⟨(s.heap.push {cls:=.type "range",data:=.fields #[.int lo t,.int hi u,.int 1 v]}).objs.size,[(s.heap.push {cls:=.type "range",data:=.fields #[.int lo t,.int hi u,.int 1 v]}).objs.size],_,_,H,rfl,
  I1.kept (t':=tk) λb o e=>aad _ e,DL _ lo (hi - lo).toNat,?_,λb hb=>?_,q⟩
 ·have e1:lo + ((0:Nat):Int) * 1=lo:=by simp
  have e2:(((hi - lo).toNat:Nat):Int) - ((0:Nat):Int)=Builtin.Range.rangeSize lo hi 1:=by rw[rangeSize_one];split<;>omega
  show IsRangeIter _ _ (lo + ((0:Nat):Int) * 1) ((((hi - lo).toNat:Nat):Int) - ((0:Nat):Int)) 1;rw[e1,e2];exact aav _ rfl
 ·have e:b=(s.heap.push {cls:=.type "range",data:=.fields #[.int lo t,.int hi u,.int 1 v]}).objs.size:=by simpa using hb
  subst e;exact I1.N1 (aaf _) (I1.hok.fresh (aaf _))
def VH(ta:TA):TI:=λσ H R=>ta σ H λvs H1=>∃j:Int,vs=[.int j]/\-(2 ^ 62)<=j/\j < 2 ^ 62/\R (VF 0 j.toNat) H1
theorem zc{a:Expr}{ta:TA}{p pos:Pos}(hg:Gl X "range")(hm:X.mg "range"=none)(ha:PA X [a] ta)(hs:starEach [a] X.env=[(false,eval a X.env)]:=by rfl):PI X tg (.Call (.Name "range" p) [a] [] pos) (VH ta):=by
 intro pins s σ H R I h;refine Call_ (wX I hg hm boot_range (abu (c8 (ha pos pins s σ H _ I h) λus s1 ⟨vs,H1,I1,r1,q1⟩=>?_) hs rfl));obtain⟨j,e,q1,q2,q⟩:=q1;subst e
 cases r1 with
 | cons r rr =>
  cases rr;obtain⟨t,rfl⟩:=r;exact call_range_1 (JN I1 (by omega) (by omega) q1 q2 (by simpa using q))
def Yz(wi:TI)(g:TG)(tb:TS):TS:=λD σ H=>wi σ H λJ H1=>∃W:Nat->Nat->St->Hp->Prop,(∃m,W 0 m σ H1)/\∀i m σ H,W i m σ H ->
 (J.stop i H/\D.nx σ H)∨(J.go i H/\∃N:St->Hp->Prop,(∀σ' H',N σ' H'->∃m',m' < m/\W (i + 1) m' σ' H')/\∀x H',J.yld i H x H'->g x σ H' λσ2 H2=>tb {D with nx:=N,ct:=N,bk:=D.nx} σ2 H2)
def w9(fp:List Addr)(h:Heap):List (Addr×Obj):=fp.filterMap λb=>(h.get? b).map λo=>(b,o)
theorem kK{fp:List Addr}{h:Heap}{b:Addr}{o:Obj}(hb:b∈fp)(e:h.get? b=some o):(b,o)∈w9 fp h:=List.mem_filterMap.mpr ⟨b,hb,by rw[e];rfl⟩
theorem GU{fp:List Addr}{h:Heap}{p:Addr×Obj}(hp:p∈w9 fp h):p.1∈fp/\h.get? p.1=some p.2:=by
 obtain⟨b,hb,e⟩:=List.mem_filterMap.mp hp
 cases q:h.get? b with
 | none=>rw[q]at e;cases e
 | some o =>
  rw[q]at e;have e':(b,o)=p:=aaE e;subst e';exact⟨hb,q⟩
theorem Inv.pinned{pins:List (Addr×Obj)}{σ:St}{H:Hp}{s:Shared}{fp:List Addr}(I:Inv X pins σ H s)(hf:∀b∈fp,rM X pins H b)(ho:∀b∈fp,∃o,s.heap.get? b=some o/\∀v,o.data≠.cell v):Inv X (pins++w9 fp s.heap) σ H s :=
 I.FE λp hp=>(aaQ.mp hp).elim (λz=>I.pin p (aaP _ z)) λz=>by
  obtain⟨hb,e⟩:=GU z;obtain⟨f0,f1,f2,_⟩:=hf p.1 hb;obtain⟨o,e',d⟩:=ho p.1 hb;rw[e]at e';cases e';exact⟨e,f0,f1,f2,d⟩
theorem Inv.rN{pins pl:List (Addr×Obj)}{σ:St}{H:Hp}{s:Shared}(I:Inv X (pins++pl) σ H s):Inv X pins σ H s:=I.FE λp hp=>I.pin p (aaP _ (abi _ hp))
theorem zX{iter:Expr}{body:List Stmt}{wi:TI}{g:TG}{tb:TS}{pos:Pos}(hp:PassesOwn (model X.prog X.w) X.A X.env X.xe)(hc:X.calm=true)(hi:PI X tg iter wi)(hg:PG X tg g)(hb:BG X body tb)
  (hs:∀x,foldedSetIterable iter X.env x=pure x:=by intro _;rfl):PS X (.For tg iter body [] pos) (Yz wi g tb):=by
 intro pins s σ H D I h;refine wpAny_For (c8 (hi pins s σ H _ I h) λv s1 h1=>c8 h1 λitv s2 h2=>?_) hs;obtain⟨it,fp,tn,J,H2,e,I2,T,dw,f2,W,⟨m0,w0⟩,turn⟩:=h2;subst e;have stat:∀{H':Hp},(∀b∈fp,H' b=none)->∀b∈fp,rM X pins H' b:=λhn b hb=>⟨hn b hb,(f2 b hb).2⟩
 refine codeAny_forLoop_any (λn s'=>∃i σ' H',Inv X pins σ' H' s'/\tn i s'.heap/\(∀b∈fp,H' b=none)/\W i n σ' H') ?_ m0 ⟨0,σ,H2,I2,dw,λb hb=>(f2 b hb).1,w0⟩;rintro n s3 ⟨i,σ3,H3,I3,t4,fr3,w3⟩;rcases turn i n σ3 H3 w3 with⟨stop,qn⟩ | ⟨go,N,hN,step⟩
 ·refine abc hp (c8 (T.done X rfl rfl rfl hc i pins s3 σ3 H3 X.xe I3 (stat fr3) t4 stop) λr s4 ⟨hr,I4⟩=>?_);subst hr;exact abx ⟨σ3,H3,I4,qn⟩
 ·refine abc hp (c8 (T.item X rfl rfl rfl hc i pins s3 σ3 H3 X.xe I3 (stat fr3) t4 go) λr s4 ⟨u,hr,h4⟩=>?_);subst hr;refine abc hp (c8 h4 λ_ s5 ⟨x,H5,I5,r5,y5,JO,XI⟩=>?_);have I5':=I5.pinned (stat XI) (T.obj _ _ JO);refine abc hp (c8 (hg _ s5 σ3 H5 x u _ I5' r5 (step x H5 y5)) λ_ s6 ⟨σ6,H6,I6,q6⟩=>?_);refine abc hp (c8 (hb _ s6 σ6 H6 _ I6 q6) λf s7 q7=>?_)
  have again:∀{σ7:St} {H7:Hp},Inv X (pins++w9 fp s5.heap) σ7 H7 s7->N σ7 H7->∃m,m < n/\∃i σ' H',Inv X pins σ' H' s7/\tn i s7.heap/\(∀b∈fp,H' b=none)/\W i m σ' H':=λ{σ7 H7} I7 n7=>by
   obtain⟨m',hm,w7⟩:=hN σ7 H7 n7;refine⟨m',hm,i + 1,σ7,H7,I7.rN,T.keep _ _ _ JO λb hb o e=>(I7.pin (b,o) (aaP _ (aaP _ (kK hb e)))).1,λb hb=>?_,w7⟩;obtain⟨o,e,d⟩:=T.obj _ _ JO b hb;exact(I7.pin (b,o) (aaP _ (aaP _ (kK hb e)))).2.1
  cases f with
  | next=>obtain⟨σ7,H7,I7,n7⟩:=q7;exact again I7 n7
  | cont=>obtain⟨σ7,H7,I7,n7⟩:=q7;exact again I7 n7
  | brk=>obtain⟨σ7,H7,I7,q7⟩:=q7;exact⟨σ7,H7,I7.rN,q7⟩
  | ret v=>obtain⟨x7,σ7,H7,I7,r7,q7⟩:=q7;exact⟨x7,σ7,H7,I7.rN,r7,q7⟩
end
theorem BL{K:ax}{a:Addr}{xs:List V}{g:TG}{tb:TS}{D:Ends}{σ:St}{H:Hp}(Pv:Nat->St->Hp->Prop)(h0:Pv 0 σ H)(hl:∀i σ H,i<=xs.length->Pv i σ H->bt K H a xs)
  (hs:∀i x σ H,xs[i]?=some x->Pv i σ H->g x σ H λσ2 H2=>tb {D with nx:=Pv (i + 1),ct:=Pv (i + 1),bk:=D.nx} σ2 H2) (hd:∀σ H,Pv xs.length σ H->D.nx σ H) :
  ∃W:Nat->Nat->St->Hp->Prop,(∃m,W 0 m σ H)/\∀i m σ H,W i m σ H ->
   ((Ro K a).stop i H/\D.nx σ H)∨((Ro K a).go i H/\∃N:St->Hp->Prop,(∀σ' H',N σ' H'->∃m',m' < m/\W (i + 1) m' σ' H')/\∀x H',(Ro K a).yld i H x H'->g x σ H' λσ2 H2=>tb {D with nx:=N,ct:=N,bk:=D.nx} σ2 H2):=by
 refine⟨λi m σ H=>m=xs.length - i/\i<=xs.length/\Pv i σ H,⟨xs.length,by simp,Nat.zero_le _,h0⟩,?_⟩;rintro i m σ H ⟨rfl,hi,p⟩;have q:=hl i σ H hi p;by_cases hlt:i < xs.length
 ·refine .inr ⟨⟨xs,xs[i],q,by simp[hlt]⟩,Pv (i + 1),λσ' H' p'=>⟨xs.length - (i + 1),by omega,rfl,hlt,p'⟩,λx H' y=>?_⟩;obtain⟨e,y⟩:=y;subst e;exact hs i x σ _ (y xs q) p
 ·have e:i=xs.length:=by omega
  subst e;exact .inl ⟨⟨xs,q,aaf _⟩,hd σ H p⟩
theorem JP{c:TT}{tb:TS}{D:Ends}{σ:St}{H:Hp}(Pv:St->Hp->Prop)(μ:St->Hp->Nat)(h0:Pv σ H)
  (hs:∀σ H,Pv σ H->c σ H λb H1=>if b=true then tb {D with nx:=λσ' H'=>Pv σ' H'/\μ σ' H' < μ σ H,ct:=λσ' H'=>Pv σ' H'/\μ σ' H' < μ σ H,bk:=D.nx} σ H1 else D.nx σ H1)
  (mono:∀σ H Q Q',(∀b H1,Q b H1->Q' b H1)->c σ H Q->c σ H Q'):JL c tb D σ H:=by
 refine⟨λm σ H=>m=μ σ H/\Pv σ H,⟨_,rfl,h0⟩,?_⟩;rintro m σ H ⟨rfl,p⟩;refine mono σ H _ _ (λb H1 q=>?_) (hs σ H p)
 cases b with
 | true=>exact⟨_,λσ' H' ⟨p',l⟩=>⟨_,l,rfl,p'⟩,q⟩
 | false=>exact q
abbrev R2:=V->V->Hp->VK->Prop
def jD(X:Cx)(f:Value->Value->Sem Value)(r:R2):Prop :=
 ∀(pins:List (Addr×Obj)) (s:Shared) (σ:St) (H:Hp) (x y:V) (v u:Value) (Q:VK),Inv X pins σ H s->RelV x v->RelV y u->r x y H Q ->
  wpAny (model X.prog X.w) X.A (f v u) (EP X pins σ Q) X.xe s
def YA(X:Cx)(f:Value->Sem Value)(r:V->Hp->VK->Prop):Prop :=
 ∀(pins:List (Addr×Obj)) (s:Shared) (σ:St) (H:Hp) (x:V) (v:Value) (Q:VK),Inv X pins σ H s->RelV x v->r x H Q ->
  wpAny (model X.prog X.w) X.A (f v) (EP X pins σ Q) X.xe s
def jE(X:Cx)(f:Value)(r:List V->Hp->VK->Prop):Prop :=
 ∀(pins:List (Addr×Obj)) (s:Shared) (σ:St) (H:Hp) (xs:List V) (us:List Value) (Q:VK),Inv X pins σ H s->Vals xs us->r xs H Q ->
  wpAny (model X.prog X.w) X.A (call f us) (EP X pins σ Q) X.xe s
def VI(r:R2)(ta tb:TE):TE:=λσ H Q=>ta σ H λx H1=>tb σ H1 λy H2=>r x y H2 Q
def tUn(r:V->Hp->VK->Prop)(ta:TE):TE:=λσ H Q=>ta σ H λx H1=>r x H1 Q
def rI(C:Int->Int->Prop)(g:Int->Int->V):R2:=λx y H Q=>∃i j,x=.int i/\y=.int j/\C i j/\Q (g i j) H
def JQ(g:Int->Int->V):R2:=λx y H Q=>∃i j,x=.int i/\y=.int j/\Q (g i j) H
def rU(g:Int->V):V->Hp->VK->Prop:=λx H Q=>∃i,x=.int i/\Q (g i) H
section
variable {X:Cx} {a b c:Expr} {ta tb tc:TE} {pos:Pos}
theorem Sn(ha:PE X a ta)(hb:PE X b tb){pins:List (Addr×Obj)}{s:Shared}{σ:St}{H:Hp}{R:V->V->Hp->Prop}(I:Inv X pins σ H s)
  (h:ta σ H λx H1=>tb σ H1 λy H2=>R x y H2) {Q:Value->Shared->Prop} {f:Value->Value->Sem Value}
  (hf:∀v u s2 x y H2,Inv X pins σ H2 s2->RelV x v->RelV y u->R x y H2->wpAny (model X.prog X.w) X.A (f v u) Q X.xe s2) :
  wpAny (model X.prog X.w) X.A (eval a X.env) (λv s₁=>wpAny (model X.prog X.w) X.A (eval b X.env) (λu s₂=>wpAny (model X.prog X.w) X.A (f v u) Q X.xe s₂) X.xe s₁) X.xe s:=by
 refine c8 (ha pins s σ H _ I h) λv s1 ⟨x,H1,I1,r1,q1⟩=>?_
 refine c8 (hb pins s1 σ H1 _ I1 q1) λu s2 ⟨y,H2,I2,r2,q2⟩=>?_
 exact hf v u s2 x y H2 I2 r1 r2 q2
theorem aT{op:Operator}{r:R2}(ho:jD X (binaryOp op) r)(ha:PE X a ta)(hb:PE X b tb):PE X (.BinOp a op b pos) (VI r ta tb):=by
 intro pins s σ H Q I h;exact wpAny_BinOp (Sn ha hb I h λv u s2 x y H2 I2 rx ry q=>ho pins s2 σ H2 x y v u Q I2 rx ry q)
theorem rO{op:UnaryOp}{r:V->Hp->VK->Prop}(ho:YA X (unaryOp op) r)(ha:PE X a ta):PE X (.UnaryOp op a pos) (tUn r ta):=by
 intro pins s σ H Q I h;exact UnaryOp_ (c8 (ha pins s σ H _ I h) λv s1 ⟨x,H1,I1,r1,q1⟩=>ho pins s1 σ H1 x v Q I1 r1 q1)
theorem N2{f:Value->Value->Sem Value}{C:Int->Int->Prop}{g:Int->Int->Int}
  (rule:∀(i j:Int) (t u:Tok) (s:Shared) (Q:Value->Shared->Prop) (E:Value->Shared->Prop),C i j->Q (.int (g i j) s.toks) {s with toks:=s.toks + 1}->wpAny (model X.prog X.w) X.A (f (.int i t) (.int j u)) Q E s) :
  jD X f (rI C λi j=>.int (g i j)):=by
 intro pins s σ H x y v u Q I rx ry h;obtain⟨i,j,rfl,rfl,hc,q⟩:=h;obtain⟨t,rfl⟩:=rx;obtain⟨t',rfl⟩:=ry;exact rule i j t t' s _ _ hc ⟨.int (g i j),H,I.tok _,⟨_,rfl⟩,q⟩
theorem N3{f:Value->Value->Sem Value}{g:Int->Int->Int}
  (rule:∀(i j:Int) (t u:Tok) (s:Shared) (Q:Value->Shared->Prop) (E:Value->Shared->Prop),Q (.int (g i j) s.toks) {s with toks:=s.toks + 1}->wpAny (model X.prog X.w) X.A (f (.int i t) (.int j u)) Q E s) :
  jD X f (JQ λi j=>.int (g i j)):=by
 intro pins s σ H x y v u Q I rx ry h;obtain⟨i,j,rfl,rfl,q⟩:=h;obtain⟨t,rfl⟩:=rx;obtain⟨t',rfl⟩:=ry;exact rule i j t t' s _ _ ⟨.int (g i j),H,I.tok _,⟨_,rfl⟩,q⟩
theorem So{f:Value->Value->Sem Value}{g:Int->Int->Bool}
  (rule:∀(i j:Int) (t u:Tok) (s:Shared) (Q:Value->Shared->Prop) (E:Value->Shared->Prop),Q (.bool (g i j)) s->wpAny (model X.prog X.w) X.A (f (.int i t) (.int j u)) Q E s) :
  jD X f (JQ λi j=>.bl (g i j)):=by
 intro pins s σ H x y v u Q I rx ry h;obtain⟨i,j,rfl,rfl,q⟩:=h;obtain⟨t,rfl⟩:=rx;obtain⟨t',rfl⟩:=ry;exact rule i j t t' s _ _ ⟨.bl (g i j),H,I,rfl,q⟩
def YB(i j:Int):Prop:=0 < j/\j < 1073741824
def YC(i j:Int):Prop:=0<=j/\j<=1000000/\i.natAbs < 2 ^ 64
def JR(i j:Int):Prop:=(-(2 ^ 64) < i/\i < 2 ^ 64)∨(-(2 ^ 64) < j/\j < 2 ^ 64)
theorem JR.ok{i j:Int}(h:JR i j):IntMulOk i j:=by
 rcases h with⟨h1,h2⟩ | ⟨h1,h2⟩
 ·exact .of_left (intBits_le_64 h1 h2)
 ·exact .of_right (intBits_le_64 h1 h2)
theorem gF:jD X (binaryOp .Add) (JQ λi j=>.int (i + j)):=N3 λ_ _ _ _ _ _ _ q=>add_int q
theorem gH:jD X (binaryOp .Sub) (JQ λi j=>.int (i - j)):=N3 λ_ _ _ _ _ _ _ q=>sub_int q
theorem zY:jD X (binaryOp .Mult) (rI JR λi j=>.int (i * j)):=N2 λ_ _ _ _ _ _ _ hc q=>mul_int q hc.ok
theorem ph:jD X (binaryOp .FloorDiv) (rI YB λi j=>.int (i / j)):=N2 λi j _ _ _ _ _ hc q=>by
 have h1:(0:Int) < j:=hc.1;have h2:j < 1073741824:=hc.2;exact floordiv_int (by omega) (by rw[acw i (by omega)];exact q) (.inl (PyProof.noPylong_small (by omega)))
theorem gI:jD X (binaryOp .Mod) (rI (λ_ j=>0 < j) λi j=>.int (i % j)):=N2 λi j _ _ _ _ _ hc q=>by
 have h1:(0:Int) < j:=hc;exact mod_int' (by omega) (by rw[Int.fmod_eq_emod_of_nonneg i (by omega)];exact q)
theorem N4:jD X (binaryOp .Mod) (rI (λ_ j=>j≠0) λi j=>.int (i.fmod j)):=N2 λ_ _ _ _ _ _ _ hc q=>mod_int' hc q
theorem DM:jD X (binaryOp .LShift) (rI YC λi j=>.int (i * 2 ^ j.toNat)):=N2 λ_ _ _ _ _ _ _ hc q=>lshift_int_small hc.1 hc.2.1 hc.2.2 q
theorem Sq:jD X (binaryOp .BitAnd) (JQ λi j=>.int (Builtin.bitAnd i j)):=N3 λ_ _ _ _ _ _ _ q=>and_int q
theorem VJ:jD X (binaryOp .BitOr) (JQ λi j=>.int (Builtin.bitOr i j)):=N3 λ_ _ _ _ _ _ _ q=>or_int q
theorem unI{f:Value->Sem Value}{g:Int->Int}
  (rule:∀(i:Int) (t:Tok) (s:Shared) (Q:Value->Shared->Prop) (E:Value->Shared->Prop),Q (.int (g i) s.toks) {s with toks:=s.toks + 1}->wpAny (model X.prog X.w) X.A (f (.int i t)) Q E s) :
  YA X f (rU λi=>.int (g i)):=by
 intro pins s σ H x v Q I rx h;obtain⟨i,rfl,q⟩:=h;obtain⟨t,rfl⟩:=rx;exact rule i t s _ _ ⟨.int (g i),H,I.tok _,⟨_,rfl⟩,q⟩
theorem kL:YA X (unaryOp .USub) (rU λi=>.int (-i)):=unI λ_ _ _ _ _ q=>neg_int q
end
def VL:V->V->Bool
 | .non,.non=>true | .non,.int _=>true | .int _,.non=>true | .non,.bl _=>true | .bl _,.non=>true | .non,.str _=>true | .str _,.non=>true
 | .int _,.int _=>true | .bl _,.bl _=>true | .str _,.str _=>true | .byt _,.byt _=>true
 | .int _,.str _=>true | .str _,.int _=>true | .bl _,.str _=>true | .str _,.bl _=>true
 | _,_=>false
def rEq:R2:=λx y H Q=>VL x y=true/\Q (.bl (decide (x=y))) H
def rNe:R2:=λx y H Q=>VL x y=true/\Q (.bl (!decide (x=y))) H
theorem FH{i j:Int}:decide (V.int i=V.int j)=(i == j):=by
 rw[Bool.eq_iff_iff];simp
theorem JS{i j:Bool}:decide (V.bl i=V.bl j)=(i == j):=by
 rw[Bool.eq_iff_iff];simp
theorem FI{i j:Str}:decide (V.str i=V.str j)=(i == j):=by
 rw[Bool.eq_iff_iff];simp
theorem FJ{i j:Array UInt8}:decide (V.byt i=V.byt j)=(i.toList == j.toList):=by
 rw[Bool.eq_iff_iff];cases i;cases j;simp
section
variable {X:Cx} {a b c:Expr} {ta tb tc:TE} {pos:Pos}
theorem bJ{pins:List (Addr×Obj)}{σ:St}{H:Hp}{s:Shared}{Q:VK}{k k':Bool}(I:Inv X pins σ H s)(q:Q (.bl k) H)(e:k=k'):EP X pins σ Q (.bool k') s:=by
 subst e;exact⟨.bl k,H,I,rfl,q⟩
theorem bK:jD X (compareOp .Eq) rEq:=by
 intro pins s σ H x y v u Q I rx ry h;obtain⟨hs,q⟩:=h
 cases x with
 | non =>
  cases rx
  cases y with
  | non=>cases ry;exact PySem.EqNone.eq_none_none (bJ I q (by simp))
  | bl j=>cases ry;exact PySem.EqNone.eq_none_bool (bJ I q (by simp))
  | int j=>obtain⟨t',rfl⟩:=ry;exact PySem.EqNone.eq_none_int (bJ I q (by simp))
  | str j=>obtain⟨t',rfl⟩:=ry;exact PySem.EqNone.eq_none_str (bJ I q (by simp))
  | _=>exact absurd (show false=true from hs) aak
 | bl i =>
  cases rx
  cases y with
  | non=>cases ry;exact PySem.EqNone.eq_bool_none (bJ I q (by simp))
  | bl j=>cases ry;exact eq_bool (bJ I q JS)
  | str j=>obtain⟨t',rfl⟩:=ry;exact PySem.EqMixed.eq_bool_str (bJ I q (by simp))
  | _=>exact absurd (show false=true from hs) aak
 | int i =>
  obtain⟨t,rfl⟩:=rx
  cases y with
  | non=>cases ry;exact PySem.EqNone.eq_int_none (bJ I q (by simp))
  | int j=>obtain⟨t',rfl⟩:=ry;exact eq_int (bJ I q FH)
  | str j=>obtain⟨t',rfl⟩:=ry;exact PySem.EqMixed.eq_int_str (bJ I q (by simp))
  | _=>exact absurd (show false=true from hs) aak
 | str i =>
  obtain⟨t,rfl⟩:=rx
  cases y with
  | non=>cases ry;exact PySem.EqNone.eq_str_none (bJ I q (by simp))
  | bl j=>cases ry;exact PySem.EqMixed.eq_str_bool (bJ I q (by simp))
  | int j=>obtain⟨t',rfl⟩:=ry;exact PySem.EqMixed.eq_str_int (bJ I q (by simp))
  | str j=>obtain⟨t',rfl⟩:=ry;exact eq_str (bJ I q FI)
  | _=>exact absurd (show false=true from hs) aak
 | byt i =>
  obtain⟨t,rfl⟩:=rx
  cases y with
  | byt j=>obtain⟨t',rfl⟩:=ry;exact PySem.W.eq_bytes (bJ I q FJ)
  | _=>exact absurd (show false=true from hs) aak
 | _=>cases y<;>exact absurd (show false=true from hs) aak
theorem Rp:jD X (compareOp .NotEq) rNe:=by
 intro pins s σ H x y v u Q I rx ry h;obtain⟨hs,q⟩:=h
 cases x with
 | non =>
  cases rx
  cases y with
  | non=>cases ry;exact PySem.EqNone.ne_none_none (bJ I q (by simp))
  | bl j=>cases ry;exact PySem.EqNone.ne_none_bool (bJ I q (by simp))
  | int j=>obtain⟨t',rfl⟩:=ry;exact PySem.EqNone.ne_none_int (bJ I q (by simp))
  | str j=>obtain⟨t',rfl⟩:=ry;exact PySem.EqNone.ne_none_str (bJ I q (by simp))
  | _=>exact absurd (show false=true from hs) aak
 | bl i =>
  cases rx
  cases y with
  | non=>cases ry;exact PySem.EqNone.ne_bool_none (bJ I q (by simp))
  | bl j=>cases ry;exact ne_bool (bJ I q (abv not JS))
  | str j=>obtain⟨t',rfl⟩:=ry;exact PySem.EqMixed.ne_bool_str (bJ I q (by simp))
  | _=>exact absurd (show false=true from hs) aak
 | int i =>
  obtain⟨t,rfl⟩:=rx
  cases y with
  | non=>cases ry;exact PySem.EqNone.ne_int_none (bJ I q (by simp))
  | int j=>obtain⟨t',rfl⟩:=ry;exact ne_int (bJ I q (abv not FH))
  | str j=>obtain⟨t',rfl⟩:=ry;exact PySem.EqMixed.ne_int_str (bJ I q (by simp))
  | _=>exact absurd (show false=true from hs) aak
 | str i =>
  obtain⟨t,rfl⟩:=rx
  cases y with
  | non=>cases ry;exact PySem.EqNone.ne_str_none (bJ I q (by simp))
  | bl j=>cases ry;exact PySem.EqMixed.ne_str_bool (bJ I q (by simp))
  | int j=>obtain⟨t',rfl⟩:=ry;exact PySem.EqMixed.ne_str_int (bJ I q (by simp))
  | str j=>obtain⟨t',rfl⟩:=ry;exact ne_str (bJ I q (abv not FI))
  | _=>exact absurd (show false=true from hs) aak
 | byt i =>
  obtain⟨t,rfl⟩:=rx
  cases y with
  | byt j=>obtain⟨t',rfl⟩:=ry;exact PySem.W.ne_bytes (bJ I q (abv not FJ))
  | _=>exact absurd (show false=true from hs) aak
 | _=>cases y<;>exact absurd (show false=true from hs) aak
theorem FK:jD X (compareOp .Lt) (JQ λi j=>.bl (decide (i < j))):=So λ_ _ _ _ _ _ _ q=>lt_int q
theorem JT:jD X (compareOp .LtE) (JQ λi j=>.bl (decide (i<=j))):=So λ_ _ _ _ _ _ _ q=>le_int q
theorem Rq:jD X (compareOp .Gt) (JQ λi j=>.bl (decide (j < i))):=So λ_ _ _ _ _ _ _ q=>gt_int q
theorem DN:jD X (compareOp .Is) (λx y H Q=>y=.non/\Q (.bl (decide (x=.non))) H):=by
 intro pins s σ H x y v u Q I rx ry h;obtain⟨rfl,q⟩:=h;cases ry;refine is_none_gen (bJ I q ?_);cases x<;>first
  | (cases rx;rfl)
  | (obtain⟨t,rfl⟩:=rx;rfl)
theorem wG:jD X (compareOp .IsNot) (λx y H Q=>y=.non/\Q (.bl (!decide (x=.non))) H):=by
 intro pins s σ H x y v u Q I rx ry h;obtain⟨rfl,q⟩:=h;cases ry;refine isnot_none_gen (bJ I q ?_);cases x<;>first
  | (cases rx;rfl)
  | (obtain⟨t,rfl⟩:=rx;rfl)
theorem aH(b:Expr){op:CmpOp}(h:op≠.In:=by decide)(h2:op≠.NotIn:=by decide):behindInMarks op b=false:=by
 have e1:(op == CmpOp.In)=false:=by cases op<;>first | rfl | exact absurd rfl h
 have e2:(op == CmpOp.NotIn)=false:=by cases op<;>first | rfl | exact absurd rfl h2
 cases b<;>simp[behindInMarks,e1,e2]
theorem kM{op:CmpOp}{r:R2}(ho:jD X (compareOp op) r)(ha:PE X a ta)(hb:PE X b tb)(hm:behindInMarks op b=false):PE X (.Compare a [op] [b] pos) (VI r ta tb):=by
 intro pins s σ H Q I h;exact wpAny_Compare1 (Sn ha hb I h λv u s2 x y H2 I2 rx ry q=>ho pins s2 σ H2 x y v u Q I2 rx ry q) hm
def JU(t:TE):TT:=λσ H Q=>t σ H λx H'=>∃k,x=.bl k/\Q k H'
theorem tR{op:CmpOp}{r:R2}(ho:jD X (compareOp op) r)(ha:PE X a ta)(hb:PE X b tb)(hm:behindInMarks op b=false):PT X (.Compare a [op] [b] pos) (JU (VI r ta tb)):=by
 intro pins s σ H Q I h
 refine wpAny_isTrue_Compare1 (c8 (ha pins s σ H _ I h) λv s1 ⟨x,H1,I1,r1,q1⟩=>c8 (hb pins s1 σ H1 _ I1 q1) λu s2 ⟨y,H2,I2,r2,q2⟩ =>
  c8 (ho pins s2 σ H2 x y v u _ I2 r1 r2 q2) λc s3 ⟨z,H3,I3,r3,k,e,q3⟩=>?_) hm
 subst e;cases r3;exact abg ⟨H3,I3,q3⟩
def Sr(r r':R2)(ta tb tc:TE):TE:=λσ H Q=>ta σ H λx H1=>tb σ H1 λy H2=>r x y H2 λz H3=>∃k,z=.bl k /\
 (if k=true then tc σ H3 λw' H4=>r' y w' H4 Q else Q (.bl false) H3)
theorem JV{op op':CmpOp}{r r':R2}(ho:jD X (compareOp op) r)(ho':jD X (compareOp op') r')(ha:PE X a ta)(hb:PE X b tb)(hc:PE X c tc)
  (hm:lastMarks [op,op'] [b,c]=false:=by with_unfolding_all rfl):PT X (.Compare a [op,op'] [b,c] pos) (JU (Sr r r' ta tb tc)):=by
 intro pins s σ H Q I h
 refine isTrue_chain (c8 (ha pins s σ H _ I h) λv s1 ⟨x,H1,I1,r1,q1⟩=>test_link (c8 (hb pins s1 σ H1 _ I1 q1) λu s2 ⟨y,H2,I2,r2,q2⟩ =>
  c8 (ho pins s2 σ H2 x y v u _ I2 r1 r2 q2) λd s3 ⟨z,H3,I3,r3,k,e,q3⟩=>?_)) hm
 subst e;cases r3;refine abg ?_
 cases k with
 | false =>
  obtain⟨k',e',q'⟩:=q3;cases e';exact ite_ff ⟨H3,I3,q'⟩
 | true =>
  refine ite_tt (test_last (c8 (hc pins s3 σ H3 _ I3 q3) λw' s4 ⟨z',H4,I4,r4,q4⟩=>c8 (ho' pins s4 σ H4 y z' u w' _ I4 r2 r4 q4) λd' s5 ⟨z2,H5,I5,r5,k2,e2,q5⟩=>?_));subst e2;cases r5;exact abg ⟨H5,I5,q5⟩
theorem t7:(sizeLine:Nat) < 2 ^ 63:=by rw[sizeLine_eq];decide
theorem DP:jD X (binaryOp .Add) (λx y H Q=>∃i j,x=.str i/\y=.str j/\i.length + j.length<=sizeLine/\Q (.str (i++j)) H):=by
 intro pins s σ H x y v u Q I rx ry h;obtain⟨i,j,rfl,rfl,hz,q⟩:=h;obtain⟨t,rfl⟩:=rx;obtain⟨t',rfl⟩:=ry;exact add_str (λt' tk=>⟨.str (i++j),H,I.tok _,⟨_,rfl⟩,q⟩) hz
theorem vals1{x:V}{us:List Value}(r:Vals [x] us):∃u,us=[u]/\RelV x u:=by
 cases r with
 | cons r1 r2=>cases r2;exact⟨_,rfl,r1⟩
theorem vals2{x y:V}{us:List Value}(r:Vals [x,y] us):∃u w',us=[u,w']/\RelV x u/\RelV y w':=by
 cases r with
 | cons r1 r2 =>
  cases r2 with
  | cons r3 r4=>cases r4;exact⟨_,_,rfl,r1,r3⟩
theorem GV(hc:X.calm=true):jE X (.builtin "max") (λxs H Q=>∃i j,xs=[.int i,.int j]/\Q (.int (if j > i then j else i)) H):=by
 intro pins s σ H xs us Q I r h;obtain⟨i,j,rfl,q⟩:=h;obtain⟨u,w',rfl,⟨t,rfl⟩,⟨t',rfl⟩⟩:=vals2 r;refine max_two_ints (I.ok.hd hc) λh' tk k=>⟨_,H,I.kept k,?_,q⟩
 by_cases hj:j > i
 ·rw[aaq hj,aaq hj];exact⟨_,rfl⟩
 ·rw[aan hj,aan hj];exact⟨_,rfl⟩
theorem GW(hc:X.calm=true):jE X (.builtin "min") (λxs H Q=>∃i j,xs=[.int i,.int j]/\Q (.int (if j < i then j else i)) H):=by
 intro pins s σ H xs us Q I r h;obtain⟨i,j,rfl,q⟩:=h;obtain⟨u,w',rfl,⟨t,rfl⟩,⟨t',rfl⟩⟩:=vals2 r;refine min_two_ints (I.ok.hd hc) λh' tk k=>⟨_,H,I.kept k,?_,q⟩
 by_cases hj:j < i
 ·rw[aaq hj,aaq hj];exact⟨_,rfl⟩
 ·rw[aan hj,aan hj];exact⟨_,rfl⟩
end
structure DQ(h:Heap)(x dx C:Addr)(mA:Str->Option Value):Prop where
 obj:h.get? x=some (PySem.W.instObj C dx)
 ns:h.Ns1 dx mA
 ne:dx≠x
theorem GX{h:Heap}{dx:Addr}{mA:Str->Option Value}(n:h.Ns1 dx mA):∃od,h.get? dx=some od/\∀name,PySem.W.lookIn name od=some (mA name):=by
 obtain⟨o,es,ep,ho,hd,hk,_,hm⟩:=n;refine⟨o,ho,λname=>?_⟩;have e:=hm name;unfold nsFind findBy at e;rw[← Array.find?_toList]at e;unfold PySem.W.lookIn;rw[hd];dsimp only;split
 ·rename_i y q;rw[q]at e;exact abv some e
 ·rename_i q;rw[q]at e
  have a:es.toList.any (·.refKey)=false:=by
   rw[List.any_eq_false];intro y hy;obtain⟨z,t,hkey⟩:=hk y (Array.mem_toList_iff.mp hy);simp[DictEntry.refKey,hkey]
  have a':¬ es.toList.any (·.refKey)=true:=by rw[a];exact aak
  rw[aan a'];exact abv some e
theorem DQ.look{h:Heap}{x dx C:Addr}{mA:Str->Option Value}(I:DQ h x dx C mA):∃od,PySem.W.InstAt h x (PySem.W.instObj C dx) C (some od)/\∀name,PySem.W.lookIn name od=some (mA name) :=
 let ⟨od,ho,hl⟩:=GX I.ns
 ⟨od,⟨I.obj,rfl,rfl,ho⟩,hl⟩
section
variable {prog:Program} {w:World} {A:Around} {E:Value->Shared->Prop} {s:Shared} {K:ax} {x dx C f:Addr} {mA:Str->Option Value} {name:Str} {v:Value}
theorem get_map{expr:Bool}{Q:Value->Shared->Prop}(X:K.In s.heap)(I:DQ s.heap x dx C mA)(hg:PySem.W.plainGet K C name=true)(hh:PySem.W.hasDictIn K C=true)
  (ha:PySem.W.findIn K (.ref C) name=some none) (hv:mA name=some v) (hv':PySem.W.handedIn v=true) (h:Q v {s with toks:=s.toks + 1}) :
  wpAny (model prog w) A (getAttr (.ref x) name expr) Q E s:=by
 obtain⟨od,J,hl⟩:=I.look;exact PySem.W.get_value X J (acr hg).1 (PySem.W.findObj_own hh ha rfl (by rw[hl,hv])) hv' h
theorem JW{pl:Sem Bool}{Q:Value×List Value->Shared->Prop}(X:K.In s.heap)(I:DQ s.heap x dx C mA)(hg:PySem.W.plainGet K C name=true)
  (hf:PySem.W.findIn K (.ref C) name=some (some (.ref f))) (ht:PySem.W.isFn K (.ref f)=true) (hv:mA name=none) (h:Q (.ref f,[.ref x]) s) :
  wpAny (model prog w) A (getMethod (.ref x) name pl) Q E s:=by
 obtain⟨od,J,hl⟩:=I.look;exact PySem.W.method_fn X J (acr hg).1 (acr hg).2 hf (beq_iff_eq.mp ht) (by show(PySem.W.lookIn name od).map (·.isSome)=some false;rw[hl,hv];rfl) h
theorem N5{ns:List Str}{Q:Unit->Shared->Prop}(X:K.In s.heap)(I:DQ s.heap x dx C mA)
  (hs:PySem.W.findIn K (.ref C) "__setattr__"=some (some (.builtin "object.__setattr__"))) (hp:PySem.W.plainOver K C=true) (ht:PySem.W.takerIn K C name=some none) (hh:PySem.W.hasDictIn K C=true)
  (hw:PySem.Within mA ns) (hsz:ns.length<=sizeLine)
  (h:∀h',DQ h' x dx C (λy=>if y=name then some v else mA y)->Heap.SameBut dx s.heap h'->Q () {s with heap:=h',toks:=s.toks + 2}) :
  wpAny (model prog w) A (setAttr (.ref x) name v) Q E s:=by
 obtain⟨od,J,hl⟩:=I.look;refine PySem.W.set_plain X J hs (PySem.W.osa_open (s:={s with toks:=s.toks + 1}) (r:=none) X J hp ht λb=>?_);obtain⟨cd,hc,hd'⟩:=PySem.W.any_some hh;have hx:s.heap.get? x=some ⟨.ref C,some dx,.plain,#[]⟩:=I.obj;refine aal (aas (aal (aal (wpAny_loadPart hx (aal (PySem.W.Looks.here (s:={s with toks:=s.toks + 1}) (PySem.W.looks_clsIn X hc) ?_))))));rw[hd'];refine aas (a:=some dx) (aal (aas (aal ?_)));refine wpAny_nsSet1 (s:={s with toks:=s.toks + 1}) I.ns λh' XJ VM=>?_
 obtain⟨oD,esD,epD,hoD,hdD,hcD⟩:=XJ.count (PySem.Within.cons name v hw);refine aal (wpAny_lookBehind hoD (by rw[hdD];exact pastItsLine_dict (aaO hcD (by rw[aaT];omega))) ?_);exact aas (h _ ⟨(VM.2 _ (acF I.ne)).trans I.obj,XJ,I.ne⟩ VM)
theorem JX{R:Result->Shared->Prop}{vs:List Value}{kw:List (Str×Value)}(X:K.In s.heap)(hm:PySem.W.makesIn K C=true)
  (hi:PySem.W.findIn K (.ref C) "__init__"=some (some (.ref f))) (hf:PySem.W.typeIn K (.ref f)=some (.type "function"))
  (h:codeAny (model prog w) (A.under (.builtin "type.__call__" ⟨.ref C::vs,kw⟩)) (.call (.ref f) ⟨.ref (s.heap.objs.size + 1)::vs,kw⟩) (PySem.W.InitBack (s.heap.objs.size + 1) R)
   {s with heap:=(s.heap.push PySem.W.emptyDict).push (PySem.W.instObj C s.heap.objs.size)}) :
  codeAny (model prog w) A (.call (.ref C) ⟨vs,kw⟩) R s:=by
 obtain⟨hh,g,d,t,os⟩:=s;exact PySem.W.make_core (PySem.W.makes_of X hm) (PySem.W.looks_findIn X hi) (λself=>PySem.W.bind_fn X self hf) (.inl rfl) h
end
def bz(f:Str)(v:V):List (Str×V)->List (Str×V)
 | []=>[(f,v)]
 | (g,x)::r=>if g=f then(g,v)::r else(g,x)::bz f v r
theorem uT(f g:Str)(v:V):∀fs:List (Str×V),(bz f v fs).lookup g=if g=f then some v else fs.lookup g
 | []=>by
  show List.lookup g [(f,v)]=_;by_cases h:g=f
  ·have hb:(g == f)=true:=beq_iff_eq.mpr h;simp only[List.lookup,hb,if_pos h]
  ·have hb:(g == f)=false:=beq_eq_false_iff_ne.mpr h;simp only[List.lookup,hb,if_neg h]
 | (k,x)::r=>by
  have ih:=uT f g v r;rw[show bz f v ((k,x)::r)=(if k=f then(k,v)::r else(k,x)::bz f v r)from rfl];by_cases hk:k=f
  ·rw[aaq hk];by_cases h:g=k
   ·have hb:(g == k)=true:=beq_iff_eq.mpr h;simp only[List.lookup,hb,if_pos (h.trans hk)]
   ·have hb:(g == k)=false:=beq_eq_false_iff_ne.mpr h;simp only[List.lookup,hb,if_neg (λe:g=f=>h (e.trans hk.symm))]
  ·rw[aan hk];by_cases h:g=k
   ·have hb:(g == k)=true:=beq_iff_eq.mpr h;simp only[List.lookup,hb,if_neg (λe:g=f=>hk (h.symm.trans e))]
   ·have hb:(g == k)=false:=beq_eq_false_iff_ne.mpr h;simp only[List.lookup,hb];exact ih
theorem t8(f:Str)(v:V):∀fs:List (Str×V),f∈(bz f v fs).map (·.1)/\∀g,g∈fs.map (·.1)->g∈(bz f v fs).map (·.1)
 | []=>⟨by simp[bz],λg h=>by simp at h⟩
 | (k,x)::r=>by
  obtain⟨i1,i2⟩:=t8 f v r;rw[show bz f v ((k,x)::r)=(if k=f then(k,v)::r else(k,x)::bz f v r)from rfl];by_cases hk:k=f
  ·rw[if_pos hk];subst hk;exact⟨by simp,λg h=>by simpa using h⟩
  ·rw[aan hk];refine⟨?_,λg h=>?_⟩
   ·rw[acx];exact aaF _ i1
   ·rw[acx]at h ⊢;rcases aam.mp h with e | e
    ·exact aam.mpr (.inl e)
    ·exact aaF _ (i2 g e)
theorem fC(f:Str)(v:V):∀fs:List (Str×V),(bz f v fs).length<=fs.length + 1
 | []=>by simp[bz]
 | (k,x)::r=>by
  have ih:=fC f v r;rw[show bz f v ((k,x)::r)=(if k=f then(k,v)::r else(k,x)::bz f v r)from rfl];by_cases hk:k=f
  ·rw[aaq hk,aaT,aaT];omega
  ·rw[aan hk,aaT,aaT];omega
theorem yC.some_of{v:V}{o:Option Value}(r:yC (some v) o):∃u,o=some u/\RelV v u:=by
 cases o with
 | none=>exact(show False from r).elim
 | some u=>exact⟨u,rfl,r⟩
theorem yC.none_of{o:Option Value}(r:yC none o):o=none:=by
 cases o with
 | none=>rfl
 | some u=>exact(show False from r).elim
theorem GY{v:V}{u:Value}(r:RelV v u):PySem.W.handedIn u=true:=by
 cases v with
 | non=>cases (show u=Value.none from r);rfl
 | bl b=>cases (show u=Value.bool b from r);rfl
 | int i=>obtain⟨t,e⟩:=(show ∃t,u=Value.int i t from r);cases e;rfl
 | str x=>obtain⟨t,e⟩:=(show ∃t,u=Value.str x t from r);cases e;rfl
 | byt b=>obtain⟨t,e⟩:=(show ∃t,u=Value.bytes b t from r);cases e;rfl
 | flt b=>obtain⟨t,e⟩:=(show ∃t,u=Value.float b t from r);cases e;rfl
 | ref a=>cases (show u=Value.ref a from r);rfl
 | ty n=>cases (show u=Value.type n from r);rfl
section
variable {P:Program} {w:World} {H H':Hp} {h h':Heap} {a C dx:Addr} {fs fs':List (Str×V)}
theorem zZ(hok:wF P w H h)(e:H a=some (.ins C dx fs)):∃mA,DQ h a dx C mA/\(∀f,yC (fs.lookup f) (mA f))/\PySem.Within mA (fs.map (·.1))/\fs.length<=1000/\H dx=some (.own a):=by
 obtain⟨d,z,ne,ob,mA,n,r,q⟩:=(show jd P w H h a (.ins C dx fs)from hok a _ e);exact⟨mA,⟨ob,n,ne⟩,r,q,z,d⟩
end
structure GZ(K:ax)(C:Addr):Prop where
 pg:PySem.W.plainGet K C Str.empty=true
 hd:PySem.W.hasDictIn K C=true
 po:PySem.W.plainOver K C=true
 sa:PySem.W.findIn K (.ref C) "__setattr__"=some (some (.builtin "object.__setattr__"))
theorem GZ.get{K:ax}{C:Addr}(c:GZ K C)(f:Str):PySem.W.plainGet K C f=true:=c.pg
def eD(K:ax)(C:Addr)(f:Str):Prop:=PySem.W.findIn K (.ref C) f=some none
theorem eD.VN{K:ax}{C:Addr}{f:Str}(n:eD K C f):PySem.W.takerIn K C f=some none:=by
 unfold PySem.W.takerIn;rw[show PySem.W.findIn K (.ref C) f=some none from n];rfl
structure Con(K:ax)(C:Addr)(f:Str)(v:V)(u:Value):Prop where
 at_:PySem.W.findIn K (.ref C) f=some (some u)
 rel:RelV v u
 get:PySem.W.specialIn K u "__get__"=some none
 cp:PySem.W.copiedNames.contains f=false
structure Meth(K:ax)(C:Addr)(m:Str)(f:Addr):Prop where
 at_:PySem.W.findIn K (.ref C) m=some (some (.ref f))
 fn:PySem.W.isFn K (.ref f)=true
 kp:PySem.W.keepIn K (.ref f)=true
section
variable {X:Cx} {pins:List (Addr×Obj)} {σ:St} {H:Hp} {s:Shared} {a C dx:Addr} {fs:List (Str×V)} {f:Str} {v:V} {A:Around} {E:Value->Shared->Prop}
theorem DR{b:Bool}{Q:Value->Shared->Prop}(I:Inv X pins σ H s)(e:H a=some (.ins C dx fs))(c:GZ X.K C)(n:eD X.K C f)(l:fs.lookup f=some v)
  (h:∀u s',Inv X pins σ H s'->RelV v u->Q u s'):wpAny (model X.prog X.w) A (getAttr (.ref a) f b) Q E s:=by
 obtain⟨mA,O,r,_,_,_⟩:=zZ I.hok e;obtain⟨u,hu,ru⟩:=yC.some_of (v:=v) (o:=mA f) (by rw[← l];exact r f);exact get_map I.yz O (c.get f) c.hd n hu (GY ru) (h u _ (I.tok _) ru)
theorem xa{m:Str}{g:Addr}{pl:Sem Bool}{Q:Value×List Value->Shared->Prop}(I:Inv X pins σ H s)(e:H a=some (.ins C dx fs))(c:GZ X.K C)(k:Meth X.K C m g)(l:fs.lookup m=none)
  (h:Q (.ref g,[.ref a]) s):wpAny (model X.prog X.w) A (getMethod (.ref a) m pl) Q E s:=by
 obtain⟨mA,O,r,_,_,_⟩:=zZ I.hok e;have hn:mA m=none:=yC.none_of (by rw[← l];exact r m);exact JW I.yz O (c.get m) k.at_ k.fn hn h
theorem DU{y:V}{u:Value}{Q:Unit->Shared->Prop}(I:Inv X pins σ H s)(e:H a=some (.ins C dx fs))(c:GZ X.K C)(n:eD X.K C f)(hl:fs.length < 1000)(ry:RelV y u)
  (h:∀s',Inv X pins σ (upd H a (.ins C dx (bz f y fs))) s'->Q () s'):wpAny (model X.prog X.w) A (setAttr (.ref a) f u) Q E s:=by
 obtain⟨mA,O,r,wi,_,ho⟩:=zZ I.hok e;have hz:(fs.map (·.1)).length<=sizeLine:=by rw[aah,sizeLine_eq];omega
 refine N5 I.yz O c.sa c.po n.VN c.hd wi hz λh' O' sb=>h _ ?_
 have hd:∃o,h'.get? dx=some o:=let ⟨o,_,_,e',_⟩:=O'.ns;⟨o,e'⟩
 refine I.write (x:=a) (e:=dx) (by rw[e];exact acC) (.inr ho) (λb q hb z=>(sb.2 b hb).trans z) hd ?_;refine⟨by rw[uN O.ne];exact ho,?_,O.ne,O'.obj,_,O'.ns,λg=>?_,λg hg=>?_⟩
 ·have:=fC f y fs;omega
 ·show yC ((bz f y fs).lookup g) (if g=f then some u else mA g);rw[uT];by_cases q:g=f
  ·rw[aaq q,aaq q];exact ry
  ·rw[aan q,aan q];exact r g
 ·by_cases q:g=f
  ·rw[q];exact(t8 f y fs).1
  ·refine(t8 f y fs).2 g (wi g λz=>hg ?_);show(if g=f then some u else mA g)=none;rw[aan q];exact z
theorem Inv.made(I:Inv X pins σ H s):Inv X pins σ (upd (upd H s.heap.objs.size (.own (s.heap.objs.size + 1))) (s.heap.objs.size + 1) (.ins C s.heap.objs.size []))
  {s with heap:=(s.heap.push PySem.W.emptyDict).push (PySem.W.instObj C s.heap.objs.size)}:=by
 have e1:(s.heap.push PySem.W.emptyDict).get? s.heap.objs.size=some PySem.W.emptyDict:=aav s.heap rfl
 have e2:((s.heap.push PySem.W.emptyDict).push (PySem.W.instObj C s.heap.objs.size)).get? (s.heap.objs.size + 1)=some (PySem.W.instObj C s.heap.objs.size):=by
  have:=aav (s.heap.push PySem.W.emptyDict) (o:=PySem.W.instObj C s.heap.objs.size) rfl
  rwa [Heap.size_push]at this
 have e3:(s.heap.push PySem.W.emptyDict).Ns s.heap.objs.size (λ_=>none):=⟨PySem.W.emptyDict,#[],_,e1,rfl,(λe he=>absurd he (by simp)),λ_=>rfl⟩;have I1:=I.laid (a:=s.heap.objs.size) (o:=.own (s.heap.objs.size + 1)) (h':=s.heap.push PySem.W.emptyDict) (t':=s.toks) (λb u q=>Heap.get?_push_of_some _ q) (Nat.le_refl _) ⟨_,e1⟩;refine I1.laid (a:=s.heap.objs.size + 1) (o:=.ins C s.heap.objs.size []) (t':=s.toks) (λb u q=>Heap.get?_push_of_some _ q) (Nat.le_of_eq (Heap.size_push _ _)) ?_;have ne:s.heap.objs.size≠s.heap.objs.size + 1:=Nat.ne_of_lt (Nat.lt_succ_self _);refine⟨by rw[uN ne,uS],Nat.zero_le _,ne,e2,λ_=>none,(Heap.Ns1.of_empty e3).at λo q=>Heap.get?_push_of_some _ q,λ_=>True.intro,λy hy=>absurd rfl hy⟩
theorem N6{prog:Program}{w:World}{env:Env}{e:Expr}{f:Str}{pos:Pos}{s:Shared}{Q:Value->Shared->Prop}(hb:attributeBase e f env (eval e env)=eval e env)
  (h:wpAny (model prog w) A (eval e env) (λo s₁=>wpAny (model prog w) A (getAttr o f true) Q E s₁) E s):wpAny (model prog w) A (eval (.Attribute e f pos) env) Q E s :=
 Attribute_any_ h (by rw[arm_eval_Attribute,hb])
end
def YD(K:ax)(ta:TE)(f:Str):TE:=λσ H Q=>ta σ H λx H1=>∃a C dx fs v,x=.ref a/\H1 a=some (.ins C dx fs)/\GZ K C/\eD K C f/\fs.lookup f=some v/\Q v H1
def YE(K:ax)(ta tv:TE)(f:Str):TS:=λD σ H=>tv σ H λy H1=>ta σ H1 λx H2=>∃a C dx fs,x=.ref a/\H2 a=some (.ins C dx fs)/\GZ K C/\eD K C f/\fs.length < 1000 /\
 D.nx σ (upd H2 a (.ins C dx (bz f y fs)))
section
variable {X:Cx} {o e value:Expr} {f:Str} {pos pos' tpos:Pos} {ta tv:TE}
theorem aO(he:PE X e ta)(hb:attributeBase e f X.env (eval e X.env)=eval e X.env):PE X (.Attribute e f pos) (YD X.K ta f):=by
 intro pins s σ H Q I h;refine N6 hb (c8 (he pins s σ H _ I h) λu s1 ⟨x,H1,I1,rx,a,C,dx,fs,v,ex,ea,c,n,l,q⟩=>?_);subst ex;obtain rfl:u=Value.ref a:=rx;exact DR I1 ea c n l λu' s2 I2 ru=>⟨v,H1,I2,ru,q⟩
theorem cP(ha:PE X o ta)(hv:PE X value tv)(hs:swapsWith value (some (.Attribute o f pos')) pos.line X.env=pure false):PS X (.Assign [.Attribute o f pos'] value pos) (YE X.K ta tv f):=by
 intro pins s σ H D I h;refine plainObj_wpAny_Assign_Attribute (c8 (hv pins s σ H _ I h) λu s1 ⟨y,H1,I1,ry,q⟩=>c8 (ha pins s1 σ H1 _ I1 q) λov s2 ⟨x,H2,I2,rx,a,C,dx,fs,ex,ea,c,n,l,q2⟩=>?_) hs;subst ex;obtain rfl:ov=Value.ref a:=rx;exact DU I2 ea c n l ry λs3 I3=>⟨σ,_,I3,q2⟩
end
section
variable {X:Cx} {pins:List (Addr×Obj)} {σ:St} {H:Hp} {s:Shared} {A:Around} {E:Value->Shared->Prop} {Q:Value->Shared->Prop} {c:Value} {b:Bool}
inductive xb(K:ax)(H:Hp):V->Value->Prop where
 | non:xb K H .non (.type "NoneType")
 | bl (x:Bool):xb K H (.bl x) (.type "bool")
 | int (i:Int):xb K H (.int i) (.type "int")
 | str (x:Str):xb K H (.str x) (.type "str")
 | flt (x:UInt64):xb K H (.flt x) (.type "float")
 | lst {a:Addr} {xs:List V} (e:H a=some (.lst xs)):xb K H (.ref a) (.type "list")
 | vX {a:Addr} {o:Obj} {xs:List V} (e:H a=some (.vX o (.lst xs))):xb K H (.ref a) (.type "list")
 | tup {a:Addr} {xs:List V} (e:H a=some (.tup xs)):xb K H (.ref a) (.type "tuple")
 | dK {a:Addr} {kvs:List (Key×V)} (e:H a=some (.dK kvs)):xb K H (.ref a) (.type "dict")
 | dT {a:Addr} {kvs:List (List Key×V)} (e:H a=some (.dT kvs)):xb K H (.ref a) (.type "dict")
 | ins {a C dx:Addr} {fs:List (Str×V)} (e:H a=some (.ins C dx fs)) (cl:GZ K C) (ha:PySem.W.findIn K (.ref C) "__class__"=some (some (.builtin "object.__class__")))
   (hn:PySem.W.specialIn K (.builtin "object.__class__") "__get__"=some (some (.builtin "getset_descriptor.__get__"))) (htk:PySem.W.takesIn K (.builtin "object.__class__")=some true)
   (hm:PySem.W.mroIn K C (.type "object")=some true):xb K H (.ref a) (.ref C)
end
structure fL(k:Nat)(A:Around):Prop where
 hd:A.handled=none
 dp:A.depth + 3 * k + 5 < recursionLimit
 un:A.units + 16 * k + 200 < cLine
 gd:A.guards=some []
theorem fL.mono{j k:Nat}{A:Around}(r:fL k A)(h:j<=k):fL j A:=⟨r.hd,by have:=r.dp;omega,by have:=r.un;omega,r.gd⟩
theorem fL.deeper{k:Nat}{A:Around}(r:fL (k + 1) A)(env:Env):fL k (A.deeper env) :=
 ⟨r.hd,by have:=r.dp;show A.depth + 1 + 3 * k + 5 < _;omega,by have:=r.un;show A.units + 3 + 16 * k + 200 < _;omega,r.gd⟩
theorem DW{A:Around}{C:Addr}{us:List Value}{kw:List (Str×Value)}:(A.under (.builtin "type.__call__" ⟨.ref C::us,kw⟩)).depth=A.depth + 1:=by
 first | rfl | simp[Around.under,Code.weight,Code.isCreation,Code.isGuard,Code.isCaller,Code.frames,Code.isFrame,guardIds]
theorem DY{A:Around}{C:Addr}{us:List Value}{kw:List (Str×Value)}:(A.under (.builtin "type.__call__" ⟨.ref C::us,kw⟩)).units=A.units + 1:=by
 first | rfl | simp[Around.under,Code.cUnits,Code.frames,Code.isFrame]
theorem fL.make{k:Nat}{A:Around}(r:fL (k + 1) A)(C:Addr)(us:List Value)(kw:List (Str×Value)):fL k (A.under (.builtin "type.__call__" ⟨.ref C::us,kw⟩)) :=
 ⟨r.hd,by have:=r.dp;rw[DW];omega,by have:=r.un;rw[DY];omega,r.gd⟩
theorem fL.depth{k:Nat}{A:Around}(r:fL k A):A.depth < recursionLimit:=by have:=r.dp;omega
theorem fL.units{k:Nat}{A:Around}(r:fL k A):A.units + 64 < cLine:=by have:=r.un;omega
def N7:TA:=λ_ H Q=>Q [] H
def Rt(ta:TE)(tr:TA):TA:=λσ H Q=>ta σ H λx H1=>tr σ H1 λxs H2=>Q (x::xs) H2
section
variable {X:Cx} {e:Expr} {es:List Expr} {te:TE} {t:TA} {pos:Pos}
theorem pN:PA X [] N7:=λ_ _ _ _ H Q I h=>Calls.spliced_nil ⟨[],H,I,.nil,h⟩
theorem pK(ha:PE X e te)(hr:PA X es t)(hs:starEach (e::es) X.env=(false,eval e X.env)::starEach es X.env:=by rfl):PA X (e::es) (Rt te t):=by
 intro pos pins s σ H Q I h;rw[hs];show wpAny _ _ (spliced ((false,eval e X.env)::backTo pos (starEach es X.env))) _ _ s;refine Calls.spliced_cons (c8 (ha pins s σ H _ I h) λu s1 ⟨x,H1,I1,r1,q1⟩=>?_);exact c8 (hr pos pins s1 σ H1 _ I1 q1) λus s2 ⟨xs,H2,I2,r2,q2⟩=>⟨x::xs,H2,I2,.cons r1 r2,q2⟩
def VO(t:TA):TE:=λσ H Q=>t σ H λxs H1=>xs.length<=sizeLine/\∀p,H1 p=none->Q (.ref p) (upd H1 p (.tup xs))
def Ss(t:TA):TE:=λσ H Q=>t σ H λxs H1=>xs.length<=sizeLine/\∀p,H1 p=none->Q (.ref p) (upd H1 p (.lst xs))
theorem cw{x1}(h:PA X es t):PE X (.Tuple es x1 pos) (VO t):=by
 intro pins s σ H Q I hq;refine wpAny_Tuple_spliced (c8 (h pos pins s σ H _ I hq) λus s1 ⟨xs,H1,I1,r,z,q⟩=>⟨by rw[← r.length];exact z,?_⟩);have hf:H1 s1.heap.objs.size=none:=I1.hok.fresh (aaf _);refine⟨.ref s1.heap.objs.size,upd H1 s1.heap.objs.size (.tup xs),I1.laid (t':=s1.toks) (λb u e=>aad _ e) (aaf _) ?_,rfl,q _ hf⟩;exact⟨z,us,r,⟨_,aav _ rfl,rfl,_,rfl⟩⟩
theorem dD(h:PA X es t):PE X (.List es pos) (Ss t):=by
 intro pins s σ H Q I hq;refine wpAny_List_spliced (c8 (h pos pins s σ H _ I hq) λus s1 ⟨xs,H1,I1,r,z,q⟩=>⟨by rw[← r.length];exact z,?_⟩);have hf:H1 s1.heap.objs.size=none:=I1.hok.fresh (aaf _);refine⟨.ref s1.heap.objs.size,upd H1 s1.heap.objs.size (.lst xs),I1.laid (t':=s1.toks) (λb u e=>aad _ e) (aaf _) ?_,rfl,q _ hf⟩;exact⟨z,us,0,r,aav _ rfl⟩
end
abbrev Sp:=List V->Hp->VK->XK->Prop
abbrev DZ:=List Env->Hp->Shared->XK->Value->Shared->Prop
structure D1(P:Program)(w:World)(K:ax)(mg:Str->Option Value)(base:Heap)(A:Around)(outer:List Env)(s:Shared)(H:Hp):Prop where
 frames:A.frames=some outer
 mod:Mod K mg base
 bs:∀b o,base.get? b=some o->s.heap.get? b=some o/\H b=none
 bsz:base.objs.size<=s.heap.objs.size
 vY:s.heap.FunFrames base outer
 frf:∀b∈bT outer,H b=none
 hok:wF P w H s.heap
 bare:AllBare s.gens
def CE(outer:List Env)(P:Program)(w:World)(H:Hp)(s:Shared)(Q:VK)(u:Value)(s':Shared):Prop :=
 ∃v H',s'.os=s.os/\AllBare s'.gens/\Un (bT outer) [] H H' s.heap s'.heap/\wF P w H' s'.heap/\RelV v u/\Q v H'
def CR(CX:DZ)(outer:List Env)(P:Program)(w:World)(H:Hp)(s:Shared)(Q:VK)(E:XK)(r:Result)(s':Shared):Prop :=
 match r with
 | .ok (.ret u)=>CE outer P w H s Q u s'
 | .ok _=>False
 | .error e=>CX outer H s E e s'
structure bp(P:Program)(w:World)(K:ax)(mg:Str->Option Value)(base:Heap)(CX:DZ)(k:Nat)(f:Addr)(fd:FuncData)(ps:List Str)(sp:Sp):Prop where
 len:∀vs H Q E,sp vs H Q E->vs.length=ps.length
 run:∀(A:Around) (outer:List Env) (s:Shared) (H:Hp) (args:Args) (us:List Value) (vs:List V) (Q:VK) (E:XK),fL k A->D1 P w K mg base A outer s H->BindsTo s fd args (ps.zip us)->Vals vs us->sp vs H Q E ->
  codeAny (model P w) A (.call (.ref f) args) (CR CX outer P w H s Q E) s
theorem D1.make{P:Program}{w:World}{K:ax}{mg:Str->Option Value}{base:Heap}{A:Around}{outer:List Env}{s:Shared}{H:Hp}(e:D1 P w K mg base A outer s H)(C:Addr)(us:List Value)(kw:List (Str×Value)):
  D1 P w K mg base (A.under (.builtin "type.__call__" ⟨.ref C::us,kw⟩)) outer s H:=⟨by first | exact e.frames | (simpa [Around.under,Code.envs,Code.isFrame,pushEnvs]using e.frames),e.mod,e.bs,e.bsz,e.vY,e.frf,e.hok,e.bare⟩
section
variable {X:Cx} {pins:List (Addr×Obj)} {σ:St} {H:Hp} {s s':Shared}
theorem Inv.VP(I:Inv X pins σ H s):D1 X.prog X.w X.K X.mg X.base X.A X.stack s H :=
 ⟨I.ok.frames,I.ok.mod,I.bs,aaO I.ok.bsz I.sz,I.stack,I.FD,I.hok,I.bare⟩
theorem Inv.after{Q:VK}{u:Value}(I:Inv X pins σ H s)(h:CE X.stack X.prog X.w H s Q u s'):EP X pins σ Q u s':=by
 obtain⟨v,H',os,bare,un,hok,r,q⟩:=h;obtain⟨hh,g,d,t,os'⟩:=s';obtain rfl:os'=s.os:=os;exact⟨v,H',I.call (h':=hh) (g':=g) (d':=d) (t':=t) (ch:=[]) un hok bare (λb z=>absurd z (by simp)),r,q⟩
end
def JY(sp:Sp)(dvs:List V)(E:XK)(t:TA):TE:=λσ H Q=>t σ H λvs H1=>sp (vs++dvs) H1 Q E
def zd(C:Addr)(m:Str)(sp:Sp)(dvs:List V)(E:XK)(ta:TE)(t:TA):TE:=λσ H Q=>ta σ H λx H1=>∃a dx fs,x=.ref a/\H1 a=some (.ins C dx fs)/\fs.lookup m=none /\
 t σ H1 λvs H2=>sp (x::(vs++dvs)) H2 Q E
def Ru(C:Addr)(sp:Sp)(dvs:List V)(E:XK)(t:TA):TE:=λσ H Q=>t σ H λvs H1=>∀x dx,H1 x=none->H1 dx=none->dx≠x ->
 sp (.ref x::(vs++dvs)) (upd (upd H1 dx (.own x)) x (.ins C dx [])) (λv H2=>v=.non/\Q (.ref x) H2) E
def Binds(K:ax)(fd:FuncData)(ps:List Str)(ds:List Value):Prop :=
 ∀(s:Shared) (us:List Value),K.In s.heap->(us++ds).length=ps.length->BindsTo s fd ⟨us,[]⟩ (ps.zip (us++ds))
theorem Binds.all{K:ax}{fd:FuncData}{ps:List Str}(h:∀us:List Value,us.length=ps.length->bindArgs fd ⟨us,[]⟩=pure (ps.zip us)):Binds K fd ps []:=λs us _ hl=>by
 rw[abd]at hl ⊢;exact .of_eq (h us hl)
def Passes(CX:DZ)(X:Cx)(E:XK):Prop:=∀(pins:List (Addr×Obj)) (σ:St) (H:Hp) (s:Shared) (e:Value) (s':Shared),Inv X pins σ H s->CX X.stack H s E e s'->X.xe e s'
section
variable {X:Cx} {CX:DZ} {k:Nat} {f C:Addr} {fd:FuncData} {ps:List Str} {sp:Sp} {dvs:List V} {ds:List Value} {E:XK} {x m:Str} {p pos apos:Pos} {e o:Expr} {es:List Expr} {ta:TE} {t:TA}
theorem D3{pins:List (Addr×Obj)}{σ:St}{H:Hp}{s:Shared}{Q:VK}{us:List Value}{vs:List V}(F:bp X.prog X.w X.K X.mg X.base CX k f fd ps sp)(hr:fL k X.A)(hb:Binds X.K fd ps ds)(hd:Vals dvs ds)(hx:Passes CX X E)
  (I:Inv X pins σ H s) (r:Vals vs us) (h:sp (vs++dvs) H Q E):wpAny (model X.prog X.w) X.A (call (.ref f) us) (EP X pins σ Q) X.xe s:=by
 have r2:Vals (vs++dvs) (us++ds):=r.append hd;have hl:(us++ds).length=ps.length:=by rw[← r2.length];exact F.len _ _ _ _ h
 refine wpAny_call (codeAny_mono (F.run X.A X.stack s H ⟨us,[]⟩ (us++ds) (vs++dvs) Q E hr I.VP (hb s us I.yz hl) r2 h) λr s' hq=>?_)
 cases r with
 | error e=>exact hx pins σ H s e s' I hq
 | ok fl =>
  cases fl with
  | ret u=>exact I.after hq
  | next=>exact False.elim hq
  | brk=>exact False.elim hq
  | cont=>exact False.elim hq
theorem N8(F:bp X.prog X.w X.K X.mg X.base CX k f fd ps sp)(hr:fL k X.A)(hg:Gl X x)(hm:X.mg x=some (.ref f))(hk:PySem.W.keepIn X.K (.ref f)=true)(hb:Binds X.K fd ps ds)(hd:Vals dvs ds)(hx:Passes CX X E)
  (ha:PA X (e::es) t) (hdb:(x == ("__debug__" : Str))=false:=by decide) (he:starEach (e::es) X.env=(false,eval e X.env)::starEach es X.env:=by rfl) (hpl:(backTo pos (starEach es X.env)).any (·.1)=false:=by rfl) :
  PE X (.Call (.Name x p) (e::es) [] pos) (JY sp dvs E t):=by
 intro pins s σ H Q I h;refine abA (zT I hg hm ?_ hdb);refine acs (h₀:=X.base) I.ok.mod.kin hk (c8 (ha pos pins s σ H _ I h) λus s1 ⟨vs,H1,I1,r,q⟩=>⟨I1.yz,?_⟩) he hpl;exact D3 F hr hb hd hx I1 r q
theorem N9{pl:Sem Bool}(he:PE X o ta)(c:GZ X.K C)(hm:Meth X.K C m f)(F:bp X.prog X.w X.K X.mg X.base CX k f fd ps sp)(hr:fL k X.A)(hb:Binds X.K fd ps ds)(hd:Vals dvs ds)(hx:Passes CX X E)(ha:PA X (e::es) t)
  (hst:starEach (e::es) X.env=(false,eval e X.env)::starEach es X.env:=by rfl) (hpl:(backTo pos (starEach es X.env)).any (·.1)=false:=by rfl)
  (ht:eval (.Call (.Attribute o m apos) (e::es) [] pos) X.env=(do
   let ov ← eval o X.env
   standAt apos.atName
   let (f,first) ← holding [ov] (getMethod ov m pl)
   callWith pos f first (backTo pos (starEach (e::es) X.env)) (backToKw pos (keywordEach [] X.env))):=by rfl) :
  PE X (.Call (.Attribute o m apos) (e::es) [] pos) (zd C m sp dvs E ta t):=by
 intro pins s σ H Q I h;refine acW (pl:=pl) (c8 (he pins s σ H _ I h) λu s1 ⟨x,H1,I1,rx,a,dx,fs,ex,ea,l,q⟩=>?_) ht;subst ex;obtain rfl:u=Value.ref a:=rx;refine xa I1 ea c hm l ?_;refine acs (first:=[.ref a]) (h₀:=X.base) I.ok.mod.kin hm.kp (c8 (ha pos pins s1 σ H1 _ I1 q) λus s2 ⟨vs,H2,I2,r,q2⟩=>⟨I2.yz,?_⟩) hst hpl;exact D3 (us:=.ref a::us) (vs:=.ref a::vs) F hr hb hd hx I2 (.cons rfl r) q2
theorem JZ{pl:Sem Bool}(he:PE X o ta)(c:GZ X.K C)(hm:Meth X.K C m f)(F:bp X.prog X.w X.K X.mg X.base CX k f fd ps sp)(hr:fL k X.A)(hb:Binds X.K fd ps ds)(hd:Vals dvs ds)(hx:Passes CX X E)
  (ht:eval (.Call (.Attribute o m apos) [] [] pos) X.env=(do
   let ov ← eval o X.env
   standAt apos.atName
   let (f,first) ← holding [ov] (getMethod ov m pl)
   callWith pos f first (backTo pos (starEach [] X.env)) (backToKw pos (keywordEach [] X.env))):=by rfl) :
  PE X (.Call (.Attribute o m apos) [] [] pos) (zd C m sp dvs E ta N7):=by
 intro pins s σ H Q I h;refine acW (pl:=pl) (c8 (he pins s σ H _ I h) λu s1 ⟨x,H1,I1,rx,a,dx,fs,ex,ea,l,q⟩=>?_) ht;subst ex;obtain rfl:u=Value.ref a:=rx;refine xa I1 ea c hm l ?_;exact PySem.W.callWith_K0 (first:=[.ref a]) I1.yz hm.kp (D3 (us:=[.ref a]) (vs:=[.ref a]) F hr hb hd hx I1 (.cons rfl .nil) q)
structure Mk(K:ax)(C f:Addr):Prop where
 makes:PySem.W.makesIn K C=true
 init:PySem.W.findIn K (.ref C) "__init__"=some (some (.ref f))
 fn:PySem.W.isFn K (.ref f)=true
 kp:PySem.W.keepIn K (.ref C)=true
theorem J0{pins:List (Addr×Obj)}{σ:St}{H:Hp}{s:Shared}{Q:VK}{us:List Value}{vs:List V}(M:Mk X.K C f)(F:bp X.prog X.w X.K X.mg X.base CX k f fd ps sp)(hr:fL (k + 1) X.A)(hb:Binds X.K fd ps ds)(hd:Vals dvs ds)
  (hx:Passes CX X E) (I:Inv X pins σ H s) (r:Vals vs us)
  (h:∀x dx,H x=none->H dx=none->dx≠x->sp (.ref x::(vs++dvs)) (upd (upd H dx (.own x)) x (.ins C dx [])) (λv H2=>v=.non/\Q (.ref x) H2) E) :
  wpAny (model X.prog X.w) X.A (call (.ref C) us) (EP X pins σ Q) X.xe s:=by
 have hq:=h (s.heap.objs.size + 1) s.heap.objs.size (I.hok.fresh (Nat.le_succ _)) (I.hok.fresh (aaf _)) (aax (ach _));have I2:=Inv.made (C:=C) I;have r2:Vals (V.ref (s.heap.objs.size + 1)::(vs++dvs)) (Value.ref (s.heap.objs.size + 1)::(us++ds)):=.cons rfl (r.append hd)
 have hl:(Value.ref (s.heap.objs.size + 1)::us++ds).length=ps.length:=by
  have e:=r2.length;rw[F.len _ _ _ _ hq]at e;exact e.symm
 refine wpAny_call (JX (f:=f) I.yz M.makes M.init (beq_iff_eq.mp M.fn) (codeAny_mono (F.run _ X.stack _ _ ⟨Value.ref (s.heap.objs.size + 1)::us,[]⟩ (Value.ref (s.heap.objs.size + 1)::(us++ds)) _ _ E (hr.make C us [])
  (I2.VP.make C us []) (hb _ (Value.ref (s.heap.objs.size + 1)::us) I2.yz hl) r2 hq) λr s' hq'=>?_))
 cases r with
 | error e=>exact hx pins σ _ _ e s' I2 hq'
 | ok fl =>
  cases fl with
  | ret u =>
   obtain⟨v,H',I3,rv,ev,q3⟩:=I2.after hq';subst ev;exact⟨rv,⟨V.ref (s.heap.objs.size + 1),H',I3,rfl,q3⟩⟩
  | next=>exact False.elim hq'
  | brk=>exact False.elim hq'
  | cont=>exact False.elim hq'
theorem Oa(M:Mk X.K C f)(F:bp X.prog X.w X.K X.mg X.base CX k f fd ps sp)(hr:fL (k + 1) X.A)(hg:Gl X x)(hm:X.mg x=some (.ref C))(hb:Binds X.K fd ps ds)(hd:Vals dvs ds)(hx:Passes CX X E)
  (ha:PA X (e::es) t) (hdb:(x == ("__debug__" : Str))=false:=by decide) (he:starEach (e::es) X.env=(false,eval e X.env)::starEach es X.env:=by rfl) (hpl:(backTo pos (starEach es X.env)).any (·.1)=false:=by rfl) :
  PE X (.Call (.Name x p) (e::es) [] pos) (Ru C sp dvs E t):=by
 intro pins s σ H Q I h;refine abA (zT I hg hm ?_ hdb);refine acs (h₀:=X.base) I.ok.mod.kin M.kp (c8 (ha pos pins s σ H _ I h) λus s1 ⟨vs,H1,I1,r,q⟩=>⟨I1.yz,?_⟩) he hpl;exact J0 M F hr hb hd hx I1 r q
end
section
variable {X:Cx} {CX:DZ} {k:Nat} {f C:Addr} {fd:FuncData} {ps ks:List Str} {sp:Sp} {E:XK} {x m:Str} {p pos apos kpos:Pos} {e o:Expr} {es:List Expr} {kws:List Keyword} {te ta:TE} {t tk:TA} {nm:Option Str}
structure YF(K:ax)(fd:FuncData)(ps ks:List Str)(g:List Value->List Value->List Value)(gV:List V->List V->List V):Prop where
 to:∀(s:Shared) (us ws:List Value),K.In s.heap->(g us ws).length=ps.length->BindsTo s fd ⟨us,ks.zip ws⟩ (ps.zip (g us ws))
 rel:∀{vs:List V} {us:List Value} {zs:List V} {ws:List Value},Vals vs us->Vals zs ws->Vals (gV vs zs) (g us ws)
variable {g:List Value->List Value->List Value} {gV:List V->List V->List V}
end
structure aA(N P:List Str)(sc:Scope):Prop where
 kind:sc.kind=.function
 co:sc.isCoroutine=false
 gen:sc.isGenerator=false
 nd:N.Nodup
 pre:N.take P.length=P
 par:∀x∈P,sc.names.lookup x=some .local∨sc.names.lookup x=some .cell
 nofree:∀y∈sc.names,y.2≠.free
theorem ze{kindOf:Str->Option NameKind}{x:Str}:∀{binds:List (Str×Value)} {m:Str->Option Value},(∀v,(x,v)∉binds)->bindL kindOf binds m x=m x
 | [],_,_=>rfl
 | (n,v)::r,m,h=>by
  unfold bindL;rw[ze λw hw=>h w (List.mem_cons_of_mem _ hw)];split
  ·have:x≠n:=by rintro rfl;exact h v aaz
   simp[this]
  ·rfl
theorem zf{kindOf:Str->Option NameKind}{x:Str}:∀{binds:List (Str×Value)} {m:Str->Option Value},(∀v,(x,v)∉binds)->bindC kindOf binds m x=m x
 | [],_,_=>rfl
 | (n,v)::r,m,h=>by
  unfold bindC;rw[zf λw hw=>h w (List.mem_cons_of_mem _ hw)];split
  ·rfl
  ·have:x≠n:=by rintro rfl;exact h v aaz
   simp[this]
theorem zg{kindOf:Str->Option NameKind}{x:Str}{v:Value}:∀{P:List Str} {vs:List Value} {i:Nat} {m:Str->Option Value},P.Nodup->P[i]?=some x->vs[i]?=some v->kindOf x=some .local ->
  bindL kindOf (P.zip vs) m x=some v
 | [],_,_,_,_,h,_,_=>by simp at h
 | _::_,[],_,_,_,_,h,_=>by simp at h
 | p::P,w::vs,0,m,nd,h1,h2,hk=>by
  simp at h1 h2;subst h1;subst h2;show bindL kindOf ((p,w)::P.zip vs) m p=_;unfold bindL;rw[ze λv hv=>(List.nodup_cons.mp nd).1 (List.of_mem_zip hv).1,if_pos hk];simp
 | p::P,w::vs,i + 1,m,nd,h1,h2,hk=>by
  show bindL kindOf ((p,w)::P.zip vs) m x=_;unfold bindL;exact zg (i:=i) (List.nodup_cons.mp nd).2 (by simpa using h1) (by simpa using h2) hk
theorem zh{kindOf:Str->Option NameKind}{x:Str}{v:Value}:∀{P:List Str} {vs:List Value} {i:Nat} {m:Str->Option Value},P.Nodup->P[i]?=some x->vs[i]?=some v->kindOf x≠some .local ->
  bindC kindOf (P.zip vs) m x=some v
 | [],_,_,_,_,h,_,_=>by simp at h
 | _::_,[],_,_,_,_,h,_=>by simp at h
 | p::P,w::vs,0,m,nd,h1,h2,hk=>by
  simp at h1 h2;subst h1;subst h2;show bindC kindOf ((p,w)::P.zip vs) m p=_;unfold bindC;rw[zf λv hv=>(List.nodup_cons.mp nd).1 (List.of_mem_zip hv).1,if_neg hk];simp
 | p::P,w::vs,i + 1,m,nd,h1,h2,hk=>by
  show bindC kindOf ((p,w)::P.zip vs) m x=_;unfold bindC;exact zh (i:=i) (List.nodup_cons.mp nd).2 (by simpa using h1) (by simpa using h2) hk
def start(N:List Str)(vs:List V):St:=vs.map some++List.replicate (N.length - vs.length) none
def G0(CX:DZ)(P:Program)(w:World)(K:ax)(mg:Str->Option Value)(base:Heap)(N:List Str)(qual:Str)(scope:Scope)(f:Addr)(cd:Value)(A:Around)(outer:List Env)(s:Shared)(H:Hp)(E:XK):Cx where
 prog:=P
 w:=w
 K:=K
 mg:=mg
 base:=base
 A:=A.deeper (envOfC qual scope s.heap.objs.size f cd)
 N:=N
 s₀:=s
 H₀:=H
 env:=envOfC qual scope s.heap.objs.size f cd
 outer:=outer
 stack:=envOfC qual scope s.heap.objs.size f cd::outer
 ex:=[]
 calm:=true
 fn:=λ_=>true
 pn:=[]
 xe:=λe s'=>wpAny (model P w) (A.deeper (envOfC qual scope s.heap.objs.size f cd)) (leaving (envOfC qual scope s.heap.objs.size f cd) e) (λ_ s''=>CX outer H s E e s'') (λe' s''=>CX outer H s E e' s'') s'
theorem BM{sc:Scope}{n:Nat}{x:Str}(h:sc.names.lookup x=some .cell):∃c,(cellsFrom n sc.names []).lookup x=some c:=by
 have q:=acS sc.names n [] (.inl h);exact Option.isSome_iff_exists.mp q
theorem G2{CX:DZ}{P:Program}{w:World}{K:ax}{mg:Str->Option Value}{base:Heap}{N ps:List Str}{qual:Str}{scope:Scope}{f:Addr}{cd:Value}{A:Around}{outer:List Env}{s s1:Shared}{H:Hp}{E:XK}{us:List Value}{vs:List V}
  (S:aA N ps scope) (hd:A.handled=none) (e0:D1 P w K mg base A outer s H) (hl:vs.length=ps.length) (r:Vals vs us)
  (x:InCallC s s.heap.objs.size (bindL (envOfC qual scope s.heap.objs.size f cd).kindOf (ps.zip us) λ_=>none) (cellsFrom (s.heap.objs.size + 1) scope.names []) (bindC (envOfC qual scope s.heap.objs.size f cd).kindOf (ps.zip us) λ_=>none) s1) :
  Inv (G0 CX P w K mg base N qual scope f cd A outer s H E) [] (start N vs) H s1:=by
 have hpl:ps.length<=N.length:=by have:=abv List.length S.pre;rw[aaC]at this;omega
 obtain⟨h1,tk,rfl,hk⟩:=x.done;have noA:∀b:Addr,b∉(G0 CX P w K mg base N qual scope f cd A outer s H E).ex:=λb z=>absurd (show b∈([]:List Addr)from z) (by simp)
 refine⟨⟨e0.mod,S.kind,rfl,rfl,aaf _,λy z c h1 h2=>?_,λy hy=>?_,λy c _ h=>?_,λ_=>hd,Around.frames_deeper e0.frames,.inr ⟨rfl,rfl⟩,λb z=>absurd z (noA b),e0.bs,e0.bsz,λb _ _=>noA b,λb z=>absurd z (noA b),e0.vY,e0.frf⟩,
  rfl,e0.bare,Un.kept hk,⟨_,x.toInCall.ns,λi y v h1 h2 h3=>?_⟩,λy c h=>⟨_,x.cell y c h⟩,e0.hok.fresh (Nat.le_refl _),λy c h=>?_,λp hp=>absurd (show p∈([]:List (Addr×Obj))from hp) (by simp),e0.hok.kept hk,?_⟩
 ·exact name_of_addr x.apart (abm h1) (abm h2)
 ·have hy:scope.names.lookup y=some .cell∨scope.names.lookup y=some .free:=hy;rcases hy with hy | hy
  ·exact BM hy
  ·exact absurd rfl (S.nofree _ (abm hy))
 ·exact aaX (x.above y c (abm h))
 ·have hi:i < vs.length:=by
   unfold start at h2;by_cases hi:i < vs.length
   ·exact hi
   ·rw[List.getElem?_append_right (by simpa using hi)]at h2;rw[List.getElem?_replicate]at h2;split at h2<;>cases h2
  have ha:vs[i]?=some v:=by
   unfold start at h2;rw[List.getElem?_append_left (by simpa using hi),List.getElem?_map]at h2
   cases e:vs[i]? with
   | none=>rw[e]at h2;cases h2
   | some a=>rw[e]at h2;cases h2;rfl
  obtain⟨u,hu,rv⟩:=r.get ha
  have hp:ps[i]?=some y:=by
   rw[← S.pre,abk (by omega)];exact h1
  have ndP:ps.Nodup:=by rw[← S.pre];exact S.nd.sublist (List.take_sublist _ _)
  refine⟨u,rv,?_⟩;rcases S.par y (aat hp)with k | k
  ·exact .inl ⟨k,zg ndP hp hu k⟩
  ·obtain⟨c,e⟩:=BM (n:=s.heap.objs.size + 1) k;refine .inr ⟨.inl k,c,e,?_⟩;have q:=x.cell y c e;rw[zh ndP hp hu (by show scope.names.lookup y≠_;rw[k];decide)]at q;exact q
 ·exact e0.hok.fresh (aaX (x.above y c (abm h)))
 ·unfold start;show _=N.length;rw[List.length_append,List.length_map,List.length_replicate];omega
theorem VQ{CX:DZ}{P:Program}{w:World}{K:ax}{mg:Str->Option Value}{base:Heap}{k:Nat}{f:Addr}{name qual:Str}{params:Arguments}{body:List Stmt}{scope:Scope}{dV kV doc pm cdv ct oc:Value}{an od:Option Addr}
  {osl:Array (Option Value)} {N ps:List Str} {sp:Sp} (lk:K.lookup f=some ⟨oc,od,.func (PySem.W.fnOf name qual params body scope dV kV doc pm an cdv ct),osl⟩) (hcd:PySem.W.codeIn K cdv qual=true) (S:aA N ps scope)
  (len:∀vs H Q E,sp vs H Q E->vs.length=ps.length)
  (hbody:∀(A:Around) (outer:List Env) (s:Shared) (H:Hp) (vs:List V) (Q:VK) (E:XK),fL k (A.deeper (envOfC qual scope s.heap.objs.size f cdv))->sp vs H Q E ->
   ∃t,BG (G0 CX P w K mg base N qual scope f cdv A outer s H E) body t/\t {nx:=λ_ H'=>Q .non H',rt:=Q} (start N vs) H) :
  bp P w K mg base CX (k + 1) f (PySem.W.fnOf name qual params body scope dV kV doc pm an cdv ct) ps sp:=by
 refine⟨len,λA outer s H args us vs Q E hr e0 hb r hsp=>?_⟩;have hl:=len _ _ _ _ hsp;have KX:K.In s.heap:=e0.mod.kin.keeps λb o e=>(e0.bs b o e).1
 have lim:s.heap.NoLimit:=e0.mod.nolimit.keeps λb o e=>(e0.bs b o e).1
 have hkind:∀y∈ps.zip us,scope.names.lookup y.1=some .local∨(scope.names.lookup y.1=some .cell/\((cellsFrom (s.heap.objs.size + 1) scope.names []).lookup y.1).isSome=true):=λ⟨n,v⟩ hy=>by
  rcases S.par n (List.of_mem_zip hy).1 with q | q
  ·exact .inl q
  ·exact .inr ⟨q,acS _ _ _ (.inl q)⟩
 refine codeAny_call_function hr.depth (KX _ _ lk) rfl S.co S.gen rfl (PySem.W.codeRec_of KX hcd) (hb _ _ _ _ ?_);refine wpAny_newFunctionEnv_cells S.kind hkind λenv he s1 x=>?_
 subst he;refine⟨lim.keeps x.toInCall.keep,codeAny_func ?_⟩;obtain⟨t,ht,hq⟩:=hbody A outer s H vs Q E (hr.deeper _) hsp;have I:Inv (G0 CX P w K mg base N qual scope f cdv A outer s H E) [] (start N vs) H s1:=G2 S hr.hd e0 hl r x;refine abj (ht [] s1 (start N vs) H _ I hq) (λfl s' hs=>?_) λe s' hs=>hs
 have fin:∀{σ':St} {H':Hp} {v:V} {u:Value},Inv (G0 CX P w K mg base N qual scope f cdv A outer s H E) [] σ' H' s'->RelV v u->Q v H'->CE outer P w H s Q u s' :=
  λ{σ' H' v u} J rv q=>⟨v,H',J.os,J.bare,J.base,J.hok,rv,q⟩
 cases fl with
 | ret u =>
  obtain⟨v,σ',H',J,rv,q⟩:=hs;exact fin J rv q
 | next =>
  obtain⟨σ',H',J,q⟩:=hs;exact fin (v:=V.non) (u:=Value.none) J rfl q
 | brk =>
  obtain⟨_,_,_,q⟩:=hs;exact False.elim q
 | cont =>
  obtain⟨_,_,_,q⟩:=hs;exact False.elim q
section
variable {X:Cx} {x:Str} {p pos:Pos} {e:Expr} {es:List Expr} {t:TA} {id T:String} {r:List V->Hp->VK->Prop}
def YG(r:List V->Hp->VK->Prop)(t:TA):TE:=λσ H Q=>t σ H λvs H1=>r vs H1 Q
theorem bP(hc:jE X (.builtin id) r)(hg:Gl X x)(hm:X.mg x=none)(hv:bootBuiltins x=some (.builtin id))(ha:PA X (e::es) t)(hn:x≠"__name__":=by decide)(hdb:(x == ("__debug__" : Str))=false:=by decide)
  (he:starEach (e::es) X.env=(false,eval e X.env)::starEach es X.env:=by rfl) (hpl:(backTo pos (starEach es X.env)).any (·.1)=false:=by rfl):PE X (.Call (.Name x p) (e::es) [] pos) (YG r t):=by
 intro pins s σ H Q I h;refine abA (wX I hg hm hv ?_ hn hdb);exact PyProof.Rows.callWith_builtin1 (c8 (ha pos pins s σ H _ I h) λus s1 ⟨vs,H1,I1,r1,q1⟩=>hc pins s1 σ H1 vs us Q I1 r1 q1) he hpl
theorem dX(hc:jE X (.type T) r)(hg:Gl X x)(hm:X.mg x=none)(hv:bootBuiltins x=some (.type T))(ha:PA X (e::es) t)(hn:x≠"__name__":=by decide)(hdb:(x == ("__debug__" : Str))=false:=by decide)
  (he:starEach (e::es) X.env=(false,eval e X.env)::starEach es X.env:=by rfl) (hpl:(backTo pos (starEach es X.env)).any (·.1)=false:=by rfl):PE X (.Call (.Name x p) (e::es) [] pos) (YG r t):=by
 intro pins s σ H Q I h;refine abA (wX I hg hm hv ?_ hn hdb);exact abu (c8 (ha pos pins s σ H _ I h) λus s1 ⟨vs,H1,I1,r1,q1⟩=>hc pins s1 σ H1 vs us Q I1 r1 q1) he hpl
end
end L2
namespace HT
open PySem PyProof.Rows
section
open PySem.SeqAt
open PySem.AutoSeq1 (wpAny_loadPart')
open PySem.MeetsSeq PySem.MeetsSeq2 PySem.MeetsSeq3
end
section
variable {prog:Program} {w:World} {A:Around} {E:Value->Shared->Prop} {s:Shared}
theorem Oc{t b:Addr}{vs ws:List Value}{Q:Value->Shared->Prop}(ht:IsTup s.heap t vs.toArray)(hb:IsTup s.heap b ws.toArray)(hv:vs≠[])
  (h1:ws=[]->Q (.ref t) s) (h2:ws≠[]->Q (.ref s.heap.objs.size) {s with heap:=s.heap.push {cls:=.type "tuple",data:=.seq (vs++ws).toArray}})
  (hsz:vs.length + ws.length<=sizeLine):wpAny (model prog w) A (binaryOp .Add (.ref t) (.ref b)) Q E s:=by
 obtain⟨⟨cls,dd,data,sl⟩,ho,hc,n,hd⟩:=id ht;obtain⟨⟨aeL,dd2,data2,Vi⟩,Su,VR,n2,hd2⟩:=id hb;simp only at hc hd VR hd2;subst hc hd VR hd2;have e:vs.toArray++ws.toArray=(vs++ws).toArray:=by simp
 by_cases hw:ws=[]
 ·exact concat_meets ⟨_,ho,rfl⟩ ⟨_,Su,rfl⟩ noFill_tuple_add seq_tuple_add acT acO (acG _ _)
   (tuple_addW1 t b vs.toArray ws.toArray n n2 dd dd2 sl Vi (by simpa using hv) (by simp[hw])) ⟨ho,Su,h1 hw⟩
 ·refine concat_meets ⟨_,ho,rfl⟩ ⟨_,Su,rfl⟩ noFill_tuple_add seq_tuple_add acT acO (acG _ _)
   (tuple_addW2 t b vs.toArray ws.toArray n n2 dd dd2 sl Vi (by simpa using hv) (by simpa using hw) (by rw[List.size_toArray,List.size_toArray];exact hsz)) ⟨ho,Su,?_⟩
  rw[e];exact h2 hw
def fc(n d:Nat):Option Int->Nat
 | none=>d
 | some v=>if v < 0 then(v + (n:Int)).toNat else min v.toNat n
theorem xc(n d:Nat):fc n d none=d:=rfl
theorem rP(n d k:Nat):fc n d (some (k:Int))=min k n:=by
 show(if (k:Int) < 0 then((k:Int) + (n:Int)).toNat else min (k:Int).toNat n)=min k n;rw[aan (by omega),aa0]
theorem Sv(n d:Nat)(hd:d<=n)(o:Option Int):fc n d o<=n:=by
 cases o with
 | none=>exact hd
 | some v =>
  show(if v < 0 then(v + (n:Int)).toNat else min v.toNat n)<=n;by_cases hv:v < 0
  ·rw[aaq hv];omega
  ·rw[aan hv];exact Nat.min_le_right _ _
theorem FL(v:Int)(n d:Nat):(if v < 0 then max (v + (n:Int)) 0 else min v (n:Int))=((fc n d (some v):Nat):Int):=by
 show(if v < 0 then max (v + (n:Int)) 0 else min v (n:Int))=(((if v < 0 then(v + (n:Int)).toNat else min v.toNat n):Nat):Int);by_cases hv:v < 0
 ·simp only[if_pos hv];omega
 ·simp only[if_neg hv];omega
theorem D4(lo hi:Option Int)(n:Nat):Builtin.Slice.sliceAdjust lo hi 1 (n:Int)=(((fc n 0 lo:Nat):Int),((fc n n hi:Nat):Int)):=by
 have h1:¬ ((1:Int) < 0):=by omega
 unfold Builtin.Slice.sliceAdjust;simp only[h1,if_false];refine Prod.ext ?_ ?_
 ·cases lo with
  | none=>rfl
  | some v=>exact FL v n 0
 ·cases hi with
  | none=>rfl
  | some v=>exact FL v n n
theorem D5(i j:Nat):Builtin.Slice.slicePlaces (i:Int) (j:Int) 1=j - i:=by
 unfold Builtin.Slice.slicePlaces;have h1:(1:Int) > 0:=by omega
 simp only[h1,if_true,Int.ediv_one];split<;>omega
theorem xf{v:Value}{o:Option Int}{Q:Option Int->Shared->Prop}(p:IsPart v o)(h:Q o s):wpAny (model prog w) A (Builtin.Slice.slicePartIndex v) Q E s:=by
 cases p with
 | none=>exact slicePart_none h
 | int i t=>exact slicePart_int h
theorem kl{sl:Addr}{vl vu:Value}{lo hi:Option Int}{n:Nat}{Q:Int×Int×Nat->Shared->Prop}(hs:s.heap.IsSliceOf sl vl vu .none)(pl:IsPart vl lo)(pu:IsPart vu hi)
  (h:Q (((fc n 0 lo:Nat):Int),1,fc n n hi - fc n 0 lo) s):wpAny (model prog w) A (Builtin.Slice.sliceApplied (.ref sl) (pure (n:Int))) Q E s:=by
 obtain⟨os,hos,hcs,hds⟩:=id hs;unfold Builtin.Slice.sliceApplied Builtin.Slice.sliceFields;refine wpAny_bind (wpAny_bind (wpAny_field hos hds (x:=vl) rfl (wpAny_bind (wpAny_field hos hds (x:=vu) rfl (wpAny_bind (wpAny_field hos hds (x:=.none) rfl (wpAny_pure ?_)))))));refine wpAny_bind (slicePart_none ?_);show wpAny _ _ (if ((1:Int) == 0)=true then _ else _) _ _ s;rw[if_neg (by decide)];refine wpAny_bind (xf pl (wpAny_bind (xf pu (wpAny_bind (wpAny_pure ?_)))));show wpAny _ _ (match Builtin.Slice.sliceAdjust lo hi 1 (n:Int)with | (lo,hi)=>pure (lo,(1:Int),Builtin.Slice.slicePlaces lo hi 1)) _ _ s;rw[D4 lo hi n];show wpAny _ _ (pure (((fc n 0 lo:Nat):Int),(1:Int),Builtin.Slice.slicePlaces ((fc n 0 lo:Nat):Int) ((fc n n hi:Nat):Int) 1)) _ _ s;rw[D5];exact wpAny_pure h
theorem J1(xs:Array Value)(i k:Nat):((List.range k).filterMap λ(m:Nat)=>xs[((i:Int) + (m:Int) * 1).toNat]?).toArray=((xs.toList.drop i).take k).toArray:=by
 have e:(λ(m:Nat)=>xs[((i:Int) + (m:Int) * 1).toNat]?)=λm=>xs[i + m]?:=by
  funext m
  have:((i:Int) + (m:Int) * 1).toNat=i + m:=by omega
  rw[this]
 rw[e];have:=pick_run xs i k;rw[List.filterMap_map]at this;have e2:((λx=>xs[x]?) ∘ λx=>i + x)=λm=>xs[i + m]?:=rfl
 rw[e2]at this;rw[this]
theorem rQ{t sl:Addr}{items:Array Value}{vl vu:Value}{lo hi:Option Int}{Q:Value->Shared->Prop}(ht:IsTup s.heap t items)(hs:s.heap.IsSliceOf sl vl vu .none)(pl:IsPart vl lo)(pu:IsPart vu hi)
  (hw:¬ (fc items.size 0 lo=0/\fc items.size items.size hi=items.size))
  (h:Q (.ref s.heap.objs.size) {s with heap:=s.heap.push {cls:=.type "tuple",data:=.seq ((items.toList.drop (fc items.size 0 lo)).take (fc items.size items.size hi - fc items.size 0 lo)).toArray}})
  (hsz:items.size<=sizeLine):wpAny (model prog w) A (getItem (.ref t) (.ref sl)) Q E s:=by
 have htake:sizeOk (.seq ((items.toList.drop (fc items.size 0 lo)).take (fc items.size items.size hi - fc items.size 0 lo)).toArray):=by
  show((items.toList.drop (fc items.size 0 lo)).take (fc items.size items.size hi - fc items.size 0 lo)).toArray.size<=sizeLine;rw[aaD,aaC,aaY,Array.length_toList];omega
 have hj:fc items.size items.size hi<=items.size:=Sv _ _ (Nat.le_refl _) hi;obtain⟨os,hos,hcs,hds⟩:=id hs;have hTs:s.TypeIs (.ref sl) "slice":=⟨os,hos,hcs⟩;unfold getItem
 try with_reducible refine acg ?_
 first | refine aal (aas ?_) | skip
 refine aal (wpAny_sequenceKey ht.typeIs (by decide) ?_);refine aal (wpAny_callSpecial?_slot (name:=Str.ofString "__getitem__") ht.typeIs abn
  (wpAny_call_entry abn ht.typeIs entry_tuple_getitem ?_ (args_tuple_getitem _ _)))
 show wpAny _ _ (Builtin.Tuple.tupleItemsOf (.ref t) >>= _) _ _ s;refine aal (tupleItemsOf_ ht ?_);refine aal (wpAny_typeOf hTs ?_);rw[aaq (by decide)];refine aal (kl hs pl pu ?_)
 have hno:¬ ((((fc items.size 0 lo:Nat):Int) == 0&&(1:Int) == 1&&(fc items.size items.size hi - fc items.size 0 lo) == items.size)=true):=by
  intro q;rw[aci,aci]at q;have q1:((fc items.size 0 lo:Nat):Int)=0:=eq_of_beq q.1.1;have q2:fc items.size items.size hi - fc items.size 0 lo=items.size:=eq_of_beq q.2;exact hw ⟨by omega,by omega⟩
 show wpAny _ _ (if (((fc items.size 0 lo:Nat):Int) == 0&&(1:Int) == 1&&(fc items.size items.size hi - fc items.size 0 lo) == items.size)=true then _ else _) _ _ s;rw[aan hno,J1]
 first
  | exact aal (m:=Builtin.Tuple.tupleExact _) (abq (aas ⟨_,rfl,aas h⟩) htake)
  | exact aal (m:=Builtin.Tuple.tupleExact _) (abq (aal (aas (aas ⟨_,rfl,aas h⟩))) htake)
  | exact aal (aal (m:=Builtin.Tuple.tupleExact _) (abq (aas (aas ⟨_,rfl,aas h⟩)) htake))
  | exact aal (aal (m:=Builtin.Tuple.tupleExact _) (abq (aas ⟨_,rfl,aas h⟩) htake))
end
end HT
namespace L2
open PySem PySem.Spec PyProof.Rows
abbrev TO:=St->Hp->(Option Int->Hp->Prop)->Prop
def PO(X:Cx)(e:Option Expr)(t:TO):Prop :=
 ∀(pins:List (Addr×Obj)) (s:Shared) (σ:St) (H:Hp) (Q:Option Int->Hp->Prop),Inv X pins σ H s->t σ H Q ->
  wpAny (model X.prog X.w) X.A (evalPart e X.env) (λu s'=>∃o H',Inv X pins σ H' s'/\IsPart u o/\Q o H') X.xe s
def Od:TO:=λ_ H Q=>Q none H
def VS(t:TE):TO:=λσ H Q=>t σ H λx H1=>∃i,x=.int i/\Q (some i) H1
section
variable {X:Cx} {e:Expr} {te:TE} {lo hi:Option Expr} {tl th:TO} {pos p2:Pos}
theorem rR:PO X none Od:=by
 intro pins s σ H Q I h;rw[evalPart_none];exact aas ⟨none,H,I,.none,h⟩
theorem rS(h:PE X e te):PO X (some e) (VS te):=by
 intro pins s σ H Q I hw;rw[evalPart_some];refine c8 (h pins s σ H _ I hw) λu s1 ⟨x,H1,I1,r1,q1⟩=>?_
 obtain⟨i,rfl,q⟩:=q1;obtain⟨t,rfl⟩:=r1;exact⟨some i,H1,I1,.int i t,q⟩
def Nq(X:Cx)(r:V->Option Int->Option Int->Hp->VK->Prop):Prop :=
 ∀(pins:List (Addr×Obj)) (s:Shared) (σ:St) (H:Hp) (x:V) (v vl vu:Value) (lo hi:Option Int) (sl:Addr) (Q:VK),Inv X pins σ H s->RelV x v->s.heap.IsSliceOf sl vl vu .none->IsPart vl lo->IsPart vu hi->r x lo hi H Q ->
  ∃T id,typeLookup (.type T) "__getitem__"=pure (some (.builtin id))/\s.TypeIs v T/\wpAny (model X.prog X.w) X.A (getItem v (.ref sl)) (EP X pins σ Q) X.xe s
def tSl(r:V->Option Int->Option Int->Hp->VK->Prop)(te:TE)(tl th:TO):TE:=λσ H Q=>te σ H λx H1=>tl σ H1 λl H2=>th σ H2 λu H3=>r x l u H3 Q
theorem mI{r:V->Option Int->Option Int->Hp->VK->Prop}(hr:Nq X r)(he:PE X e te)(hl:PO X lo tl)(hu:PO X hi th):PE X (.Subscript e (.Slice lo hi none p2) pos) (tSl r te tl th):=by
 intro pins s σ H Q I h;refine Subscript_ (c8 (he pins s σ H _ I h) λv s1 ⟨x,H1,I1,r1,q1⟩=>?_);refine wpAny_Slice (c8 (hl pins s1 σ H1 _ I1 q1) λvl s2 ⟨l,H2,I2,pl,q2⟩=>c8 (hu pins s2 σ H2 _ I2 q2) λvu s3 ⟨u,H3,I3,pu,q3⟩=>?_);rw[evalPart_none];refine aas ?_;have I4:Inv X pins σ H3 {s3 with heap:=s3.heap.push {cls:=.type "slice",data:=.fields #[vl,vu,.none]}}:=I3.kept (t':=s3.toks) λb ob q=>aad _ q
 obtain⟨T,id,hT,ht,hg⟩:=hr pins {s3 with heap:=s3.heap.push {cls:=.type "slice",data:=.fields #[vl,vu,.none]}} σ H3 x v vl vu l u s3.heap.objs.size Q I4 r1 (Heap.IsSliceOf.new ..) pl pu q3;show wpAny (model X.prog X.w) X.A (subscriptTail e (.Slice lo hi none p2) v (.ref s3.heap.objs.size)) (EP X pins σ Q) X.xe {s3 with heap:=s3.heap.push {cls:=.type "slice",data:=.fields #[vl,vu,.none]}};exact tail_any (ops:=[.ref s3.heap.objs.size,v]) ht hT hg (by with_unfolding_all rfl)
def km(xs:List V)(lo hi:Option Int):List V:=(xs.drop (HT.fc xs.length 0 lo)).take (HT.fc xs.length xs.length hi - HT.fc xs.length 0 lo)
theorem uU(xs:List V)(lo hi:Option Int):(km xs lo hi).length<=xs.length:=by
 unfold km;rw[List.length_take,List.length_drop];omega
def YH(K:ax):V->Option Int->Option Int->Hp->VK->Prop:=λx lo hi H Q=>∃a xs,x=.ref a/\bu K H a xs /\
 ¬ (HT.fc xs.length 0 lo=0/\HT.fc xs.length xs.length hi=xs.length)/\∀p,H p=none->Q (.ref p) (upd H p (.tup (km xs lo hi)))
theorem Sw:Nq X (YH X.K):=by
 intro pins s σ H x v vl vu lo hi sl Q I rx hs pl pu h;obtain⟨a,xs,rfl,hx,hw,q⟩:=h;cases rx;obtain⟨its,r,ht,hz⟩:=I.tuple hx;have hlen:its.toArray.size=xs.length:=by rw[aaD];exact r.length.symm
 refine⟨"tuple",_,abn.lookup,ht.typeIs,?_⟩;refine HT.rQ ht hs pl pu (by rw[hlen];exact hw) ?_ (by rw[hlen];exact hz);rw[hlen];refine⟨.ref s.heap.objs.size,_,I.laid (t':=s.toks) (o:=.tup (km xs lo hi)) (λb ob q=>aad _ q) (aaf _) ?_,rfl,q _ (I.hok.fresh (aaf _))⟩;exact⟨aaO (uU xs lo hi) hz,_,(r.drop (HT.fc xs.length 0 lo)).take (HT.fc xs.length xs.length hi - HT.fc xs.length 0 lo),IsTup.new _ _⟩
def VT(K:ax):R2:=λx y H Q=>∃a b xs ys,x=.ref a/\y=.ref b/\bu K H a xs/\bu K H b ys/\xs≠[]/\xs.length + ys.length<=sizeLine /\
 (ys=[]->Q (.ref a) H)/\(ys≠[]->∀p,H p=none->Q (.ref p) (upd H p (.tup (xs++ys))))
theorem Vals.z7{xs:List V}{us:List Value}(r:Vals xs us):us=[]↔xs=[]:=by
 cases r with
 | nil=>simp
 | cons _ _=>simp
theorem Oe:jD X (binaryOp .Add) (VT X.K):=by
 intro pins s σ H x y v u Q I rx ry h;obtain⟨a,b,xs,ys,rfl,rfl,ha,hb,hx,hz,q1,q2⟩:=h;cases rx;cases ry;obtain⟨its,r1,p1,_⟩:=I.tuple ha;obtain⟨rT,r2,p2,_⟩:=I.tuple hb;refine HT.Oc p1 p2 (λz=>hx (r1.z7.mp z)) (λz=>⟨.ref a,H,I,rfl,q1 (r2.z7.mp z)⟩) (λz=>?_) (by rw[← r1.length,← r2.length];exact hz);refine⟨.ref s.heap.objs.size,_,I.laid (t':=s.toks) (o:=.tup (xs++ys)) (λb ob q=>aad _ q) (aaf _) ?_,rfl,q2 (λw=>z (r2.z7.mpr w)) _ (I.hok.fresh (aaf _))⟩;exact⟨by rw[aaG];exact hz,_,r1.append r2,IsTup.new _ _⟩
end
def D6(n:Nat)(i:Int):Option Nat:=if 0<=i then(if i < n then some i.toNat else none)else if -(n:Int)<=i then some (i + n).toNat else none
def pF{α:Type}(xs:List α)(i:Int):Option α:=(D6 xs.length i).bind λj=>xs[j]?
theorem FN{n:Nat}{i:Int}{j:Nat}(h:D6 n i=some j):seqIndex? i n=some j/\j < n/\-(n:Int)<=i/\i < n:=by
 unfold D6 at h;by_cases h0:0<=i
 ·rw[aaq h0]at h;by_cases h1:i < n
  ·rw[aaq h1]at h;have e:i.toNat=j:=aaE h;exact⟨by rw[seqIndex_of h0 h1,e],by omega,by omega,h1⟩
  ·rw[aan h1]at h;cases h
 ·rw[aan h0]at h;by_cases h1:-(n:Int)<=i
  ·rw[aaq h1]at h;have e:(i + n).toNat=j:=aaE h;exact⟨by rw[seqIndex_neg (by omega) h1,e],by omega,h1,by omega⟩
  ·rw[aan h1]at h;cases h
theorem z8{α:Type}{xs:List α}{i:Int}{v:α}(h:pF xs i=some v):∃j,seqIndex? i xs.length=some j/\xs[j]?=some v/\j < xs.length/\-(xs.length:Int)<=i/\i < xs.length:=by
 unfold pF at h
 cases e:D6 xs.length i with
 | none=>rw[e]at h;cases h
 | some j =>
  rw[e]at h;obtain⟨h1,h2,h3,h4⟩:=FN e;exact⟨j,h1,h,h2,h3,h4⟩
theorem aN{α:Type}{xs:List α}{j:Nat}{v:α}(h:xs[j]?=some v):pF xs (j:Int)=some v:=by
 have hj:j < xs.length:=(bU h).1
 have e:D6 xs.length (j:Int)=some j:=by
  unfold D6;rw[if_pos (by omega),if_pos (by omega)];simp
 unfold pF;rw[e];exact h
theorem J2{α:Type}(xs:List α)(v:α):pF (xs++[v]) (-1)=some v:=by
 have hl:(xs++[v]).length=xs.length + 1:=by simp
 have e:D6 (xs++[v]).length (-1)=some xs.length:=by
  unfold D6;rw[hl,if_neg (by decide),if_pos (by omega)]
  congr 1
  omega
 unfold pF;rw[e];show(xs++[v])[xs.length]?=some v;simp
def z9(b:Expr):Prop:=∀o i,subscripted b false o i=operate [o,i] (getItem o i)
def Nr(X:Cx)(r:R2):Prop :=
 ∀(value slice:Expr) (pins:List (Addr×Obj)) (s:Shared) (σ:St) (H:Hp) (x y:V) (v u:Value) (Q:VK),Inv X pins σ H s->RelV x v->RelV y u->r x y H Q ->
  subscripted slice false v u=operate [v,u] (getItem v u)->wpAny (model X.prog X.w) X.A (subscriptTail value slice v u) (EP X pins σ Q) X.xe s
def MtR(X:Cx)(id:String)(r:V->List V->Hp->VK->Prop):Prop :=
 ∀(pins:List (Addr×Obj)) (s:Shared) (σ:St) (H:Hp) (x:V) (xs:List V) (v:Value) (us:List Value) (Q:VK),Inv X pins σ H s->RelV x v->Vals xs us->r x xs H Q ->
  wpAny (model X.prog X.w) X.A (call (.builtin id) (v::us)) (EP X pins σ Q) X.xe s
section
variable {X:Cx} {a b:Expr} {ta tb:TE} {pos:Pos}
theorem Nr.or{r r':R2}(h:Nr X r)(h':Nr X r'):Nr X (λx y H Q=>r x y H Q∨r' x y H Q):=by
 intro value slice pins s σ H x y v u Q I rx ry q hs;rcases q with q | q
 ·exact h value slice pins s σ H x y v u Q I rx ry q hs
 ·exact h' value slice pins s σ H x y v u Q I rx ry q hs
theorem az{r:R2}(hr:Nr X r)(ha:PE X a ta)(hb:PE X b tb)(hs:z9 b):PE X (.Subscript a b pos) (VI r ta tb):=by
 intro pins s σ H Q I h;exact Subscript_ (Sn ha hb I h λv u s2 x y H2 I2 rx ry q=>hr a b pins s2 σ H2 x y v u Q I2 rx ry q (hs _ _))
def Of(K:ax):R2:=λx y H Q=>∃p xs i v,x=.ref p/\y=.int i/\bt K H p xs/\pF xs i=some v/\Q v H
def yD(K:ax):R2:=λx y H Q=>∃p xs i v,x=.ref p/\y=.int i/\bu K H p xs/\pF xs i=some v/\Q v H
def VU:R2:=λx y H Q=>∃z i c,x=.str z/\y=.int i/\z.length<=sizeLine/\pF z.cps.toList i=some c/\Q (.str ⟨#[c]⟩) H
theorem bj:Nr X (Of X.K):=by
 intro value slice pins s σ H x y v u Q I rx ry h hs;obtain⟨p,xs,i,z,rfl,rfl,hq,he,q⟩:=h;cases rx;obtain⟨t,rfl⟩:=ry;obtain⟨its,r,pl,hz⟩:=I.list hq;obtain⟨j,h1,h2,h3,h4,h5⟩:=z8 he;obtain⟨w,ew,rw'⟩:=r.get h2;have hl:=r.length;have hn:=t7;have fin:EP X pins σ Q w s:=⟨z,H,I,rw',q⟩;by_cases h0:0<=i
 ·have hj:i.toNat=j:=by
   rw[seqIndex_of h0 h5]at h1;exact aaE h1
  exact item_listR pl.isList h0 (by omega) (by rw[hj];simpa using ew) fin hs
 ·have hj:(i + (its.toArray.size:Int)).toNat=j:=by
   rw[seqIndex_neg (by omega) h4]at h1;rw[aaD,← hl];exact aaE h1
  exact acd (x:=w) pl.isList.typeIs slot_list_getitem.lookup
   (wpAny_getItem_list_neg (Q:=λr s'=>r=w/\EP X pins σ Q r s') pl.isList (by omega) (by rw[List.size_toArray]<;>omega) (by omega) (by rw[hj];simpa using ew) ⟨rfl,fin⟩) hs
theorem aB:Nr X (yD X.K):=by
 intro value slice pins s σ H x y v u Q I rx ry h hs;obtain⟨p,xs,i,z,rfl,rfl,hq,he,q⟩:=h;cases rx;obtain⟨t,rfl⟩:=ry;obtain⟨its,r,pl,hz⟩:=I.tuple hq;obtain⟨j,h1,h2,h3,h4,h5⟩:=z8 he;obtain⟨w,ew,rw'⟩:=r.get h2;have hl:=r.length;have hn:=t7;have fin:EP X pins σ Q w s:=⟨z,H,I,rw',q⟩;exact acd (x:=w) pl.typeIs slot_tuple_getitem.lookup
  (getItem_tuple (j:=j) (Q:=λr s'=>r=w/\EP X pins σ Q r s') pl (by omega) (by omega) (by rw[List.size_toArray,← hl];exact h1) (by simpa using ew) ⟨rfl,fin⟩) hs
theorem Sx:Nr X VU:=by
 intro value slice pins s σ H x y v u Q I rx ry h hs;obtain⟨z,i,c,rfl,rfl,hz,he,q⟩:=h;obtain⟨t,rfl⟩:=rx;obtain⟨t',rfl⟩:=ry;obtain⟨j,h1,h2,h3,h4,h5⟩:=z8 he;have hl:z.cps.toList.length=z.length:=by simp[Str.length]
 rw[hl]at h1 h4 h5;have hn:=t7
 exact tail_any (typeIs_str s z t) slot_str_getitem.lookup (getItem_str (c:=c) (by
  have e1:decide (i < -(2 ^ 63:Int))=false:=decide_eq_false (by omega);have e2:decide (i ≥ 2 ^ 63)=false:=decide_eq_false (by omega);rw[e1,e2,Bool.or_false]) (by rw[h1];simpa using h2) ⟨.str ⟨#[c]⟩,H,I.tok _,⟨_,rfl⟩,q⟩) hs
def rIx(K:ax):R2:=λx y H Q=>Of K x y H Q∨yD K x y H Q∨VU x y H Q
theorem J3:Nr X (rIx X.K):=bj.or (aB.or Sx)
theorem D7(its:List Value)(n j:Nat)(u:Value):Obj.mapSeq (·.setIfInBounds j u) {cls:=.type "list",data:=.seq its.toArray n}={cls:=.type "list",data:=.seq (its.set j u).toArray n}:=by
 simp[Obj.mapSeq]
theorem Inv.lst{pins:List (Addr×Obj)}{σ:St}{H:Hp}{s:Shared}{p:Addr}{xs:List V}(I:Inv X pins σ H s)(h:H p=some (.lst xs)):
  ∃(its:List Value) (n:Nat),Vals xs its/\s.heap.get? p=some {cls:=.type "list",data:=.seq its.toArray n}/\xs.length<=sizeLine:=by
 obtain⟨z,its,n,r,e⟩:=I.hok p _ h;exact⟨its,n,r,e,z⟩
theorem Inv.Sy{pins:List (Addr×Obj)}{σ:St}{H:Hp}{s:Shared}{p:Addr}{xs ys:List V}{its its':List Value}{n n':Nat}{f:Obj->Obj}(I:Inv X pins σ H s)(h:H p=some (.lst xs))
  (ho:s.heap.get? p=some {cls:=.type "list",data:=.seq its.toArray n}) (hf:f {cls:=.type "list",data:=.seq its.toArray n}={cls:=.type "list",data:=.seq its'.toArray n'}) (r:Vals ys its') (hz:ys.length<=sizeLine) (t:Nat) :
  Inv X pins σ (upd H p (.lst ys)) {s with heap:=s.heap.update p f,toks:=t}:=by
 have e:(s.heap.update p f).get? p=some {cls:=.type "list",data:=.seq its'.toArray n'}:=by
  rw[Heap.get?_update_self f ho (by rw[hf]<;>rfl),hf]
 refine I.write (x:=p) (e:=p) (by rw[h];trivial) (.inl rfl) (λb u hb q=>(Heap.get?_update_other _ _ (acF hb)).trans q) ⟨_,e⟩ ?_;exact⟨hz,its',n',r,e⟩
def Rv:V->V->V->Hp->(Hp->Prop)->Prop:=λo i v H Q=>∃p xs k j,o=.ref p/\i=.int k/\H p=some (.lst xs)/\D6 xs.length k=some j/\Q (upd H p (.lst (xs.set j v)))
theorem set_list:VC X Rv:=by
 intro pins s σ H o i v ov iv u Q I ro ri rv h;obtain⟨p,xs,k,j,rfl,rfl,hp,hj,q⟩:=h;cases ro;obtain⟨t,rfl⟩:=ri;obtain⟨its,n,r,ho,hz⟩:=I.lst hp;obtain⟨h1,h2,h3,h4⟩:=FN hj;have hl:=r.length;have hn:=t7
 have I':Inv X pins σ (upd H p (.lst (xs.set j v))) {s with heap:=s.heap.update p (Obj.mapSeq (·.setIfInBounds j u))} :=
  I.Sy hp ho (D7 its n j u) (r.set rv j) (by rw[aaL];exact hz) s.toks
 by_cases h0:0<=k
 ·have hk:k.toNat=j:=by
   rw[seqIndex_of h0 h4]at h1;exact aaE h1
  exact PySem.W.ki_setAt ho h0 (by omega) (by rw[aaD,← hl];exact h4) (by rw[hk];exact⟨_,I',q⟩)
 ·have hk:(k + (its.toArray.size:Int)).toNat=j:=by
   rw[seqIndex_neg (by omega) h3]at h1;rw[aaD,← hl];exact aaE h1
  exact PySem.W.ki_setBack ho (by omega) (by rw[aaD,← hl];exact h3) (by omega) (by rw[hk];exact⟨_,I',q⟩)
theorem Aa(lo hi:Option Int)(n:Nat):(sliceBounds lo hi none n).1=((HT.fc n 0 lo:Nat):Int)/\(sliceBounds lo hi none n).2.1=((HT.fc n n hi:Nat):Int)/\(sliceBounds lo hi none n).2.2=1:=by
 refine⟨?_,?_,rfl⟩
 ·cases lo with
  | none=>simp[sliceBounds,HT.fc]
  | some i =>
   simp only[sliceBounds,HT.fc,Option.getD_none,show(1:Int) > 0 by decide,if_true];by_cases h:i < 0
   ·simp only[h,if_true]<;>omega
   ·simp only[h,if_false]<;>omega
 ·cases hi with
  | none=>simp[sliceBounds,HT.fc]
  | some i =>
   simp only[sliceBounds,HT.fc,Option.getD_none,show(1:Int) > 0 by decide,if_true];by_cases h:i < 0
   ·simp only[h,if_true]<;>omega
   ·simp only[h,if_false]<;>omega
theorem yE(its:List Value)(lo hi:Option Int):slicePick its.toArray lo hi none=((its.drop (HT.fc its.length 0 lo)).take (HT.fc its.length its.length hi - HT.fc its.length 0 lo)).toArray:=by
 obtain⟨h1,h2,h3⟩:=Aa lo hi its.toArray.size;unfold slicePick;rw[h1,h2,h3];simp only[sliceRange_one,pick_run,List.size_toArray]<;>rfl
def VV(K:ax):V->Option Int->Option Int->Hp->VK->Prop:=λx lo hi H Q=>∃a xs,x=.ref a/\bt K H a xs/\∀p,H p=none->Q (.ref p) (upd H p (.lst (km xs lo hi)))
theorem Ab:Nq X (VV X.K):=by
 intro pins s σ H x v vl vu lo hi sl Q I rx hs pl pu h;obtain⟨a,xs,rfl,hx,q⟩:=h;cases rx;obtain⟨its,r,ht,hz⟩:=I.list hx;have hlen:=r.length;refine⟨"list",_,slot_list_getitem.lookup,ht.isList.typeIs,?_⟩;refine wpAny_getItem_list_slice ht.isList hs pl pu .none (by simp) ?_ (by rw[List.size_toArray]<;>omega)
 rw[yE,← hlen];refine⟨.ref s.heap.objs.size,_,I.laid (t':=s.toks) (o:=.lst (km xs lo hi)) (λb ob q=>aad _ q) (aaf _) ?_,rfl,q _ (I.hok.fresh (aaf _))⟩;exact⟨aaO (uU xs lo hi) hz,_,0,(r.drop (HT.fc xs.length 0 lo)).take (HT.fc xs.length xs.length hi - HT.fc xs.length 0 lo),aav _ rfl⟩
def jf:V->Bool
 | .non=>true
 | .bl _=>true
 | .int _=>true
 | .str _=>true
 | _=>false
def G3:V->V->Bool
 | .non,.non=>true
 | .bl a,.bl b=>a == b
 | .bl a,.int b=>(if a then 1 else 0) == b
 | .int a,.bl b=>a == (if b then 1 else 0)
 | .int a,.int b=>a == b
 | .str a,.str b=>a == b
 | _,_=>false
theorem Sz{A:Around}{s:Shared}{y x:V}{u v:Value}(ry:RelV y u)(rx:RelV x v)(fy:jf y=true)(fx:jf x=true):SeqAt.EqAt A s u v (G3 y x):=by
 cases y with
 | non =>
  cases ry
  cases x with
  | non=>cases rx;exact SeqAt.EqAt.same _
  | bl b=>cases rx;exact SeqAt.EqAt.none_bool b
  | int b=>obtain⟨t,rfl⟩:=rx;exact SeqAt.EqAt.none_int b t
  | str b=>obtain⟨t,rfl⟩:=rx;exact SeqAt.EqAt.none_str b t
  | _=>exact absurd (show false=true from fx) aak
 | bl a =>
  cases ry
  cases x with
  | non=>cases rx;exact SeqAt.EqAt.bool_none a
  | bl b=>cases rx;exact SeqAt.EqAt.bool_bool a b
  | int b=>obtain⟨t,rfl⟩:=rx;exact SeqAt.EqAt.bool_int a b t
  | str b=>obtain⟨t,rfl⟩:=rx;exact SeqAt.EqAt.bool_str a b t
  | _=>exact absurd (show false=true from fx) aak
 | int a =>
  obtain⟨t',rfl⟩:=ry
  cases x with
  | non=>cases rx;exact SeqAt.EqAt.int_none a t'
  | bl b=>cases rx;exact SeqAt.EqAt.int_bool a t' b
  | int b=>obtain⟨t,rfl⟩:=rx;exact SeqAt.EqAt.int_int a t' b t
  | str b=>obtain⟨t,rfl⟩:=rx;exact SeqAt.EqAt.int_str a t' b t
  | _=>exact absurd (show false=true from fx) aak
 | str a =>
  obtain⟨t',rfl⟩:=ry
  cases x with
  | non=>cases rx;exact SeqAt.EqAt.str_none a t'
  | bl b=>cases rx;exact SeqAt.EqAt.str_bool a t' b
  | int b=>obtain⟨t,rfl⟩:=rx;exact SeqAt.EqAt.str_int a t' b t
  | str b=>obtain⟨t,rfl⟩:=rx;exact SeqAt.EqAt.str_str a t' b t
  | _=>exact absurd (show false=true from fx) aak
 | _=>exact absurd (show false=true from fy) aak
def Og(x:V)(u:Value):Bool:=match u with
 | .none=>G3 .non x
 | .bool b=>G3 (.bl b) x
 | .int i _=>G3 (.int i) x
 | .str z _=>G3 (.str z) x
 | _=>false
theorem J4{x y:V}{u:Value}(r:RelV y u)(f:jf y=true):Og x u=G3 y x:=by
 cases y with
 | non=>cases r;rfl
 | bl b=>cases r;rfl
 | int i=>obtain⟨t,rfl⟩:=r;rfl
 | str z=>obtain⟨t,rfl⟩:=r;rfl
 | _=>exact absurd (show false=true from f) aak
theorem Ac{x:V}:∀{xs:List V} {us:List Value},Vals xs us->xs.all jf=true->us.any (Og x)=xs.any λy=>G3 y x
 | _,_,.nil,_=>rfl
 | y::xs,u::us,.cons r t,f=>by
  rw[List.all_cons,aci]at f;rw[List.any_cons,List.any_cons,J4 r f.1,Ac t f.2]
theorem xg{A:Around}{s:Shared}{x:V}{v:Value}(rx:RelV x v)(fx:jf x=true):∀{xs:List V} {us:List Value},Vals xs us->xs.all jf=true->∀u∈us,SeqAt.EqAt A s u v (Og x u)
 | _,_,.nil,_=>λu hu=>by cases hu
 | y::xs,u::us,.cons r t,f=>λu' hu=>by
  rw[List.all_cons,aci]at f;rcases aam.mp hu with rfl | hu
  ·rw[J4 r f.1];exact Sz r rx f.1 fx
  ·exact xg rx fx t f.2 u' hu
def J5(x:V)(xs:List V):Bool:=xs.any λy=>G3 y x
def rIn(K:ax)(neg:Bool):R2:=λx y H Q=>∃p xs,y=.ref p/\(bt K H p xs∨bu K H p xs)/\jf x=true/\xs.all jf=true/\Q (.bl (if neg then !J5 x xs else J5 x xs)) H
theorem ko:jD X (compareOp .In) (rIn X.K false):=by
 intro pins s σ H x y v u Q I rx ry h;obtain⟨p,xs,rfl,hq,fx,fs,q⟩:=h;cases ry;rcases hq with hq | hq
 ·obtain⟨its,r,pl,hz⟩:=I.list hq;refine SeqAt.in_listAt (Og x) pl.isList (λw hw=>xg rx fx r fs w (by simpa using hw)) ⟨.bl _,H,I,rfl,?_⟩;rw[show its.toArray.any (Og x)=its.any (Og x)by simp,Ac r fs];exact q
 ·obtain⟨its,r,pl,hz⟩:=I.tuple hq;refine SeqAt.in_tupleAt (Og x) pl (λw hw=>xg rx fx r fs w (by simpa using hw)) ⟨.bl _,H,I,rfl,?_⟩;rw[show its.toArray.any (Og x)=its.any (Og x)by simp,Ac r fs];exact q
theorem bD:jE X (.builtin "len") (λxs H Q=>∃p ys,xs=[.ref p]/\(bt X.K H p ys∨bu X.K H p ys)/\Q (.int ys.length) H):=by
 intro pins s σ H xs us Q I r h;obtain⟨p,ys,rfl,hq,q⟩:=h;obtain⟨u,rfl,rx⟩:=vals1 r;cases rx;have hn:=t7;rcases hq with hq | hq
 ·obtain⟨its,r',pl,hz⟩:=I.list hq;have hlen:=r'.length;exact Calls.call_len_list pl.isList (by simp only[List.size_toArray]<;>omega) ⟨.int ys.length,H,I.tok _,⟨s.toks + 1,by rw[List.size_toArray,hlen]⟩,q⟩
 ·obtain⟨its,r',pl,hz⟩:=I.tuple hq;have hlen:=r'.length;exact len_tuple pl (by simp only[List.size_toArray]<;>omega) ⟨.int ys.length,H,I.tok _,⟨s.toks + 1,by rw[List.size_toArray,hlen]⟩,q⟩
theorem Ad:jE X (.builtin "len") (λxs H Q=>∃z,xs=[.str z]/\z.length<=sizeLine/\Q (.int z.length) H):=by
 intro pins s σ H xs us Q I r h;obtain⟨z,rfl,hz,q⟩:=h;obtain⟨u,rfl,t,rfl⟩:=vals1 r;have hn:=t7;exact len_str (by omega) ⟨.int z.length,H,I.tok _,⟨_,rfl⟩,q⟩
theorem bY:jE X (.type "list") (λxs H Q=>∃p ys,xs=[.ref p]/\(bt X.K H p ys∨bu X.K H p ys)/\∀l,H l=none->Q (.ref l) (upd H l (.lst ys))):=by
 intro pins s σ H xs us Q I r h;obtain⟨p,ys,rfl,hq,q⟩:=h;obtain⟨u,rfl,rx⟩:=vals1 r;cases rx;have fin:∀(its:List Value),Vals ys its->ys.length<=sizeLine->∀(h':Heap) (c':Nat),(∀b o',s.heap.get? b=some o'->h'.get? b=some o') ->
   h'.get? s.heap.objs.size=some {cls:=.type "list",dict:=none,data:=.seq its.toArray c',slots:=#[]}->EP X pins σ Q (.ref s.heap.objs.size) {s with heap:=h'}:=λits r' hz h' c' kp e =>
  ⟨.ref s.heap.objs.size,_,I.laid (t':=s.toks) kp (aaf _) (show jd X.prog X.w _ h' _ (.lst ys)from ⟨hz,its,c',r',e⟩),rfl,q _ (I.hok.fresh (aaf _))⟩
 rcases hq with hq | hq
 ·obtain⟨its,r',pl,hz⟩:=I.list hq;have hlen:=r'.length;obtain⟨o,ho,hc,n,hd⟩:=pl.isList;exact call_list_seq p (.inl rfl) ho hc hd (λh' c' kp e=>fin its r' hz h' c' kp e) (by simp only[List.size_toArray]<;>omega)
 ·obtain⟨its,r',pl,hz⟩:=I.tuple hq;have hlen:=r'.length;obtain⟨o,ho,hc,n,hd⟩:=pl;exact call_list_seq p (.inr rfl) ho hc hd (λh' c' kp e=>fin its r' hz h' c' kp e) (by simp only[List.size_toArray]<;>omega)
def XM(K:ax)(T:String)(x:V)(H:Hp):Prop:=match x with
 | .str _=>T="str"
 | .int _=>T="int"
 | .ref p=>(T="list"/\∃xs,bt K H p xs)∨(T="tuple"/\∃o,K.lookup p=some o/\o.cls=.type "tuple"/\o.dict=none) ∨
   (T="dict"/\((∃kvs,H p=some (.dK kvs))∨∃kvs,H p=some (.dT kvs)))∨(T="set"/\∃S n,H p=some (.set S n))
 | _=>False
theorem J6{pins:List (Addr×Obj)}{σ:St}{H:Hp}{s:Shared}{T:String}{x:V}{v:Value}(I:Inv X pins σ H s)(r:RelV x v)(ty:XM X.K T x H):
  s.TypeIs v T/\∀a,v=.ref a->∃ob,s.heap.get? a=some ob/\ob.dict=none:=by
 cases x with
 | str z =>
  obtain⟨t,rfl⟩:=r;cases (show T="str" from ty);exact⟨typeIs_str s z t,λ_ e=>nomatch e⟩
 | int i =>
  obtain⟨t,rfl⟩:=r;cases (show T="int" from ty);exact⟨acD s i t,λ_ e=>nomatch e⟩
 | ref p =>
  cases r;rcases ty with⟨rfl,xs,hq⟩ | ⟨rfl,o,hk,hc,hd⟩ | ⟨rfl,hk⟩ | ⟨rfl,S,n,hk⟩
  ·obtain⟨its,_,pl,_⟩:=I.list hq;refine⟨pl.isList.typeIs,λa e=>?_⟩;cases e;obtain⟨o,n,e,c,hd,_⟩:=pl;exact⟨o,e,hd⟩
  ·refine⟨⟨o,I.yz p o hk,hc⟩,λa e=>?_⟩;cases e;exact⟨o,I.yz _ o hk,hd⟩
  ·have z:∃o,s.heap.get? p=some o/\o.ExactDict:=by
    rcases hk with⟨kvs,hk⟩ | ⟨kvs,hk⟩
    ·obtain⟨_,_,_,_,o,_,_,e,ex,_⟩:=I.hok p _ hk;exact⟨o,e,ex⟩
    ·obtain⟨_,_,_,_,o,_,_,e,ex,_⟩:=I.hok p _ hk;exact⟨o,e,ex⟩
   obtain⟨o,e,ex⟩:=z;refine⟨⟨o,e,ex.1⟩,λa e2=>?_⟩;cases e2;exact⟨o,e,ex.2.1⟩
  ·obtain⟨o,_,_,_,e,ex,_⟩:=I.hok p _ hk;refine⟨⟨o,e,ex.1⟩,λa e2=>?_⟩;cases e2;exact⟨o,e,ex.2.1⟩
 | _=>exact False.elim ty
def VW(K:ax)(T:String)(r:V->List V->Hp->VK->Prop)(to:TE):TE:=λσ H Q=>to σ H λx H1=>XM K T x H1/\r x [] H1 Q
def tBM(K:ax)(T:String)(r:V->List V->Hp->VK->Prop)(to:TE)(t:TA):TE:=λσ H Q=>to σ H λx H1=>XM K T x H1/\t σ H1 λxs H2=>r x xs H2 Q
variable {o e:Expr} {es:List Expr} {to:TE} {t:TA} {name:Str} {apos cpos:Pos} {T id:String} {r:V->List V->Hp->VK->Prop}
theorem iI(pa:PlainAttrs T)(slot:Slot T name id)(hty:typeOf (.builtin id)=pure (.type "method_descriptor"))(hm:MtR X id r)(ho:PE X o to)
  (hbase:attributeBase o name X.env (eval o X.env)=eval o X.env:=by rfl) (hline:(apos.endLine == cpos.line)=true:=by rfl):PE X (.Call (.Attribute o name apos) [] [] cpos) (VW X.K T r to):=by
 intro pins s σ H Q I h;refine wpAny_Call_method0_late hbase hline (c8 (ho pins s σ H _ I h) λv s1 ⟨x,H1,I1,r1,ty,q1⟩=>?_);obtain⟨h1,h2⟩:=J6 I1 r1 ty;exact⟨T,id,pa,slot,hty,h1,h2,ace rfl (PySem.evalArgs_none (hm pins s1 σ H1 x [] v [] Q I1 r1 .nil q1))⟩
theorem kq(pa:PlainAttrs T)(slot:Slot T name id)(hty:typeOf (.builtin id)=pure (.type "method_descriptor"))(hm:MtR X id r)(ho:PE X o to)(ha:PA X (e::es) t)
  (hbase:attributeBase o name X.env (eval o X.env)=eval o X.env:=by rfl)
  (hfew:((backTo cpos (starEach (e::es) X.env)).all (λx=>!x.1)&&(backToKw cpos (keywordEach [] X.env)).all (λx=>x.1.isSome)
   && decide ((e::es).length + ([]:List Keyword).length + (if ([]:List Keyword).isEmpty then 0 else 1) < 30))=true:=by rfl)
  (hline:(apos.endLine == cpos.line)=true:=by rfl) (hs:starEach (e::es) X.env=(false,eval e X.env)::starEach es X.env:=by rfl) (hplain:(backTo cpos (starEach es X.env)).any (·.1)=false:=by rfl) :
  PE X (.Call (.Attribute o name apos) (e::es) [] cpos) (tBM X.K T r to t):=by
 intro pins s σ H Q I h;refine wpAny_Call_method_late hbase hfew hline rfl (c8 (ho pins s σ H _ I h) λv s1 ⟨x,H1,I1,r1,ty,q1⟩=>?_);obtain⟨h1,h2⟩:=J6 I1 r1 ty;refine⟨T,id,pa,slot,hty,h1,h2,?_⟩;have hA:=ha cpos pins s1 σ H1 _ I1 q1;rw[hs]at hA ⊢;refine ace (by show(false||(backTo cpos (starEach es X.env)).any (·.1))=false;rw[hplain]<;>rfl) (Calls.evalArgs_plain ?_)
 exact c8 hA λus s2 ⟨vs,H2,I2,r2,q2⟩=>hm pins s2 σ H2 x vs v us Q I2 r1 r2 q2
end
def XN(X:Cx)(id:String)(r:V->List V->Hp->VK->Prop):Prop :=
 ∀(pins:List (Addr×Obj)) (s:Shared) (σ:St) (H:Hp) (x:V) (xs:List V) (v:Value) (us:List Value) (Q:VK),Inv X pins σ H s->RelV x v->Vals xs us->r x xs H Q ->
  wpAny (model X.prog X.w) X.A (call (.builtin id) (v::us)) (EP X pins σ Q) X.xe s
theorem Vals.one:∀{x:V} {us:List Value},Vals [x] us->∃u,us=[u]/\RelV x u
 | _,_,.cons r .nil=>⟨_,rfl,r⟩
theorem Vals.zero:∀{us:List Value},Vals [] us->us=[]
 | _,.nil=>rfl
theorem Vals.dropLast{xs:List V}{us:List Value}(h:Vals xs us):Vals xs.dropLast us.dropLast:=by
 induction h with
 | nil=>exact .nil
 | cons r t ih =>
  cases t with
  | nil=>exact .nil
  | cons q t'=>exact .cons r ih
theorem Vals.reverse{xs:List V}{us:List Value}(h:Vals xs us):Vals xs.reverse us.reverse:=by
 induction h with
 | nil=>exact .nil
 | cons r t ih=>rw[acz,acz];exact Vals.append ih (.cons r .nil)
theorem Vals.rep{xs:List V}{us:List Value}(h:Vals xs us):∀k:Nat,Vals (List.replicate k xs).flatten (List.replicate k us).flatten
 | 0=>.nil
 | k + 1=>by
  rw[aa2,aa2,abh,abh];exact Vals.append h (Vals.rep h k)
theorem D8{α:Type}(l:List α):l.eraseIdx (l.length - 1)=l.dropLast:=by
 induction l with
 | nil=>rfl
 | cons a r ih =>
  cases r with
  | nil=>rfl
  | cons b r =>
   have e:(a::b::r).length - 1=((b::r).length - 1) + 1:=by
    have h1:(a::b::r).length=r.length + 2:=rfl;have h2:(b::r).length=r.length + 1:=rfl;omega
   rw[e,List.eraseIdx_cons_succ,ih]
   all_goals rfl
theorem foldl_rep(its:List Value):∀(k:Nat) (acc:List Value),
  List.foldl (λx1 x2=>x1++x2) acc.toArray (List.replicate k its.toArray)=(acc++(List.replicate k its).flatten).toArray
 | 0,acc=>by simp
 | k + 1,acc=>by
  have e:acc.toArray++its.toArray=(acc++its).toArray:=by simp
  have e2:(acc++its)++(List.replicate k its).flatten=acc++(List.replicate (k + 1) its).flatten:=by
   rw[aa2,abh,abC]
  rw[← e2,← foldl_rep its k (acc++its),← e,aa2,List.foldl_cons]
section
variable {X:Cx} {pins:List (Addr×Obj)} {σ:St} {H:Hp} {s:Shared} {l b:Addr} {xs ys zs:List V}
theorem Inv.Oh{its its':List Value}{n:Nat}{f:Array Value->Array Value}{t':Nat}(I:Inv X pins σ H s)(hH:H l=some (.lst xs))
  (e:s.heap.get? l=some {cls:=.type "list",data:=.seq its.toArray n}) (hf:f its.toArray=its'.toArray) (hv:Vals ys its') (hz:ys.length<=sizeLine) :
  Inv X pins σ (upd H l (.lst ys)) {s with heap:=s.heap.update l (Obj.mapSeq f),toks:=t'}:=by
 have q:=PySem.IsL.update e f;rw[hf]at q;refine I.write (x:=l) (e:=l) (by rw[hH];exact trivial) (.inl rfl) (λb' u hb hu=>(Heap.get?_update_other s.heap (Obj.mapSeq f) (acF hb)).trans hu) ⟨_,q⟩ ?_;exact⟨hz,its',_,hv,q⟩
theorem Inv.Oi{its:List Value}{t':Nat}(I:Inv X pins σ H s)(hv:Vals ys its)(hz:ys.length<=sizeLine):
  Inv X pins σ (upd H s.heap.objs.size (.lst ys)) {s with heap:=s.heap.push {cls:=.type "list",data:=.seq its.toArray},toks:=t'} :=
 I.laid (λ_ _ q=>aad _ q) (aaf _) ⟨hz,its,0,hv,aav _ rfl⟩
theorem Inv.fresh(I:Inv X pins σ H s):H s.heap.objs.size=none:=I.hok.fresh (aaf _)
theorem Inv.BN(I:Inv X pins σ H s)(hH:H l=some (.lst xs)):xs.length<=sizeLine/\∃(its:List Value) (n:Nat),Vals xs its/\xs.length=its.length/\s.heap.get? l=some {cls:=.type "list",data:=.seq its.toArray n}:=by
 obtain⟨z,its,n,r,e⟩:=I.hok l _ hH;exact⟨z,its,n,r,r.length,e⟩
theorem BO{n:Nat}(h:n<=sizeLine):Builtin.List.listTooLong n=false:=by
 unfold Builtin.List.listTooLong;exact decide_eq_false (by omega)
end
section
variable {X:Cx}
def Oj:V->List V->Hp->VK->Prop:=λx vs H Q=>∃l xs y,x=.ref l/\vs=[y]/\H l=some (.lst xs)/\xs.length < sizeLine/\Q .non (upd H l (.lst (xs++[y])))
theorem cj:XN X "list.append" Oj:=by
 intro pins s σ H x vs v us Q I rx rv h;obtain⟨l,xs,y,rfl,rfl,hH,hz,q⟩:=h;cases rx;obtain⟨u,rfl,ru⟩:=rv.one;obtain⟨z,its,n,r,hl,e⟩:=I.BN hH;refine call_meets F.slot_list_append ⟨_,e,rfl⟩ F.entry_list_append (F.args_list_append_2 _ _) (PySem.list_append l its.toArray n u (by rw[List.size_toArray];omega)) ⟨e,?_⟩;refine⟨.non,_,I.Oh (its':=its++[u]) hH e (by simp) (r.append (.cons ru .nil)) ?_,rfl,q⟩;rw[List.length_append,List.length_singleton];omega
def Ol:V->List V->Hp->VK->Prop:=λx vs H Q=>∃l b xs zs,x=.ref l/\vs=[.ref b]/\H l=some (.lst xs)/\H b=some (.lst zs)/\xs.length + zs.length<=sizeLine/\Q .non (upd H l (.lst (xs++zs)))
theorem G4:XN X "list.extend" Ol:=by
 intro pins s σ H x vs v us Q I rx rv h;obtain⟨l,b,xs,zs,rfl,rfl,hH,hB,hz,q⟩:=h;cases rx;obtain⟨u,rfl,ru⟩:=rv.one;cases ru;obtain⟨z,its,n,r,hl,e⟩:=I.BN hH;obtain⟨z2,rT,n2,r2,FO,e2⟩:=I.BN hB;have hsz:its.toArray.size + rT.toArray.size<=sizeLine:=by rw[aaD,aaD];omega
 have hlong:¬ (!its.toArray.isEmpty&&Builtin.List.listTooLong (its.toArray.size + rT.toArray.size))=true:=by
  rw[BO hsz,Bool.and_false];exact aak
 refine aco F.slot_list_extend ⟨_,e,rfl⟩ F.entry_list_extend (F.args_list_extend_2 _ _)
  (AutoSeq1.list_extend_list_list_0 l its.toArray n b rT.toArray n2 hlong (by rw[aaD];omega) (by omega)) ⟨e,e2,?_⟩
 refine⟨.non,_,I.Oh (its':=its++rT) hH e (by simp) (r.append r2) ?_,rfl,q⟩;rw[List.length_append];omega
def YI:V->List V->Hp->VK->Prop:=λx vs H Q=>∃l xs y,x=.ref l/\vs=[]/\H l=some (.lst xs)/\xs[xs.length - 1]?=some y/\Q y (upd H l (.lst xs.dropLast))
theorem jg:XN X "list.pop" YI:=by
 intro pins s σ H x vs v us Q I rx rv h;obtain⟨l,xs,y,rfl,rfl,hH,hy,q⟩:=h;cases rx;have hus:=rv.zero;subst hus;obtain⟨z,its,n,r,hl,e⟩:=I.BN hH;obtain⟨u,hu,ru⟩:=r.get hy
 have hy':its.toArray[its.toArray.size - 1]?=some u:=by
  show its.toArray[its.length - 1]?=some u;rw[← Array.getElem?_toList,← hl];exact hu
 refine aco F.slot_list_pop ⟨_,e,rfl⟩ F.entry_list_pop (F.args_list_pop_1 _) (MeetsSeq.list_pop_last l its.toArray n u hy' (by rw[aaD];omega)) ⟨e,?_⟩;refine⟨y,_,I.Oh (its':=its.dropLast) hH e ?_ r.dropLast ?_,ru,q⟩
 ·show its.toArray.eraseIdxIfInBounds (its.toArray.size - 1)=its.dropLast.toArray;rw[aaD,List.eraseIdxIfInBounds_toArray,D8]
 ·rw[List.length_dropLast];omega
def J7:V->List V->Hp->VK->Prop:=λx vs H Q=>∃l xs,x=.ref l/\vs=[]/\H l=some (.lst xs)/\Q .non (upd H l (.lst xs.reverse))
theorem D9:XN X "list.reverse" J7:=by
 intro pins s σ H x vs v us Q I rx rv h;obtain⟨l,xs,rfl,rfl,hH,q⟩:=h;cases rx;have hus:=rv.zero;subst hus;obtain⟨z,its,n,r,hl,e⟩:=I.BN hH;refine call_meets F.slot_list_reverse ⟨_,e,rfl⟩ F.entry_list_reverse (F.args_list_reverse_1 _) (AutoSeq1.list_reverse_list_0 l its.toArray n (by rw[List.size_toArray];omega)) ⟨e,?_⟩;refine⟨.non,_,I.Oh (its':=its.reverse) hH e (by simp) r.reverse ?_,rfl,q⟩;rw[List.length_reverse];omega
def YJ:R2:=λx y H Q=>∃l b xs zs,x=.ref l/\y=.ref b/\H l=some (.lst xs)/\H b=some (.lst zs)/\xs.length + zs.length<=sizeLine/\∀p,H p=none->Q (.ref p) (upd H p (.lst (xs++zs)))
theorem SA:jD X (binaryOp .Add) YJ:=by
 intro pins s σ H x y v u Q I rx ry h;obtain⟨l,b,xs,zs,rfl,rfl,hH,hB,hz,q⟩:=h;cases rx;cases ry;obtain⟨z,its,n,r,hl,e⟩:=I.BN hH;obtain⟨z2,rT,n2,r2,FO,e2⟩:=I.BN hB;refine PySem.P.add_list e e2 ?_ (by rw[List.size_toArray,List.size_toArray];omega);have ea:its.toArray++rT.toArray=(its++rT).toArray:=by simp
 rw[ea];exact⟨.ref _,_,I.Oi (t':=s.toks) (r.append r2) (by rw[aaG];omega),rfl,q _ I.fresh⟩
def YK:R2:=λx y H Q=>∃l k xs,x=.ref l/\y=.int k/\H l=some (.lst xs)/\-(2 ^ 63)<=k/\k < 2 ^ 63/\xs.length * k.toNat<=sizeLine /\
 ∀p,H p=none->Q (.ref p) (upd H p (.lst (List.replicate k.toNat xs).flatten))
theorem len_rep{α:Type}(xs:List α)(k:Nat):(List.replicate k xs).flatten.length=k * xs.length:=by
 induction k with
 | zero=>simp
 | succ k ih=>rw[aa2,abh,aaG,ih,Nat.succ_mul,Nat.add_comm]
theorem SD:jD X (binaryOp .Mult) YK:=by
 intro pins s σ H x y v u Q I rx ry h;obtain⟨l,k,xs,rfl,rfl,hH,h1,h2,hz,q⟩:=h;cases rx;obtain⟨t,rfl⟩:=ry;obtain⟨z,its,n,r,hl,e⟩:=I.BN hH;have hlen:its.toArray.size * k.toNat<=sizeLine:=by rw[aaD,← hl];exact hz
 have hcap:¬ its.toArray.size * k.toNat > (2 ^ 63 - 1) / 8:=by
  have:(sizeLine:Nat)<=(2 ^ 63 - 1) / 8:=by decide
  omega
 have hfit:¬ (!Builtin.List.listFitsIndex k)=true:=by
  rw[fitsIndex_both h1 h2];exact aak
 have hlong:¬ Builtin.List.listTooLong (its.toArray.size * k.toNat)=true:=by
  rw[BO hlen];exact aak
 have hnew:List.foldl (λx1 x2=>x1++x2) #[] (List.replicate (if its.toArray.isEmpty=true then 0 else k.toNat) its.toArray)=(List.replicate k.toNat its).flatten.toArray:=by
  have f0:∀m:Nat,List.foldl (λx1 x2=>x1++x2) #[] (List.replicate m its.toArray)=(List.replicate m its).flatten.toArray:=λm=>by
   have:=foldl_rep its m [];rw[List.nil_append]at this;exact this
  rw[f0]
  cases its with
  | nil=>simp
  | cons a r'=>rw[if_neg (by simp)]
 refine acE (T:="list") (U:="int") (by decide) ⟨_,e,rfl⟩ (λs'=>acD s' k t) noFill_list_mul F.fills_int_mul acp repeat_list F.slot_int_index.lookup
  (aco acp (acD s k t) F.entry_int_rmul (F.args_int_rmul_2 _ _) (int___rmul___int_list k t l its.toArray n)
   ⟨e,rfl,⟨_,e,rfl⟩,aco F.slot_list_mul ⟨_,e,rfl⟩ F.entry_list_mul (F.args_list_mul_2 _ _) (AutoListH.list___mul___list_int_3 l its.toArray n k t hfit hcap hlong) ⟨e,?_⟩⟩)
 rw[hnew];exact⟨.ref _,_,I.Oi (t':=s.toks) (r.rep k.toNat) (by rw[len_rep,Nat.mul_comm];exact hz),rfl,q _ I.fresh⟩
end
section
variable {prog:Program} {w:World} {A:Around} {E:Value->Shared->Prop} {s:Shared}
set_option maxRecDepth 100000 in
end
section
variable {X:Cx}
end
end L2
namespace Att
open PySem PySem.W PySem.Calls PyProof.Rows
theorem v9{P:Params}{h:Heap}:∀(ns:List Int) (vs:List Value),WellAll P h vs (ns.map WData.int)->IntsAre vs ns:=by
 intro ns
 induction ns with
 | nil =>
  intro vs w;rw[List.map_nil]at w;cases w;exact .nil
 | cons n ns ih =>
  intro vs w;rw[acx]at w
  cases w with
  | cons a b =>
   cases a;exact .cons _ _ (ih _ b)
theorem G5{l:OpenLaw}{n:Nat}(hn:l.most=some n){P:Params}{h:Heap}{args:List WData}{vals:List Value}
  (hpre:l.row.toRowW.claim.pre args=true) (hwl:WellAll P h vals args) :
  ∃a vs ns,vals=[Value.ref a]/\args=[WData.list (ns.map WData.int)]/\h.get? a=some {cls:=.type "list",data:=.seq vs.toArray}/\IntsAre vs ns/\ns.length<=n:=by
 have hsh:WShape.hasAll [] args [.list .int]=true:=(pre_splitW hpre).1;have hc:l.pre.holds [] {args:=args}=true:=(pre_splitW hpre).2;obtain⟨d,r,rfl,h1,h2⟩:=hasAllW_cons hsh;obtain rfl:=hasAllW_nil h2;obtain⟨xs,rfl,h3⟩:=hasW_list h1;obtain⟨ns,rfl⟩:=items_int h3
 have hlen:ns.length<=n:=by
  unfold OpenLaw.pre at hc
  have h4:(WTm.not (.lt (.lit (.int (n:Int))) (.len (.arg 0)))).holds [] {args:=[.list (ns.map .int)]}=true:=by
   have h4:=(holds_andW hc).1;rw[hn]at h4;exact h4
  have h5:=condW_of h4 (w_not (w_lt w_lit (w_len_list (w_arg rfl))));rw[aah]at h5;refine Nat.le_of_not_lt λq=>?_
  have q':(n:Int) < ((ns.length:Nat):Int):=by omega
  first
   | (rw[aaM q']at h5;exact absurd h5 (by decide))
   | (simp at h5;omega)
 cases hwl with
 | cons w1 w2 =>
  cases w2
  cases w1 with
  | list ho hall=>exact⟨_,_,ns,rfl,rfl,ho,v9 ns _ hall,hlen⟩
theorem G6(l:OpenLaw)(args:List WData):l.row.toRowW.claim.post args (.bool true) args=true :=
 postW_of (r:=l.row.toRowW) (X:=(true == true))
  (show WShape.has [] (.bool true) .bool=true by first | rfl | decide | simp[WShape.has,WShape.arms,WShape.armsAll])
  (show(WTm.eq .res (.lit (.bool true))).value [] {args:=args,res:=some (.bool true),after:=args}=some (.bool (true == true))from w_eq_bool (w_res rfl) w_lit) rfl
theorem BP{l:OpenLaw}{n:Nat}{q:Program}{loose:List Str}{XP:(Str->Option Value)->Heap->Prop}{YP:World->Heap->Prop}{d:DefRec}
  (hn:l.most=some n) (hdf:d.params.defaults=[])
  (call:∀(w:World) (s₀ s₁:Shared) (mg mb:Str->Option Value) (fa:Addr) (o:Obj) (pm cd doc:Value) (a:Addr) (vs:List Value) (ns:List Int),
   Ground q loose [] XP w s₀ mg mb s₁.heap->YP w s₁.heap ->
   s₁.heap.get? fa=some o->o.data=.func (docDef d.name d.params d.body d.scope pm cd doc)->s₁.heap.CodeRec cd d.name->mg d.name=some (.ref fa) ->
   s₁.heap.get? a=some {cls:=.type "list",data:=.seq vs.toArray}->IntsAre vs ns->ns.length<=n->s₁.gens=#[] ->
   codeAny (model l.prog w) callerA (.call (.ref fa) ⟨[.ref a],[]⟩) (λr s'=>r=.ok (.ret (.bool true))/\OldK s₁.heap s'.heap/\s'.os=s₁.os/\AllBare s'.gens) s₁) :
  WalkO q loose XP YP l.row.toRowW d [] (λf vs=>PySem.call f vs):=by
 intro w s₀ s₁ mg mb G Y fa o pm cd doc dV kV ho hd hcd hD hmg hg args vals as hpre hlay hrd hwl hlo;obtain rfl:dV=.none:=Dflts.none hD hdf;obtain rfl:kV=.none:=Dflts.noKw hD;obtain⟨a,vs,ns,rfl,rfl,hobj,hints,hlen⟩:=G5 hn hpre hwl;refine enter_call (codeAny_mono (call w s₀ s₁ mg mb fa o pm cd doc a vs ns G Y ho (fd_plain hd) hcd hmg hobj hints hlen hg) λr s' hq=>?_);obtain⟨rfl,h2,h3,h4⟩:=hq;exact⟨.inl ⟨.bool true,.bool true,[],rfl,λ_=>rfl,.bool true,G6 l _,λ_=>⟨List.Pairwise.nil,λ_ hm=>(nomatch hm)⟩⟩,h2,h3,h4⟩
section
variable {prog:Program} {w:World} {A:Around} {E:Value->Shared->Prop} {s:Shared} {K:Frag}
end
end Att
namespace L2
open PySem PySem.Spec PyProof.Rows
theorem zi:∀{vs:List Value} {ns:List Int},IntsAre vs ns->Vals (ns.map V.int) vs
 | _,_,.nil=>.nil
 | _,_,.cons n t h=>.cons ⟨t,rfl⟩ (zi h)
def SE(H:Hp):Prop:=∀b,H b=none∨∃o xs,H b=some (.vX o (.lst xs))
theorem J8{P:Program}{w:World}{K:ax}{mg mb:Str->Option Value}{CX:DZ}{k:Nat}{fa a:Addr}{fd:FuncData}{x:Str}{sp:Sp}{s₁:Shared}{vs:List Value}{ns:List Int}
  (KX:K.In s₁.heap) (hns:s₁.heap.Ns mainGlobals mg) (hb:s₁.heap.Ns builtinsNs mb) (hbb:∀x:Str,x≠"__name__"->mb x=bootBuiltins x) (hlim:s₁.heap.NoLimit) (hg:s₁.gens=#[])
  (ha:s₁.heap.get? a=some {cls:=.type "list",data:=.seq vs.toArray}) (hi:IntsAre vs ns) (hl:ns.length<=sizeLine) (hr:fL k callerA)
  (F:∀base:Heap,K.In base->base.Ns mainGlobals mg->bp P w K mg base CX k fa fd [x] sp) (hbind:∀(s:Shared) (u:Value),BindsTo s fd ⟨[u],[]⟩ [(x,u)])
  (hsp:∀H:Hp,SE H->bt K H a (ns.map V.int)->sp [.ref a] H (λv _=>v=.bl true) λ_ _ _=>False)
  (hCX:∀H e s',CX [] H s₁ (λ_ _ _=>False) e s'->False) :
  codeAny (model P w) callerA (.call (.ref fa) ⟨[.ref a],[]⟩) (λr s'=>r=.ok (.ret (.bool true))/\OldK s₁.heap s'.heap/\s'.os=s₁.os/\AllBare s'.gens) s₁:=by
 have rv:=zi hi;have lenV:=hi.length;have core:∀H:Hp,SE H->bt K H a (ns.map V.int)->wF P w H s₁.heap->(∀b,H b≠none->b=a)->(H a≠none->K.lookup a=none) ->
   codeAny (model P w) callerA (.call (.ref fa) ⟨[.ref a],[]⟩) (λr s'=>r=.ok (.ret (.bool true))/\OldK s₁.heap s'.heap/\s'.os=s₁.os/\AllBare s'.gens) s₁:=by
  intro H hO hS hok hA hK;have base_of:∀{b:Addr} {o:Obj},s₁.heap.get? b=some o->H b=none->(zS s₁.heap H).get? b=some o:=λe n=>JH e n
  have noA:∀{b:Addr} {o:Obj} {es:Array DictEntry} {ep:Nat},s₁.heap.get? b=some o->o.data=.dict es ep->H b=none:=λ{b o es ep} e d=>by
   cases q:H b with
   | none=>rfl
   | some u =>
    have e':b=a:=hA b (by rw[q];simp);subst e';rw[ha]at e;cases e;have d':Data.seq vs.toArray _=Data.dict es ep:=d;cases d'
  have nsK:∀{b:Addr} {m:Str->Option Value},s₁.heap.Ns b m->(zS s₁.heap H).Ns b m:=λ{b m} ⟨o,es,ep,e,d,r⟩=>⟨o,es,ep,base_of e (noA e d),d,r⟩
  have hKb:K.In (zS s₁.heap H):=λb o e=>base_of (KX b o e) (by
   cases q:H b with
   | none=>rfl
   | some u =>
    have e':b=a:=hA b (by rw[q];simp);subst e';rw[hK (by rw[q];simp)]at e;cases e)
  have hM:Mod K mg (zS s₁.heap H):=⟨hKb,nsK hns,⟨mb,nsK hb,hbb⟩,let ⟨mc,h1,h2⟩:=hlim;⟨mc,nsK h1,h2⟩⟩;have e0:D1 P w K mg (zS s₁.heap H) callerA [] s₁ H:=⟨rfl,hM,λb o e=>NW e,Nat.le_of_eq (GR _ _),trivial,λb hb=>absurd (show b∈([]:List Addr)from hb) (by simp),hok,.of_eq hg⟩;refine codeAny_mono ((F _ hKb (nsK hns)).run callerA [] s₁ H ⟨[.ref a],[]⟩ [.ref a] [.ref a] _ _ hr e0 (hbind s₁ (.ref a)) (.cons rfl .nil) (hsp H hO hS)) λr s' h=>?_
  cases r with
  | error e=>exact(hCX H e s' h).elim
  | ok fl =>
   cases fl with
   | next=>exact False.elim h
   | brk=>exact False.elim h
   | cont=>exact False.elim h
   | ret u =>
    obtain⟨v,H',os,bare,un,hok',r',q⟩:=h;have q':v=.bl true:=q;subst q';obtain rfl:u=Value.bool true:=r';refine⟨rfl,OldK.of_keep λb o e=>?_,os,bare⟩
    cases q:H b with
    | none=>exact un.keep b o e q (by intro z;exact absurd (show b∈([]:List Addr)from z) (by simp)) (by simp)
    | some u =>
     rcases hO b with z | ⟨ob,xs,z⟩
     ·rw[q]at z;cases z
     ·have z2:=un.mv b ob _ z;obtain⟨e1,_⟩:=hok b _ z;obtain⟨e2,_⟩:=hok' b _ z2;rw[e]at e1;cases e1;exact e2
 cases hk:K.lookup a with
 | some o =>
  have e:=KX a o hk;rw[ha]at e;cases e;refine core (λ_=>none) (λ_=>.inl rfl) (.inr ⟨_,vs.toArray,_,hk,rfl,rfl,rfl,by rw[List.size_toArray,lenV];exact hl,by simpa using rv⟩) (λb u z=>by have z':(none:Option HO)=some u:=z;cases z') (λb z=>absurd rfl z) λz=>absurd rfl z
 | none =>
  refine core (λb=>if b=a then some (.vX {cls:=.type "list",data:=.seq vs.toArray} (.lst (ns.map V.int)))else none) (λb=>?_) (.inl (.inr ⟨{cls:=.type "list",data:=.seq vs.toArray},aaq rfl⟩)) (λb u z=>?_) (λb z=>?_) λ_=>hk
  ·by_cases hb:b=a
   ·exact .inr ⟨_,_,aaq hb⟩
   ·exact .inl (aan hb)
  ·by_cases hb:b=a
   ·have z':=(aaq hb).symm.trans z;cases z';subst hb;exact⟨ha,by rw[aah];exact hl,vs,_,rv,ha⟩
   ·have z':=(aan hb).symm.trans z;cases z'
  ·by_cases hb:b=a
   ·exact hb
   ·exact absurd (aan hb) z
theorem Om{l:PySem.W.OpenLaw}{n k:Nat}{q:Program}{loose:List Str}{XP:(Str->Option Value)->Heap->Prop}{YP:World->Heap->Prop}{d:DefRec}{K:Params->ax}{CX:World->DZ}{sp:World->Sp}{x:Str}
  (hn:l.most=some n) (XJ:n<=sizeLine) (hdf:d.params.defaults=[]) (hr:fL k callerA)
  (hY:∀(w:World) (h:Heap),YP w h->(K w.params).In h)
  (F:∀(w:World) (mg:Str->Option Value) (fa:Addr) (h:Heap),(K w.params).In h->h.Ns mainGlobals mg->mg d.name=some (.ref fa) ->
   ∃fd:FuncData,(∀(s:Shared) (u:Value),BindsTo s fd ⟨[u],[]⟩ [(x,u)]) /\
    ∀base:Heap,(K w.params).In base->base.Ns mainGlobals mg->bp l.prog w (K w.params) mg base (CX w) k fa fd [x] (sp w))
  (hsp:∀(w:World) (H:Hp) (a:Addr) (ns:List Int),ns.length<=n->SE H->bt (K w.params) H a (ns.map V.int)->sp w [.ref a] H (λv _=>v=.bl true) λ_ _ _=>False)
  (hCX:∀(w:World) (H:Hp) (s:Shared) (e:Value) (s':Shared),CX w [] H s (λ_ _ _=>False) e s'->False) :
  PySem.W.WalkO q loose XP YP l.row.toRowW d [] (λf vs=>PySem.call f vs):=by
 refine Att.BP hn hdf λw s₀ s₁ mg mb fa o pm cd doc a vs ns G Y ho hd hcd hmg hobj hints hlen hg=>?_
 have KX:=hY w _ Y;obtain⟨fd,hb,hF⟩:=F w mg fa _ KX G.T.g hmg;exact J8 KX G.T.g G.T.b G.T.builtins G.T.nolimit hg hobj hints (aaO hlen XJ) hr hF hb (λH hO hS=>hsp w H a ns hlen hO hS) λH e s'=>hCX w H s₁ e s'
def iC(s:Stmt)(j:Nat):Stmt:=match s with
 | .ClassDef _ _ _ body _ _ _ _ _ _ _=>body.getD j (.Pass ⟨0,0,0,0⟩)
 | _=>.Pass ⟨0,0,0,0⟩
def dA(s:Stmt):Arguments:=match s with
 | .FunctionDef _ a _ _ _ _ _ _ _ _=>a
 | _=>{posonlyargs:=[],args:=[],vararg:=none,kwonlyargs:=[],kw_defaults:=[],kwarg:=none,defaults:=[]}
def dB(s:Stmt):List Stmt:=match s with
 | .FunctionDef _ _ b _ _ _ _ _ _ _=>b
 | _=>[]
def dS(s:Stmt):Scope:=match s with
 | .FunctionDef _ _ _ _ _ _ sc _ _ _=>sc
 | _=>{kind:=.function,names:=[],isGenerator:=false,isCoroutine:=false}
abbrev aM:DZ:=λ_ _ _ _ _ _=>False
abbrev E0:XK:=λ_ _ _=>False
theorem bV{X:Cx}:Passes aM X E0:=λ_ _ _ _ _ _ _ h=>h.elim
structure er(K:ax)(x qual:Str)(st:Stmt)(f:Addr)(fd:FuncData):Prop where
 ex:∃(oc:Value) (od:Option Addr) (kV doc pm:Value) (an:Option Addr) (cdv ct:Value) (osl:Array (Option Value)),
  fd=PySem.W.fnOf x qual (dA st) (dB st) (dS st) .none kV doc pm an cdv ct/\K.lookup f=some ⟨oc,od,.func fd,osl⟩/\PySem.W.codeIn K cdv qual=true
 kp:PySem.W.keepIn K (.ref f)=true
section
variable {P:Program} {w:World} {K:ax} {mg:Str->Option Value} {base:Heap}
theorem er.ok{x qual:Str}{st:Stmt}{f:Addr}{fd:FuncData}{N ps:List Str}{k:Nat}{sp:Sp}(F:er K x qual st f fd)(S:aA N ps (dS st))(len:∀vs H Q E,sp vs H Q E->vs.length=ps.length)
  (hbody:∀(cdv:Value) (A:Around) (outer:List Env) (s:Shared) (H:Hp) (vs:List V) (Q:VK) (E:XK),fL k (A.deeper (envOfC qual (dS st) s.heap.objs.size f cdv))->sp vs H Q E ->
   ∃t,BG (G0 aM P w K mg base N qual (dS st) f cdv A outer s H E).XH (dB st) t/\t {nx:=λ_ H'=>Q .non H',rt:=Q} (start N vs) H):bp P w K mg base aM (k + 1) f fd ps sp:=by
 obtain⟨oc,od,kV,doc,pm,an,cdv,ct,osl,rfl,lk,hcd⟩:=F.ex;refine VQ lk hcd S len λA outer s H vs Q E hr hsp=>?_
 obtain⟨t,h,q⟩:=hbody cdv A outer s H vs Q E hr hsp;exact⟨t,h.XH,q⟩
theorem er.binds{x qual:Str}{st:Stmt}{f:Addr}{fd:FuncData}{ps:List Str}(F:er K x qual st f fd)
  (h:∀(kV doc pm:Value) (an:Option Addr) (cdv ct:Value) (us:List Value),us.length=ps.length->bindArgs (PySem.W.fnOf x qual (dA st) (dB st) (dS st) .none kV doc pm an cdv ct) ⟨us,[]⟩=pure (ps.zip us)):Binds K fd ps []:=by
 obtain⟨oc,od,kV,doc,pm,an,cdv,ct,osl,rfl,lk,hcd⟩:=F.ex;exact .all (h kV doc pm an cdv ct)
theorem Ea{x qual:Str}{st:Stmt}{f:Addr}{oc:Value}{od an:Option Addr}{osl:Array (Option Value)}{kV doc pm cdv ct:Value}(l:K.lookup f=some ⟨oc,od,.func (PySem.W.fnOf x qual (dA st) (dB st) (dS st) .none kV doc pm an cdv ct),osl⟩)
  (c:PySem.W.codeIn K cdv qual=true) (k:PySem.W.keepIn K (.ref f)=true):er K x qual st f (PySem.W.fnOf x qual (dA st) (dB st) (dS st) .none kV doc pm an cdv ct):=⟨⟨oc,od,kV,doc,pm,an,cdv,ct,osl,rfl,l,c⟩,k⟩
end
theorem sK{n:Nat}(h:n<=1000):n < sizeLine:=aaI h (by decide)
section
variable {X:Cx}
theorem pv(i:Nat){x:Str}{pos:Pos}(hN:X.N[i]?=some x:=by rfl)(hv:XG X.env.scope x:=by first | exact aai rfl | exact Or.inr (aai rfl) | exact Or.inr (Or.inr rfl))(hd:(x == ("__debug__" : Str))=false:=by decide)
  (hcd:(x == ("__classdict__" : Str))=false:=by decide):PE X (.Name x pos) (Sk i):=JI hN hv hd hcd
end
theorem dj{A B:Prop}(h:B):if false=true then A else B:=by
 rw[aan aak];exact h
theorem iJ{A B:Prop}(h:A):if true=true then A else B:=by
 rw[aaq rfl];exact h
theorem BQ{c A B:Prop}[Decidable c](h1:c->A)(h2:¬ c->B):if c then A else B:=by
 by_cases h:c
 ·rw[aaq h];exact h1 h
 ·rw[aan h];exact h2 h
def aF(H H':Hp):Prop:=∀b o,H b=some o->H' b=some o
theorem aF.refl(H:Hp):aF H H:=λ_ _ h=>h
theorem aF.trans{H H1 H2:Hp}(a:aF H H1)(b:aF H1 H2):aF H H2:=λc o h=>b c o (a c o h)
theorem aF.free{H H':Hp}(e:aF H H'){l:Addr}(h:H' l=Option.none):H l=Option.none:=by
 cases q:H l with
 | none=>rfl
 | some o =>
  rw[e l o q]at h;cases h
theorem aF.seq{K:ax}{H H':Hp}{a:Addr}{xs:List V}(e:aF H H')(h:bt K H a xs):bt K H' a xs:=by
 rcases h with(h | ⟨o,h⟩) | h
 ·exact .inl (.inl (e _ _ h))
 ·exact .inl (.inr ⟨o,e _ _ h⟩)
 ·exact .inr h
open PySem PySem.Spec
theorem gJ:bootBuiltins "len"=some (.builtin "len"):=by decide +kernel
theorem yF:bootBuiltins "isinstance"=some (.builtin "isinstance"):=by decide +kernel
theorem SF:bootBuiltins "max"=some (.builtin "max"):=by decide +kernel
theorem SG:bootBuiltins "min"=some (.builtin "min"):=by decide +kernel
theorem SI:bootBuiltins "all"=some (.builtin "all"):=by decide +kernel
theorem Oo:bootBuiltins "bool"=some (.type "bool"):=by decide +kernel
theorem ic:bootBuiltins "list"=some (.type "list"):=by decide +kernel
theorem J9:bootBuiltins "tuple"=some (.type "tuple"):=by decide +kernel
theorem SJ:bootBuiltins "zip"=some (.type "zip"):=by decide +kernel
theorem dk{c A B:Prop}[Decidable c](h:¬ c)(b:B):if decide c=true then A else B:=by rw[aaH h];exact dj b
theorem pG{c A B:Prop}[Decidable c](h:c)(a:A):if decide c=true then A else B:=by rw[aaM h];exact iJ a
theorem VX{c A B:Prop}[Decidable c](h:c)(b:B):if (!decide c)=true then A else B:=by rw[aaM h];exact dj b
theorem ifB{b:Bool}{A B:Prop}(h:b=true)(a:A):if b=true then A else B:=by rw[h];exact iJ a
theorem YL{b:Bool}{A B:Prop}(h:b=false)(a:B):if b=true then A else B:=by rw[h];exact dj a
structure cT(P:Program)(w:World)(K:ax)(mg:Str->Option Value)(base:Heap)(CX:DZ)(x:Str)(k:Nat)(ps:List Str)(sp:Sp):Prop where
 ex:∃(f:Addr) (fd:FuncData),bp P w K mg base CX k f fd ps sp/\Binds K fd ps []/\PySem.W.keepIn K (.ref f)=true/\mg x=some (.ref f)
section
variable {X:Cx} {x:Str} {k:Nat} {ps:List Str} {sp:Sp} {e:Expr} {es:List Expr} {t:TA} {p pos:Pos}
theorem cg(h:cT X.prog X.w X.K X.mg X.base aM x k ps sp)(hr:fL k X.A)(hg:Gl X x)(ha:PA X (e::es) t)(hdb:(x == ("__debug__" : Str))=false:=by decide)
  (he:starEach (e::es) X.env=(false,eval e X.env)::starEach es X.env:=by rfl) (hpl:(backTo pos (starEach es X.env)).any (·.1)=false:=by rfl) :
  PE X (.Call (.Name x p) (e::es) [] pos) (JY sp [] E0 t):=by
 obtain⟨f,fd,F,b,kp,m⟩:=h.ex;exact N8 F hr hg m kp b .nil bV ha hdb he hpl
end
theorem aF.tup{K:ax}{H H':Hp}{a:Addr}{xs:List V}(e:aF H H')(h:bu K H a xs):bu K H' a xs:=by
 rcases h with(h | ⟨o,h⟩) | h
 ·exact .inl (.inl (e _ _ h))
 ·exact .inl (.inr ⟨o,e _ _ h⟩)
 ·exact .inr h
inductive aZ(K:ax)(H:Hp):V->PyData->Prop
 | non:aZ K H .non .none
 | bl (b:Bool):aZ K H (.bl b) (.bool b)
 | int (i:Int):aZ K H (.int i) (.int i)
 | str (x:Str):aZ K H (.str x) (.str x)
 | lst {a:Addr} {xs:List V} {ds:List PyData} (h:bt K H a xs) (hl:xs.length=ds.length) (hi:∀(i:Nat) (x:V) (d:PyData),xs[i]?=some x->ds[i]?=some d->aZ K H x d):aZ K H (.ref a) (.list ds)
 | tup {a:Addr} {xs:List V} {ds:List PyData} (h:bu K H a xs) (hl:xs.length=ds.length) (hi:∀(i:Nat) (x:V) (d:PyData),xs[i]?=some x->ds[i]?=some d->aZ K H x d):aZ K H (.ref a) (.tuple ds)
def aL(K:ax)(H:Hp)(xs:List V)(ds:List PyData):Prop:=xs.length=ds.length/\∀(i:Nat) (x:V) (d:PyData),xs[i]?=some x->ds[i]?=some d->aZ K H x d
theorem aL.nil{K:ax}{H:Hp}:aL K H [] []:=⟨rfl,λi x d h=>by simp at h⟩
theorem aL.cons{K:ax}{H:Hp}{x:V}{d:PyData}{xs:List V}{ds:List PyData}(h:aZ K H x d)(r:aL K H xs ds):aL K H (x::xs) (d::ds) :=
 ⟨by simp[r.1],λi y e h1 h2=>by
  cases i with
  | zero=>simp at h1 h2;subst h1;subst h2;exact h
  | succ i=>exact r.2 i y e (by simpa using h1) (by simpa using h2)⟩
theorem aZ.Ka{K:ax}{H:Hp}{a:Addr}{xs:List V}{ds:List PyData}(h:bt K H a xs)(r:aL K H xs ds):aZ K H (.ref a) (.list ds):=.lst h r.1 r.2
theorem aZ.rV{K:ax}{H:Hp}{a:Addr}{xs:List V}{ds:List PyData}(h:bu K H a xs)(r:aL K H xs ds):aZ K H (.ref a) (.tuple ds):=.tup h r.1 r.2
theorem aZ.same{K:ax}{H H':Hp}(e:aF H H'){v:V}{d:PyData}(h:aZ K H v d):aZ K H' v d:=by
 induction h with
 | non=>exact .non
 | bl b=>exact .bl b
 | int i=>exact .int i
 | str x=>exact .str x
 | lst h hl hi ih=>exact .lst (e.seq h) hl ih
 | tup h hl hi ih=>exact .tup (e.tup h) hl ih
theorem aL.same{K:ax}{H H':Hp}(e:aF H H'){xs:List V}{ds:List PyData}(h:aL K H xs ds):aL K H' xs ds:=⟨h.1,λi x d h1 h2=>(h.2 i x d h1 h2).same e⟩
theorem mJ{h:Heap}:∀{xs:List V} {us:List Value} {ds:List PyData},Vals xs us->xs.length=ds.length->(∀(i:Nat) (x:V) (d:PyData) (u:Value),xs[i]?=some x->ds[i]?=some d->RelV x u->∃as,Reads h u d as)->∃as,ReadsAll h us ds as
 | [],_,[],.nil,_,_=>⟨[],.nil⟩
 | [],_,_::_,_,hl,_=>nomatch hl
 | _::_,_,[],_,hl,_=>nomatch hl
 | x::xs,u::us,d::ds,.cons r t,hl,hi=>by
  obtain⟨as,ha⟩:=hi 0 x d u rfl rfl r;obtain⟨bs,hb⟩:=mJ t (by simpa using hl) λi y e w h1 h2=>hi (i + 1) y e w (by simpa using h1) (by simpa using h2)
  exact⟨as++bs,.cons ha hb⟩
section
variable {X:Cx} {pins:List (Addr×Obj)} {σ:St} {H:Hp} {s:Shared}
theorem aZ.reads(I:Inv X pins σ H s){v:V}{d:PyData}(h:aZ X.K H v d):∀{u:Value},RelV v u->∃as,Reads s.heap u d as:=by
 induction h with
 | non=>intro u r;cases r;exact⟨_,.none⟩
 | bl b=>intro u r;cases r;exact⟨_,.bool b⟩
 | int i=>intro u r;obtain⟨t,rfl⟩:=r;exact⟨_,.int i t⟩
 | str x=>intro u r;obtain⟨t,rfl⟩:=r;exact⟨_,.str x t⟩
 | lst h hl hi ih =>
  intro u r;cases r;obtain⟨its,rv,⟨o,n,e,c,_,d⟩,hz⟩:=I.list h;obtain⟨as,ha⟩:=mJ (h:=s.heap) rv hl λi x d u h1 h2 r=>ih i x d h1 h2 r
  exact⟨_,.list e c d ha⟩
 | tup h hl hi ih =>
  intro u r;cases r;obtain⟨its,rv,⟨o,e,c,n,d⟩,hz⟩:=I.tuple h;obtain⟨as,ha⟩:=mJ (h:=s.heap) rv hl λi x d u h1 h2 r=>ih i x d h1 h2 r
  exact⟨_,.tuple e c d ha⟩
end
section
variable {X:Cx}
def SK(K:ax):R2:=λx y H Q=>∃d d',aZ K H x d/\aZ K H y d'/\PySem.SeqAt.shaped d=true/\PySem.SeqAt.shaped d'=true/\Q (.bl (PyData.eqv d d')) H
def VY(K:ax):R2:=λx y H Q=>∃d d',aZ K H x d/\aZ K H y d'/\PySem.SeqAt.shaped d=true/\PySem.SeqAt.shaped d'=true/\Q (.bl (!PyData.eqv d d')) H
theorem Eb(hu:X.A.units + 64 < cLine):jD X (compareOp .Eq) (SK X.K):=by
 intro pins s σ H x y v u Q I rx ry h;obtain⟨d,d',h1,h2,s1,s2,q⟩:=h;obtain⟨as,r1⟩:=h1.reads I rx;obtain⟨bs,r2⟩:=h2.reads I ry;exact eq_dataH r1 r2 s1 s2 hu ⟨.bl _,H,I,rfl,q⟩
theorem SM(hu:X.A.units + 64 < cLine):jD X (compareOp .NotEq) (VY X.K):=by
 intro pins s σ H x y v u Q I rx ry h;obtain⟨d,d',h1,h2,s1,s2,q⟩:=h;obtain⟨as,r1⟩:=h1.reads I rx;obtain⟨bs,r2⟩:=h2.reads I ry;exact ne_dataH r1 r2 s1 s2 hu ⟨.bl _,H,I,rfl,q⟩
def VZ(a:Addr):Heap->Prop:=λh=>∃o,h.get? a=some o/\o.cls=.type "dict"
inductive Oq(K:ax)(H:Hp):V->String->Prop
 | non:Oq K H .non "NoneType"
 | bl (b:Bool):Oq K H (.bl b) "bool"
 | int (i:Int):Oq K H (.int i) "int"
 | str (x:Str):Oq K H (.str x) "str"
 | lst {a:Addr} {xs:List V} (h:bt K H a xs):Oq K H (.ref a) "list"
 | tup {a:Addr} {xs:List V} (h:bu K H a xs):Oq K H (.ref a) "tuple"
 | dct {a:Addr} (h:H a=some (.ext (VZ a))):Oq K H (.ref a) "dict"
def YM(K:ax):List V->Hp->VK->Prop:=λvs H Q=>∃x n t b,vs=[x,.ty n]/\Oq K H x t/\PySem.W.kitOne K (.type t) (.type n)=some b/\Q (.bl b) H
theorem Kb:jE X (.builtin "isinstance") (YM X.K):=by
 intro pins s σ H xs us Q I r h;obtain⟨x,n,t,b,rfl,ty,e,q⟩:=h;obtain⟨u,w',rfl,rx,rw'⟩:=vals2 r;cases rw';have fin:∀tk,EP X pins σ Q (.bool b) {s with toks:=tk}:=λtk=>⟨.bl b,H,I.tok tk,rfl,q⟩
 cases ty with
 | non=>cases rx;exact abe PySem.W.kitx_none I.yz acC e (λz=>nomatch z) fin
 | bl y=>cases rx;exact abe PySem.W.kitx_bool I.yz acC e (λz=>nomatch z) fin
 | int i=>obtain⟨t,rfl⟩:=rx;exact abe PySem.W.kitx_int I.yz acC e (λz=>nomatch z) fin
 | str y=>obtain⟨t,rfl⟩:=rx;exact abe PySem.W.kitx_str I.yz acC e (λz=>nomatch z) fin
 | lst h =>
  cases rx;obtain⟨its,rv,⟨o,n,e1,c,_,d⟩,hz⟩:=I.list h;exact abe PySem.W.kitx_list I.yz ⟨o,e1,c⟩ e (λz=>nomatch z) fin
 | dct h =>
  cases rx;obtain⟨⟨o,e1,c⟩,_⟩:=I.hok _ _ h;exact abe PySem.W.kitx_dict I.yz ⟨o,e1,c⟩ e (λz=>nomatch z) fin
 | tup h =>
  cases rx;obtain⟨its,rv,⟨o,e1,c,n,d⟩,hz⟩:=I.tuple h;exact abe PySem.W.kitx_tuple I.yz ⟨o,e1,c⟩ e (λz=>nomatch z) fin
def wH(K:ax):List V->Hp->VK->Prop:=λxs H Q=>∃p ys,xs=[.ref p]/\(bt K H p ys∨bu K H p ys)/\∀l,H l=none->Q (.ref l) (upd H l (.lst ys))
def FP(i j:Int):Prop:=(-340282366920938463463374607431768211456 < i/\i < 340282366920938463463374607431768211456)/\(-340282366920938463463374607431768211456 < j/\j < 340282366920938463463374607431768211456)
theorem FP.ok{i j:Int}(h:FP i j):IntMulOk i j:=by
 have e:(2:Nat) ^ 128=340282366920938463463374607431768211456:=by decide
 obtain⟨⟨h1,h2⟩,h3,h4⟩:=h;have a:i.natAbs < 2 ^ 128:=by rw[e];omega
 have b:j.natAbs < 2 ^ 128:=by rw[e];omega
 exact IntMulOk.of_bits (aaO (acP a) (by decide)) (aaO (acP b) (by decide))
theorem Ot:jD X (binaryOp .Mult) (rI FP λi j=>.int (i * j)):=N2 λ_ _ _ _ _ _ _ hc q=>mul_int q hc.ok
end
def wb(cells:List (Str×Addr)):List (Str×NameKind)->List (Str×Addr)->List (Str×Addr)
 | [],cs=>cs
 | (n,k)::r,cs=>wb cells r (if k == .free then(match cells.lookup n with | some c=>(n,c)::cs | none=>cs)else cs)
theorem BR{cells:List (Str×Addr)}:∀(names:List (Str×NameKind)) (cs:List (Str×Addr)),(∀x c,cs.lookup x=some c->cells.lookup x=some c)->∀x c,(wb cells names cs).lookup x=some c->cells.lookup x=some c
 | [],_,h=>h
 | (n,k)::r,cs,h=>by
  refine BR r _ λx c e=>?_
  split at e
  ·split at e
   ·rename_i c' hc;rw[acI]at e;by_cases z:(x == n)=true
    ·rw[z]at e;have z':x=n:=by simpa using z
     rw[z'];exact hc.trans e
    ·rw[acj]at z;rw[z]at e;exact h x c e
   ·exact h x c e
  ·exact h x c e
theorem zj{cells:List (Str×Addr)}{x:Str}{c:Addr}(hx:cells.lookup x=some c):∀(names:List (Str×NameKind)) (cs:List (Str×Addr)),cs.lookup x=some c->(wb cells names cs).lookup x=some c
 | [],_,h=>h
 | (n,k)::r,cs,h=>by
  refine zj hx r _ ?_;split
  ·split
   ·rename_i c' hc;rw[acI];by_cases z:(x == n)=true
    ·rw[z];have z':x=n:=by simpa using z
     rw[z']at hx;exact hc.symm.trans hx
    ·rw[acj]at z;rw[z];exact h
   ·exact h
  ·exact h
theorem xh{cells:List (Str×Addr)}{x:Str}{c:Addr}(hx:cells.lookup x=some c):∀(names:List (Str×NameKind)) (cs:List (Str×Addr)),(x,NameKind.free)∈names->(wb cells names cs).lookup x=some c
 | [],_,h=>nomatch h
 | (n,k)::r,cs,h=>by
  rcases aam.mp h with e | h
  ·cases e;refine zj hx r _ ?_;simp[hx,List.lookup_cons]
  ·exact xh hx r _ h
theorem pY{env:Env}{scope:Scope}(h:∀y∈scope.names,y.2=NameKind.free->∃c,env.cells.lookup y.1=some c):closureFor scope env=pure (wb env.cells scope.names []):=by
 have go:∀(names:List (Str×NameKind)) (cs:List (Str×Addr)),(∀y∈names,y.2=NameKind.free->∃c,env.cells.lookup y.1=some c) ->
   (forIn names cs λx (r:List (Str×Addr))=>if (x.2 == NameKind.free)=true then do let c ← cellOf env x.1;pure (ForInStep.yield ((x.1,c)::r))else pure (ForInStep.yield r):Sem (List (Str×Addr)))=pure (wb env.cells names cs):=by
  intro names
  induction names with
  | nil=>intro cs _;rfl
  | cons y r ih =>
   intro cs hy;obtain⟨n,k⟩:=y;rw[List.forIn_cons];by_cases hk:k=NameKind.free
   ·subst hk;obtain⟨c,hc⟩:=hy _ List.mem_cons_self rfl;have hc':env.cells.lookup n=some c:=hc;have hcell:cellOf env n=pure c:=by simp only[cellOf,hc']
    simp only[hcell,beq_self_eq_true,if_true,pure_bind];rw[ih _ λy hm=>hy y (List.mem_cons_of_mem _ hm)];simp only[wb,beq_self_eq_true,if_true,hc']
   ·have hb:(k == NameKind.free)=false:=by simpa using hk
    simp only[hb,Bool.false_eq_true,if_false,pure_bind];rw[ih _ λy hm=>hy y (List.mem_cons_of_mem _ hm)];simp only[wb,hb,Bool.false_eq_true,if_false]
 have e:=go scope.names [] h;unfold closureFor;simp only[bind_pure]at e ⊢;exact e
theorem xi{scope:Scope}{env:Env}(x:Str):(relabel scope env).names.lookup x=(scope.names.lookup x).map λk=>if (k == NameKind.free&&env.scope.kind == .function&&env.kindOf x == some .cell)=true then .cell else k:=by
 show(scope.names.map λ(n,k)=>if (k == NameKind.free&&env.scope.kind == .function&&env.kindOf n == some .cell)=true then(n,NameKind.cell)else(n,k)).lookup x=_
 induction scope.names with
 | nil=>rfl
 | cons y r ih =>
  obtain⟨n,k⟩:=y;rw[acx];by_cases z:(x == n)=true
  ·have z':x=n:=by simpa using z
   subst z';by_cases hc:(k == NameKind.free&&env.scope.kind == .function&&env.kindOf x == some .cell)=true
   ·simp only[hc,if_true,List.lookup_cons,beq_self_eq_true,Option.map_some]
   ·simp only[hc,if_false,List.lookup_cons,beq_self_eq_true,Option.map_some,Bool.false_eq_true]
  ·rw[acj]at z;by_cases hc:(k == NameKind.free&&env.scope.kind == .function&&env.kindOf n == some .cell)=true
   ·simp only[hc,if_true,List.lookup_cons,z];exact ih
   ·simp only[hc,if_false,List.lookup_cons,z,Bool.false_eq_true];exact ih
theorem fE{α β:Type}[BEq α][LawfulBEq α]{x:α}{b:β}:∀{l:List (α×β)},l.lookup x=some b->(x,b)∈l
 | [],h=>by simp at h
 | (n,k)::r,h=>by
  rw[acI]at h;by_cases z:(x == n)=true
  ·rw[z]at h;have z':x=n:=by simpa using z
   cases h;rw[z'];exact aaz
  ·rw[acj]at z;rw[z]at h;exact aaF _ (fE h)
def Cx.rW(X:Cx)(N:List Str)(scope:Scope)(C:Addr)(ex:List Addr)(s:Shared)(H:Hp):Cx where
 prog:=X.prog
 w:=X.w
 K:=X.K
 mg:=X.mg
 base:=X.base
 A:=X.A
 N:=N
 s₀:=s
 H₀:=H
 env:=compEnvC scope (wb X.env.cells scope.names []) C X.env
 outer:=X.stack
 stack:=X.stack
 ex:=ex
 fn:=λ_=>false
 calm:=X.calm
 pn:=[]
 xe:=λ_ _=>False
structure rX(X:Cx)(own:Nat)(N:List Str)(ix:List Nat)(scope:Scope):Prop where
 kind:scope.kind=.function
 calm:X.calm=true
 free:scope.names.all (λy=>y.2 != .free||X.env.kindOf y.1 == some .cell)=true
 cell:scope.names.all (λy=>y.2 != .cell)=true
 loc:scope.names.all (λy=>y.2 != .local||scope.names.lookup y.1 == some .local)=true
 ixs:(ix.map λi=>X.N[i]?)=(N.drop own).map some
 fr:(N.drop own).all (λx=>scope.names.lookup x == some .free)=true
 len:N.length=own + ix.length
def fN(own:Nat)(ix:List Nat)(σ:St):St:=List.replicate own none++ix.map λi=>(σ[i]?).getD none
theorem Ec(own:Nat)(ix:List Nat)(σ:St):(fN own ix σ).drop own=ix.map λi=>(σ[i]?).getD none:=by
 unfold fN;rw[List.drop_left' (by simp)]
theorem zk{own:Nat}{ix:List Nat}{σ:St}{j:Nat}{v:V}(h:(fN own ix σ)[j]?=some (some v)):∃i,own<=j/\ix[j - own]?=some i/\σ[i]?=some (some v):=by
 unfold fN at h;by_cases hj:j < own
 ·rw[List.getElem?_append_left (by simpa using hj)]at h;rw[List.getElem?_replicate]at h;simp[hj]at h
 ·rw[List.getElem?_append_right (by simpa using hj)]at h;rw[List.length_replicate,List.getElem?_map]at h
  cases e:ix[j - own]? with
  | none=>rw[e]at h;simp at h
  | some i =>
   rw[e]at h;refine⟨i,by omega,rfl,?_⟩;have h':(σ[i]?).getD none=some v:=by simpa using h
   cases q:σ[i]? with
   | none=>rw[q]at h';simp at h'
   | some o=>rw[q]at h';simp at h';rw[h']
theorem Ed{own:Nat}{ix:List Nat}{σ σ2:St}(hd:σ2.drop own=ix.map λi=>(σ[i]?).getD none):∀(j:Nat) v,(fN own ix σ)[j]?=some (some v)->σ2[j]?=some (some v):=λj v h=>by
 by_cases hj:j < own
 ·obtain⟨i,h1,_⟩:=zk h;omega
 ·have e:(fN own ix σ)[j]?=((fN own ix σ).drop own)[j - own]?:=by rw[abb];congr 1;omega
  have e2:σ2[j]?=(σ2.drop own)[j - own]?:=by rw[abb];congr 1;omega
  rw[e,Ec,← hd,← e2]at h;exact h
section
variable {X:Cx} {pins:List (Addr×Obj)} {σ:St} {H:Hp} {s:Shared} {own:Nat} {N:List Str} {ix:List Nat} {scope:Scope}
theorem rX.has(B:rX X own N ix scope)(I:Inv X pins σ H s):∀y∈scope.names,y.2=NameKind.free->X.env.kindOf y.1=some .cell/\∃c,X.env.cells.lookup y.1=some c:=λy hy e=>by
 have z:=List.all_eq_true.mp B.free y hy;rw[e]at z;have z':X.env.kindOf y.1=some .cell:=by simpa using z
 exact⟨z',I.ok.has y.1 (.inl z')⟩
theorem G7{C:Addr}{ex:List Addr}{h':Heap}{tk:Nat}(B:rX X own N ix scope)(I:Inv X pins σ H s)(hC:C=s.heap.objs.size)(hx:∀b∈ex,rM X pins H b)(hlt:∀b∈ex,b < s.heap.objs.size)
  (hn:h'.Ns C (λ_=>none)) (hk:∀b o,s.heap.get? b=some o->h'.get? b=some o):Inv (X.rW N scope C ex s H) [] (fN own ix σ) H {s with heap:=h',toks:=tk}:=by
 have sub:∀x c,(wb X.env.cells scope.names []).lookup x=some c->X.env.cells.lookup x=some c:=BR scope.names [] λx c e=>by simp at e
 have nb:∀b o,X.base.get? b=some o->b∉ex:=λb o e hb=>by
  rcases (hx b hb).2.2.2.1 with z | z
  ·exact I.ok.noex b o e z
  ·exact absurd (aao (aap e) (aaO I.ok.bsz z)) (abf _)
 have nstk:∀b∈ex,b∉bT X.stack:=λb hb z=>by
  rcases aam.mp (I.DG b z)with e | e
  ·exact(hx b hb).2.1 e
  ·exact(hx b hb).2.2.1 e
 refine⟨⟨I.ok.mod,B.kind,I.ok.glob,I.ok.blt,?_,λx y c e1 e2=>I.ok.inj x y c (sub x c e1) (sub y c e2),λx hk'=>?_,(λ_ _ z=>absurd (show false=true from z) (by decide)),I.ok.hd,I.ok.frames,.inl rfl,λb hb=>⟨?_,λx c e=>(hx b hb).2.2.2.2.1 x c (sub x c e)⟩,
  λb o e=>I.bs b o e,aaO I.ok.bsz I.sz,nb,nstk,I.stack,I.FD⟩,rfl,I.bare,Un.kept hk,⟨_,hn,λj x v e1 e2 e3=>?_⟩,λx c e=>?_,?_,λx c e=>I.freeC x c (sub x c e),(λp hp=>nomatch hp),I.hok.kept hk,?_⟩
 ·show s.heap.objs.size<=C;exact acJ hC.symm
 ·have hk'':(relabel scope X.env).names.lookup x=some .cell∨(relabel scope X.env).names.lookup x=some .free:=hk';rw[xi]at hk''
  have hf:scope.names.lookup x=some .free:=by
   cases q:scope.names.lookup x with
   | none=>rw[q]at hk'';rcases hk'' with z | z<;>cases z
   | some k =>
    rw[q]at hk'';by_cases hkf:k=.free
    ·rw[hkf]
    ·exfalso
     have hb:(k == NameKind.free)=false:=by simpa using hkf
     have hm:=List.all_eq_true.mp B.cell (x,k) (fE q);simp only[Option.map_some,hb,Bool.false_and,Bool.false_eq_true,if_false]at hk'';rcases hk'' with z | z
     ·rw[Option.some.inj z]at hm;exact absurd hm (by simp)
     ·exact hkf (aaE z)
  obtain⟨_,c,hc⟩:=B.has I (x,.free) (fE hf) rfl;exact⟨c,xh hc scope.names [] (fE hf)⟩
 ·show b≠C;rw[hC];exact aax (hlt b hb)
 ·obtain⟨i,h1,h2,h3⟩:=zk e2;have hN:N[j]?=some x:=e1
  have hxN:X.N[i]?=some x:=by
   have e:(ix.map λi=>X.N[i]?)[j - own]?=((N.drop own).map some)[j - own]?:=by rw[B.ixs]
   rw[aar,h2,aar,abb]at e;have hj:own + (j - own)=j:=by omega
   rw[hj,hN]at e;simpa using e
  have hfr:scope.names.lookup x=some .free:=by
   have hm:x∈N.drop own:=by
    refine aat (i:=j - own) ?_;rw[abb,show own + (j - own)=j by omega];exact hN
   have:=List.all_eq_true.mp B.fr x hm;simpa using this
  obtain⟨hkc,c,hc⟩:=B.has I (x,.free) (fE hfr) rfl;obtain⟨m,hm,hl⟩:=I.loc;obtain⟨u,r,l⟩:=hl i x v hxN h3 (.inr (.inl hkc));refine⟨u,r,?_⟩;rcases l with⟨z,_⟩ | ⟨_,c',hc',hz⟩
  ·have z':X.env.kindOf x=some .local:=z;have hkc':X.env.kindOf x=some .cell:=hkc;rw[hkc']at z';cases z'
  ·rw[hc]at hc';cases hc';refine .inr ⟨.inl ?_,c,xh hc scope.names [] (fE hfr),?_⟩
   ·show(relabel scope X.env).names.lookup x=some .cell;rw[xi,hfr];have hkc':X.env.kindOf x=some .cell:=hkc;have hkf:X.env.scope.kind=.function:=I.ok.kind;simp[hkc',hkf]
   ·obtain⟨o,ho,hd⟩:=hz;exact⟨o,hk _ _ ho,hd⟩
 ·obtain⟨v,o,ho,hd⟩:=I.cell x c (sub x c e);exact⟨v,o,hk _ _ ho,hd⟩
 ·show H C=none;exact I.hok.fresh (acJ hC.symm)
 ·show(fN own ix σ).length=N.length;rw[B.len];simp[fN]
theorem Ou{C:Addr}{ex:List Addr}{σ':St}{H':Hp}{s':Shared}(I:Inv X pins σ H s)(hx:∀b∈ex,rM X pins H b)(I':Inv (X.rW N scope C ex s H) [] σ' H' s'):Inv X pins σ H' s' :=
 I.Vw (ch:=ex) I'.os I'.base I'.hok I'.bare λb hb=>⟨(hx b hb).2.2.2.1,(hx b hb).2.1,(hx b hb).2.2.2.2.1,(hx b hb).2.2.2.2.2⟩
def V0(X:Cx)(ifs:List Expr)(tt:TT):Prop:=∀(pins:List (Addr×Obj)) (s:Shared) (σ:St) (H:Hp) (Q:Bool->Hp->Prop),Inv X pins σ H s->tt σ H Q ->
 wpAny (model X.prog X.w) X.A (forIn ifs true λc r=>if r=true then do let ok ← isTrue c X.env (eval c X.env);pure (ForInStep.yield ok)else pure (ForInStep.yield r)) (TP X pins σ Q) X.xe s
def YN:TT:=λ_ H Q=>Q true H
theorem kN{X:Cx}:V0 X [] YN:=λ_ _ _ H _ I h=>wpAny_tests_nil ⟨H,I,h⟩
def XO(J:It)(own:Nat)(ix:List Nat)(σ:St)(g:TG)(tt:TT)(te:TE)(D:Addr)(H1:Hp)(Q:VK):Prop:=∃W:Nat->Nat->List V->Hp->Prop,
 (∃m,W 0 m [] (upd H1 D (.lst [])))/\∀i m ys H2,W i m ys H2->H2 D=some (.lst ys)/\((J.stop i H2/\Q (.ref D) H2)∨(J.go i H2/\ys.length < sizeLine/\∃Nx:List V->Hp->Prop,(∀ys' H',Nx ys' H'->∃m',m' < m/\W (i + 1) m' ys' H')/\∀x H3,J.yld i H2 x H3 ->
  g x (fN own ix σ) H3 λσ2 H4=>σ2.drop own=(ix.map λi=>(σ[i]?).getD none)/\tt σ2 H4 λb H5=>if b=true then te σ2 H5 λv H6=>H6 D=some (.lst ys)/\Nx (ys++[v]) (upd H6 D (.lst (ys++[v])))else Nx ys H5))
def YO(own:Nat)(ix:List Nat)(wi:TI)(g:TG)(tt:TT)(te:TE):TE:=λσ H Q=>wi σ H λJ H1=>∀D,H1 D=none->XO J own ix σ g tt te D H1 Q
theorem BS{prog:Program}{w:World}{A:Around}{R:Result->Shared->Prop}{s:Shared}{elt target iter:Expr}{ifs:List Expr}{scope:Scope}{pos:Pos}{it acc:Value}{env:Env}(I:Nat->Shared->Prop)
  (turn:∀n s,I n s->wpAny (model prog w) A (pyNext it) (λr s1=>match r with
   | none=>R (.ok .next) s1
   | some v=>wpAny (model prog w) A (letOwnedTupleGo target it v) (λ_ s1'=>wpAny (model prog w) A (assign target env v) (λ_ s2 =>
     wpAny (model prog w) A (forIn ifs true λc r=>if r=true then do let ok ← isTrue c env (eval c env);pure (ForInStep.yield ok)else pure (ForInStep.yield r)) (λok s3 =>
      if ok=true then wpAny (model prog w) A (eval elt env) (λx s4=>wpAny (model prog w) A (call (.builtin "list.append") [acc,x]) (λ_ s5=>∃m,m < n/\I m s5) (λ_ _=>False) s4) (λ_ _=>False) s3
      else ∃m,m < n/\I m s3) (λ_ _=>False) s2) (λ_ _=>False) s1') (λ_ _=>False) s1) (λ_ _=>False) s)
  (n:Nat) (h:I n s):codeAny (model prog w) A (.compLoop (.ListComp elt [⟨target,iter,ifs,0⟩] scope pos) 0 it acc env) R s:=by
 refine codeAny_loop rfl I (λn s hI=>?_) n h;show wpAny _ A ((compTurn (.ListComp elt [⟨target,iter,ifs,0⟩] scope pos) 0 it acc env).onRaise (λx=>do noteFrame x env;theTreesLotGoes x)) _ _ s;refine wpAny_noted ?_;rw[compTurn_list];refine aal (wpAny_standAt (aal (abj (turn n s hI) (λr s1 h1=>?_) λ_ _ z=>z.elim)))
 cases r with
 | none=>exact aas h1
 | some v =>
  refine aal (abj h1 (λ_ s1' h1'=>?_) λ_ _ z=>z.elim);refine aal (abj h1' (λ_ s2 h2=>aal (abj h2 (λok s3 h3=>?_) λ_ _ z=>z.elim)) λ_ _ z=>z.elim)
  cases ok with
  | false=>exact aas ⟨rfl,h3⟩
  | true=>exact aal (aal (abj h3 (λx s4 h4=>aal (abj h4 (λ_ s5 h5=>aas (aas ⟨rfl,h5⟩)) λ_ _ z=>z.elim)) λ_ _ z=>z.elim))
theorem FQ{elt tg iter:Expr}{ifs:List Expr}{pos:Pos}{g:TG}{tt:TT}{te:TE}{it:Addr}{fp:List Addr}{tn:Nat->Heap->Prop}{J:It}{Q:VK}{E:Value->Shared->Prop}{RR:Value->Addr->Result->Shared->Prop}(B:rX X own N ix scope)
  (hin:∀(C:Addr) (s:Shared) (H:Hp),PG (X.rW N scope C fp s H) tg g/\V0 (X.rW N scope C fp s H) ifs tt/\PE (X.rW N scope C fp s H) elt te)
  (I:Inv X pins σ H s) (T:Turn X.prog X.w X.K tg J fp it tn) (st:tn 0 s.heap) (hf:∀b∈fp,rM X pins H b)
  (h:∀D,H D=none->XO J own ix σ g tt te D H Q)
  (fin:∀(D C:Addr) (H':Hp) (s':Shared) (m:Str->Option Value),Inv X pins σ H' s'->s'.heap.Ns C m->H' C=none->C≠X.env.locals->(X.s₀.heap.objs.size<=C)->(∀x c,X.env.cells.lookup x=some c->c≠C)->(∀p∈X.pn++pins,p.1≠C)->Q (.ref D) H'->RR (.ref D) C (.ok .next) s') :
  wpAny (model X.prog X.w) X.A (newList []) (λacc s3=>wpAny (model X.prog X.w) X.A (newFunctionEnv scope X.env.globals (wb X.env.cells scope.names []) [] X.env.qual none .none (some X.env)) (λcenv s4 =>
   codeAny (model X.prog X.w) X.A (.compStart (.ListComp elt [⟨tg,iter,ifs,0⟩] scope pos) 0 (.ref it) acc {cenv with scope:=relabel scope X.env}) (RR acc cenv.locals) s4) E s3) E s:=by
 obtain⟨W,⟨m0,w0⟩,turn⟩:=h s.heap.objs.size I.fresh;refine abq ?_;have I3:=I.Oi (its:=[]) (ys:=[]) (t':=s.toks) .nil (aba _)
 have hcell:∀y∈scope.names,y.2≠NameKind.cell:=λy hy e=>by
  have:=ack.mp B.cell y hy;rw[e]at this;exact absurd this (by decide)
 refine wpAny_newFunctionEnv hcell (by intro y hy;simp at hy) (λh1 SN SO=>?_) B.kind;dsimp only at SN SO ⊢;generalize YQ:s.heap.push {cls:=.type "list",dict:=none,data:=.seq ([]:List Value).toArray}=h2 at SN SO ⊢
 have I3':Inv X pins σ (upd H s.heap.objs.size (.lst [])) {s with heap:=h2}:=by
  have z:({s with heap:=s.heap.push {cls:=.type "list",data:=.seq ([]:List Value).toArray},toks:=s.toks}:Shared)={s with heap:=h2}:=by rw[← YQ]
  rw[← z];exact I3
 have sz:h2.objs.size=s.heap.objs.size + 1:=by rw[← YQ,Heap.size_push]
 have YR:∀b o,s.heap.get? b=some o->h2.get? b=some o:=λb o e=>by rw[← YQ];exact aad _ e
 have Rx:∀b o,h2.get? b=some o->h1.get? b=some o:=λb o e=>SO.extBut b o (aax (aap e)) (aad _ e)
 have there:∀b∈fp,b < s.heap.objs.size:=λb hb=>by obtain⟨o,e,_⟩:=T.obj _ _ st b hb;exact aap e
 have YS:∀b∈fp,rM X pins (upd H s.heap.objs.size (.lst [])) b:=λb hb=>⟨by rw[uN (aax (there b hb))];exact(hf b hb).1,(hf b hb).2⟩
 have hn1:h1.Ns h2.objs.size (λ_=>none):=by simpa using SN
 have I4:=G7 (tk:=s.toks + ([]:List (Str×Value)).length) (own:=own) (N:=N) (ix:=ix) B I3' rfl YS (λb hb=>aao (there b hb) (by show s.heap.objs.size<=h2.objs.size;rw[sz];exact Nat.le_succ _)) hn1 Rx;have Ov:tn 0 h1:=T.keep _ _ _ st λb _ o e=>Rx b o (YR b o e)
 have Bc:(X.rW N scope h2.objs.size fp {s with heap:=h2} (upd H s.heap.objs.size (.lst []))).calm=true:=B.calm;obtain⟨pg,pif,pe⟩:=hin h2.objs.size {s with heap:=h2} (upd H s.heap.objs.size (.lst []))
 have fpb:∀{H':Hp},(∀b∈fp,H' b=none)->∀b∈fp,rM (X.rW N scope h2.objs.size fp {s with heap:=h2} (upd H s.heap.objs.size (.lst []))) [] H' b:=λhz b hb =>
  ⟨hz b hb,aax (aao (there b hb) (by show s.heap.objs.size<=h2.objs.size;rw[sz];exact Nat.le_succ _)),I4.ok.exfs b hb,.inl hb,λx c e=>(I4.ok.exf b hb).2 x c e,(λp hp=>nomatch hp)⟩
 have loop:∀s3:Shared,s3={s with heap:=h1,toks:=s.toks + ([]:List (Str×Value)).length} ->
   codeAny (model X.prog X.w) X.A (.compLoop (.ListComp elt [⟨tg,iter,ifs,0⟩] scope pos) 0 (.ref it) (.ref s.heap.objs.size) (compEnvC scope (wb X.env.cells scope.names []) h2.objs.size X.env)) (RR (.ref s.heap.objs.size) h2.objs.size) s3:=by
  rintro s3 rfl;refine BS (λn s'=>∃i ys H',Inv (X.rW N scope h2.objs.size fp {s with heap:=h2} (upd H s.heap.objs.size (.lst []))) [] (fN own ix σ) H' s'/\tn i s'.heap/\(∀b∈fp,H' b=none)/\W i n ys H') ?_ m0
   ⟨0,[],_,I4,Ov,λb hb=>(YS b hb).1,w0⟩
  rintro n s5 ⟨i,ys,H5,I5,JO,XI,w5⟩;obtain⟨hD,t5⟩:=turn i n ys H5 w5;rcases t5 with⟨stop,qn⟩ | ⟨go,hz,Nx,hNx,step⟩
  ·refine c8 (T.done (X.rW N scope h2.objs.size fp {s with heap:=h2} (upd H s.heap.objs.size (.lst []))) rfl rfl rfl Bc i [] s5 _ H5 (λ_ _=>False) I5 (fpb XI) JO stop) λr s6 ⟨hr,I6⟩=>?_
   subst hr;obtain⟨m,hm,_⟩:=I6.loc;refine fin _ _ H5 s6 m (Ou I3' YS I6) hm I6.free ?_ ?_ (λx c e z=>?_) (λp hp z=>?_) qn
   ·have:=I3'.lt;exact abz this
   ·exact I3'.sz
   ·obtain⟨v,q⟩:=I3'.cell x c e;have:=q.lt;rw[z]at this;exact absurd this (abf _)
   ·have:=aap (I3'.pin p hp).1;rw[z]at this;exact absurd this (abf _)
  ·refine c8 (T.item (X.rW N scope h2.objs.size fp {s with heap:=h2} (upd H s.heap.objs.size (.lst []))) rfl rfl rfl Bc i [] s5 _ H5 (λ_ _=>False) I5 (fpb XI) JO go) λr s6 ⟨u,hr,h6⟩=>?_
   subst hr;refine c8 h6 λ_ s7 ⟨x,H7,I7,r7,y7,YT,fr7⟩=>?_
   have I7':=I7.pinned (fpb fr7) (T.obj _ _ YT);refine c8 (pg _ s7 _ H7 x u _ I7' r7 (step x H7 y7)) λ_ s8 ⟨σ8,H8,I8,hd8,q8⟩=>?_
   refine c8 (pif _ s8 σ8 H8 _ I8 q8) λb s9 ⟨H9,I9,q9⟩=>?_
   have again:∀{ys':List V} {H':Hp} {s':Shared},Inv (X.rW N scope h2.objs.size fp {s with heap:=h2} (upd H s.heap.objs.size (.lst []))) ([]++w9 fp s7.heap) σ8 H' s'->Nx ys' H' ->
     ∃m,m < n/\∃i ys H',Inv (X.rW N scope h2.objs.size fp {s with heap:=h2} (upd H s.heap.objs.size (.lst []))) [] (fN own ix σ) H' s'/\tn i s'.heap/\(∀b∈fp,H' b=none)/\W i m ys H':=by
    intro ys' H' s' I' w';obtain⟨m',hm,w'⟩:=hNx _ _ w';refine⟨m',hm,i + 1,ys',H',(I'.rN).weak ?_ (Ed hd8),T.keep _ _ _ YT λb hb o e=>(I'.pin (b,o) (aaP _ (aaP _ (kK hb e)))).1,λb hb=>?_,w'⟩
    ·rw[I'.len,← I4.len]
    ·obtain⟨o,e,d⟩:=T.obj _ _ YT b hb;exact(I'.pin (b,o) (aaP _ (aaP _ (kK hb e)))).2.1
   cases b with
   | true =>
    simp only[if_true]at q9 ⊢;refine c8 (pe _ s9 σ8 H9 _ I9 q9) λv V1 ⟨y,Vj,I10,r10,YU,q10⟩=>?_
    refine c8 (cj _ V1 σ8 Vj (.ref _) [y] (.ref _) [v] (λ_ H'=>Nx (ys++[y]) H') I10 rfl (.cons r10 .nil) ⟨_,ys,y,rfl,rfl,YU,hz,q10⟩) λ_ s11 ⟨_,H11,I11,_,YV⟩=>?_
    exact again I11 YV
   | false =>
    simp only[Bool.false_eq_true,if_false]at q9 ⊢;exact again I9 q9
 exact codeAny_compStart_list (loop _ rfl) (T.self _ 0 _ _ _ Ov (loop _ rfl))
theorem Kc{lo:Int}{n:Nat}{g:TG}{tt:TT}{te:TE}{H1:Hp}{Q:VK}{D:Addr}(Pv:Nat->List V->Hp->Prop)(hn:n<=sizeLine)(h0:Pv 0 [] (upd H1 D (.lst [])))(hD:∀i ys H,Pv i ys H->H D=some (.lst ys)/\ys.length<=i)
  (hs:∀i ys H2,i < n->Pv i ys H2->g (.int (lo + i)) (fN own ix σ) H2 λσ2 H4=>σ2.drop own=(ix.map λi=>(σ[i]?).getD none)/\tt σ2 H4 λb H5=>if b=true then te σ2 H5 λv H6=>H6 D=some (.lst ys)/\Pv (i + 1) (ys++[v]) (upd H6 D (.lst (ys++[v])))else Pv (i + 1) ys H5)
  (hd:∀ys H2,Pv n ys H2->Q (.ref D) H2) :
  XO (VF lo n) own ix σ g tt te D H1 Q:=by
 refine⟨λi m ys H=>m=n - i/\i<=n/\Pv i ys H,⟨n,by simp,Nat.zero_le _,h0⟩,?_⟩;rintro i m ys H2 ⟨rfl,hi,p⟩;obtain⟨q1,q2⟩:=hD i ys H2 p;refine⟨q1,?_⟩;by_cases hlt:i < n
 ·refine .inr ⟨hlt,by omega,Pv (i + 1),λys' H' p'=>⟨n - (i + 1),by omega,rfl,hlt,p'⟩,λx H3 y=>?_⟩;obtain⟨e1,e2⟩:=y;subst e1 e2;exact hs i ys _ hlt p
 ·have e:i=n:=by omega
  subst e;exact .inl ⟨aaf _,hd ys H2 p⟩
theorem rY{K:ax}{a:Addr}{xs:List V}{g:TG}{tt:TT}{te:TE}{H1:Hp}{Q:VK}{D:Addr}(Pv:Nat->List V->Hp->Prop)(hn:xs.length<=sizeLine)(h0:Pv 0 [] (upd H1 D (.lst [])))(hD:∀i ys H,i<=xs.length->Pv i ys H->H D=some (.lst ys)/\ys.length<=i/\bt K H a xs)
  (hs:∀i x ys H2,xs[i]?=some x->Pv i ys H2->g x (fN own ix σ) H2 λσ2 H4=>σ2.drop own=(ix.map λi=>(σ[i]?).getD none)/\tt σ2 H4 λb H5=>if b=true then te σ2 H5 λv H6=>H6 D=some (.lst ys)/\Pv (i + 1) (ys++[v]) (upd H6 D (.lst (ys++[v])))else Pv (i + 1) ys H5)
  (hd:∀ys H2,Pv xs.length ys H2->Q (.ref D) H2) :
  XO (Ro K a) own ix σ g tt te D H1 Q:=by
 refine⟨λi m ys H=>m=xs.length - i/\i<=xs.length/\Pv i ys H,⟨xs.length,by simp,Nat.zero_le _,h0⟩,?_⟩;rintro i m ys H2 ⟨rfl,hi,p⟩;obtain⟨q1,q2,q3⟩:=hD i ys H2 hi p;refine⟨q1,?_⟩;by_cases hlt:i < xs.length
 ·refine .inr ⟨⟨xs,xs[i],q3,by simp[hlt]⟩,by omega,Pv (i + 1),λys' H' p'=>⟨xs.length - (i + 1),by omega,rfl,hlt,p'⟩,λx H3 y=>?_⟩;obtain⟨e1,e2⟩:=y;subst e1;exact hs i x ys _ (e2 xs q3) p
 ·have e:i=xs.length:=by omega
  subst e;exact .inl ⟨⟨xs,q3,aaf _⟩,hd ys H2 p⟩
theorem Ke{elt tg iter:Expr}{ifs:List Expr}{pos:Pos}{wi:TI}{g:TG}{tt:TT}{te:TE}(own:Nat)(N:List Str)(ix:List Nat)(B:rX X own N ix scope)(hi:PI X tg iter wi)
  (hin:∀(C:Addr) (fp:List Addr) (s:Shared) (H:Hp),PG (X.rW N scope C fp s H) tg g/\V0 (X.rW N scope C fp s H) ifs tt/\PE (X.rW N scope C fp s H) elt te)
  (hs:∀x,foldedSetIterable iter X.env x=pure x:=by intro _;rfl):PE X (.ListComp elt [⟨tg,iter,ifs,0⟩] scope pos) (YO own ix wi g tt te):=by
 intro pins s σ H Q I h
 have hnames:∀y∈scope.names,y.2=NameKind.local->scope.names.lookup y.1=some .local:=λy hy e=>by
  have:=List.all_eq_true.mp B.loc y hy;rw[e]at this;simpa using this
 rw[eval_ListComp];refine acK (use:=none) rfl hs (pY λy hy e=>(B.has I y hy e).2) B.kind hnames (c8 (hi pins s σ H _ I h) λv s1 h1=>c8 h1 λitv s2 h2=>?_);obtain⟨it,fp,tn,J,H2,e,I2,T,dw,f2,rd⟩:=h2;subst e;refine FQ (Q:=Q) (RR:=λacc C=>compPost (model X.prog X.w) X.A X.xe none (EP X pins σ Q) acc C) B (λC s H=>hin C fp s H) I2 T dw f2 rd ?_;intro D C H' s' m I' hn hC hL hsz hce hpi q;exact⟨m,hn,λh' sb=>⟨.ref D,H',I'.turned (t':=s'.toks) (λb o hb e=>(sb.2 b hb).trans e) hC hL (.inr hsz) hce hpi,rfl,q⟩⟩
theorem mK{i:Nat}{x:Str}{elt tg iter:Expr}{ifs:List Expr}{pos pos' spos:Pos}{wi:TI}{g:TG}{tt:TT}{te:TE}(hN:X.N.Nodup)(hxi:X.N[i]?=some x)(hx:Loc X.env.scope x)(own:Nat)(N:List Str)(ix:List Nat)(B:rX X own N ix scope)(hi:PI X tg iter wi)
  (hin:∀(C:Addr) (fp:List Addr) (s:Shared) (H:Hp),PG (X.rW N scope C fp s H) tg g/\V0 (X.rW N scope C fp s H) ifs tt/\PE (X.rW N scope C fp s H) elt te)
  (hsw:swapsWith (.ListComp elt [⟨tg,iter,ifs,0⟩] scope pos) (some (.Name x pos')) spos.line X.env=pure true:=by rfl) (hs:∀x,foldedSetIterable iter X.env x=pure x:=by intro _;rfl)
  (hfn:X.fn x=true∨X.env.scope.names.lookup x=some .local:=by first | exact .inl rfl | exact .inr rfl):PS X (.Assign [.Name x pos'] (.ListComp elt [⟨tg,iter,ifs,0⟩] scope pos) spos) (N0 (YO own ix wi g tt te) (wZ i)):=by
 intro pins s σ H D0 I h
 have hnames:∀y∈scope.names,y.2=NameKind.local->scope.names.lookup y.1=some .local:=λy hy e=>by
  have:=List.all_eq_true.mp B.loc y hy;rw[e]at this;simpa using this
 rw[exec_Assign_Name_used _ _ _ _ hsw];refine aal (wpAny_standAt (aal ?_));show wpAny _ X.A (do let _ ← comprehension (.ListComp elt [⟨tg,iter,ifs,0⟩] scope pos) scope X.env _ (newList []) false (eval iter X.env) (some (assign (.Name x pos') X.env))) _ _ s;refine aal (c8 (acK (use:=some (assign (.Name x pos') X.env)) (Q:=λ_ s'=>SP X pins D0 .next s') rfl hs (pY λy hy e=>(B.has I y hy e).2) B.kind hnames (c8 (hi pins s σ H _ I h) λv s1 h1=>c8 h1 λitv s2 h2=>?_)) λ_ s' hq=>aas (aas hq));obtain⟨it,fp,tn,J,H2,e,I2,T,dw,f2,rd⟩:=h2;subst e;refine FQ (Q:=λv H'=>wZ i v σ H' D0.nx) (RR:=λacc C=>compPost (model X.prog X.w) X.A X.xe (some (assign (.Name x pos') X.env)) (λ_ s'=>SP X pins D0 .next s') acc C) B (λC s H=>hin C fp s H) I2 T dw f2 rd ?_;intro D C H' s' m I' hn hC hL hsz hce hpi q;show wpAny _ X.A (assign (.Name x pos') X.env (.ref D)) _ _ s';refine wpAny_assign_Name (za I' hN hxi hx (v:=.ref D) rfl (λs'' I'' ⟨a,sb,ha⟩=>?_) hfn);refine⟨m,hn.sameBut sb ?_,λh' sb'=>⟨_,H',I''.turned (t':=s''.toks) (λb o hb e=>(sb'.2 b hb).trans e) hC hL (.inr hsz) hce hpi,q⟩⟩;rcases ha with e | e
 ·rw[e];exact hL
 ·exact acF (hce x a e)
end
theorem range_all(bs:List Bool):(List.range bs.length).all (λi=>(bs[i]?).getD true)=bs.all id:=by
 rw[Bool.eq_iff_iff,ack,ack]
 constructor
 ·intro h b hb;obtain⟨i,hi,e⟩:=List.mem_iff_getElem.mp hb;have z:=h i (List.mem_range.mpr hi);rw[dh hi,e]at z;exact z
 ·intro h i hi;have hi':=List.mem_range.mp hi;rw[dh hi'];exact h _ (acL hi')
section
variable {X:Cx}
def YW(K:ax):List V->Hp->VK->Prop:=λxs H Q=>∃(p:Addr) (bs:List Bool),xs=[.ref p]/\bt K H p (bs.map V.bl)/\Q (.bl (bs.all id)) H
theorem Kf(hc:X.calm=true):jE X (.builtin "all") (YW X.K):=by
 intro pins s σ H xs us Q I r h;obtain⟨p,bs,rfl,hS,q⟩:=h;obtain⟨u,rfl,ru⟩:=vals1 r;cases ru;obtain⟨its,rv,pl,hz⟩:=I.list hS
 have hlen:its.toArray.size=bs.length:=by
  have:=rv.length;simp at this;simp[this]
 have hlt:p < s.heap.objs.size:=by obtain⟨o,n,e,_⟩:=pl;exact aap e
 refine call_all_walk (acA pl.isList ?_);refine⟨s.heap.objs.size,_,_,its.toArray.size,_,_,λi=>(bs[i]?).getD true,rfl,Walks.list (show X.A.in1.handled=none from I.ok.hd hc) _ _ (aax hlt) its.toArray,⟨⟨_,aav _ rfl,rfl,rfl⟩,pl.isList.push _⟩,?_,λh' tk k=>?_⟩
 ·intro i v s' Q' E' hv hq
  have hi:i < bs.length:=by
   rw[← hlen];exact(Array.getElem?_eq_some_iff.mp hv).1
  obtain⟨u',hu',ru'⟩:=rv.get (i:=i) (x:=.bl bs[i]) (by rw[List.getElem?_map,dh hi];rfl);have e:its[i]?=some v:=by simpa using hv
  rw[hu']at e;cases e;cases ru';have hq':Q' ((bs[i]?).getD true) s':=hq;rw[dh hi]at hq';exact abg hq'
 ·rw[hlen,range_all];exact⟨.bl _,H,I.kept (t':=tk) λb o e=>k b o (by simpa using Nat.ne_of_lt (Heap.lt_size e)) (Heap.get?_push_of_some _ e),rfl,q⟩
def Ry(K:ax):R2:=λx y H Q=>∃l b xs zs,x=.ref l/\y=.ref b/\bt K H l xs/\bt K H b zs/\xs.length + zs.length<=sizeLine/\∀p,H p=none->Q (.ref p) (upd H p (.lst (xs++zs)))
theorem Ae:jD X (binaryOp .Add) (Ry X.K):=by
 intro pins s σ H x y v u Q I rx ry h;obtain⟨l,b,xs,zs,rfl,rfl,hH,hB,hz,q⟩:=h;cases rx;cases ry;obtain⟨its,r,⟨⟨c1,d1,a1,Rz⟩,n,e,rfl,rfl,rfl⟩,z⟩:=I.list hH;obtain⟨rT,r2,⟨⟨c2,d2,a2,Vi⟩,n2,e2,rfl,rfl,rfl⟩,z2⟩:=I.list hB;have hl:=r.length;have FO:=r2.length;refine concat_meets ⟨_,e,rfl⟩ ⟨_,e2,rfl⟩ noFill_list_add seq_list_add PySem.F.slot_list_add PySem.F.entry_list_add (PySem.F.args_list_add_2 _ _)
  (list_addW l b its.toArray rT.toArray n n2 none none Rz Vi (by rw[aaD,aaD];omega)) ⟨e,e2,?_⟩
 rw[show its.toArray++rT.toArray=(its++rT).toArray by simp];exact⟨.ref _,_,I.Oi (t':=s.toks) (r.append r2) (by rw[List.length_append];omega),rfl,q _ I.fresh⟩
end
section
variable {X:Cx} {tg:Expr}
end
def Nt(K:ax)(w:World)(d:Addr)(kds:List (Str×PyData)):Prop :=
 (d == sysModules)=false/\∃(o:Obj) (vs:List (Str×Value)),K.lookup d=some o/\(∀P:Program,o.IsDictOf (strKind P w) vs) /\
  Paired (λa b=>a.1=b.1/\∃v,RelV v a.2/\∀H:Hp,aZ K H v b.2) vs kds
def fO(kds:List (Str×PyData))(k:Str):Option PyData:=(kds.find? λkv=>decide (kv.1=k)).map (·.2)
theorem qr{K:ax}{vs:List (Str×Value)}{kds:List (Str×PyData)}(k:Str)(h:Paired (λa b=>a.1=b.1/\∃v,RelV v a.2/\∀H:Hp,aZ K H v b.2) vs kds):
  (valueAt vs k=none/\fO kds k=none)∨∃u d v,valueAt vs k=some u/\fO kds k=some d/\RelV v u/\∀H:Hp,aZ K H v d:=by
 induction h with
 | nil=>exact .inl ⟨rfl,rfl⟩
 | @cons a b as bs hab t ih =>
  obtain⟨e,v,h1,h2⟩:=hab;by_cases q:a.1=k
  ·refine .inr ⟨a.2,b.2,v,?_,?_,h1,h2⟩
   ·unfold valueAt;rw[List.find?_cons_of_pos (by simpa using q)];rfl
   ·unfold fO;rw[List.find?_cons_of_pos (by simpa [← e]using q)];rfl
  ·have e1:valueAt (a::as) k=valueAt as k:=by unfold valueAt;rw[List.find?_cons_of_neg (by simpa using q)]
   have e2:fO (b::bs) k=fO bs k:=by unfold fO;rw[List.find?_cons_of_neg (by simpa [← e]using q)]
   rw[e1,e2];exact ih
def V2(w:World)(e:Str×Tok×Value):DictEntry:={hash:=PyData.keyHash w.params e.1,key:=.str e.1 e.2.1,val:=e.2.2}
theorem Kg{K:ax}{w:World}{d:Addr}{ep:Nat}{ent:List (Str×Tok×Value)}{kds:List (Str×PyData)}(hd:(d == sysModules)=false)
  (lk:K.lookup d=some {cls:=.type "dict",data:=.dict (ent.map (V2 w)).toArray ep}) (nd:(ent.map (·.1)).Nodup)
  (h:Paired (λ(e:Str×Tok×Value) (kd:Str×PyData)=>e.1=kd.1/\∃v,RelV v e.2.2/\∀H:Hp,aZ K H v kd.2) ent kds):Nt K w d kds:=by
 refine⟨hd,_,ent.map (λe=>(e.1,e.2.2)),lk,λP=>⟨_,ep,⟨rfl,rfl,rfl⟩,rfl,?_,?_,?_⟩,?_⟩
 ·intro e he;simp at he;obtain⟨a,b,c,_,rfl⟩:=he;exact⟨a,strKind_is _ _ _ _,rfl⟩
 ·show Pairs _ (ent.map (V2 w)) _;clear h nd lk
  induction ent with
  | nil=>exact .nil
  | cons e r ih=>exact .cons (acZ _ _ _ _) rfl ih
 ·rw[List.map_map];exact nd
 ·clear lk nd
  induction h with
  | nil=>exact .nil
  | cons a t ih=>exact .cons a ih
theorem aJ{K:ax}{r:Addr}{its:List Value}{ds:List PyData}(lk:K.lookup r=some {cls:=.type "tuple",data:=.seq its.toArray 0})(hz:its.length<=sizeLine)
  (h:Paired (λu d=>∃v,RelV v u/\∀H:Hp,aZ K H v d) its ds):∃v,RelV v (.ref r)/\∀H:Hp,aZ K H v (.tuple ds):=by
 have key:∃xs:List V,Vals xs its/\∀H:Hp,aL K H xs ds:=by
  clear lk hz
  induction h with
  | nil=>exact⟨[],.nil,λH=>aL.nil⟩
  | cons a t ih =>
   obtain⟨v,h1,h2⟩:=a;obtain⟨xs,g1,g2⟩:=ih;exact⟨v::xs,.cons h1 g1,λH=>aL.cons (h2 H) (g2 H)⟩
 obtain⟨xs,h1,h2⟩:=key;exact⟨.ref r,rfl,λH=>.rV (.inr ⟨_,its.toArray,0,lk,rfl,rfl,by simpa using hz,h1⟩) (h2 H)⟩
theorem Af{K:ax}{r:Addr}{d:PyData}(h:∃v,RelV v (.ref r)/\∀H:Hp,aZ K H v d):∀H:Hp,aZ K H (.ref r) d:=by
 obtain⟨v,h1,h2⟩:=h;intro H;cases v<;>simp[RelV]at h1
 subst h1;exact h2 H
theorem aR{K:ax}{x:Str}{t:Tok}:∃v,RelV v (.str x t)/\∀H:Hp,aZ K H v (.str x):=⟨.str x,⟨t,rfl⟩,λ_=>.str x⟩
theorem fP{K:ax}{i:Int}{t:Tok}:∃v,RelV v (.int i t)/\∀H:Hp,aZ K H v (.int i):=⟨.int i,⟨t,rfl⟩,λ_=>.int i⟩
section
variable {X:Cx}
theorem Nt.at{K:ax}{pins:List (Addr×Obj)}{σ:St}{H:Hp}{s:Shared}{w:World}{d:Addr}{kds:List (Str×PyData)}(hK:X.K=K)(I:Inv X pins σ H s)(h:Nt K w d kds):
  (d == sysModules)=false/\∃vs,(∀P,s.heap.DictOf (strKind P w) d vs)/\Paired (λa b=>a.1=b.1/\∃v,RelV v a.2/\∀H:Hp,aZ K H v b.2) vs kds:=by
 obtain⟨h0,o,vs,lk,hd,hp⟩:=h;subst hK;exact⟨h0,vs,λP=>Heap.dictOf_iff.mpr ⟨o,I.yz d o lk,hd P⟩,hp⟩
def YX(K:ax)(w:World)(neg:Bool):R2:=λx y H Q=>∃d kds k,y=.ref d/\x=.str k/\Nt K w d kds/\Q (.bl (if neg then !(fO kds k).isSome else(fO kds k).isSome)) H
theorem SQ:jD X (compareOp .In) (YX X.K X.w false):=by
 intro pins s σ H x y v u Q I rx ry h;obtain⟨d,kds,k,rfl,rfl,hd,q⟩:=h;cases ry;obtain⟨t,rfl⟩:=rx;obtain⟨h0,vs,hm,hp⟩:=hd.at rfl I;refine wpAny_in_of (acZ X.prog X.w k t) h0 (hm X.prog).mapOf ⟨.bl _,H,I.tok _,rfl,?_⟩
 have e:(valueAt vs k).isSome=(fO kds k).isSome:=by
  rcases qr k hp with⟨a,b⟩ | ⟨_,_,_,a,b,_⟩<;>rw[a,b]<;>rfl
 rw[e];exact q
def YY(K:ax)(w:World):R2:=λx y H Q=>∃d kds k dt,x=.ref d/\y=.str k/\Nt K w d kds/\fO kds k=some dt/\∀v:V,(∀H:Hp,aZ K H v dt)->Q v H
theorem Kh:Nr X (YY X.K X.w):=by
 intro value slice pins s σ H x y v u Q I rx ry h hs;obtain⟨d,kds,k,dt,rfl,rfl,hd,hg,q⟩:=h;cases rx;obtain⟨t,rfl⟩:=ry;obtain⟨h0,vs,hm,hp⟩:=hd.at rfl I;rcases qr k hp with⟨a,b⟩ | ⟨u,e,z,a,b,c1,c2⟩
 ·rw[b]at hg;cases hg
 ·rw[b]at hg;cases hg;exact acd (x:=u) (hm X.prog).mapOf.typeIs slot_dict_getitem.lookup
   (wpAny_getItem_of (Q:=λr s'=>r=u/\EP X pins σ Q r s') (acZ X.prog X.w k t) (hm X.prog).mapOf a ⟨rfl,⟨z,H,I.tok _,c1,q z c2⟩⟩) hs
def V3(K:ax)(w:World)(to:TE)(t:TA):TE:=λσ H Q=>to σ H λx H1=>∃d kds,x=.ref d/\Nt K w d kds/\t σ H1 λxs H2=>∃k z,xs=[.str k,z]/\(fO kds k=none->Q z H2) /\
 ∀dt,fO kds k=some dt->∀v:V,(∀H:Hp,aZ K H v dt)->Q v H2
variable {o e:Expr} {es:List Expr} {to:TE} {t:TA} {apos cpos:Pos}
theorem Ow(ho:PE X o to)(ha:PA X (e::es) t)
  (hbase:attributeBase o "get" X.env (eval o X.env)=eval o X.env:=by rfl)
  (hfew:((backTo cpos (starEach (e::es) X.env)).all (λx=>!x.1)&&(backToKw cpos (keywordEach [] X.env)).all (λx=>x.1.isSome)
   && decide ((e::es).length + ([]:List Keyword).length + (if ([]:List Keyword).isEmpty then 0 else 1) < 30))=true:=by rfl)
  (hline:(apos.endLine == cpos.line)=true:=by rfl) (hs:starEach (e::es) X.env=(false,eval e X.env)::starEach es X.env:=by rfl) (hplain:(backTo cpos (starEach es X.env)).any (·.1)=false:=by rfl) :
  PE X (.Call (.Attribute o "get" apos) (e::es) [] cpos) (V3 X.K X.w to t):=by
 intro pins s σ H Q I h;refine wpAny_Call_method_late hbase hfew hline rfl (c8 (ho pins s σ H _ I h) λv s1 ⟨x,H1,I1,r1,d,kds,ex,hd,q1⟩=>?_);subst ex;cases r1;obtain⟨h0,vs,hm,hp⟩:=hd.at rfl I1;refine⟨"dict","dict.get",PySem.F.plainAttrs_dict,acX,PySem.F.type_dict_get,(hm X.prog).mapOf.typeIs,λb eb=>?_,?_⟩
 ·cases eb;obtain⟨ob,_,_,g1,g2,_⟩:=hm X.prog;exact⟨ob,g1,g2.2.1⟩
 have hA:=ha cpos pins s1 σ H1 _ I1 q1;rw[hs]at hA ⊢;refine ace (by show(false||(backTo cpos (starEach es X.env)).any (·.1))=false;rw[hplain]<;>rfl) (Calls.evalArgs_plain ?_)
 refine c8 hA λus s2 ⟨ws,H2,I2,r2,k,z,ez,q2,q3⟩=>?_
 subst ez;obtain⟨u1,u2,rfl,YZ,Y0⟩:=vals2 r2;obtain⟨tk,rfl⟩:=YZ;obtain⟨h0,vs,hm,hp⟩:=hd.at rfl I2;refine call_meetsIn acX (hm X.prog).mapOf.typeIs PySem.F.entry_dict_get (PySem.F.args_dict_get_3 _ _ _) (meets_dict_get_default (strKind X.prog X.w) d (acZ X.prog X.w k tk) h0 u2) ⟨_,(hm X.prog).mapOf,?_⟩;rcases qr k hp with⟨a,b⟩ | ⟨u,dt,v,a,b,c1,c2⟩
 ·rw[a];exact⟨z,H2,I2.tok _,Y0,q2 b⟩
 ·rw[a];exact⟨v,H2,I2.tok _,c1,q3 dt b v c2⟩
end
theorem Inv.Ox{X:Cx}{pins:List (Addr×Obj)}{σ:List (Option V)}{H:Hp}{s:Shared}{h':Heap}{fp:List Addr}{a:Addr}{o:HO}{t':Nat}(I:Inv X pins σ H s)(hf:∀b∈fp,rM X pins H b)
  (k:∀b u,b∉fp->s.heap.get? b=some u->h'.get? b=some u) (hp:s.heap.objs.size<=a) (new:jd X.prog X.w (upd H a o) h' a o):Inv X pins σ (upd H a o) {s with heap:=h',toks:=t'}:=by
 have hn:=I.hok.fresh hp;have nfp:∀b u,H b=some u->b∉fp:=λb u e z=>by rw[(hf b z).1]at e;cases e
 refine I.step (g':=s.gens) (d':=s.drawn) (ch:=fp) (λb hb=>⟨(hf b hb).2.2.2.1,(hf b hb).2.1,(hf b hb).2.2.2.2.1,(hf b hb).2.2.2.2.2⟩) (λb o _ _ hc e _=>k b o hc e) (λb o _ _ hc e _=>⟨o.slots,k b o hc e⟩)
  (λb o hc e n=>by rw[uN (aax (aao (aap e) hp))];exact n) (λb o hc e=>⟨o,k b o hc e⟩) (λb xs e=>by rw[uN (nN e hn)];exact e) (λb u xs e=>by rw[uN (nN e hn)];exact e)
  (λb ps e=>⟨#[],by rw[uN (nN e hn),e];simp⟩) (λm hm=>?_) (λb u e=>?_) I.bare
 ·obtain⟨o,es,ep,ho,r⟩:=hm;exact⟨o,es,ep,k _ o (λz=>(hf _ z).2.1 rfl) ho,r⟩
 ·by_cases hb:b=a
  ·subst hb;rw[uS]at e;cases e;exact new
  ·rw[uN hb]at e;refine(I.hok b u e).DF (λc v hc q=>k c v ?_ q) (λc q=>by rw[uN (nN q hn)];exact q) λc xs q=>by rw[uN (nN q hn)];exact q
   rcases hc with z | z
   ·rw[z];exact nfp b u e
   ·exact nfp c _ z
theorem Inv.Oy{X:Cx}{pins:List (Addr×Obj)}{σ:List (Option V)}{H:Hp}{s:Shared}{h':Heap}{fp:List Addr}{t':Nat}(I:Inv X pins σ H s)(hf:∀b∈fp,rM X pins H b)
  (k:∀b u,b∉fp->s.heap.get? b=some u->h'.get? b=some u):Inv X pins σ H {s with heap:=h',toks:=t'}:=by
 have nfp:∀b u,H b=some u->b∉fp:=λb u e z=>by rw[(hf b z).1]at e;cases e
 refine I.step (g':=s.gens) (d':=s.drawn) (ch:=fp) (λb hb=>⟨(hf b hb).2.2.2.1,(hf b hb).2.1,(hf b hb).2.2.2.2.1,(hf b hb).2.2.2.2.2⟩) (λb o _ _ hc e _=>k b o hc e) (λb o _ _ hc e _=>⟨o.slots,k b o hc e⟩)
  (λ_ _ _ _ n=>n) (λb o hc e=>⟨o,k b o hc e⟩) (λ_ _ e=>e) (λ_ _ _ e=>e) (λb ps e=>⟨#[],by rw[e];simp⟩) (λm hm=>?_) (λb u e=>?_) I.bare
 ·obtain⟨o,es,ep,ho,r⟩:=hm;exact⟨o,es,ep,k _ o (λz=>(hf _ z).2.1 rfl) ho,r⟩
 ·refine(I.hok b u e).DF (λc v hc q=>k c v ?_ q) (λ_ q=>q) λ_ _ q=>q
  rcases hc with z | z
  ·rw[z];exact nfp b u e
  ·exact nfp c _ z
def kr(q:Bool)(h:Heap)(a:Addr)(its:Array Value):Prop:=match q with | true=>h.IsList a its | false=>h.IsTuple a its
def jh(q:Bool)(h:Heap)(it a:Addr)(i:Nat):Prop:=match q with | true=>h.IsListIter it a i | false=>h.IsTupleIter it a i
def V4(q:Bool):String:=match q with | true=>"list_iterator" | false=>"tuple_iterator"
theorem kr.at{q:Bool}{h h':Heap}{a:Addr}{its:Array Value}(x:kr q h a its)(e:∀o,h.get? a=some o->h'.get? a=some o):kr q h' a its:=by
 cases q<;>(obtain⟨o,ho,r⟩:=x;exact⟨o,e _ ho,r⟩)
theorem jh.at{q:Bool}{h h':Heap}{it a:Addr}{i:Nat}(x:jh q h it a i)(e:∀o,h.get? it=some o->h'.get? it=some o):jh q h' it a i:=by
 cases q<;>(obtain⟨o,ho,r⟩:=x;exact⟨o,e _ ho,r⟩)
theorem jh.obj{q:Bool}{h:Heap}{it a:Addr}{i:Nat}(x:jh q h it a i):∃o,h.get? it=some o/\∀v,o.data≠.cell v:=by
 cases q<;>(obtain⟨o,ho,c,d⟩:=x;exact⟨o,ho,λv z=>by rw[d]at z;cases z⟩)
section
variable {prog:Program} {w:World} {A:Around} {E:Value->Shared->Prop} {s:Shared}
theorem Ki{it t:Addr}{i:Nat}{its:Array Value}{x:Value}{Q:Value->Shared->Prop}(hit:s.heap.IsTupleIter it t i)(ht:s.heap.IsTuple t its)(hx:its[i]?=some x)
  (hQ:∀h',h'.IsTupleIter it t (i + 1)->Heap.SameBut it s.heap h'->Q x {s with heap:=h'}):wpAny (model prog w) A (Builtin.SmallTypes.nextOf (.ref it)) Q E s:=by
 obtain⟨o,g1,g2,g3⟩:=id hit;obtain⟨ot,g4,_,nt,g5⟩:=ht;unfold Builtin.SmallTypes.nextOf;refine wpAny_bind (wpAny_callSpecial?_slot (name:=Str.ofString "__next__") hit.typeIs F.slot_tuple_iterator_next (wpAny_call_entry F.slot_tuple_iterator_next hit.typeIs F.entry_tuple_iterator_next ?_ (F.args_tuple_iterator_next_1 _)));show wpAny _ _ (field (.ref it) 0 >>= _) _ _ s;refine wpAny_bind (wpAny_field g1 g3 (x:=.ref t) rfl ?_);show wpAny _ _ (if (Value.ref t == Value.none)=true then _ else _) _ _ s;rw[if_neg (show ¬ ((Value.ref t == Value.none)=true)from Bool.false_ne_true)];show wpAny _ _ (field (.ref it) 1 >>= _) _ _ s;refine wpAny_bind (wpAny_field g1 g3 (x:=.int i 0) rfl ?_);show wpAny _ _ (seqItems? (.ref t) >>= _) _ _ s;refine wpAny_bind (wpAny_seqItems g4 g5 ?_);simp only[Int.toNat_natCast,hx];refine wpAny_bind (wpAny_setField g1 g3 (by simp) (wpAny_pure ⟨x,rfl,wpAny_pure (hQ _ ?_ (Heap.SameBut.update ..))⟩));exact⟨_,Heap.get?_update_self _ g1 (Obj.isFreed_of_fields (Obj.data_mapFields g3 _)),(Obj.cls_mapFields ..).trans g2,by rw[Obj.data_mapFields g3];simp[rawInt]⟩
theorem Oz{it t:Addr}{i:Nat}{its:Array Value}{Q:Value->Shared->Prop}(hh:A.handled=none)(hit:s.heap.IsTupleIter it t i)(ht:s.heap.IsTuple t its)(hx:its[i]?=none)
  (hE:∀h' e,Heap.ExtBut it s.heap h'->(∃o,h'.get? e=some o/\o.cls=.type "StopIteration")->E (.ref e) {s with heap:=h'}):wpAny (model prog w) A (Builtin.SmallTypes.nextOf (.ref it)) Q E s:=by
 obtain⟨o,g1,g2,g3⟩:=id hit;obtain⟨ot,g4,_,nt,g5⟩:=ht;unfold Builtin.SmallTypes.nextOf;refine wpAny_bind (wpAny_callSpecial?_slot (name:=Str.ofString "__next__") hit.typeIs F.slot_tuple_iterator_next (wpAny_call_entry F.slot_tuple_iterator_next hit.typeIs F.entry_tuple_iterator_next ?_ (F.args_tuple_iterator_next_1 _)));show wpAny _ _ (field (.ref it) 0 >>= _) _ _ s;refine wpAny_bind (wpAny_field g1 g3 (x:=.ref t) rfl ?_);show wpAny _ _ (if (Value.ref t == Value.none)=true then _ else _) _ _ s;rw[if_neg (show ¬ ((Value.ref t == Value.none)=true)from Bool.false_ne_true)];show wpAny _ _ (field (.ref it) 1 >>= _) _ _ s;refine wpAny_bind (wpAny_field g1 g3 (x:=.int i 0) rfl ?_);show wpAny _ _ (seqItems? (.ref t) >>= _) _ _ s;refine wpAny_bind (wpAny_seqItems g4 g5 ?_);simp only[Int.toNat_natCast,hx];refine wpAny_bind (wpAny_rule (wpAny_bind (wpAny_setField g1 g3 (by simp) ?_)));show wpAny _ _ (newExc (.type "StopIteration") [] >>= _) _ _ _;refine wpAny_bind ?_;simp only[newExc,newTuple];refine wpAny_bind (wpAny_newObj_type ?_ (by size_fits));refine wpAny_bind (m:=firstArgMember _ _) (wpAny_of_eq (a:=Value.none) (by first | rfl | (simp only[firstArgMember];rfl)) ?_);refine wpAny_newObj_type ?_ (by size_fits);simp only[raiseNew];refine wpAny_bind (wpAny_handled ?_)
 first | rw[show A.in1.handled=none from hh] | rw[hh]
 refine aal (aas (wpAny_throw ?_));exact hE _ _ (((Heap.SameBut.update ..).extBut.push _).push _) ⟨_,aav _ rfl,rfl⟩
theorem Ag{q:Bool}{it t:Addr}{i:Nat}{its:Array Value}{x:Value}{Q:Value->Shared->Prop}(hit:jh q s.heap it t i)(ht:kr q s.heap t its)(hx:its[i]?=some x)
  (hQ:∀h',jh q h' it t (i + 1)->Heap.SameBut it s.heap h'->Q x {s with heap:=h'}):wpAny (model prog w) A (Builtin.SmallTypes.nextOf (.ref it)) Q E s:=by
 cases q with
 | true=>exact wpAny_nextOf_list_item hit ht hx hQ
 | false=>exact Ki hit ht hx hQ
theorem Kj{q:Bool}{it t:Addr}{i:Nat}{its:Array Value}{Q:Value->Shared->Prop}(hh:A.handled=none)(hit:jh q s.heap it t i)(ht:kr q s.heap t its)(hx:its[i]?=none)
  (hE:∀h' e,Heap.ExtBut it s.heap h'->(∃o,h'.get? e=some o/\o.cls=.type "StopIteration")->E (.ref e) {s with heap:=h'}):wpAny (model prog w) A (Builtin.SmallTypes.nextOf (.ref it)) Q E s:=by
 cases q with
 | true=>exact wpAny_nextOf_list_end hh hit ht hx hE
 | false=>exact Oz hh hit ht hx hE
variable {q1 q2:Bool} {z TI TO i1 i2 l1 l2:Addr} {k1 k2:Nat} {xs ys:Array Value} {x y a b:Value}
theorem G8{Q:Option Value->Shared->Prop}(D:ZipApart z TI TO i1 i2 l1 l2)(hz:IsZip s.heap z TI TO .none)(hTI:IsPair s.heap TI (.ref i1) (.ref i2))(hTO:IsPair s.heap TO a b)
  (h1:jh q1 s.heap i1 l1 k1) (h2:jh q2 s.heap i2 l2 k2) (OA:kr q1 s.heap l1 xs) (FO:kr q2 s.heap l2 ys) (hx:xs[k1]?=some x) (hy:ys[k2]?=some y)
  (hQ:∀h',IsZip h' z TI TO (rawInt s.heap.objs.size)->IsPair h' TO x y->jh q1 h' i1 l1 (k1 + 1)->jh q2 h' i2 l2 (k2 + 1)->IsPair h' s.heap.objs.size x y ->
   (∀c o,c≠z->c≠TO->c≠i1->c≠i2->s.heap.get? c=some o->h'.get? c=some o)->Q (some (.ref s.heap.objs.size)) {s with heap:=h'}):wpAny (model prog w) A (pyNext (.ref z)) Q E s:=by
 have hT:s.TypeIs (.ref z) "zip":=⟨_,hz,rfl⟩;unfold pyNext;refine wpAny_bind (wpAny_attempt (wpAny_callSpecial?_slot (name:=Str.ofString "__next__") hT F.slot_zip_next (wpAny_call_entry F.slot_zip_next hT F.entry_zip_next ?_ (F.args_zip_next_1 _))));show wpAny _ _ (field (.ref z) 2 >>= _) _ _ _;refine wpAny_bind (wpAny_field hz rfl (x:=.bool false) rfl ?_);show wpAny _ _ (field (.ref z) 3 >>= _) _ _ _;refine wpAny_bind (wpAny_field hz rfl (x:=.ref TI) rfl (wpAny_bind (wpAny_seqItems hTI rfl ?_)));show wpAny _ _ (Builtin.SmallTypes.ownedTupleIsFree (.ref z) >>= _) _ _ _;refine wpAny_bind ?_;unfold Builtin.SmallTypes.ownedTupleIsFree;refine wpAny_bind (wpAny_field hz rfl (x:=.none) rfl (wpAny_pure ?_));simp only[if_true];refine wpAny_bind (wpAny_rule (wpAny_bind (wpAny_field hz rfl (x:=.ref TO) rfl (wpAny_bind (wpAny_setField_rec hz (by simp) λu1 RA b1=>?_)))))
 replace RA:IsZip u1 z TI TO .ellipsis:=RA
 refine wpAny_bind ?_;simp only[List.zipIdx_cons,List.zipIdx_nil,List.forIn_cons,List.forIn_nil];refine wpAny_bind (wpAny_bind (wpAny_onRaise ?_));show wpAny _ _ (Builtin.SmallTypes.nextOf (.ref i1) >>= _) _ _ _;refine wpAny_bind (Ag (h1.at λo e=>b1.extBut _ o D.i1z e) (OA.at λo e=>b1.extBut _ o D.l1z e) hx λu2 Vk b2=>wpAny_pure ?_);have Kk:IsPair u2 TO a b:=b2.extBut _ _ D.TOi1 (b1.extBut _ _ D.TOz hTO);refine wpAny_bind (wpAny_seqItems Kk rfl (wpAny_bind (wpAny_updateSeq_pair Kk λu3 OB b3=>?_)))
 replace OB:IsPair u3 TO x b:=OB
 refine aal (wpAny_letGo (aas (aal (aal (wpAny_onRaise ?_)))));show wpAny _ _ (Builtin.SmallTypes.nextOf (.ref i2) >>= _) _ _ _;refine aal (Ag (h2.at λo e=>b3.extBut _ o D.TOi2.symm (b2.extBut _ o D.i12.symm (b1.extBut _ o D.i2z e))) (FO.at λo e=>b3.extBut _ o D.l2TO (b2.extBut _ o D.l2i1 (b1.extBut _ o D.l2z e))) hy λu4 h24 b4=>aas ?_);have V5:IsPair u4 TO x b:=b4.extBut _ _ D.TOi2 OB;refine aal (wpAny_seqItems V5 rfl (aal (wpAny_updateSeq_pair V5 λu5 OC b5=>?_)))
 replace OC:IsPair u5 TO x y:=OC
 refine aal (wpAny_letGo (aas (aas ?_)));refine aal (wpAny_seqItems OC rfl (aal (wpAny_newTuple ?_)));have hsz:u5.objs.size=s.heap.objs.size:=by rw[b5.1,b4.1,b3.1,b2.1,b1.1]
 have hz5:IsZip u5 z TI TO .ellipsis:=b5.extBut _ _ D.TOz.symm (b4.extBut _ _ D.i2z.symm (b3.extBut _ _ D.TOz.symm (b2.extBut _ _ D.i1z.symm RA)));have Kl:∀c o,c≠z->c≠TO->c≠i1->c≠i2->s.heap.get? c=some o->u5.get? c=some o:=λc o c1 c2 c3 c4 e=>b5.extBut _ _ c2 (b4.extBut _ _ c4 (b3.extBut _ _ c2 (b2.extBut _ _ c3 (b1.extBut _ _ c1 e))))
 have h15:jh q1 u5 i1 l1 (k1 + 1):=Vk.at λo e=>b5.extBut _ o D.TOi1.symm (b4.extBut _ o D.i12 (b3.extBut _ o D.TOi1.symm e))
 have h25:jh q2 u5 i2 l2 (k2 + 1):=h24.at λo e=>b5.extBut _ o D.TOi2.symm e
 have hzl:z < u5.objs.size:=Heap.lt_size hz5;show wpAny _ _ (Builtin.SmallTypes.ownedTupleHandOut (.ref z) (.ref u5.objs.size) >>= _) _ _ _;refine wpAny_bind ?_;unfold Builtin.SmallTypes.ownedTupleHandOut;have hz6:IsZip (u5.push {cls:=.type "tuple",data:=.seq #[x,y]}) z TI TO .ellipsis:=Heap.get?_push_of_some _ hz5;refine wpAny_bind (wpAny_setField_rec hz6 (by simp) λu7 Y1 b7=>?_)
 replace Y1:IsZip u7 z TI TO (rawInt u5.objs.size):=Y1
 refine wpAny_setField_rec Y1 (by simp) λu8 XQ b8=>?_
 replace XQ:IsZip u8 z TI TO (rawInt u5.objs.size):=XQ
 have up:∀c o,c≠z->u5.get? c=some o->u8.get? c=some o:=λc o c1 e=>b8.extBut _ _ c1 (b7.extBut _ _ c1 (aad _ e))
 have hT8:IsPair u8 u5.objs.size x y:=b8.extBut _ _ (abz hzl) (b7.extBut _ _ (abz hzl) (aav _ rfl));rw[hsz]at XQ hT8;refine aas ⟨_,rfl,aas ?_⟩;show Q (some (.ref u5.objs.size)) _;rw[hsz];exact hQ u8 XQ (up _ _ D.TOz OC) (h15.at λo e=>up _ o D.i1z e) (h25.at λo e=>up _ o D.i2z e) hT8 λc o c1 c2 c3 c4 e=>up c o c1 (Kl c o c1 c2 c3 c4 e)
theorem Km{Q:Option Value->Shared->Prop}(hh:A.handled=none)(D:ZipApart z TI TO i1 i2 l1 l2)(hz:IsZip s.heap z TI TO .none)(hTI:IsPair s.heap TI (.ref i1) (.ref i2))(hTO:IsPair s.heap TO a b)
  (h1:jh q1 s.heap i1 l1 k1) (h2:jh q2 s.heap i2 l2 k2) (OA:kr q1 s.heap l1 xs) (FO:kr q2 s.heap l2 ys) (hend:xs[k1]?=none∨ys[k2]?=none)
  (hQ:∀h',(∀c o,c≠z->c≠TO->c≠i1->c≠i2->s.heap.get? c=some o->h'.get? c=some o)->Q none {s with heap:=h'}):wpAny (model prog w) A (pyNext (.ref z)) Q E s:=by
 have hT:s.TypeIs (.ref z) "zip":=⟨_,hz,rfl⟩;have fin:∀(h':Heap) (e:Addr),(∀c o,c≠z->c≠TO->c≠i1->c≠i2->s.heap.get? c=some o->h'.get? c=some o)->(∃o,h'.get? e=some o/\o.cls=.type "StopIteration") ->
   wpAny (model prog w) A (do let b ← isInstance (.ref e) (.type "StopIteration");if b=true then pure none else throw (.ref e)) Q E {s with heap:=h'}:=λh' e hk ⟨o,ho,hc⟩ =>
  aal (wpAny_isInstance (T:="StopIteration") (b:=true) ⟨o,ho,hc⟩ isSubtype_stop (aas (hQ _ hk)))
 unfold pyNext;refine wpAny_bind (wpAny_attempt (wpAny_callSpecial?_slot (name:=Str.ofString "__next__") hT F.slot_zip_next (wpAny_call_entry F.slot_zip_next hT F.entry_zip_next ?_ (F.args_zip_next_1 _))));show wpAny _ _ (field (.ref z) 2 >>= _) _ _ _;refine wpAny_bind (wpAny_field hz rfl (x:=.bool false) rfl ?_);show wpAny _ _ (field (.ref z) 3 >>= _) _ _ _;refine wpAny_bind (wpAny_field hz rfl (x:=.ref TI) rfl (wpAny_bind (wpAny_seqItems hTI rfl ?_)));show wpAny _ _ (Builtin.SmallTypes.ownedTupleIsFree (.ref z) >>= _) _ _ _;refine wpAny_bind ?_;unfold Builtin.SmallTypes.ownedTupleIsFree;refine wpAny_bind (wpAny_field hz rfl (x:=.none) rfl (wpAny_pure ?_));simp only[if_true];refine wpAny_bind (wpAny_rule (wpAny_bind (wpAny_field hz rfl (x:=.ref TO) rfl (wpAny_bind (wpAny_setField_rec hz (by simp) λu1 RA b1=>?_)))))
 replace RA:IsZip u1 z TI TO .ellipsis:=RA
 refine wpAny_bind ?_;simp only[List.zipIdx_cons,List.zipIdx_nil,List.forIn_cons,List.forIn_nil];refine wpAny_bind (wpAny_bind (wpAny_onRaise ?_));show wpAny _ _ (Builtin.SmallTypes.nextOf (.ref i1) >>= _) _ _ _
 cases hx:xs[k1]? with
 | none =>
  refine wpAny_bind (Kj hh (h1.at λo e=>b1.extBut _ o D.i1z e) (OA.at λo e=>b1.extBut _ o D.l1z e) hx λu2 e b2 he=>?_);obtain⟨oe,hoe,hce⟩:=he;have hz2:IsZip u2 z TI TO .ellipsis:=b2 _ _ D.i1z.symm RA;have hez:e≠z:=λx=>by subst x;rw[hz2]at hoe;cases hoe;simp at hce
  exact wpAny_setField_rec hz2 (by simp) λu3 _ b3=>fin u3 e (λc o c1 _ c3 _ x=>b3.extBut _ _ c1 (b2 _ _ c3 (b1.extBut _ _ c1 x))) ⟨oe,b3.extBut _ _ hez hoe,hce⟩
 | some x =>
  have hy:ys[k2]?=none:=by rcases hend with h | h;rw[hx]at h;cases h;exact h
  refine wpAny_bind (Ag (h1.at λo e=>b1.extBut _ o D.i1z e) (OA.at λo e=>b1.extBut _ o D.l1z e) hx λu2 Vk b2=>wpAny_pure ?_);have Kk:IsPair u2 TO a b:=b2.extBut _ _ D.TOi1 (b1.extBut _ _ D.TOz hTO);refine wpAny_bind (wpAny_seqItems Kk rfl (wpAny_bind (wpAny_updateSeq_pair Kk λu3 OB b3=>?_)));refine wpAny_bind (wpAny_letGo (wpAny_pure (wpAny_bind (wpAny_bind (wpAny_onRaise ?_)))));show wpAny _ _ (Builtin.SmallTypes.nextOf (.ref i2) >>= _) _ _ _;refine wpAny_bind (Kj hh (h2.at λo e=>b3.extBut _ o D.TOi2.symm (b2.extBut _ o D.i12.symm (b1.extBut _ o D.i2z e))) (FO.at λo e=>b3.extBut _ o D.l2TO (b2.extBut _ o D.l2i1 (b1.extBut _ o D.l2z e))) hy λu4 e b4 he=>?_);obtain⟨oe,hoe,hce⟩:=he;have hz4:IsZip u4 z TI TO .ellipsis:=b4 _ _ D.i2z.symm (b3.extBut _ _ D.TOz.symm (b2.extBut _ _ D.i1z.symm RA));have hez:e≠z:=λx=>by subst x;rw[hz4]at hoe;cases hoe;simp at hce
  exact wpAny_setField_rec hz4 (by simp) λu5 _ b5=>fin u5 e (λc o c1 c2 c3 c4 x=>b5.extBut _ _ c1 (b4 _ _ c4 (b3.extBut _ _ c2 (b2.extBut _ _ c3 (b1.extBut _ _ c1 x))))) ⟨oe,b5.extBut _ _ hez hoe,hce⟩
theorem BU{q:Bool}{l:Addr}{its:Array Value}{Q:Value->Shared->Prop}(hl:kr q s.heap l its)(hQ:Q (.ref s.heap.objs.size) {s with heap:=s.heap.push {cls:=.type (V4 q),data:=.fields #[.ref l,.int 0 0]}}):
  wpAny (model prog w) A (pyIter (.ref l)) Q E s:=by
 cases q with
 | true=>exact acA hl hQ
 | false=>exact wpAny_pyIter_tuple hl hQ
theorem RB{q:Bool}{h:Heap}{it l:Addr}(e:h.get? it=some {cls:=.type (V4 q),data:=.fields #[.ref l,.int 0 0]}):jh q h it l 0:=by
 cases q<;>exact⟨_,e,rfl,rfl⟩
end
def XR(q1:Bool)(h:Heap)(l1:Addr):Heap:=h.push {cls:=.type (V4 q1),data:=.fields #[.ref l1,.int 0 0]}
def V6(q1 q2:Bool)(h:Heap)(l1 l2:Addr):Heap:=(XR q1 h l1).push {cls:=.type (V4 q2),data:=.fields #[.ref l2,.int 0 0]}
def V7(q1 q2:Bool)(h:Heap)(l1 l2:Addr):Heap:=(V6 q1 q2 h l1 l2).push {cls:=.type "tuple",data:=.seq #[.ref h.objs.size,.ref (XR q1 h l1).objs.size]}
def V8(q1 q2:Bool)(h:Heap)(l1 l2:Addr):Heap:=(V7 q1 q2 h l1 l2).push {cls:=.type "tuple",data:=.seq #[.none,.none]}
def Vm(q1 q2:Bool)(h:Heap)(l1 l2:Addr):Heap:=(V8 q1 q2 h l1 l2).push {cls:=.type "zip",data:=.fields #[.none,.bool false,.bool false,.ref (V6 q1 q2 h l1 l2).objs.size,.ref (V7 q1 q2 h l1 l2).objs.size]}
theorem Ee(q1 q2:Bool)(l1 l2:Addr)(xs ys:Array Value):
  Meets (Builtin.«zip.__new__» ⟨[.type "zip",.ref l1,.ref l2],[]⟩) (λ_ R s=>kr q1 s.heap l1 xs/\kr q2 s.heap l2 ys/\R (.ok (.ret (.ref (V8 q1 q2 s.heap l1 l2).objs.size))) {s with heap:=Vm q1 q2 s.heap l1 l2}) :=
 .of_wp λprog w A R s h=>by
  obtain⟨hp,g,d,tk,os⟩:=s;obtain⟨OA,FO,h⟩:=h;have hsub:=sub_zip;have hL1:kr q1 (Shared.heap ⟨hp,g,d,tk,os⟩) l1 xs:=OA;have hL2:kr q2 (Shared.heap ⟨hp.push {cls:=.type (V4 q1),data:=.fields #[.ref l1,.int 0 0]},g,d,tk,os⟩) l2 ys:=kr.at FO λo e=>aad _ e
  wp_walk using BU hL1,BU hL2
  exact⟨_,rfl,h⟩
section
variable {prog:Program} {w:World} {A:Around} {E:Value->Shared->Prop} {s:Shared} {q1 q2:Bool}
theorem G9{l1 l2:Addr}{xs ys:Array Value}{Q:Value->Shared->Prop}(OA:kr q1 s.heap l1 xs)(FO:kr q2 s.heap l2 ys)
  (h:∀h',IsZip h' (s.heap.objs.size + 4) (s.heap.objs.size + 2) (s.heap.objs.size + 3) .none->IsPair h' (s.heap.objs.size + 2) (.ref s.heap.objs.size) (.ref (s.heap.objs.size + 1)) ->
   IsPair h' (s.heap.objs.size + 3) .none .none->jh q1 h' s.heap.objs.size l1 0->jh q2 h' (s.heap.objs.size + 1) l2 0->(∀c o,s.heap.get? c=some o->h'.get? c=some o)->Q (.ref (s.heap.objs.size + 4)) {s with heap:=h'}) :
  wpAny (model prog w) A (call (.type "zip") [.ref l1,.ref l2]) Q E s:=by
 refine callType_new F.called_zip (by decide) (F.typeCall_zip_2 _ _) (F.newCall_zip_2 _ _) (λobj=>F.args_object_init_3 obj _ _) F.entry_zip_new (Ee q1 q2 l1 l2 xs ys) ⟨OA,FO,?_⟩;have z1:(XR q1 s.heap l1).objs.size=s.heap.objs.size + 1:=Heap.size_push ..;have z2:(V6 q1 q2 s.heap l1 l2).objs.size=s.heap.objs.size + 2:=by unfold V6;rw[Heap.size_push,z1]
 have z3:(V7 q1 q2 s.heap l1 l2).objs.size=s.heap.objs.size + 3:=by unfold V7;rw[Heap.size_push,z2]
 have z4:(V8 q1 q2 s.heap l1 l2).objs.size=s.heap.objs.size + 4:=by unfold V8;rw[Heap.size_push,z3]
 have g5:(Vm q1 q2 s.heap l1 l2).get? (V8 q1 q2 s.heap l1 l2).objs.size=some _:=aav _ rfl;have g4:(Vm q1 q2 s.heap l1 l2).get? (V7 q1 q2 s.heap l1 l2).objs.size=some _:=aad _ (aav _ rfl);have g3:(Vm q1 q2 s.heap l1 l2).get? (V6 q1 q2 s.heap l1 l2).objs.size=some _:=aad _ (aad _ (aav _ rfl));have g2:(Vm q1 q2 s.heap l1 l2).get? (XR q1 s.heap l1).objs.size=some _:=aad _ (aad _ (aad _ (aav _ rfl)));have g1:(Vm q1 q2 s.heap l1 l2).get? s.heap.objs.size=some _:=aad _ (aad _ (aad _ (aad _ (aav _ rfl))));show _/\_;rw[z2,z3,z4]at g5;rw[z1,z2]at g3;rw[z3]at g4;rw[z1]at g2;rw[z4];exact⟨⟨_,g5,rfl⟩,h _ g5 g3 g4 (RB g1) (RB g2) λc o x=>aad _ (aad _ (aad _ (aad _ (aad _ x))))⟩
end
def Js(q:Bool)(K:ax)(H:Hp)(a:Addr)(xs:List V):Prop:=match q with | true=>bt K H a xs | false=>bu K H a xs
theorem Js.heap{X:Cx}{pins:List (Addr×Obj)}{σ:St}{H:Hp}{s:Shared}{q:Bool}{a:Addr}{xs:List V}(I:Inv X pins σ H s)(h:Js q X.K H a xs):∃its:List Value,Vals xs its/\kr q s.heap a its.toArray:=by
 cases q with
 | true=>obtain⟨its,r,p,_⟩:=I.list h;exact⟨its,r,p.isList⟩
 | false=>obtain⟨its,r,p,_⟩:=I.tuple h;exact⟨its,r,p⟩
theorem kr.lt{q:Bool}{h:Heap}{a:Addr}{its:Array Value}(x:kr q h a its):a < h.objs.size:=by
 cases q<;>(obtain⟨o,ho,r⟩:=x;exact aap ho)
theorem jh.lt{q:Bool}{h:Heap}{it a:Addr}{i:Nat}(x:jh q h it a i):it < h.objs.size:=by
 obtain⟨o,ho,_⟩:=x.obj;exact aap ho
def V9(q1 q2:Bool)(K:ax)(l1 l2:Addr)(xs ys:List V):It :=
 ⟨λi H=>i < xs.length/\i < ys.length/\Js q1 K H l1 xs/\Js q2 K H l2 ys,
  λi H x H'=>∃T u v,H T=none/\x=.ref T/\H'=upd H T (.tup [u,v])/\xs[i]?=some u/\ys[i]?=some v,
  λi H=>(xs.length<=i∨ys.length<=i)/\Js q1 K H l1 xs/\Js q2 K H l2 ys⟩
theorem Ko{P:Program}{w:World}{K:ax}{elts:List Expr}{kx}{pos:Pos}{q1 q2:Bool}{z TI TO i1 i2 l1 l2:Addr}(xs ys:List V)(D:ZipApart z TI TO i1 i2 l1 l2):
  Turn P w K (.Tuple elts kx pos) (V9 q1 q2 K l1 l2 xs ys) [z,TI,TO,i1,i2] z (λi h=>IsZip h z TI TO .none/\IsPair h TI (.ref i1) (.ref i2)/\(∃a b,IsPair h TO a b)/\jh q1 h i1 l1 i/\jh q2 h i2 l2 i) where
 mem:=by simp
 obj:=λi h st b hb=>by
  obtain⟨hz,hTI,⟨a,b',hTO⟩,h1,h2⟩:=st;simp at hb;rcases hb with e | e | e | e | e
  ·subst e;exact⟨_,hz,λv z=>by cases z⟩
  ·subst e;exact⟨_,hTI,λv z=>by cases z⟩
  ·subst e;exact⟨_,hTO,λv z=>by cases z⟩
  ·subst e;exact h1.obj
  ·subst e;exact h2.obj
 keep:=λi h h' st k=>by
  obtain⟨hz,hTI,⟨a,b',hTO⟩,h1,h2⟩:=st;exact⟨k z (by simp) _ hz,k TI (by simp) _ hTI,⟨a,b',k TO (by simp) _ hTO⟩,h1.at λo e=>k i1 (by simp) o e,h2.at λo e=>k i2 (by simp) o e⟩
 item:=by
  intro X hP hw hK hc i pins s σ H E I hf st hg;subst hP hw hK;obtain⟨g1,g2,s1,s2⟩:=hg;obtain⟨hz,hTI,⟨a,b',hTO⟩,h1,h2⟩:=st;obtain⟨us,r1,p1⟩:=s1.heap I;obtain⟨vs,r2,p2⟩:=s2.heap I;obtain⟨u,hu,ru⟩:=r1.get (dh g1);obtain⟨v,hv,rv⟩:=r2.get (dh g2);refine G8 (x:=u) (y:=v) D hz hTI hTO h1 h2 p1 p2 (by simpa using hu) (by simpa using hv) λh' a1 a2 a3 a4 a5 hk=>?_
  refine⟨_,rfl,wpAny_letOwnedTupleGo_zip a1 λh'' b1 sb=>?_⟩;have nT:∀{c o},s.heap.get? c=some o->c≠s.heap.objs.size:=λe=>aax (aap e)
  have hT:IsPair h'' s.heap.objs.size u v:=sb.extBut _ _ (nT hz).symm a5
  have kk:∀c o,c∉[z,TI,TO,i1,i2]->s.heap.get? c=some o->h''.get? c=some o:=λc o hc e=>by
   simp at hc;exact sb.extBut _ _ hc.1 (hk c o hc.1 hc.2.2.1 hc.2.2.2.1 hc.2.2.2.2 e)
  refine⟨.ref s.heap.objs.size,upd H s.heap.objs.size (.tup [xs[i],ys[i]]),I.Ox hf kk (aaf _) ⟨by show 2<=sizeLine;decide,[u,v],.cons ru (.cons rv .nil),_,hT,rfl,_,rfl⟩,rfl,⟨_,_,_,I.fresh,rfl,rfl,dh g1,dh g2⟩,?_,λb hb=>?_⟩
  ·exact⟨b1,sb.extBut _ _ D.TIz (hk _ _ D.TIz D.TITO D.TIi1 D.TIi2 hTI),⟨_,_,sb.extBut _ _ D.TOz a2⟩,a3.at λo e=>sb.extBut _ o D.i1z e,a4.at λo e=>sb.extBut _ o D.i2z e⟩
  ·rw[uN ?_]
   ·exact(hf b hb).1
   ·simp at hb;rcases hb with e | e | e | e | e
    ·subst e;exact nT hz
    ·subst e;exact nT hTI
    ·subst e;exact nT hTO
    ·subst e;exact aax h1.lt
    ·subst e;exact aax h2.lt
 done:=by
  intro X hP hw hK hc i pins s σ H E I hf st hg;subst hP hw hK;obtain⟨g1,s1,s2⟩:=hg;obtain⟨hz,hTI,⟨a,b',hTO⟩,h1,h2⟩:=st;obtain⟨us,r1,p1⟩:=s1.heap I;obtain⟨vs,r2,p2⟩:=s2.heap I;have e1:=r1.length;have e2:=r2.length;refine Km (I.ok.hd hc) D hz hTI hTO h1 h2 p1 p2 ?_ λh' hk=>⟨rfl,I.Oy (t':=s.toks) hf λc o hc e=>?_⟩
  ·rcases g1 with g | g
   ·exact .inl (by simp;omega)
   ·exact .inr (by simp;omega)
  ·simp at hc;exact hk c o hc.1 hc.2.2.1 hc.2.2.2.1 hc.2.2.2.2 e
 self:=λ_ _ _ _ _ st h=>wpAny_pyIter_zip st.1 h
section
variable {X:Cx}
def Y2(q1 q2:Bool)(K:ax)(ta:TA):TI:=λσ H R=>ta σ H λvs H1=>∃l1 l2 xs ys,vs=[.ref l1,.ref l2]/\Js q1 K H1 l1 xs/\Js q2 K H1 l2 ys/\R (V9 q1 q2 K l1 l2 xs ys) H1
theorem SR(q1 q2:Bool){elts:List Expr}{kx}{tpos:Pos}{a b:Expr}{ta:TA}{p pos:Pos}(hg:Gl X "zip")(hm:X.mg "zip"=none)(ha:PA X [a,b] ta)(hs:starEach [a,b] X.env=[(false,eval a X.env),(false,eval b X.env)]:=by rfl)(VM:starEach [b] X.env=[(false,eval b X.env)]:=by rfl):
  PI X (.Tuple elts kx tpos) (.Call (.Name "zip" p) [a,b] [] pos) (Y2 q1 q2 X.K ta):=by
 intro pins s σ H R I h;refine Call_ (wX I hg hm SJ (abu (c8 (ha pos pins s σ H _ I h) λus s1 ⟨vs,H1,I1,r1,q1⟩=>?_) (by rw[hs,VM]) (by rw[VM];rfl)));obtain⟨l1,l2,xs,ys,rfl,s1',s2',q⟩:=q1;obtain⟨u1,u2,rfl,YZ,Y0⟩:=vals2 r1;cases YZ;cases Y0;obtain⟨us1,r1,p1⟩:=s1'.heap I1;obtain⟨vs1,r2,p2⟩:=s2'.heap I1;have n1:=p1.lt;have n2:=p2.lt;refine G9 p1 p2 λh' hz hTI hTO h1 h2 kk=>?_
 refine wpAny_pyIter_zip hz ?_;refine⟨s1.heap.objs.size + 4,[s1.heap.objs.size + 4,s1.heap.objs.size + 2,s1.heap.objs.size + 3,s1.heap.objs.size,s1.heap.objs.size + 1],_,_,H1,rfl,I1.kept (t':=s1.toks) kk,Ko xs ys ⟨?_,?_,?_,?_,?_,?_,?_,?_,?_,?_,?_,?_,?_,?_,?_,?_,?_,?_⟩,⟨hz,hTI,⟨_,_,hTO⟩,h1,h2⟩,?_,q⟩
 all_goals first | exact aax (Nat.add_lt_add_left (by decide) _) | exact abz (Nat.add_lt_add_left (by decide) _) | exact aax (acQ (by decide)) | exact abz (acQ (by decide)) | exact aax (aao n1 (acM _ _)) | exact aax (aao n2 (acM _ _)) | exact aax n1 | exact aax n2 | skip
 intro c hb
 have hb':s1.heap.objs.size<=c:=by
  simp at hb;rcases hb with e | e | e | e | e<;>(rw[e];first | exact Nat.le_refl _ | exact Nat.le_add_right _ _)
 exact I1.N1 hb' (I1.hok.fresh hb')
end
theorem OD{q1 q2:Bool}{K:ax}{l1 l2:Addr}{xs ys:List V}{g:TG}{tb:TS}{D:Ends}{σ:St}{H:Hp}(n:Nat)(Pv:Nat->St->Hp->Prop)(hx:n<=xs.length)(hy:n<=ys.length)(he:xs.length<=n∨ys.length<=n)
  (h0:Pv 0 σ H) (hl:∀i σ H,i<=n->Pv i σ H->Js q1 K H l1 xs/\Js q2 K H l2 ys)
  (hs:∀i u v σ H T,xs[i]?=some u->ys[i]?=some v->i < n->Pv i σ H->H T=none->g (.ref T) σ (upd H T (.tup [u,v])) λσ2 H2=>tb {D with nx:=Pv (i + 1),ct:=Pv (i + 1),bk:=D.nx} σ2 H2) (hd:∀σ H,Pv n σ H->D.nx σ H) :
  ∃W:Nat->Nat->St->Hp->Prop,(∃m,W 0 m σ H)/\∀i m σ H,W i m σ H ->
   ((V9 q1 q2 K l1 l2 xs ys).stop i H/\D.nx σ H)∨((V9 q1 q2 K l1 l2 xs ys).go i H/\∃N:St->Hp->Prop,(∀σ' H',N σ' H'->∃m',m' < m/\W (i + 1) m' σ' H')/\∀x H',(V9 q1 q2 K l1 l2 xs ys).yld i H x H'->g x σ H' λσ2 H2=>tb {D with nx:=N,ct:=N,bk:=D.nx} σ2 H2):=by
 refine⟨λi m σ H=>m=n - i/\i<=n/\Pv i σ H,⟨n,by simp,Nat.zero_le _,h0⟩,?_⟩;rintro i m σ H ⟨rfl,hi,p⟩;obtain⟨p3,p4⟩:=hl i σ H hi p;by_cases hlt:i < n
 ·refine .inr ⟨⟨by omega,by omega,p3,p4⟩,Pv (i + 1),λσ' H' p'=>⟨n - (i + 1),by omega,rfl,hlt,p'⟩,λx H' y=>?_⟩;obtain⟨T,u,v,t1,e1,e2,t2,t3⟩:=y;subst e1 e2;exact hs i u v σ _ T t2 t3 hlt p t1
 ·have e:i=n:=by omega
  subst e;exact .inl ⟨⟨he,p3,p4⟩,hd σ H p⟩
theorem kP{H:Hp}{p:Addr}(h:H p=none)(o:HO):aF H (upd H p o):=λb u q=>by rw[uN (nN q h)];exact q
section
variable {prog:Program} {w:World} {A:Around} {E:Value->Shared->Prop} {s:Shared}
theorem Ha{t sl:Addr}{items:Array Value}{vl vu:Value}{lo hi:Option Int}{Q:Value->Shared->Prop}(ht:IsTup s.heap t items)(hs:s.heap.IsSliceOf sl vl vu .none)(pl:IsPart vl lo)(pu:IsPart vu hi)
  (hw:HT.fc items.size 0 lo=0/\HT.fc items.size items.size hi=items.size) (h:Q (.ref t) s):wpAny (model prog w) A (getItem (.ref t) (.ref sl)) Q E s:=by
 obtain⟨os,hos,hcs,hds⟩:=id hs;have hTs:s.TypeIs (.ref sl) "slice":=⟨os,hos,hcs⟩;unfold getItem
 try with_reducible refine acg ?_
 first | refine aal (aas ?_) | skip
 refine wpAny_bind (wpAny_sequenceKey ht.typeIs (by decide) ?_);refine wpAny_bind (wpAny_callSpecial?_slot (name:=Str.ofString "__getitem__") ht.typeIs PyProof.Rows.slot_tuple_getitem (wpAny_call_entry PyProof.Rows.slot_tuple_getitem ht.typeIs entry_tuple_getitem ?_ (args_tuple_getitem _ _)));show wpAny _ _ (Builtin.Tuple.tupleItemsOf (.ref t) >>= _) _ _ s;refine wpAny_bind (tupleItemsOf_ ht (wpAny_bind (wpAny_typeOf hTs ?_)));rw[if_pos (by decide)];refine wpAny_bind (HT.kl hs pl pu ?_);show wpAny _ _ (if (((HT.fc items.size 0 lo:Nat):Int) == 0&&(1:Int) == 1&&(HT.fc items.size items.size hi - HT.fc items.size 0 lo) == items.size)=true then _ else _) _ _ s;rw[if_pos (by rw[hw.1,hw.2];simp)];unfold Builtin.Tuple.tupleIsExact;refine wpAny_bind (wpAny_bind (wpAny_typeOf ht.typeIs (wpAny_pure ?_)));rw[if_pos (by decide)];exact wpAny_bind (wpAny_rule (wpAny_pure ⟨_,rfl,wpAny_pure h⟩))
end
section
variable {X:Cx}
def Wa(K:ax):V->Option Int->Option Int->Hp->VK->Prop:=λx lo hi H Q=>∃a xs,x=.ref a/\bu K H a xs/\∀p H',aF H H'->bu K H' p (km xs lo hi)->Q (.ref p) H'
theorem Ah:Nq X (Wa X.K):=by
 intro pins s σ H x v vl vu lo hi sl Q I rx hs pl pu h;obtain⟨a,xs,rfl,hx,q⟩:=h;by_cases hw:HT.fc xs.length 0 lo=0/\HT.fc xs.length xs.length hi=xs.length
 ·cases rx;obtain⟨its,r,ht,hz⟩:=I.tuple hx;have hlen:its.toArray.size=xs.length:=by rw[aaD];exact r.length.symm
  refine⟨"tuple",_,PyProof.Rows.slot_tuple_getitem.lookup,ht.typeIs,Ha ht hs pl pu (by rw[hlen];exact hw) ⟨.ref a,H,I,rfl,q a H (aF.refl _) ?_⟩⟩;have e:km xs lo hi=xs:=by unfold km;rw[hw.1,hw.2];simp
  rw[e];exact hx
 ·exact Sw pins s σ H _ v vl vu lo hi sl Q I rx hs pl pu ⟨a,xs,rfl,hx,hw,λp hp=>q p _ (kP hp _) (bu.of uS)⟩
def RC(K:ax):R2:=λx y H Q=>∃a b xs ys,x=.ref a/\y=.ref b/\bu K H a xs/\bu K H b ys/\xs.length + ys.length<=sizeLine/\∀p H',aF H H'->bu K H' p (xs++ys)->Q (.ref p) H'
theorem Ai:jD X (binaryOp .Add) (RC X.K):=by
 intro pins s σ H x y v u Q I rx ry h;obtain⟨a,b,xs,ys,rfl,rfl,ha,hb,hz,q⟩:=h;by_cases hx:xs=[]
 ·subst hx;cases rx;cases ry;obtain⟨its,r1,p1,_⟩:=I.tuple ha;obtain⟨rT,r2,p2,_⟩:=I.tuple hb;cases r1;obtain⟨⟨c1,d1,e1,Rz⟩,ho,hc,n,hd⟩:=id p1;obtain⟨⟨c2,d2,e2,Vi⟩,Su,VR,n2,hd2⟩:=id p2;simp only at hc hd VR hd2;subst hc hd VR hd2;exact concat_meets ⟨_,ho,rfl⟩ ⟨_,Su,rfl⟩ noFill_tuple_add seq_tuple_add PySem.F.slot_tuple_add PySem.F.entry_tuple_add (PySem.F.args_tuple_add_2 _ _)
   (tuple_addW0 a b _ rT.toArray n n2 d1 d2 Rz Vi (by simp)) ⟨ho,Su,⟨.ref b,H,I,rfl,q b H (aF.refl _) hb⟩⟩
 ·exact Oe pins s σ H _ _ v u Q I rx ry ⟨a,b,xs,ys,rfl,rfl,ha,hb,hx,hz,λe=>q a H (aF.refl _) (by rw[e,abd];exact ha),λ_ p hp=>q p _ (kP hp _) (bu.of uS)⟩
end
def BV(_i j:Int):Prop:=j≠0/\j.natAbs < 18446744073709551616
theorem BV.ok{i j:Int}(hc:BV i j):Builtin.divisionGoesByPylong i j=false:=by
 refine PyProof.noPylong_of_log2 ?_;have z:j.natAbs≠0:=λz=>hc.1 (Int.natAbs_eq_zero.mp z)
 exact aao ((Nat.log2_lt z).mpr (show j.natAbs < 2 ^ 64 from hc.2)) (by decide)
theorem Kp{X:Cx}:jD X (binaryOp .FloorDiv) (rI BV λi j=>.int (i.fdiv j)):=N2 λ_ _ _ _ _ _ _ hc q=>floordiv_int hc.1 q (.inl hc.ok)
theorem t9:fillsNumberSlot (.type "tuple") "mul"=pure false :=
 PySem.fillsNumberSlot_seq (id:="tuple.__mul__") (r:=some (.builtin "tuple.__rmul__")) F.slot_tuple_mul.lookup (by decide +kernel) F.slot_tuple_rmul.lookup (by decide +kernel)
theorem Aj:seqRepeat? (.type "tuple")=pure (some (.builtin "tuple.__mul__")):=by
 unfold seqRepeat?;rw[PySem.seqSlot_of (T:="tuple") (name:="__mul__") (id:="tuple.__mul__") F.slot_tuple_mul.lookup (by decide +kernel),PySem.seqSlot_of (T:="tuple") (name:="__rmul__") (id:="tuple.__rmul__") F.slot_tuple_rmul.lookup (by decide +kernel)];rfl
theorem Ak(a:Int)(t:Tok)(l:Addr)(items:Array Value)(n:Nat)(d:Option Addr)(sl:Array (Option Value)):
  Meets (Builtin.«int.__rmul__» ⟨[.int a t,.ref l],[]⟩) (λ_ R s=>s.heap.get? l=some {cls:=.type "tuple",dict:=d,data:=.seq items n,slots:=sl}/\R (.ok (.ret Value.notImplemented)) s) :=
 .of_wp λprog w A R s h=>by obtain⟨hp,g,dd,tk,os⟩:=s;obtain⟨hl,h⟩:=h;wp_walk;exact⟨_,rfl,h⟩
theorem BW(l:Addr)(items:Array Value)(n:Nat)(x:Int)(u:Tok)(d:Option Addr)(sl:Array (Option Value))(h1:x=1):
  Meets (Builtin.«tuple.__mul__» ⟨[.ref l,.int x u],[]⟩) (λ_ R s=>s.heap.get? l=some {cls:=.type "tuple",dict:=d,data:=.seq items n,slots:=sl}/\R (.ok (.ret (.ref l))) s) :=
 .of_wp λprog w A R s h=>by obtain⟨hp,g,dd,tk,os⟩:=s;obtain⟨hl,h⟩:=h;subst h1;wp_walk;exact⟨_,rfl,h⟩
theorem Al(l:Addr)(items:Array Value)(n:Nat)(x:Int)(u:Tok)(d:Option Addr)(sl:Array (Option Value))(c1:(decide (x < -(2 ^ 63))||decide (x ≥ 2 ^ 63))=false)(c2:(items.isEmpty||x == 1)=false)(c3:(decide (x<=0)||items.isEmpty)=true):
  Meets (Builtin.«tuple.__mul__» ⟨[.ref l,.int x u],[]⟩) (λ_ R s=>s.heap.get? l=some {cls:=.type "tuple",dict:=d,data:=.seq items n,slots:=sl}/\R (.ok (.ret (.ref s.heap.objs.size))) {s with heap:=s.heap.push {cls:=Value.type "tuple",data:=Data.seq #[]},toks:=s.toks}) :=
 .of_wp λprog w A R s h=>by
  obtain⟨hp,g,dd,tk,os⟩:=s;obtain⟨hl,h⟩:=h
  wp_walk;refine acR (aaH (by rw[c1];decide)) ?_;wp_walk;exact⟨_,rfl,h⟩
theorem Am(l:Addr)(items:Array Value)(n:Nat)(x:Int)(u:Tok)(d:Option Addr)(sl:Array (Option Value))(c1:(decide (x < -(2 ^ 63))||decide (x ≥ 2 ^ 63))=false)(c2:(items.isEmpty||x == 1)=false)(c3:(decide (x<=0)||items.isEmpty)=false)(c4:¬ (items.size:Int) * x > (2 ^ 63 - 1) / 8)(c5:Builtin.Tuple.tupleTooMany ((items.size:Int) * x)=false)
  (hs:(List.foldl (λx1 x2=>x1++x2) #[] (List.replicate x.toNat items)).size<=sizeLine) :
  Meets (Builtin.«tuple.__mul__» ⟨[.ref l,.int x u],[]⟩) (λ_ R s=>s.heap.get? l=some {cls:=.type "tuple",dict:=d,data:=.seq items n,slots:=sl}/\R (.ok (.ret (.ref s.heap.objs.size))) {s with heap:=s.heap.push {cls:=Value.type "tuple",data:=Data.seq (List.foldl (λx1 x2=>x1++x2) #[] (List.replicate x.toNat items))},toks:=s.toks}) :=
 .of_wp λprog w A R s h=>by
  obtain⟨hp,g,dd,tk,os⟩:=s;obtain⟨hl,h⟩:=h
  wp_walk;refine acR (aaH (by rw[c1];decide)) ?_;wp_walk;refine acR (aaH c4) ?_;wp_walk;exact⟨_,rfl,h⟩
section
variable {X:Cx}
def Wb(K:ax):R2:=λx y H Q=>∃a xs k,x=.ref a/\y=.int k/\bu K H a xs/\xs≠[]/\-9223372036854775808<=k/\k < 9223372036854775808/\xs.length * k.toNat<=sizeLine/\∀p H',aF H H'->bu K H' p (List.replicate k.toNat xs).flatten->Q (.ref p) H'
theorem FR:jD X (binaryOp .Mult) (Wb X.K):=by
 intro pins s σ H x y v u Q I rx ry h;obtain⟨a,xs,k,rfl,rfl,ha,hx,h1,h2,hz,q⟩:=h;cases rx;obtain⟨t,rfl⟩:=ry;obtain⟨its,r1,p1,hsz⟩:=I.tuple ha;obtain⟨⟨c1,d1,e1,Rz⟩,ho,hc,n,hd⟩:=id p1;simp only at hc hd;subst hc hd;have hlen:its.toArray.size=xs.length:=by rw[List.size_toArray];exact r1.length.symm
 have b1:(decide (k < -(2 ^ 63))||decide (k ≥ 2 ^ 63))=false:=by simp;omega
 have go:wpAny (model X.prog X.w) X.A (call (.builtin "tuple.__mul__") [.ref a,.int k t]) (EP X pins σ Q) X.xe s:=by
  by_cases Vn:k=1
  ·refine aco F.slot_tuple_mul ⟨_,ho,rfl⟩ F.entry_tuple_mul (F.args_tuple_mul_2 _ _) (BW a its.toArray n k t d1 Rz Vn) ⟨ho,?_⟩;refine⟨.ref a,H,I,rfl,q a H (aF.refl _) ?_⟩;subst Vn;show bu X.K H a (xs++[]);rw[abd];exact ha
  ·have hne:¬ its.toArray.isEmpty=true:=by
    intro z;apply hx;rw[Array.isEmpty_iff_size_eq_zero,hlen]at z;exact List.length_eq_zero_iff.mp z
   have b2:(its.toArray.isEmpty||k == 1)=false:=by
    refine Bool.eq_false_iff.mpr ?_;show ¬ _;rw[Bool.or_eq_true];rintro(z | z)
    ·exact hne z
    ·exact Vn (by simpa using z)
   by_cases XS:k<=0
   ·refine call_meets F.slot_tuple_mul ⟨_,ho,rfl⟩ F.entry_tuple_mul (F.args_tuple_mul_2 _ _) (Al a its.toArray n k t d1 Rz b1 b2 (by simp[XS])) ⟨ho,?_⟩;refine⟨.ref s.heap.objs.size,_,I.laid (t':=s.toks) (o:=.tup []) (λb ob q=>Heap.get?_push_of_some _ q) (Nat.le_refl _) ⟨by simp,[],.nil,IsTup.new _ _⟩,rfl,q _ _ (kP (I.hok.fresh (Nat.le_refl _)) _) (bu.of ?_)⟩;rw[show k.toNat=0 by omega];exact uS
   ·have b3:(decide (k<=0)||its.toArray.isEmpty)=false:=by
     refine Bool.eq_false_iff.mpr ?_;show ¬ _;rw[Bool.or_eq_true];rintro(z | z)
     ·exact XS (aa1 z)
     ·exact hne z
    have hprod:(its.toArray.size:Int) * k=((xs.length * k.toNat:Nat):Int):=by
     rw[hlen,Int.natCast_mul,show((k.toNat:Nat):Int)=k by omega]
    have hcap:(sizeLine:Nat)<=(2 ^ 63 - 1) / 8:=by decide
    have hfold:List.foldl (λx1 x2=>x1++x2) #[] (List.replicate k.toNat its.toArray)=(List.replicate k.toNat its).flatten.toArray:=by
     have:=foldl_rep its k.toNat [];rw[List.nil_append]at this;exact this
    have hfl:(List.replicate k.toNat its).flatten.length=k.toNat * its.length:=len_rep its k.toNat;have hitl:its.length=xs.length:=by rw[← hlen,aaD]
    refine call_meets F.slot_tuple_mul ⟨_,ho,rfl⟩ F.entry_tuple_mul (F.args_tuple_mul_2 _ _) (Am a its.toArray n k t d1 Rz b1 b2 b3 (by rw[hprod];clear hprod;generalize xs.length * k.toNat=N at hz;omega) (by unfold Builtin.Tuple.tupleTooMany;rw[hprod];clear hprod;generalize xs.length * k.toNat=N at hz;exact decide_eq_false (by omega)) (by rw[hfold,List.size_toArray,hfl,hitl,Nat.mul_comm];exact hz)) ⟨ho,?_⟩;rw[hfold];refine⟨.ref s.heap.objs.size,_,I.laid (t':=s.toks) (o:=.tup (List.replicate k.toNat xs).flatten) (λb ob q=>Heap.get?_push_of_some _ q) (Nat.le_refl _) ⟨by rw[len_rep,Nat.mul_comm];exact hz,_,r1.rep k.toNat,IsTup.new _ _⟩,rfl,q _ _ (kP (I.hok.fresh (Nat.le_refl _)) _) (bu.of uS)⟩
 exact acE (T:="tuple") (U:="int") (by decide) ⟨_,ho,rfl⟩ (λs'=>acD s' k t) t9 F.fills_int_mul acp Aj F.slot_int_index.lookup
  (aco acp (acD s k t) F.entry_int_rmul (F.args_int_rmul_2 _ _) (Ak k t a its.toArray n d1 Rz) ⟨ho,rfl,⟨_,ho,rfl⟩,go⟩)
end
section
variable {X:Cx}
theorem OE{body:List Stmt}{h0:ExceptHandler}{hs:List ExceptHandler}{t:TS}{pos:Pos}(hb:∀E,BG (X.vZ E) body t):PS X (.Try body (h0::hs) [] [] pos) t:=by
 intro pins s σ H D I hw;refine wpAny_Try_except ?_
 let Et:Value->Shared->Prop:=λe s₁=>wpAny (model X.prog X.w) X.A (noteFrame e X.env) (λ_ s₂=>wpAny (model X.prog X.w) X.A (setFlight e none) (λ_ s₃=>wpAny (model X.prog X.w) X.A (handleBy e X.env (h0::hs)) (SP X pins D) X.xe s₃) X.xe s₂) X.xe s₁
 refine abj (hb Et pins s σ H D (I.vZ Et) hw) (λfl s1 h1=>?_) λ_ _ z=>z
 cases fl with
 | next =>
  obtain⟨σ',H',I',q⟩:=h1;exact abx ⟨σ',H',I'.iH,q⟩
 | brk =>
  obtain⟨σ',H',I',q⟩:=h1;exact⟨σ',H',I'.iH,q⟩
 | cont =>
  obtain⟨σ',H',I',q⟩:=h1;exact⟨σ',H',I'.iH,q⟩
 | ret u =>
  obtain⟨v,σ',H',I',r,q⟩:=h1;exact⟨v,σ',H',I'.iH,r,q⟩
end
section
variable {X:Cx}
def RD:V->Option Int->Option Int->Hp->VK->Prop:=λv lo hi H Q=>∃(x:Str),v=.str x/\x.length<=sizeLine/\Q (.str (Txt.slice x lo hi)) H
theorem OG:Nq X RD:=by
 intro pins s σ H x v vl vu lo hi sl Q I rx hs pl pu h;obtain⟨x,rfl,hz,q⟩:=h;obtain⟨t,rfl⟩:=rx
 have go:∀(l u:Option (Int×Tok)),l.map (·.1)=lo->u.map (·.1)=hi->s.heap.IsSlice sl l u none->∃T id,typeLookup (.type T) "__getitem__"=pure (some (.builtin id))/\s.TypeIs (.str x t) T/\wpAny (model X.prog X.w) X.A (getItem (.str x t) (.ref sl)) (EP X pins σ Q) X.xe s:=λl u el eu hs=>by
  subst el eu;refine⟨"str",_,PySem.F.slot_str_getitem.lookup,typeIs_str _ _ _,wpAny_getItem_str_slice (l:=l) (u:=u) (st:=none) hs rfl (post_val_or_str ⟨aaO (Txt.slice_le x _ _) hz,λt' k=>?_⟩)⟩;exact⟨.str _,H,I.kept (t':=k) λ_ _ e=>e,⟨t',rfl⟩,q⟩
 cases pl with
 | none =>
  cases pu with
  | none=>exact go none none rfl rfl hs
  | int j tj=>exact go none (some (j,tj)) rfl rfl hs
 | int i ti =>
  cases pu with
  | none=>exact go (some (i,ti)) none rfl rfl hs
  | int j tj=>exact go (some (i,ti)) (some (j,tj)) rfl rfl hs
end
section
variable {κ:Type} [DecidableEq κ]
end
section
variable {P:Program} {w:World} {H:Hp} {h:Heap} {a:Addr}
end
section
variable {X:Cx} {pins:List (Addr×Obj)} {σ:St} {H:Hp} {s:Shared} {a:Addr} {y v:V} {u r:Value} {o:Option V} {A:Around} {E:Value->Shared->Prop}
end
section
variable {X:Cx} {pins:List (Addr×Obj)} {σ:St} {H:Hp} {s:Shared} {a:Addr} {kvs:List (Key×V)} {k:Key} {u:Value} {A:Around} {E:Value->Shared->Prop}
end
section
variable {X:Cx} {o i e value:Expr} {pos pos' tpos:Pos} {td ty tv:TE}
end
section
variable {X:Cx} {pos:Pos}
end
structure bH(P:Program)(w:World)(K:ax)(mg:Str->Option Value)(base:Heap)(CX:DZ)(C:Addr)(m:Str)(k:Nat)(ps:List Str)(sp:Sp):Prop where
 ex:∃(f:Addr) (fd:FuncData),bp P w K mg base CX k f fd ps sp/\Binds K fd ps []/\Meth K C m f
 cl:GZ K C
structure Ef(P:Program)(w:World)(K:ax)(mg:Str->Option Value)(base:Heap)(CX:DZ)(C:Addr)(x:Str)(k:Nat)(ps:List Str)(sp:Sp):Prop where
 ex:∃(f:Addr) (fd:FuncData),bp P w K mg base CX k f fd ps sp/\Binds K fd ps []/\Mk K C f/\mg x=some (.ref C)
section
variable {X:Cx} {x m:Str} {k:Nat} {ps:List Str} {sp:Sp} {o e:Expr} {es:List Expr} {ta:TE} {t:TA} {p pos apos:Pos} {C:Addr} {CX:DZ} {E:XK} {pl:Sem Bool}
theorem c9(he:PE X o ta)(h:bH X.prog X.w X.K X.mg X.base CX C m k ps sp)(hx:Passes CX X E)(hr:fL k X.A)(ha:PA X (e::es) t)
  (hst:starEach (e::es) X.env=(false,eval e X.env)::starEach es X.env:=by rfl) (hpl:(backTo pos (starEach es X.env)).any (·.1)=false:=by rfl)
  (ht:eval (.Call (.Attribute o m apos) (e::es) [] pos) X.env=(do
   let ov ← eval o X.env
   standAt apos.atName
   let (f,first) ← holding [ov] (getMethod ov m pl)
   callWith pos f first (backTo pos (starEach (e::es) X.env)) (backToKw pos (keywordEach [] X.env))):=by rfl) :
  PE X (.Call (.Attribute o m apos) (e::es) [] pos) (zd C m sp [] E ta t):=by
 obtain⟨f,fd,F,b,M⟩:=h.ex;exact N9 he h.cl M F hr b .nil hx ha hst hpl ht
theorem An(he:PE X o ta)(h:bH X.prog X.w X.K X.mg X.base CX C m k ps sp)(hx:Passes CX X E)(hr:fL k X.A)
  (ht:eval (.Call (.Attribute o m apos) [] [] pos) X.env=(do
   let ov ← eval o X.env
   standAt apos.atName
   let (f,first) ← holding [ov] (getMethod ov m pl)
   callWith pos f first (backTo pos (starEach [] X.env)) (backToKw pos (keywordEach [] X.env))):=by rfl) :
  PE X (.Call (.Attribute o m apos) [] [] pos) (zd C m sp [] E ta N7):=by
 obtain⟨f,fd,F,b,M⟩:=h.ex;exact JZ he h.cl M F hr b .nil hx ht
theorem Kq(h:Ef X.prog X.w X.K X.mg X.base CX C x k ps sp)(hx:Passes CX X E)(hr:fL (k + 1) X.A)(hg:Gl X x)(ha:PA X (e::es) t)(hdb:(x == ("__debug__" : Str))=false:=by decide)
  (he:starEach (e::es) X.env=(false,eval e X.env)::starEach es X.env:=by rfl) (hpl:(backTo pos (starEach es X.env)).any (·.1)=false:=by rfl) :
  PE X (.Call (.Name x p) (e::es) [] pos) (Ru C sp [] E t):=by
 obtain⟨f,fd,F,b,M,m⟩:=h.ex;exact Oa M F hr hg m b .nil hx ha hdb he hpl
end
def zl(P:Addr->Prop)(H HX:Hp):Prop:=∀c o,¬ P c->H c=some o->HX c=some o
open Classical in
noncomputable def cutH (P:Addr->Prop) (H:Hp):Hp:=λc=>if P c then none else H c
theorem fF{P:Addr->Prop}{H:Hp}{c:Addr}{o:HO}:cutH P H c=some o↔¬ P c/\H c=some o:=by
 unfold cutH;by_cases h:P c
 ·rw[aaq h];exact⟨(λz=>nomatch z),(λz=>absurd h z.1)⟩
 ·rw[aan h];exact⟨λz=>⟨h,z⟩,λz=>z.2⟩
theorem fQ{P:Addr->Prop}{H:Hp}:aF (cutH P H) H:=λ_ _ e=>(fF.mp e).2
def aS(K:ax)(P:Addr->Prop)(H:Hp)(v:V)(d:PyData):Prop:=aZ K (cutH P H) v d
theorem zl.refl{P:Addr->Prop}{H:Hp}:zl P H H:=λ_ _ _ e=>e
theorem zl.of{P:Addr->Prop}{H H':Hp}(s:aF H H'):zl P H H':=λc o _ e=>s c o e
theorem aS.now{K:ax}{P:Addr->Prop}{H:Hp}{v:V}{d:PyData}(h:aS K P H v d):aZ K H v d:=aZ.same fQ h
theorem jF{P P':Addr->Prop}{H H':Hp}(s:∀c o,¬ P c->H c=some o->¬ P' c/\H' c=some o):aF (cutH P H) (cutH P' H'):=λc o e=>by
 obtain⟨h1,h2⟩:=fF.mp e;exact fF.mpr (s c o h1 h2)
theorem aS.sub{K:ax}{P P':Addr->Prop}{H:Hp}{v:V}{d:PyData}(h:aS K P H v d)(s:∀c,P' c->P c):aS K P' H v d:=aZ.same (jF λc o n e=>⟨λz=>n (s c z),e⟩) h
theorem aS.same{K:ax}{P:Addr->Prop}{H H':Hp}{v:V}{d:PyData}(h:aS K P H v d)(s:aF H H'):aS K P H' v d:=aZ.same (jF λc o n e=>⟨n,s c o e⟩) h
inductive DV where
 | dat (d:PyData) | ref (k:Nat)
def ua(o:HO):Prop:=(∃xs,o=.lst xs)∨∃C dx fs,o=.ins C dx fs
structure Ob where
 lies:ax->(Addr->Prop)->Hp->List Addr->Prop
 keep:∀K P H fp P' H',lies K P H fp->(∀c,P c->∃o,H c=some o/\ua o)->(∀a∈fp,∀o,H a=some o->H' a=some o)->aF (cutH P H) (cutH P' H')->lies K P' H' fp
 mu:∀K P H fp,lies K P H fp->∀a∈fp,∃o,H a=some o/\ua o
inductive Ce where
 | live (ds:List PyData) | froz (ds:List PyData) | deep (xs:List DV) | obj (o:Ob)
@[reducible] def Ce.lv:Ce->Bool
 | .froz _=>false
 | _=>true
abbrev cm:=List (Option DV)
abbrev aQ:=List Ce
def Lv(al:List (List Addr))(st:aQ):Addr->Prop:=λc=>∃(k:Nat) (fp:List Addr) (ce:Ce),al[k]?=some fp/\c∈fp/\st[k]?=some ce/\ce.lv=true
def Fb(G:Addr->Prop)(al:List (List Addr))(st:aQ):Addr->Prop:=λc=>G c∨Lv al st c
def kQ(K:ax)(P:Addr->Prop)(H:Hp)(al:List (List Addr))(v:V):DV->Prop
 | .dat d=>aS K P H v d
 | .ref k=>∃a r,al[k]?=some (a::r)/\v=.ref a
def dC{α:Type}(R:V->α->Prop)(ys:List V)(xs:List α):Prop:=ys.length=xs.length/\∀(i:Nat) y x,ys[i]?=some y->xs[i]?=some x->R y x
def Jt(K:ax)(P:Addr->Prop)(H:Hp)(al:List (List Addr))(fp:List Addr):Ce->Prop
 | .live xs=>∃a ys,fp=[a]/\H a=some (.lst ys)/\dC (aS K P H) ys xs
 | .froz ds=>∃a,fp=[a]/\aS K P H (.ref a) (.list ds)
 | .deep xs=>∃a ys,fp=[a]/\H a=some (.lst ys)/\dC (kQ K P H al) ys xs
 | .obj o=>fp≠[]/\o.lies K P H fp
structure DI(K:ax)(H0:Hp)(A0:Addr->Prop)(G:Addr->Prop)(al:List (List Addr))(H:Hp)(st:aQ):Prop where
 len:al.length=st.length
 nd:al.flatten.Nodup
 ok:∀a∈al.flatten,∃o,H a=some o
 cel:∀(k:Nat) fp c,al[k]?=some fp->st[k]?=some c->Jt K (Fb G al st) H al fp c
 fr:zl A0 H0 H
 nw:∀a∈al.flatten,A0 a∨H0 a=none
 gd:∀a∈al.flatten,¬ G a
 gs:∀c,G c->∃o,H c=some o/\ua o
def uV(K:ax)(P:Addr->Prop)(H:Hp)(al:List (List Addr))(s:St)(env:cm):Prop:=s.length=env.length/\∀(i:Nat) dv,env[i]?=some (some dv)->∃v,s[i]?=some (some v)/\kQ K P H al v dv
structure Ext(al:List (List Addr))(H:Hp)(st:aQ)(al':List (List Addr))(H':Hp)(st':aQ):Prop where
 keep:zl (Lv al st) H H'
 pre:∀(k:Nat) a r,al[k]?=some (a::r)->∃r',al'[k]?=some (a::r')
 nws:∀c∈al'.flatten,c∈al.flatten∨H c=none
 lv:∀c,Lv al' st' c->Lv al st c∨H c=none
theorem Ext.refl{al:List (List Addr)}{H:Hp}{st:aQ}:Ext al H st al H st:=⟨.refl,λ_ _ r h=>⟨r,h⟩,λ_ h=>.inl h,λ_ h=>.inl h⟩
theorem Ext.free{al al':List (List Addr)}{H H':Hp}{st st':aQ}(e:Ext al H st al' H' st'){c:Addr}(h:H' c=none)(hl:¬ Lv al st c):H c=none:=by
 cases q:H c with
 | none=>rfl
 | some o=>rw[e.keep c o hl q]at h;cases h
theorem cQ{al:List (List Addr)}{k:Nat}{fp:List Addr}{a:Addr}(h:al[k]?=some fp)(ha:a∈fp):a∈al.flatten:=abl.mpr ⟨fp,aat h,ha⟩
theorem Lv.mem{al:List (List Addr)}{st:aQ}{c:Addr}(h:Lv al st c):c∈al.flatten:=by
 obtain⟨k,fp,ce,h1,h2,_⟩:=h;exact cQ h1 h2
theorem fR:∀{al:List (List Addr)},al.flatten.Nodup->∀{i j:Nat} {f g:List Addr} {a:Addr},al[i]?=some f->al[j]?=some g->a∈f->a∈g->i=j
 | [],_,i,j,f,g,a,h1,_,_,_=>by simp at h1
 | x::r,nd,i,j,f,g,a,h1,h2,m1,m2=>by
  rw[abh,abD]at nd
  cases i with
  | zero =>
   cases j with
   | zero=>rfl
   | succ j =>
    simp at h1 h2;subst h1;exact absurd rfl (nd.2.2 a m1 a (cQ h2 m2))
  | succ i =>
   cases j with
   | zero =>
    simp at h1 h2;subst h2;exact absurd rfl (nd.2.2 a m2 a (cQ h1 m1))
   | succ j =>
    simp at h1 h2;exact congrArg (· + 1) (fR nd.2.1 h1 h2 m1 m2)
section
variable {K:ax} {H0:Hp} {A0:Addr->Prop} {G:Addr->Prop} {al bL gK:List (List Addr)} {H H1 H2:Hp} {st aG dw:aQ}
theorem Ext.trans(I1:DI K H0 A0 G bL H1 aG)(a:Ext al H st bL H1 aG)(b:Ext bL H1 aG gK H2 dw):Ext al H st gK H2 dw:=by
 refine⟨λc o n e=>b.keep c o (λz=>?_) (a.keep c o n e),λk x r h=>?_,λc hc=>?_,λc hc=>?_⟩
 ·rcases a.lv c z with y | y
  ·exact n y
  ·rw[y]at e;cases e
 ·obtain⟨r1,h1⟩:=a.pre k x r h;exact b.pre k x r1 h1
 ·rcases b.nws c hc with z | z
  ·exact a.nws c z
  ·by_cases w:Lv al st c
   ·exact .inl w.mem
   ·exact .inr (a.free z w)
 ·rcases b.lv c hc with z | z
  ·exact a.lv c z
  ·by_cases w:Lv al st c
   ·exact .inl w
   ·exact .inr (a.free z w)
theorem kR{G1:Addr->Prop}(g:∀c,G1 c->G c∨H c=none)(e:Ext al H st bL H1 aG):aF (cutH (Fb G al st) H) (cutH (Fb G1 bL aG) H1):=jF λc o n q=>by
 refine⟨λz=>?_,e.keep c o (λw=>n (.inr w)) q⟩;rcases z with z | z
 ·rcases g c z with w | w
  ·exact n (.inl w)
  ·rw[w]at q;cases q
 ·rcases e.lv c z with w | w
  ·exact n (.inr w)
  ·rw[w]at q;cases q
theorem aS.pH{G1:Addr->Prop}{v:V}{d:PyData}(h:aS K (Fb G al st) H v d)(g:∀c,G1 c->G c∨H c=none)(e:Ext al H st bL H1 aG):aS K (Fb G1 bL aG) H1 v d:=aZ.same (kR g e) h
theorem aS.ext{v:V}{d:PyData}(h:aS K (Fb G al st) H v d)(e:Ext al H st bL H1 aG):aS K (Fb G bL aG) H1 v d:=h.pH (λ_ z=>.inl z) e
theorem kQ.d{P:Addr->Prop}{v:V}{d:PyData}(h:aS K P H v d):kQ K P H al v (.dat d):=h
theorem kQ.pH{G1:Addr->Prop}{v:V}{dv:DV}(h:kQ K (Fb G al st) H al v dv)(g:∀c,G1 c->G c∨H c=none)(e:Ext al H st bL H1 aG):kQ K (Fb G1 bL aG) H1 bL v dv:=by
 cases dv with
 | dat d=>exact aS.pH h g e
 | ref k =>
  obtain⟨a,r,h1,h2⟩:=h;obtain⟨r',h3⟩:=e.pre k a r h1;exact⟨a,r',h3,h2⟩
theorem kQ.ext{v:V}{dv:DV}(h:kQ K (Fb G al st) H al v dv)(e:Ext al H st bL H1 aG):kQ K (Fb G bL aG) H1 bL v dv:=h.pH (λ_ z=>.inl z) e
theorem dC.imp{α:Type}{R R':V->α->Prop}{ys:List V}{xs:List α}(h:dC R ys xs)(f:∀y x,R y x->R' y x):dC R' ys xs:=⟨h.1,λi y x a b=>f y x (h.2 i y x a b)⟩
theorem dC.nil{α:Type}{R:V->α->Prop}:dC R [] []:=⟨rfl,λi y x h=>by simp at h⟩
theorem dC.cons{α:Type}{R:V->α->Prop}{y:V}{x:α}{ys:List V}{xs:List α}(h:R y x)(r:dC R ys xs):dC R (y::ys) (x::xs):=⟨by simp[r.1],λi a b h1 h2=>by
 cases i with
 | zero=>simp at h1 h2;subst h1;subst h2;exact h
 | succ i=>exact r.2 i a b (by simpa using h1) (by simpa using h2)⟩
theorem dC.append{α:Type}{R:V->α->Prop}{ys zs:List V}{xs us:List α}(h:dC R ys xs)(h':dC R zs us):dC R (ys++zs) (xs++us):=by
 refine⟨by simp[h.1,h'.1],λj z u hz hu=>?_⟩;by_cases hj:j < ys.length
 ·rw[aac hj]at hz;rw[aac (by rw[← h.1];exact hj)]at hu;exact h.2 j z u hz hu
 ·rw[aaj (by omega)]at hz;rw[aaj (by rw[← h.1];omega),← h.1]at hu;exact h'.2 _ z u hz hu
theorem dC.take{α:Type}{R:V->α->Prop}{ys:List V}{xs:List α}(h:dC R ys xs)(n:Nat):dC R (ys.take n) (xs.take n):=by
 refine⟨by rw[aaC,aaC,h.1],λj y k hy hk=>?_⟩;have hj:j < (ys.take n).length:=(bU hy).1;rw[aaC]at hj;rw[abk (by omega)]at hy hk;exact h.2 _ y k hy hk
theorem dC.drop{α:Type}{R:V->α->Prop}{ys:List V}{xs:List α}(h:dC R ys xs)(n:Nat):dC R (ys.drop n) (xs.drop n):=by
 refine⟨by rw[aaY,aaY,h.1],λj y k hy hk=>?_⟩;rw[abb]at hy hk;exact h.2 _ y k hy hk
theorem dC.set{α:Type}{R:V->α->Prop}{ys:List V}{xs:List α}{y:V}{x:α}(h:dC R ys xs)(hy:R y x)(i:Nat):dC R (ys.set i y) (xs.set i x):=by
 refine⟨by rw[aaL,aaL,h.1],λj z u hz hu=>?_⟩;rw[abE]at hz hu;by_cases hj:i=j
 ·subst hj;rw[aaq rfl]at hz hu;split at hz
  ·split at hu
   ·cases hz;cases hu;exact hy
   ·cases hu
  ·cases hz
 ·rw[aan hj]at hz hu;exact h.2 j z u hz hu
theorem dC.at{α:Type}{R:V->α->Prop}{ys:List V}{xs:List α}(h:dC R ys xs){i:Nat}{x:α}(hx:xs[i]?=some x):∃y,ys[i]?=some y/\R y x:=by
 have hi:i < ys.length:=by rw[h.1];exact(bU hx).1
 exact⟨ys[i],dh hi,h.2 i _ x (dh hi) hx⟩
theorem uV.pH{G1:Addr->Prop}{s:St}{env:cm}(h:uV K (Fb G al st) H al s env)(g:∀c,G1 c->G c∨H c=none)(e:Ext al H st bL H1 aG):uV K (Fb G1 bL aG) H1 bL s env:=⟨h.1,λi dv hi=>by
 obtain⟨v,h1,h2⟩:=h.2 i dv hi;exact⟨v,h1,h2.pH g e⟩⟩
theorem uV.ext{s:St}{env:cm}(h:uV K (Fb G al st) H al s env)(e:Ext al H st bL H1 aG):uV K (Fb G bL aG) H1 bL s env:=h.pH (λ_ z=>.inl z) e
theorem uV.set{P:Addr->Prop}{s:St}{env:cm}{v:V}{dv:DV}(h:uV K P H al s env)(hv:kQ K P H al v dv)(i:Nat):uV K P H al (s.set i (some v)) (env.set i (some dv)):=by
 refine⟨by rw[aaL,aaL];exact h.1,λj u hu=>?_⟩;rw[abE]at hu;by_cases hj:i=j
 ·subst hj;rw[aaq rfl]at hu;split at hu
  ·rename_i hl;cases hu;exact⟨v,by rw[aau (by rw[h.1];exact hl)],hv⟩
  ·cases hu
 ·rw[aan hj]at hu;obtain⟨w,h1,h2⟩:=h.2 j u hu;exact⟨w,by rw[aay hj];exact h1,h2⟩
theorem aS.eE{P:Addr->Prop}{v:V}{ds:List PyData}(h:aS K P H v (.list ds)):∃(a:Addr) (ys:List V),v=.ref a/\bt K H a ys/\bt K (cutH P H) a ys/\dC (aS K P H) ys ds:=by
 have h:aZ K (cutH P H) v (.list ds):=h
 cases h with
 | lst hS hl hi=>exact⟨_,_,rfl,fQ.seq hS,hS,hl,hi⟩
theorem aS.cJ{P:Addr->Prop}{v:V}{ds:List PyData}(h:aS K P H v (.tuple ds)):∃(a:Addr) (ys:List V),v=.ref a/\bu K H a ys/\bu K (cutH P H) a ys/\dC (aS K P H) ys ds:=by
 have h:aZ K (cutH P H) v (.tuple ds):=h
 cases h with
 | tup hS hl hi=>exact⟨_,_,rfl,fQ.tup hS,hS,hl,hi⟩
theorem aS.aW{P:Addr->Prop}{v:V}{i:Int}(h:aS K P H v (.int i)):v=.int i:=by
 have h:aZ K (cutH P H) v (.int i):=h;cases h;rfl
theorem aS.dE{P:Addr->Prop}{v:V}{i:Str}(h:aS K P H v (.str i)):v=.str i:=by
 have h:aZ K (cutH P H) v (.str i):=h;cases h;rfl
theorem aS.mL{P:Addr->Prop}{v:V}{i:Bool}(h:aS K P H v (.bool i)):v=.bl i:=by
 have h:aZ K (cutH P H) v (.bool i):=h;cases h;rfl
theorem aS.jY{P:Addr->Prop}{v:V}(h:aS K P H v .none):v=.non:=by
 have h:aZ K (cutH P H) v .none:=h;cases h;rfl
theorem aS.lst{P:Addr->Prop}{a:Addr}{ys:List V}{ds:List PyData}(n:¬ P a)(h:H a=some (.lst ys))(r:dC (aS K P H) ys ds):aS K P H (.ref a) (.list ds):=aZ.lst (bt.of (fF.mpr ⟨n,h⟩)) r.1 r.2
theorem aS.tup{P:Addr->Prop}{a:Addr}{ys:List V}{ds:List PyData}(n:¬ P a)(h:H a=some (.tup ys))(r:dC (aS K P H) ys ds):aS K P H (.ref a) (.tuple ds):=aZ.tup (bu.of (fF.mpr ⟨n,h⟩)) r.1 r.2
theorem Ext.same(s:aF H H1):Ext al H st al H1 st:=⟨.of s,λ_ _ r h=>⟨r,h⟩,λ_ z=>.inl z,λ_ z=>.inl z⟩
theorem Ext.new{a:Addr}{o:HO}(h:H a=none):Ext al H st al (upd H a o) st:=.same λc p e=>by rw[uN (nN e h)];exact e
theorem Jt.pH{G1:Addr->Prop}{fp:List Addr}{c:Ce}(h:Jt K (Fb G al st) H al fp c)(g:∀c,G1 c->G c∨H c=none)(e:Ext al H st bL H1 aG)(hP:∀c,Fb G al st c->∃o,H c=some o/\ua o)(k:c.lv=true->∀a∈fp,∀o,H a=some o->H1 a=some o):Jt K (Fb G1 bL aG) H1 bL fp c:=by
 cases c with
 | live xs =>
  obtain⟨a,ys,h0,h1,h2⟩:=h;exact⟨a,ys,h0,k rfl a (by rw[h0];exact aaN.mpr rfl) _ h1,h2.imp λy x z=>aS.pH z g e⟩
 | froz ds =>
  obtain⟨a,h0,h1⟩:=h;exact⟨a,h0,aS.pH h1 g e⟩
 | deep xs =>
  obtain⟨a,ys,h0,h1,h2⟩:=h;exact⟨a,ys,h0,k rfl a (by rw[h0];exact aaN.mpr rfl) _ h1,h2.imp λy x z=>kQ.pH z g e⟩
 | obj o=>exact⟨h.1,o.keep _ _ _ _ _ _ h.2 hP (k rfl) (kR g e)⟩
theorem Jt.ext{fp:List Addr}{c:Ce}(h:Jt K (Fb G al st) H al fp c)(e:Ext al H st bL H1 aG)(hP:∀c,Fb G al st c->∃o,H c=some o/\ua o)(k:c.lv=true->∀a∈fp,∀o,H a=some o->H1 a=some o):Jt K (Fb G bL aG) H1 bL fp c:=h.pH (λ_ z=>.inl z) e hP k
theorem DI.rZ(I:DI K H0 A0 G al H st){c:Addr}(h:Fb G al st c):∃o,H c=some o/\ua o:=by
 rcases h with h | ⟨k,fp,ce,h1,h2,h3,h4⟩
 ·exact I.gs c h
 ·have z:=I.cel k fp ce h1 h3
  cases ce with
  | live xs=>obtain⟨a,ys,rfl,g,_⟩:=z;rw[bN h2];exact⟨_,g,.inl ⟨_,rfl⟩⟩
  | froz ds=>cases h4
  | deep xs=>obtain⟨a,ys,rfl,g,_⟩:=z;rw[bN h2];exact⟨_,g,.inl ⟨_,rfl⟩⟩
  | obj o=>exact o.mu _ _ _ _ z.2 c h2
theorem DI.same(I:DI K H0 A0 G al H st)(s:aF H H1):DI K H0 A0 G al H1 st:=⟨I.len,I.nd,(λa ha=>by obtain⟨o,e⟩:=I.ok a ha;exact⟨o,s _ _ e⟩),(λk a c h1 h2=>(I.cel k a c h1 h2).ext (.same s) (λc hc=>I.rZ hc) λ_ a _ o e=>s _ _ e),(λc o n e=>s c o (I.fr c o n e)),I.nw,I.gd,(λc hc=>by obtain⟨o,e,m⟩:=I.gs c hc;exact⟨o,s _ _ e,m⟩)⟩
theorem DI.new(I:DI K H0 A0 G al H st){a:Addr}{o:HO}(h:H a=none):DI K H0 A0 G al (upd H a o) st:=I.same λc p e=>by rw[uN (nN e h)];exact e
theorem DI.RE(I:DI K H0 A0 G al H st){a:Addr}(h:H a=none):¬ Fb G al st a:=by
 intro z;rcases z with z | z
 ·obtain⟨o,e,_⟩:=I.gs a z;rw[h]at e;cases e
 ·obtain⟨o,e⟩:=I.ok a z.mem;rw[h]at e;cases e
theorem DI.n0(I:DI K H0 A0 G al H st){a:Addr}(h:H a=none):A0 a∨H0 a=none:=by
 cases q:H0 a with
 | none=>exact .inr rfl
 | some o =>
  by_cases w:A0 a
  ·exact .inl w
  ·rw[I.fr a o w q]at h;cases h
theorem DI.freeze(I:DI K H0 A0 G al H st){k:Nat}{fp:List Addr}{ds:List PyData}(ha:al[k]?=some fp)(hs:st[k]?=some (.live ds)):∃a,fp=[a]/\Ext al H st al H (st.set k (.froz ds))/\DI K H0 A0 G al H (st.set k (.froz ds))/\aS K (Fb G al (st.set k (.froz ds))) H (.ref a) (.list ds):=by
 have hk:=(bU hs).1
 have E:Ext al H st al H (st.set k (.froz ds)):=⟨.refl,λ_ _ r h=>⟨r,h⟩,λ_ z=>.inl z,λc ⟨j,f,ce,h1,h2,h3,h4⟩=>by
  by_cases e:k=j
  ·subst e;rw[aau hk]at h3;cases h3;cases h4
  ·rw[aay e]at h3;exact .inl ⟨j,f,ce,h1,h2,h3,h4⟩⟩
 obtain⟨a,ys,rfl,g1,g2⟩:=I.cel k fp _ ha hs
 have na:¬ Fb G al (st.set k (.froz ds)) a:=λz=>by
  rcases z with z | ⟨j,f,ce,h1,h2,h3,h4⟩
  ·exact I.gd a (cQ ha (aaN.mpr rfl)) z
  ·have:=fR I.nd ha h1 (aaN.mpr rfl) h2;subst this;rw[aau hk]at h3;cases h3;cases h4
 have F:aS K (Fb G al (st.set k (.froz ds))) H (.ref a) (.list ds):=.lst na g1 (g2.imp λy x z=>aS.ext z E);refine⟨a,rfl,E,⟨by rw[aaL];exact I.len,I.nd,I.ok,λj b c h1 h2=>?_,I.fr,I.nw,I.gd,I.gs⟩,F⟩;by_cases e:k=j
 ·subst e;rw[aau hk]at h2;rw[ha]at h1;cases h1;cases h2;exact⟨a,rfl,F⟩
 ·rw[aay e]at h2;exact(I.cel j b c h1 h2).ext E (λc hc=>I.rZ hc) λ_ _ _ o q=>q
theorem DI.more(I:DI K H0 A0 G al H st){fp:List Addr}{c:Ce}(fr:∀a∈fp,H a=none)(nd:fp.Nodup)(s:aF H H1)(ok:∀a∈fp,∃o,H1 a=some o)(hc:Jt K (Fb G (al++[fp]) (st++[c])) H1 (al++[fp]) fp c):Ext al H st (al++[fp]) H1 (st++[c])/\DI K H0 A0 G (al++[fp]) H1 (st++[c]):=by
 have nal:∀a∈fp,a∉al.flatten:=λa ha z=>by obtain⟨o,e⟩:=I.ok a z;rw[fr a ha]at e;cases e
 have mem:∀c∈(al++[fp]).flatten,c∈al.flatten∨c∈fp:=λc hc=>by
  rw[abw,abp]at hc;exact aaQ.mp hc
 have E:Ext al H st (al++[fp]) H1 (st++[c]):=⟨.of s,λk a r h=>⟨r,by rw[aac (bU h).1];exact h⟩,λc hc=>by
   rcases mem c hc with z | z
   ·exact .inl z
   ·exact .inr (fr c z),λc ⟨j,f,ce,h1,h2,h3,h4⟩=>by
  by_cases e:j < al.length
  ·rw[aac e]at h1;rw[aac (by rw[← I.len];exact e)]at h3;exact .inl ⟨j,f,ce,h1,h2,h3,h4⟩
  ·rw[aaj (by omega)]at h1;have:=aat h1;rw[bN this]at h2;exact .inr (fr c h2)⟩
 refine⟨E,⟨by simp[I.len],?_,λc hc=>?_,λj b c' h1 h2=>?_,λc o n e=>s c o (I.fr c o n e),λc hc=>?_,λc hc=>?_,λc hc=>?_⟩⟩
 ·rw[abw,abp,abD];exact⟨I.nd,nd,λx hx y hy z=>nal y hy (z ▸ hx)⟩
 ·rcases mem c hc with z | z
  ·obtain⟨o,e⟩:=I.ok c z;exact⟨o,s _ _ e⟩
  ·exact ok c z
 ·by_cases e:j < al.length
  ·rw[aac e]at h1;rw[aac (by rw[← I.len];exact e)]at h2;exact(I.cel j b c' h1 h2).ext E (λc hc=>I.rZ hc) λ_ _ _ o q=>s _ _ q
  ·have hj:j=al.length:=by have:=(bU h1).1;simp at this;omega
   subst hj;rw[aaj (aaf _),aa3]at h1;rw[I.len,aaj (aaf _),aa3]at h2;cases h1;cases h2;exact hc
 ·rcases mem c hc with z | z
  ·exact I.nw c z
  ·exact I.n0 (fr c z)
 ·rcases mem c hc with z | z
  ·exact I.gd c z
  ·exact λw=>I.RE (fr c z) (.inl w)
 ·obtain⟨o,e,m⟩:=I.gs c hc;exact⟨o,s _ _ e,m⟩
theorem DI.cell(I:DI K H0 A0 G al H st){a:Addr}{ys:List V}{xs:List PyData}(h:H a=none)(hy:dC (aS K (Fb G al st) H) ys xs):Ext al H st (al++[[a]]) (upd H a (.lst ys)) (st++[.live xs])/\DI K H0 A0 G (al++[[a]]) (upd H a (.lst ys)) (st++[.live xs]):=by
 have s:aF H (upd H a (.lst ys)):=λc p e=>by rw[uN (nN e h)];exact e
 refine I.more (λc hc=>by rw[bN hc];exact h) (by simp) s (λc hc=>by rw[bN hc];exact⟨_,uS⟩) ⟨a,ys,rfl,uS,hy.imp λy x z=>aZ.same (jF λc o n q=>⟨λw=>?_,s _ _ q⟩) z⟩;rcases w with w | ⟨j,f,ce,h1,h2,h3,h4⟩
 ·exact n (.inl w)
 ·by_cases e:j < al.length
  ·rw[aac e]at h1;rw[aac (by rw[← I.len];exact e)]at h3;exact n (.inr ⟨j,f,ce,h1,h2,h3,h4⟩)
  ·rw[aaj (by omega)]at h1;have:=aat h1;rw[bN this]at h2;rw[bN h2,h]at q;cases q
theorem DI.turn(I:DI K H0 A0 G al H st){k:Nat}{a:Addr}{r r':List Addr}{c c':Ce}(ha:al[k]?=some (a::r))(hs:st[k]?=some c)(hl:c.lv=true)(kp:∀b o,b∉a::r->H b=some o->H1 b=some o)(nw:∀b∈r',b∈a::r∨H b=none)(ok:∀b∈a::r',∃o,H1 b=some o)(nd:(a::r').Nodup)(na:∀b∈r',b∉a::r->H b=none)
  (hc:aF (cutH (Fb G al st) H) (cutH (Fb G (al.set k (a::r')) (st.set k c')) H1)->Jt K (Fb G (al.set k (a::r')) (st.set k c')) H1 (al.set k (a::r')) (a::r') c') (mu:∀b∈a::r,∃o,H b=some o/\ua o):Ext al H st (al.set k (a::r')) H1 (st.set k c')/\DI K H0 A0 G (al.set k (a::r')) H1 (st.set k c'):=by
 have hk:=(bU hs).1;have hka:=(bU ha).1;have lvk:∀b∈a::r,Lv al st b:=λb hb=>⟨k,_,c,ha,hb,hs,hl⟩
 have mem:∀b∈(al.set k (a::r')).flatten,b∈al.flatten∨H b=none:=λb hb=>by
  obtain⟨f,hf,hbf⟩:=abl.mp hb;rcases aby hf with z | z
  ·exact .inl (abl.mpr ⟨f,z,hbf⟩)
  ·rw[z]at hbf;rcases aam.mp hbf with y | y
   ·rw[y];exact .inl (cQ ha aaz)
   ·rcases nw b y with w | w
    ·exact .inl (cQ ha w)
    ·exact .inr w
 have E:Ext al H st (al.set k (a::r')) H1 (st.set k c'):=⟨λb o n e=>kp b o (λz=>n (lvk b z)) e,λj b q h=>by
   by_cases e:k=j
   ·subst e;rw[ha]at h;cases h;exact⟨r',by rw[aau hka]⟩
   ·exact⟨q,by rw[aay e];exact h⟩,mem,λb ⟨j,f,ce,h1,h2,h3,h4⟩=>by
   by_cases e:k=j
   ·subst e;rw[aau hka]at h1;cases h1;rcases aam.mp h2 with y | y
    ·rw[y];exact .inl (lvk a aaz)
    ·rcases nw b y with w | w
     ·exact .inl (lvk b w)
     ·exact .inr w
   ·rw[aay e]at h1 h3;exact .inl ⟨j,f,ce,h1,h2,h3,h4⟩⟩
 have keepOther:∀(j:Nat) f,k≠j->al[j]?=some f->∀b∈f,∀o,H b=some o->H1 b=some o:=λj f e hf b hb o q=>kp b o (λz=>e (fR I.nd ha hf z hb)) q
 have parted:∀b∈(al.set k (a::r')).flatten,b∈a::r'∨∃(j:Nat) (f:List Addr),k≠j/\al[j]?=some f/\b∈f:=λb hb=>by
  obtain⟨f,hf,hbf⟩:=abl.mp hb;obtain⟨j,hj⟩:=aaV hf;by_cases e:k=j
  ·subst e;rw[aau hka]at hj;cases hj;exact .inl hbf
  ·rw[aay e]at hj;exact .inr ⟨j,f,e,hj,hbf⟩
 refine⟨E,⟨by rw[aaL,aaL];exact I.len,?_,λb hb=>?_,λj f ce h1 h2=>?_,λb o n e=>?_,λb hb=>?_,λb hb=>?_,λb hb=>?_⟩⟩
 ·unfold List.Nodup;rw[List.pairwise_flatten,List.pairwise_iff_getElem];have Y3:=I.nd;refine⟨λf hf=>?_,λi j hi hj hij x hx y hy=>?_⟩
  ·rcases aby hf with z | z
   ·exact(abt.mp Y3).1 f z
   ·rw[z];exact nd
  ·intro e;subst e;have gi:=dh hi;have gj:=dh hj
   have far:∀(j:Nat) f,k≠j->al[j]?=some f->x∈f->x∈a::r'->False:=λj f e hf hxf hx'=>by
    by_cases w:x∈a::r
    ·exact e (fR Y3 ha hf w hxf)
    ·rcases aam.mp hx' with z | z
     ·exact w (by rw[z];exact aaz)
     ·obtain⟨o,q⟩:=I.ok x (cQ hf hxf);rw[na x z w]at q;cases q
   by_cases e1:k=i
   ·subst e1;have e2:k≠j:=by omega
    rw[aau hka]at gi;rw[aay e2]at gj;exact far j _ e2 gj hy (by rw[aaE gi];exact hx)
   ·rw[aay e1]at gi;by_cases e2:k=j
    ·subst e2;rw[aau hka]at gj;exact far i _ e1 gi hx (by rw[aaE gj];exact hy)
    ·rw[aay e2]at gj;exact absurd (fR Y3 gi gj hx hy) (by omega)
 ·rcases parted b hb with z | ⟨j,f,e,hf,hbf⟩
  ·exact ok b z
  ·obtain⟨o,q⟩:=I.ok b (cQ hf hbf);exact⟨o,keepOther j f e hf b hbf o q⟩
 ·by_cases e:k=j
  ·subst e;rw[aau hka]at h1;rw[aau hk]at h2;cases h1;cases h2;exact hc (kR (λ_ z=>.inl z) E)
  ·rw[aay e]at h1 h2;exact(I.cel j f ce h1 h2).ext E (λc hc=>I.rZ hc) λ_ b hb o q=>keepOther j f e h1 b hb o q
 ·by_cases w:b∈a::r
  ·rcases I.nw b (cQ ha w)with y | y
   ·exact absurd y n
   ·rw[y]at e;cases e
  ·exact kp b o w (I.fr b o n e)
 ·rcases mem b hb with z | z
  ·exact I.nw b z
  ·exact I.n0 z
 ·intro z;rcases mem b hb with w | w
  ·exact I.gd b w z
  ·exact I.RE w (.inl z)
 ·obtain⟨o,q,m⟩:=I.gs b hb;refine⟨o,kp b o (λz=>I.gd b (cQ ha z) hb) q,m⟩
theorem DI.put(I:DI K H0 A0 G al H st){k:Nat}{a:Addr}{zs xs:List PyData}{ys:List V}(ha:al[k]?=some [a])(hs:st[k]?=some (.live zs))(hy:dC (aS K (Fb G al st) H) ys xs):Ext al H st al (upd H a (.lst ys)) (st.set k (.live xs))/\DI K H0 A0 G al (upd H a (.lst ys)) (st.set k (.live xs)):=by
 have ea:al.set k [a]=al:=by
  apply acB;intro j;by_cases e:k=j
  ·subst e;rw[aau (bU ha).1,ha]
  ·rw[aay e]
 obtain⟨b,ws,e0,g1,g2⟩:=I.cel k [a] _ ha hs;cases e0;have z:=I.turn (H1:=upd H a (.lst ys)) (r:=[]) (r':=[]) (c':=.live xs) ha hs rfl (λb o n e=>by rw[uN (λz=>n (by rw[z];exact List.mem_cons_self))];exact e) (λb hb=>nomatch hb) (λb hb=>by rw[bN hb];exact⟨_,uS⟩) (by simp) (λb hb=>nomatch hb) (λs=>⟨a,ys,rfl,uS,hy.imp λy x z=>aZ.same s z⟩) (λb hb=>by rw[bN hb];exact⟨_,g1,.inl ⟨_,rfl⟩⟩);rw[ea]at z;exact z
theorem BX{k:Nat}{fp:List Addr}(ha:al[k]?=some fp):al.set k fp=al:=by
 apply acB;intro j;by_cases e:k=j
 ·subst e;rw[aau (bU ha).1,ha]
 ·rw[aay e]
theorem DI.putD(I:DI K H0 A0 G al H st){k:Nat}{a:Addr}{zs xs:List DV}{ys:List V}(ha:al[k]?=some [a])(hs:st[k]?=some (.deep zs))(hy:dC (kQ K (Fb G al st) H al) ys xs):Ext al H st al (upd H a (.lst ys)) (st.set k (.deep xs))/\DI K H0 A0 G al (upd H a (.lst ys)) (st.set k (.deep xs)):=by
 obtain⟨b,ws,e0,g1,g2⟩:=I.cel k [a] _ ha hs;cases e0
 have z:=I.turn (H1:=upd H a (.lst ys)) (r:=[]) (r':=[]) (c':=.deep xs) ha hs rfl (λb o n e=>by rw[uN (λz=>n (by rw[z];exact List.mem_cons_self))];exact e) (λb hb=>nomatch hb) (λb hb=>by rw[bN hb];exact⟨_,uS⟩) (by simp) (λb hb=>nomatch hb) (λs=>⟨a,ys,rfl,uS,hy.imp λy x z=>by
    cases x with
    | dat d=>exact aZ.same s z
    | ref j=>rw[BX ha];exact z⟩) (λb hb=>by rw[bN hb];exact⟨_,g1,.inl ⟨_,rfl⟩⟩)
 rw[BX ha]at z;exact z
theorem DI.OH(I:DI K H0 A0 G al H st){p:Addr}{xs:List V}(h:bu K H p xs):bu K (cutH (Fb G al st) H) p xs:=by
 have n:∀o,H p=some o->¬ ua o->¬ Fb G al st p:=λo e m z=>by
  obtain⟨o',e',m'⟩:=I.rZ z;rw[e]at e';cases e';exact m m'
 rcases h with(h | ⟨o,h⟩) | h
 ·exact .inl (.inl (fF.mpr ⟨n _ h (λm=>by rcases m with⟨ys,m⟩ | ⟨C,dx,fs,m⟩<;>cases m),h⟩))
 ·exact .inl (.inr ⟨o,fF.mpr ⟨n _ h (λm=>by rcases m with⟨ys,m⟩ | ⟨C,dx,fs,m⟩<;>cases m),h⟩⟩)
 ·exact .inr h
end
abbrev DC:=DV->aQ->Prop
abbrev DX:=cm->aQ->DC->Prop
abbrev yA:=cm->aQ->(List DV->aQ->Prop)->Prop
abbrev DT:=cm->aQ->(Bool->aQ->Prop)->Prop
abbrev Vo:=DV->DV->aQ->DC->Prop
abbrev Y4:=List DV->aQ->DC->Prop
def Kn(K:ax)(H0:Hp)(A0:Addr->Prop)(G:Addr->Prop)(al:List (List Addr))(H:Hp)(st:aQ)(Q:DC)(R:VK):Prop:=∀dv st' al' v H',Ext al H st al' H' st'->DI K H0 A0 G al' H' st'->kQ K (Fb G al' st') H' al' v dv->Q dv st'->R v H'
def Wc(K:ax)(H0:Hp)(A0:Addr->Prop)(G:Addr->Prop)(al:List (List Addr))(H:Hp)(st:aQ)(Q:Bool->aQ->Prop)(R:Bool->Hp->Prop):Prop:=∀b st' al' H',Ext al H st al' H' st'->DI K H0 A0 G al' H' st'->Q b st'->R b H'
def KnL(K:ax)(H0:Hp)(A0:Addr->Prop)(G:Addr->Prop)(al:List (List Addr))(H:Hp)(st:aQ)(Q:List DV->aQ->Prop)(R:List V->Hp->Prop):Prop:=∀dvs st' al' vs H',Ext al H st al' H' st'->DI K H0 A0 G al' H' st'->dC (kQ K (Fb G al' st') H' al') vs dvs->Q dvs st'->R vs H'
def AE(K:ax)(t:TE)(e:DX):Prop:=∀(H0:Hp) (A0:Addr->Prop) (G:Addr->Prop) (al:List (List Addr)) (H:Hp) (st:aQ) (s:St) (env:cm) (Q:DC) (R:VK),DI K H0 A0 G al H st->uV K (Fb G al st) H al s env->e env st Q->Kn K H0 A0 G al H st Q R->t s H R
def AT(K:ax)(t:TT)(e:DT):Prop:=∀(H0:Hp) (A0:Addr->Prop) (G:Addr->Prop) (al:List (List Addr)) (H:Hp) (st:aQ) (s:St) (env:cm) (Q:Bool->aQ->Prop) (R:Bool->Hp->Prop),DI K H0 A0 G al H st->uV K (Fb G al st) H al s env->e env st Q->Wc K H0 A0 G al H st Q R->t s H R
def AA(K:ax)(t:TA)(n:Nat)(e:yA):Prop:=∀(H0:Hp) (A0:Addr->Prop) (G:Addr->Prop) (al:List (List Addr)) (H:Hp) (st:aQ) (s:St) (env:cm) (Q:List DV->aQ->Prop) (R:List V->Hp->Prop),DI K H0 A0 G al H st->uV K (Fb G al st) H al s env->e env st Q->KnL K H0 A0 G al H st (λl s=>l.length=n/\Q l s) R->t s H R
def AO(K:ax)(r:R2)(o:Vo):Prop:=∀(H0:Hp) (A0:Addr->Prop) (G:Addr->Prop) (al:List (List Addr)) (H:Hp) (st:aQ) (x y:V) (dx dy:DV) (Q:DC) (R:VK),DI K H0 A0 G al H st->kQ K (Fb G al st) H al x dx->kQ K (Fb G al st) H al y dy->o dx dy st Q->Kn K H0 A0 G al H st Q R->r x y H R
def AB(K:ax)(r:List V->Hp->VK->Prop)(o:Y4):Prop:=∀(H0:Hp) (A0:Addr->Prop) (G:Addr->Prop) (al:List (List Addr)) (H:Hp) (st:aQ) (vs:List V) (ds:List DV) (Q:DC) (R:VK),DI K H0 A0 G al H st->dC (kQ K (Fb G al st) H al) vs ds->o ds st Q->Kn K H0 A0 G al H st Q R->r vs H R
structure cv(X:Cx)(e:Expr)(d:DX):Prop where
 h:∃t,PE X e t/\AE X.K t d
structure Dw(X:Cx)(e:Expr)(d:DT):Prop where
 h:∃t,PT X e t/\AT X.K t d
structure FT(X:Cx)(e:Expr)(d:DT):Prop where
 h:∃t,PW X e t/\AT X.K t d
structure FU(X:Cx)(es:List Expr)(n:Nat)(d:yA):Prop where
 h:∃t,PA X es t/\AA X.K t n d
section
variable {K:ax} {H0:Hp} {A0:Addr->Prop} {G:Addr->Prop} {al bL gK:List (List Addr)} {H H1 H2:Hp} {st aG dw:aQ} {Q:DC} {R:VK}
theorem Kn.here(k:Kn K H0 A0 G al H st Q R)(I:DI K H0 A0 G al H st){v:V}{dv:DV}(h:kQ K (Fb G al st) H al v dv)(q:Q dv st):R v H:=k dv st al v H .refl I h q
theorem Kn.laid(k:Kn K H0 A0 G al H st Q R)(I:DI K H0 A0 G al H st){v:V}{dv:DV}(s:aF H H1)(h:kQ K (Fb G al st) H1 al v dv)(q:Q dv st):R v H1:=k dv st al v H1 (.same s) (I.same s) h q
theorem Kn.go(k:Kn K H0 A0 G al H st Q R)(I:DI K H0 A0 G bL H1 aG)(e:Ext al H st bL H1 aG):Kn K H0 A0 G bL H1 aG Q R:=λdv st' al' v H' e' I' h q=>k dv st' al' v H' (e.trans I e') I' h q
theorem Wc.go{Q:Bool->aQ->Prop}{R:Bool->Hp->Prop}(k:Wc K H0 A0 G al H st Q R)(I:DI K H0 A0 G bL H1 aG)(e:Ext al H st bL H1 aG):Wc K H0 A0 G bL H1 aG Q R:=λdv st' al' H' e' I' q=>k dv st' al' H' (e.trans I e') I' q
theorem pj{a:Addr}{o:HO}(h:H a=none):aF H (upd H a o):=λc p e=>by rw[uN (nN e h)];exact e
end
@[reducible] def Kr(i:Nat)(env:cm)(st:aQ)(Q:DC):Prop:=match env[i]? with
 | some (some dv)=>Q dv st
 | _=>False
@[reducible] def eC(d:PyData)(_:cm)(st:aQ)(Q:DC):Prop:=Q (.dat d) st
section
variable {X:Cx} {a b c e:Expr} {es:List Expr} {pos:Pos} {ea eb ec:DX}
theorem SS{K:ax}{i:Nat}:AE K (Sk i) (Kr i):=λH0 A0 G al H st s env Q R I E h k=>by
 unfold Kr at h;split at h
 ·rename_i dv hd;obtain⟨v,h1,h2⟩:=E.2 i dv hd;exact⟨v,h1,k.here I h2 h⟩
 ·exact h.elim
theorem OI{K:ax}{v:V}{d:PyData}(h:∀H,aZ K H v d):AE K (tC v) (eC d):=λH0 A0 G al H st s env Q R I E q k=>k.here I (.d (h _)) q
theorem ai(i:Nat){x:Str}(hN:X.N[i]?=some x:=by rfl)(hv:XG X.env.scope x:=by first | exact aai rfl | exact Or.inr (aai rfl) | exact Or.inr (Or.inr rfl))(hd:(x == ("__debug__" : Str))=false:=by decide)
  (hcd:(x == ("__classdict__" : Str))=false:=by decide):cv X (.Name x pos) (Kr i):=⟨_,JI hN hv hd hcd,SS⟩
theorem av{i j}:cv X (.Constant (.int i) j pos) (eC (.int i)):=⟨_,pI,OI λ_=>.int i⟩
theorem Wd{i j}:cv X (.Constant (.bool i) j pos) (eC (.bool i)):=⟨_,uR,OI λ_=>.bl i⟩
theorem Ao{j}:cv X (.Constant .none j pos) (eC .none):=⟨_,je,OI λ_=>.non⟩
theorem aK{i j}:cv X (.Constant (.str i) j pos) (eC (.str i)):=⟨_,aV,OI λ_=>.str i⟩
@[reducible] def zm(o:Vo)(ea eb:DX)(env:cm)(st:aQ)(Q:DC):Prop:=ea env st λx aG=>eb env aG λy dw=>o x y dw Q
theorem FV{K:ax}{r:R2}{o:Vo}{ta tb:TE}(ho:AO K r o)(ha:AE K ta ea)(hb:AE K tb eb):AE K (VI r ta tb) (zm o ea eb):=λH0 A0 G al H st s env Q R I E h k=>by
 refine ha H0 A0 G al H st s env _ _ I E h λx aG bL v H1 e1 I1 d1 q1=>?_
 refine hb H0 A0 G bL H1 aG s env _ _ I1 (E.ext e1) q1 λy dw gK u H2 e2 I2 d2 q2=>?_
 exact ho H0 A0 G gK H2 dw v u x y Q R I2 (d1.ext e2) d2 q2 (k.go I2 (e1.trans I1 e2))
theorem zo{op:Operator}{r:R2}{o:Vo}(ho:jD X (binaryOp op) r)(ao:AO X.K r o)(ha:cv X a ea)(hb:cv X b eb):cv X (.BinOp a op b pos) (zm o ea eb):=by
 obtain⟨ta,p1,a1⟩:=ha.h;obtain⟨tb,p2,a2⟩:=hb.h;exact⟨_,aT ho p1 p2,FV ao a1 a2⟩
theorem Ks{op:CmpOp}{r:R2}{o:Vo}(ho:jD X (compareOp op) r)(ao:AO X.K r o)(ha:cv X a ea)(hb:cv X b eb)(hm:behindInMarks op b=false):cv X (.Compare a [op] [b] pos) (zm o ea eb):=by
 obtain⟨ta,p1,a1⟩:=ha.h;obtain⟨tb,p2,a2⟩:=hb.h;exact⟨_,kM ho p1 p2 hm,FV ao a1 a2⟩
theorem ub{f:Value->Value->Sem Value}{r r':R2}(h:jD X f r)(h':jD X f r'):jD X f (λx y H Q=>r x y H Q∨r' x y H Q):=λpins s σ H x y v u Q I rx ry q=>by
 rcases q with q | q
 ·exact h pins s σ H x y v u Q I rx ry q
 ·exact h' pins s σ H x y v u Q I rx ry q
@[reducible] def oI(C:Int->Int->Prop)(g:Int->Int->PyData)(x y:DV)(st:aQ)(Q:DC):Prop:=match x,y with
 | .dat (.int i),.dat (.int j)=>C i j/\Q (.dat (g i j)) st
 | _,_=>False
@[reducible] def Vp(g:Int->Int->PyData)(x y:DV)(st:aQ)(Q:DC):Prop:=match x,y with
 | .dat (.int i),.dat (.int j)=>Q (.dat (g i j)) st
 | _,_=>False
theorem SU{K:ax}{C:Int->Int->Prop}{g:Int->Int->V}{d:Int->Int->PyData}(h:∀i j H,aZ K H (g i j) (d i j)):AO K (rI C g) (oI C d):=λH0 A0 G al H st x y dx dy Q R I a b q k=>by
 unfold oI at q;split at q
 ·rw[aS.aW a,aS.aW b];exact⟨_,_,rfl,rfl,q.1,k.here I (.d (h _ _ _)) q.2⟩
 ·exact q.elim
theorem RF{K:ax}{g:Int->Int->V}{d:Int->Int->PyData}(h:∀i j H,aZ K H (g i j) (d i j)):AO K (JQ g) (Vp d):=λH0 A0 G al H st x y dx dy Q R I a b q k=>by
 unfold Vp at q;split at q
 ·rw[aS.aW a,aS.aW b];exact⟨_,_,rfl,rfl,k.here I (.d (h _ _ _)) q⟩
 ·exact q.elim
end
@[reducible] def ku(st:aQ):DV->Option (List PyData)
 | .dat (.list ds)=>some ds
 | .ref k=>match st[k]? with
  | some (.live ds)=>some ds
  | some (.froz ds)=>some ds
  | _=>none
 | _=>none
@[reducible] def zp(st:aQ):DV->Option PyData
 | .dat d=>some d
 | .ref k=>match st[k]? with
  | some (.live ds)=>some (.list ds)
  | some (.froz ds)=>some (.list ds)
  | _=>none
section
variable {K:ax} {H0:Hp} {A0:Addr->Prop} {G:Addr->Prop} {al bL gK:List (List Addr)} {H H1 H2:Hp} {st aG dw:aQ} {Q:DC} {R:VK}
theorem Hb{k:Nat}{ds:List PyData}(e:ku st (.ref k)=some ds):st[k]?=some (.live ds)∨st[k]?=some (.froz ds):=by
 have e:(match st[k]? with | some (.live ds)=>some ds | some (.froz ds)=>some ds | _=>none)=some ds:=e
 revert e
 cases st[k]? with
 | none=>intro e;cases e
 | some c=>cases c with
  | live xs=>intro e;cases e;exact .inl rfl
  | froz xs=>intro e;cases e;exact .inr rfl
  | deep xs=>intro e;cases e
  | obj o=>intro e;cases e
theorem Hc{k:Nat}{d:PyData}(e:zp st (.ref k)=some d):∃ds,ku st (.ref k)=some ds/\d=.list ds:=by
 have e:(match st[k]? with | some (.live ds)=>some (PyData.list ds) | some (.froz ds)=>some (.list ds) | _=>none)=some d:=e;show ∃ds,(match st[k]? with | some (.live ds)=>some ds | some (.froz ds)=>some ds | _=>none)=some ds/\d=.list ds
 revert e
 cases st[k]? with
 | none=>intro e;cases e
 | some c=>cases c with
  | live xs=>intro e;cases e;exact⟨_,rfl,rfl⟩
  | froz xs=>intro e;cases e;exact⟨_,rfl,rfl⟩
  | deep xs=>intro e;cases e
  | obj o=>intro e;cases e
theorem kQ.SV(I:DI K H0 A0 G al H st){v:V}{x:DV}{ds:List PyData}(h:kQ K (Fb G al st) H al v x)(e:ku st x=some ds):∃(a:Addr) (ys:List V),v=.ref a/\bt K H a ys/\dC (aS K (Fb G al st) H) ys ds:=by
 cases x with
 | dat d =>
  cases d with
  | list xs=>cases e;obtain⟨a,ys,h1,h2,_,h3⟩:=aS.eE h;exact⟨a,ys,h1,h2,h3⟩
  | _=>cases e
 | ref k =>
  obtain⟨a,r,h1,h2⟩:=h;rcases Hb e with hs | hs
  ·obtain⟨a',ys,e0,g1,g2⟩:=I.cel k _ _ h1 hs;cases e0;exact⟨a,ys,h2,bt.of g1,g2⟩
  ·obtain⟨a',e0,g0⟩:=I.cel k _ _ h1 hs;cases e0;obtain⟨b,ys,g1,g2,_,g3⟩:=aS.eE g0;cases g1;exact⟨a,ys,h2,g2,g3⟩
theorem kQ.XT(I:DI K H0 A0 G al H st){v:V}{x:DV}{d:PyData}(h:kQ K (Fb G al st) H al v x)(e:zp st x=some d):aZ K H v d:=by
 cases x with
 | dat d'=>cases e;exact aS.now h
 | ref k =>
  obtain⟨ds,e1,rfl⟩:=Hc e;obtain⟨a,ys,rfl,h2,h3⟩:=h.SV I e1;exact .lst h2 h3.1 λi x d a b=>(h3.2 i x d a b).now
@[reducible] def vX:DV->aQ->(PyData->aQ->Prop)->Prop
 | .dat d,st,Q=>Q d st
 | .ref k,st,Q=>match st[k]? with
  | some (.froz ds)=>Q (.list ds) st
  | some (.live ds)=>Q (.list ds) (st.set k (.froz ds))
  | _=>False
@[reducible] def mv:List DV->aQ->(List PyData->aQ->Prop)->Prop
 | [],st,Q=>Q [] st
 | x::r,st,Q=>vX x st λd aG=>mv r aG λds dw=>Q (d::ds) dw
theorem qs(I:DI K H0 A0 G al H st){v:V}{x:DV}{Q:PyData->aQ->Prop}(h:kQ K (Fb G al st) H al v x)(q:vX x st Q):∃d aG,Ext al H st al H aG/\DI K H0 A0 G al H aG/\aS K (Fb G al aG) H v d/\Q d aG:=by
 cases x with
 | dat d=>exact⟨d,st,.refl,I,h,q⟩
 | ref k =>
  obtain⟨a,r,h1,rfl⟩:=h;unfold vX at q;dsimp only at q;split at q
  ·rename_i ds hs;obtain⟨a',e0,g0⟩:=I.cel k _ _ h1 hs;cases e0;exact⟨_,st,.refl,I,g0,q⟩
  ·rename_i ds hs;obtain⟨a',e0,E,I',F⟩:=I.freeze h1 hs;cases e0;exact⟨_,_,E,I',F,q⟩
  ·exact q.elim
theorem r6:∀{xs:List DV} {st:aQ} {vs:List V} {Q:List PyData->aQ->Prop},DI K H0 A0 G al H st->dC (kQ K (Fb G al st) H al) vs xs->mv xs st Q->∃ds aG,Ext al H st al H aG/\DI K H0 A0 G al H aG/\dC (aS K (Fb G al aG) H) vs ds/\Q ds aG
 | [],st,vs,Q,I,h,q=>by
  have:=h.1
  cases vs with
  | nil=>exact⟨[],st,.refl,I,.nil,q⟩
  | cons v r=>simp at this
 | x::xs,st,vs,Q,I,h,q=>by
  have:=h.1
  cases vs with
  | nil=>simp at this
  | cons v r =>
   obtain⟨d,aG,E1,I1,F1,q1⟩:=qs I (h.2 0 v x rfl rfl) q;have h':dC (kQ K (Fb G al aG) H al) r xs:=⟨by simpa using this,λi y z a b=>(h.2 (i + 1) y z (by simpa using a) (by simpa using b)).ext E1⟩;obtain⟨ds,dw,E2,I2,F2,q2⟩:=r6 I1 h' q1;exact⟨d::ds,dw,E1.trans I1 E2,I2,.cons (F1.ext E2) F2,q2⟩
end
section
variable {X:Cx} {a b c e:Expr} {es:List Expr} {pos:Pos} {ea eb ec:DX} {K:ax}
@[reducible] def OJ(_:cm)(st:aQ)(Q:List DV->aQ->Prop):Prop:=Q [] st
@[reducible] def FW(ea:DX)(r:yA)(env:cm)(st:aQ)(Q:List DV->aQ->Prop):Prop:=ea env st λx aG=>r env aG λxs dw=>Q (x::xs) dw
theorem SW:AA K N7 0 OJ:=λH0 A0 G al H st s env Q R I E h k=>k [] st al [] H .refl I .nil ⟨rfl,h⟩
theorem OK{ta:TE}{tr:TA}{n:Nat}{r:yA}(ha:AE K ta ea)(hr:AA K tr n r):AA K (Rt ta tr) (n + 1) (FW ea r):=λH0 A0 G al H st s env Q R I E h k=>by
 refine ha H0 A0 G al H st s env _ _ I E h λx aG bL v H1 e1 I1 d1 q1=>?_
 refine hr H0 A0 G bL H1 aG s env _ _ I1 (E.ext e1) q1 λxs dw gK vs H2 e2 I2 d2 q2=>?_
 exact k (x::xs) dw gK (v::vs) H2 (e1.trans I1 e2) I2 (.cons (d1.ext e2) d2) ⟨by simp[q2.1],q2.2⟩
theorem aq:FU X [] 0 OJ:=⟨_,pN,SW⟩
theorem ae{n:Nat}{r:yA}(ha:cv X e ea)(hr:FU X es n r)(hs:starEach (e::es) X.env=(false,eval e X.env)::starEach es X.env:=by rfl):FU X (e::es) (n + 1) (FW ea r):=by
 obtain⟨ta,p1,a1⟩:=ha.h;obtain⟨tb,p2,a2⟩:=hr.h;exact⟨_,pK p1 p2 hs,OK a1 a2⟩
@[reducible] def OL(t:yA)(env:cm)(st:aQ)(Q:DC):Prop:=t env st λxs aG=>mv xs aG λds dw=>Q (.dat (.tuple ds)) dw
@[reducible] def OM(t:yA)(env:cm)(st:aQ)(Q:DC):Prop:=t env st λxs aG=>mv xs aG λds dw=>Q (.dat (.list ds)) dw
@[reducible] def FX(t:yA)(env:cm)(st:aQ)(Q:DC):Prop:=t env st λxs aG=>mv xs aG λds dw=>Q (.ref dw.length) (dw++[.live ds])
theorem SX{t:TA}{n:Nat}{d:yA}(hn:n<=sizeLine)(h:AA K t n d):AE K (VO t) (OL d):=λH0 A0 G al H st s env Q R I E q k=>by
 refine h H0 A0 G al H st s env _ _ I E q λxs aG bL vs H1 e1 I1 d1 q1=>?_
 obtain⟨ds,dw,E2,I2,F2,q2⟩:=r6 I1 d1 q1.2;refine⟨by rw[d1.1,q1.1];exact hn,λp hp=>?_⟩;have k2:=k.go I2 (e1.trans I1 E2);exact k2.laid I2 (pj hp) (.d (aS.tup (I2.RE hp) uS (F2.imp λy x z=>z.same (pj hp)))) q2
theorem SY{t:TA}{n:Nat}{d:yA}(hn:n<=sizeLine)(h:AA K t n d):AE K (Ss t) (OM d):=λH0 A0 G al H st s env Q R I E q k=>by
 refine h H0 A0 G al H st s env _ _ I E q λxs aG bL vs H1 e1 I1 d1 q1=>?_
 obtain⟨ds,dw,E2,I2,F2,q2⟩:=r6 I1 d1 q1.2;refine⟨by rw[d1.1,q1.1];exact hn,λp hp=>?_⟩;have k2:=k.go I2 (e1.trans I1 E2);exact k2.laid I2 (pj hp) (.d (aS.lst (I2.RE hp) uS (F2.imp λy x z=>z.same (pj hp)))) q2
theorem Kn.cell{H0:Hp}{A0:Addr->Prop}{G:Addr->Prop}{al:List (List Addr)}{H:Hp}{st:aQ}{Q:DC}{R:VK}(k:Kn K H0 A0 G al H st Q R)(I:DI K H0 A0 G al H st){p:Addr}{ys:List V}{ds:List PyData}(hp:H p=none)(F:dC (aS K (Fb G al st) H) ys ds)(q:Q (.ref st.length) (st++[.live ds])):R (.ref p) (upd H p (.lst ys)):=by
 obtain⟨E,I'⟩:=I.cell hp F;exact k (.ref st.length) _ _ _ _ E I' ⟨p,[],by rw[← I.len,aaj (aaf _),aa3];rfl,rfl⟩ q
theorem Kn.list{H0:Hp}{A0:Addr->Prop}{G:Addr->Prop}{al:List (List Addr)}{H:Hp}{st:aQ}{Q:DC}{R:VK}(k:Kn K H0 A0 G al H st Q R)(I:DI K H0 A0 G al H st){p:Addr}{ys:List V}{ds:List PyData}(hp:H p=none)(F:dC (aS K (Fb G al st) H) ys ds)(q:Q (.dat (.list ds)) st):R (.ref p) (upd H p (.lst ys)) :=
 k.laid I (pj hp) (.d (aS.lst (I.RE hp) uS (F.imp λy x z=>z.same (pj hp)))) q
theorem ON{t:TA}{n:Nat}{d:yA}(hn:n<=sizeLine)(h:AA K t n d):AE K (Ss t) (FX d):=λH0 A0 G al H st s env Q R I E q k=>by
 refine h H0 A0 G al H st s env _ _ I E q λxs aG bL vs H1 e1 I1 d1 q1=>?_
 obtain⟨ds,dw,E2,I2,F2,q2⟩:=r6 I1 d1 q1.2;exact⟨by rw[d1.1,q1.1];exact hn,λp hp=>(k.go I2 (e1.trans I1 E2)).cell I2 hp F2 q2⟩
theorem aU{k n:Nat}{d:yA}(h:FU X es n d)(hn:n<=sizeLine:=by decide):cv X (.Tuple es k pos) (OL d):=by
 obtain⟨t,p,a⟩:=h.h;exact⟨_,cw p,SX hn a⟩
theorem bO{n:Nat}{d:yA}(h:FU X es n d)(hn:n<=sizeLine:=by decide):cv X (.List es pos) (OM d):=by
 obtain⟨t,p,a⟩:=h.h;exact⟨_,dD p,SY hn a⟩
theorem jG{n:Nat}{d:yA}(h:FU X es n d)(hn:n<=sizeLine:=by decide):cv X (.List es pos) (FX d):=by
 obtain⟨t,p,a⟩:=h.h;exact⟨_,dD p,ON hn a⟩
end
theorem qt{n:Nat}(h:n<=1000000):n<=sizeLine:=aaO h (by decide)
section
variable {X:Cx} {a b c e:Expr} {es:List Expr} {pos:Pos} {ea eb ec:DX} {K:ax}
@[reducible] def Kt(x y:DV)(st:aQ)(Q:DC):Prop:=match x,y with
 | .dat (.int i),.dat (.int j)=>Q (.dat (.int (i + j))) st
 | .dat (.str i),.dat (.str j)=>i.length + j.length<=1000000/\Q (.dat (.str (i++j))) st
 | .dat (.tuple i),.dat (.tuple j)=>i.length + j.length<=1000000/\Q (.dat (.tuple (i++j))) st
 | x,y=>match ku st x,ku st y with
  | some i,some j=>i.length + j.length<=1000000/\Q (.dat (.list (i++j))) st
  | _,_=>False
@[reducible] def BY(x y:DV)(st:aQ)(Q:DC):Prop:=match ku st x,ku st y with
  | some i,some j=>i.length + j.length<=1000000/\Q (.ref st.length) (st++[.live (i++j)])
  | _,_=>False
@[reducible] def FY(K:ax):R2:=λx y H Q=>JQ (λi j=>.int (i + j)) x y H Q∨((∃i j,x=.str i/\y=.str j/\i.length + j.length<=sizeLine/\Q (.str (i++j)) H)∨(RC K x y H Q∨Ry K x y H Q))
theorem FZ:jD X (binaryOp .Add) (FY X.K):=ub gF (ub DP (ub Ai Ae))
theorem dC.len{α:Type}{R:V->α->Prop}{ys:List V}{xs:List α}(h:dC R ys xs):ys.length=xs.length:=h.1
theorem OO:AO K (FY K) BY:=λH0 A0 G al H st x y dx dy Q R I h1 h2 q k=>by
 unfold BY at q;split at q
 ·rename_i i j e1 e2;obtain⟨a,ys,rfl,g1,g2⟩:=h1.SV I e1;obtain⟨b,zs,rfl,g3,g4⟩:=h2.SV I e2;exact .inr (.inr (.inr ⟨a,b,ys,zs,rfl,rfl,g1,g3,by rw[g2.len,g4.len];exact qt q.1,λp hp=>k.cell I hp (g2.append g4) q.2⟩))
 ·exact q.elim
theorem S0:AO K (FY K) Kt:=λH0 A0 G al H st x y dx dy Q R I h1 h2 q k=>by
 have lists:(match ku st dx,ku st dy with
  | some i,some j=>i.length + j.length<=1000000/\Q (.dat (.list (i++j))) st
  | _,_=>False)->FY K x y H R:=λq=>by
  split at q
  ·rename_i i j e1 e2;obtain⟨a,ys,rfl,g1,g2⟩:=h1.SV I e1;obtain⟨b,zs,rfl,g3,g4⟩:=h2.SV I e2;exact .inr (.inr (.inr ⟨a,b,ys,zs,rfl,rfl,g1,g3,by rw[g2.len,g4.len];exact qt q.1,λp hp=>k.list I hp (g2.append g4) q.2⟩))
  ·exact q.elim
 unfold Kt at q;split at q
 ·rw[aS.aW h1,aS.aW h2];exact .inl ⟨_,_,rfl,rfl,k.here I (.d (.int _)) q⟩
 ·rw[aS.dE h1,aS.dE h2];exact .inr (.inl ⟨_,_,rfl,rfl,qt q.1,k.here I (.d (.str _)) q.2⟩)
 ·obtain⟨a,ys,rfl,g1,_,g2⟩:=aS.cJ h1;obtain⟨b,zs,rfl,g3,_,g4⟩:=aS.cJ h2;refine .inr (.inr (.inl ⟨a,b,ys,zs,rfl,rfl,g1,g3,by rw[g2.len,g4.len];exact qt q.1,λp H' s hp=>k.laid I s (.d ?_) q.2⟩));have g:=(g2.append g4).imp λy x z=>z.same s
  exact aZ.tup ((I.same s).OH hp) g.1 g.2
 ·exact lists q
theorem dF(ha:cv X a ea)(hb:cv X b eb):cv X (.BinOp a .Add b pos) (zm Kt ea eb):=zo FZ S0 ha hb
theorem OP(ha:cv X a ea)(hb:cv X b eb):cv X (.BinOp a .Add b pos) (zm BY ea eb):=zo FZ OO ha hb
theorem Eg(ha:cv X a ea)(hb:cv X b eb):cv X (.BinOp a .Sub b pos) (zm (Vp λi j=>.int (i - j)) ea eb):=zo gH (RF λ_ _ _=>.int _) ha hb
def MulOk(i j:Int):Prop:=JR i j∨FP i j
theorem OQ:jD X (binaryOp .Mult) (rI MulOk λi j=>.int (i * j)):=N2 λ_ _ _ _ _ _ _ hc q=>mul_int q (by rcases hc with h | h;exact h.ok;exact h.ok)
theorem S1(ha:cv X a ea)(hb:cv X b eb):cv X (.BinOp a .Mult b pos) (zm (oI MulOk λi j=>.int (i * j)) ea eb):=zo OQ (SU λ_ _ _=>.int _) ha hb
def Ku(j:Int):Prop:=0 < j/\j < 18446744073709551616
theorem Kv:jD X (binaryOp .FloorDiv) (rI (λ_ j=>Ku j) λi j=>.int (i / j)):=N2 λi j _ _ _ _ _ hc q=>by
 have h1:(0:Int) < j:=hc.1;have h2:j < 18446744073709551616:=hc.2;exact floordiv_int (by omega) (by rw[acw i (by omega)];exact q) (.inl (BV.ok (i:=i) ⟨by omega,by omega⟩))
theorem ie(ha:cv X a ea)(hb:cv X b eb):cv X (.BinOp a .FloorDiv b pos) (zm (oI (λ_ j=>Ku j) λi j=>.int (i / j)) ea eb):=zo Kv (SU λ_ _ _=>.int _) ha hb
theorem bZ(ha:cv X a ea)(hb:cv X b eb):cv X (.BinOp a .Mod b pos) (zm (oI (λ_ j=>0 < j) λi j=>.int (i % j)) ea eb):=zo gI (SU λ_ _ _=>.int _) ha hb
@[reducible] def S5(ea:DX)(env:cm)(st:aQ)(Q:DC):Prop:=ea env st λx aG=>match x with
 | .dat (.int i)=>Q (.dat (.int (-i))) aG
 | _=>False
theorem S6(ha:cv X a ea):cv X (.UnaryOp .USub a pos) (S5 ea):=by
 obtain⟨ta,p1,a1⟩:=ha.h;refine⟨_,rO kL p1,λH0 A0 G al H st s env Q R I E h k=>a1 H0 A0 G al H st s env _ _ I E h λx aG bL v H1 e1 I1 d1 q1=>?_⟩;split at q1
 ·rw[aS.aW d1];exact⟨_,rfl,(k.go I1 e1).here I1 (.d (.int _)) q1⟩
 ·exact q1.elim
@[reducible] def Ap(n:Bool->Bool)(x y:DV)(st:aQ)(Q:DC):Prop:=match x,y with
 | .dat (.int i),.dat (.int j)=>Q (.dat (.bool (n (decide (i=j))))) st
 | .dat (.str i),.dat (.str j)=>Q (.dat (.bool (n (decide (i=j))))) st
 | x,y=>match zp st x,zp st y with
  | some i,some j=>(PySem.SeqAt.shaped i=true/\PySem.SeqAt.shaped j=true)/\Q (.dat (.bool (n (PyData.eqv i j)))) st
  | _,_=>False
@[reducible] def Y5(K:ax):R2:=λx y H Q=>rEq x y H Q∨SK K x y H Q
@[reducible] def Y6(K:ax):R2:=λx y H Q=>rNe x y H Q∨VY K x y H Q
theorem We{i j:Int}:decide (V.int i=V.int j)=decide (i=j):=acm.mpr ⟨V.int.inj,λh=>by rw[h]⟩
theorem Wg{i j:Str}:decide (V.str i=V.str j)=decide (i=j):=acm.mpr ⟨V.str.inj,λh=>by rw[h]⟩
theorem RG:AO K (Y5 K) (Ap id):=λH0 A0 G al H st x y dx dy Q R I h1 h2 q k=>by
 unfold Ap at q;split at q
 ·rw[aS.aW h1,aS.aW h2];exact .inl ⟨rfl,k.here I (.d (.bl _)) (by rw[We];exact q)⟩
 ·rw[aS.dE h1,aS.dE h2];exact .inl ⟨rfl,k.here I (.d (.bl _)) (by rw[Wg];exact q)⟩
 ·split at q
  ·rename_i i j e1 e2;exact .inr ⟨i,j,h1.XT I e1,h2.XT I e2,q.1.1,q.1.2,k.here I (.d (.bl _)) q.2⟩
  ·exact q.elim
theorem Wh:AO K (Y6 K) (Ap not):=λH0 A0 G al H st x y dx dy Q R I h1 h2 q k=>by
 unfold Ap at q;split at q
 ·rw[aS.aW h1,aS.aW h2];exact .inl ⟨rfl,k.here I (.d (.bl _)) (by rw[We];exact q)⟩
 ·rw[aS.dE h1,aS.dE h2];exact .inl ⟨rfl,k.here I (.d (.bl _)) (by rw[Wg];exact q)⟩
 ·split at q
  ·rename_i i j e1 e2;exact .inr ⟨i,j,h1.XT I e1,h2.XT I e2,q.1.1,q.1.2,k.here I (.d (.bl _)) q.2⟩
  ·exact q.elim
theorem RH(hu:X.A.units + 64 < cLine)(ha:cv X a ea)(hb:cv X b eb):cv X (.Compare a [.Eq] [b] pos) (zm (Ap id) ea eb):=Ks (ub bK (Eb hu)) RG ha hb (aH _)
@[reducible] def Ga:DV->Bool
 | .dat .none=>true
 | _=>false
@[reducible] def Eh(n:Bool->Bool)(x y:DV)(st:aQ)(Q:DC):Prop:=match y with
 | .dat .none=>Q (.dat (.bool (n (Ga x)))) st
 | _=>False
theorem BZ{H:Hp}{P:Addr->Prop}{al:List (List Addr)}{v:V}{x:DV}(h:kQ K P H al v x):decide (v=.non)=Ga x:=by
 cases x with
 | ref k=>obtain⟨a,r,_,rfl⟩:=h;rfl
 | dat d =>
  cases d with
  | none=>rw[aS.jY h];rfl
  | bool b=>rw[aS.mL h];rfl
  | int i=>rw[aS.aW h];rfl
  | str i=>rw[aS.dE h];rfl
  | list ds=>obtain⟨a,ys,rfl,_⟩:=aS.eE h;rfl
  | tuple ds=>obtain⟨a,ys,rfl,_⟩:=aS.cJ h;rfl
  | dict kv=>have h:aZ K (cutH P H) v (.dict kv):=h;cases h
theorem Gb(ha:cv X a ea)(hb:cv X b eb):cv X (.Compare a [.IsNot] [b] pos) (zm (Eh not) ea eb):=Ks wG (λH0 A0 G al H st x y dx dy Q R I h1 h2 q k=>by
 unfold Eh at q;split at q
 ·exact⟨aS.jY h2,k.here I (.d (.bl _)) (by rw[BZ h1];exact q)⟩
 ·exact q.elim) ha hb (aH _)
end
section
variable {X:Cx} {a b c e:Expr} {es:List Expr} {pos:Pos} {ea eb ec:DX} {K:ax}
theorem dC.pF{α:Type}{R:V->α->Prop}{ys:List V}{xs:List α}(h:dC R ys xs){i:Int}{x:α}(hx:pF xs i=some x):∃y,L2.pF ys i=some y/\R y x:=by
 unfold L2.pF at hx ⊢;rw[h.1]
 cases q:D6 xs.length i with
 | none=>rw[q]at hx;cases hx
 | some j =>
  rw[q]at hx;exact h.at hx
@[reducible] def r8(st:aQ):DV->Option (List PyData)
 | .dat (.tuple ds)=>some ds
 | x=>ku st x
theorem kQ.Wi{H0:Hp}{A0:Addr->Prop}{G:Addr->Prop}{al:List (List Addr)}{H:Hp}{st:aQ}(I:DI K H0 A0 G al H st){v:V}{x:DV}{ds:List PyData}(h:kQ K (Fb G al st) H al v x)(e:r8 st x=some ds):∃(a:Addr) (ys:List V),v=.ref a/\(bt K H a ys∨bu K H a ys)/\dC (aS K (Fb G al st) H) ys ds:=by
 unfold r8 at e;split at e
 ·cases e;obtain⟨a,ys,h1,h2,_,h3⟩:=aS.cJ h;exact⟨a,ys,h1,.inr h2,h3⟩
 ·obtain⟨a,ys,h1,h2,h3⟩:=h.SV I e;exact⟨a,ys,h1,.inl h2,h3⟩
@[reducible] def Wj(x y:DV)(st:aQ)(Q:DC):Prop:=match x,y with
 | .dat (.str z),.dat (.int i)=>z.length<=1000000/\∃c,L2.pF z.cps.toList i=some c/\Q (.dat (.str ⟨#[c]⟩)) st
 | x,.dat (.int i)=>match r8 st x with
  | some ds=>∃d,L2.pF ds i=some d/\Q (.dat d) st
  | none=>False
 | _,_=>False
theorem Wk:AO K (rIx K) Wj:=λH0 A0 G al H st x y dx dy Q R I h1 h2 q k=>by
 unfold Wj at q;split at q
 ·obtain⟨q1,c,q2,q3⟩:=q;rw[aS.dE h1,aS.aW h2];exact .inr (.inr ⟨_,_,c,rfl,rfl,qt q1,q2,k.here I (.d (.str _)) q3⟩)
 ·split at q
  ·rename_i ds e;obtain⟨d,q1,q2⟩:=q;rw[aS.aW h2];obtain⟨a,ys,rfl,g1,g2⟩:=h1.Wi I e;obtain⟨z,g3,g4⟩:=g2.pF q1;rcases g1 with g1 | g1
   ·exact .inl ⟨a,ys,_,z,rfl,rfl,g1,g3,k.here I (.d g4) q2⟩
   ·exact .inr (.inl ⟨a,ys,_,z,rfl,rfl,g1,g3,k.here I (.d g4) q2⟩)
  ·exact q.elim
 ·exact q.elim
theorem iY(ha:cv X a ea)(hb:cv X b eb)(hs:z9 b):cv X (.Subscript a b pos) (zm Wj ea eb):=by
 obtain⟨ta,p1,a1⟩:=ha.h;obtain⟨tb,p2,a2⟩:=hb.h;exact⟨_,az J3 p1 p2 hs,FV Wk a1 a2⟩
@[reducible] def r9:PyData->Bool
 | .none=>true
 | .bool _=>true
 | .int _=>true
 | .str _=>true
 | _=>false
theorem Gd{P:Addr->Prop}{H:Hp}{v:V}{d:PyData}(h:aS K P H v d)(f:r9 d=true):jf v=true/\∀H',aZ K H' v d:=by
 cases d with
 | none=>rw[aS.jY h];exact⟨rfl,λ_=>.non⟩
 | bool b=>rw[aS.mL h];exact⟨rfl,λ_=>.bl b⟩
 | int i=>rw[aS.aW h];exact⟨rfl,λ_=>.int i⟩
 | str i=>rw[aS.dE h];exact⟨rfl,λ_=>.str i⟩
 | _=>cases f
theorem OR{P P':Addr->Prop}{H H':Hp}{v u:V}{d d':PyData}(h:aS K P H v d)(h':aS K P' H' u d')(f:r9 d=true)(f':r9 d'=true):G3 v u=PyData.eqv d d':=by
 cases d with
 | none=>rw[aS.jY h];cases d' with
  | none=>rw[aS.jY h'];rfl
  | bool b=>rw[aS.mL h'];rfl
  | int i=>rw[aS.aW h'];rfl
  | str i=>rw[aS.dE h'];rfl
  | _=>cases f'
 | bool b=>rw[aS.mL h];cases d' with
  | none=>rw[aS.jY h'];rfl
  | bool b=>rw[aS.mL h'];rfl
  | int i=>rw[aS.aW h'];rfl
  | str i=>rw[aS.dE h'];rfl
  | _=>cases f'
 | int i=>rw[aS.aW h];cases d' with
  | none=>rw[aS.jY h'];rfl
  | bool b=>rw[aS.mL h'];rfl
  | int i=>rw[aS.aW h'];rfl
  | str i=>rw[aS.dE h'];rfl
  | _=>cases f'
 | str i=>rw[aS.dE h];cases d' with
  | none=>rw[aS.jY h'];rfl
  | bool b=>rw[aS.mL h'];rfl
  | int i=>rw[aS.aW h'];rfl
  | str i=>rw[aS.dE h'];rfl
  | _=>cases f'
 | _=>cases f
def inD(x:PyData)(ds:List PyData):Bool:=ds.any λd=>PyData.eqv d x
theorem RI{P:Addr->Prop}{H:Hp}{v:V}{d:PyData}(h:aS K P H v d)(f:r9 d=true):∀{ys:List V} {ds:List PyData},dC (aS K P H) ys ds->ds.all r9=true->ys.all jf=true/\J5 v ys=inD d ds
 | [],[],_,_=>⟨rfl,rfl⟩
 | [],_::_,r,_=>by have:=r.1;simp at this
 | _::_,[],r,_=>by have:=r.1;simp at this
 | y::ys,x::ds,r,g=>by
  rw[List.all_cons,Bool.and_eq_true]at g;have r0:=r.2 0 y x rfl rfl;obtain⟨z1,z2⟩:=RI h f (ys:=ys) (ds:=ds) ⟨by simpa using r.1,λi p q a b=>r.2 (i + 1) p q (by simpa using a) (by simpa using b)⟩ g.2;unfold J5 inD at z2 ⊢;rw[List.all_cons,List.any_cons,List.any_cons,z1,z2,(Gd r0 g.1).1,OR r0 h g.1 f];exact⟨rfl,rfl⟩
@[reducible] def Wl(n:Bool->Bool)(x y:DV)(st:aQ)(Q:DC):Prop:=match x with
 | .dat d=>match r8 st y with
  | some ds=>(r9 d=true/\ds.all r9=true)/\Q (.dat (.bool (n (inD d ds)))) st
  | none=>False
 | _=>False
theorem Wm(neg:Bool):AO K (rIn K neg) (Wl (if neg then not else id)):=λH0 A0 G al H st x y dx dy Q R I h1 h2 q k=>by
 unfold Wl at q;split at q
 ·split at q
  ·rename_i ds e;obtain⟨a,ys,rfl,g1,g2⟩:=h2.Wi I e;obtain⟨z1,z2⟩:=RI h1 q.1.1 g2 q.1.2;refine⟨a,ys,rfl,g1,(Gd h1 q.1.1).1,z1,k.here I (.d (.bl _)) ?_⟩;rw[z2];cases neg<;>exact q.2
  ·exact q.elim
 ·exact q.elim
theorem Kw{x:Str}{l:List Str}:inD (.str x) (l.map PyData.str)=decide (x∈l):=by
 unfold inD;rw[List.any_map,Bool.eq_iff_iff,List.any_eq_true,decide_eq_true_iff]
 constructor
 ·rintro⟨y,h1,h2⟩;have:(y == x)=true:=h2;rw[beq_iff_eq]at this;exact this ▸ h1
 ·intro h;exact⟨x,h,show(x == x)=true from beq_self_eq_true x⟩
abbrev DO:=cm->aQ->(Option Int->aQ->Prop)->Prop
@[reducible] def Kx(_:cm)(st:aQ)(Q:Option Int->aQ->Prop):Prop:=Q none st
@[reducible] def Ky(e:DX)(env:cm)(st:aQ)(Q:Option Int->aQ->Prop):Prop:=e env st λx aG=>match x with
 | .dat (.int i)=>Q (some i) aG
 | _=>False
structure XU(X:Cx)(e:Option Expr)(d:DO):Prop where
 h:∃t,PO X e t/\∀(H0:Hp) (A0:Addr->Prop) (G:Addr->Prop) (al:List (List Addr)) (H:Hp) (st:aQ) (s:St) (env:cm) (Q:Option Int->aQ->Prop) (R:Option Int->Hp->Prop),DI X.K H0 A0 G al H st->uV X.K (Fb G al st) H al s env->d env st Q ->
  (∀i st' al' H',Ext al H st al' H' st'->DI X.K H0 A0 G al' H' st'->Q i st'->R i H')->t s H R
theorem Ge:XU X none Kx:=⟨_,rR,λH0 A0 G al H st s env Q R I E q k=>k none st al H .refl I q⟩
theorem wI(ha:cv X a ea):XU X (some a) (Ky ea):=by
 obtain⟨ta,p1,a1⟩:=ha.h;refine⟨_,rS p1,λH0 A0 G al H st s env Q R I E q k=>a1 H0 A0 G al H st s env _ _ I E q λx aG bL v H1 e1 I1 d1 q1=>?_⟩;split at q1
 ·rw[aS.aW d1];exact⟨_,rfl,k _ _ _ _ e1 I1 q1⟩
 ·exact q1.elim
def cutD(xs:List PyData)(lo hi:Option Int):List PyData:=(xs.drop (HT.fc xs.length 0 lo)).take (HT.fc xs.length xs.length hi - HT.fc xs.length 0 lo)
theorem dC.cut{P:Addr->Prop}{H:Hp}{ys:List V}{ds:List PyData}(h:dC (aS K P H) ys ds)(lo hi:Option Int):dC (aS K P H) (km ys lo hi) (cutD ds lo hi):=by
 unfold km cutD;rw[h.1];exact(h.drop _).take _
@[reducible] def Y7(ea:DX)(lo hi:DO)(env:cm)(st:aQ)(Q:DC):Prop:=ea env st λx aG=>lo env aG λl dw=>hi env dw λu t4=>match x with
 | .dat (.str z)=>z.length<=1000000/\Q (.dat (.str (Txt.slice z l u))) t4
 | .dat (.tuple ds)=>Q (.dat (.tuple (cutD ds l u))) t4
 | x=>match ku t4 x with
  | some ds=>Q (.dat (.list (cutD ds l u))) t4
  | none=>False
theorem Kz{r r':V->Option Int->Option Int->Hp->VK->Prop}(h:Nq X r)(h':Nq X r'):Nq X (λx l u H Q=>r x l u H Q∨r' x l u H Q):=by
 unfold Nq at h h' ⊢
 intros
 rename_i q;rcases q with q | q
 ·apply h<;>assumption
 ·apply h'<;>assumption
theorem Y8:Nq X (λx l u H Q=>RD x l u H Q∨(Wa X.K x l u H Q∨VV X.K x l u H Q)):=Kz OG (Kz Ah Ab)
theorem KA{lo hi:Option Expr}{l u:DO}{p2:Pos}(ha:cv X a ea)(hl:XU X lo l)(hh:XU X hi u):cv X (.Subscript a (.Slice lo hi none p2) pos) (Y7 ea l u):=by
 obtain⟨ta,p1,a1⟩:=ha.h;obtain⟨tl,p2,a2⟩:=hl.h;obtain⟨th,p3,a3⟩:=hh.h;refine⟨_,mI Y8 p1 p2 p3,λH0 A0 G al H st s env Q R I E q k=>a1 H0 A0 G al H st s env _ _ I E q λx aG bL v H1 e1 I1 d1 q1=>?_⟩;refine a2 H0 A0 G bL H1 aG s env _ _ I1 (E.ext e1) q1 λi dw gK H2 e2 I2 q2=>?_
 have yG:=e1.trans I1 e2;refine a3 H0 A0 G gK H2 dw s env _ _ I2 (E.ext yG) q2 λj t4 al3 H3 e3 I3 q3=>?_
 have k3:=k.go I3 (yG.trans I2 e3);have d3:=(d1.ext e2).ext e3;split at q3
 ·rw[aS.dE d3];exact .inl ⟨_,rfl,qt q3.1,k3.here I3 (.d (.str _)) q3.2⟩
 ·obtain⟨b,ys,rfl,g1,_,g2⟩:=aS.cJ d3;refine .inr (.inl ⟨b,ys,rfl,g1,λp H' s hp=>k3.laid I3 s (.d ?_) q3⟩);have g:=(g2.cut i j).imp λy x z=>z.same s
  exact aZ.tup ((I3.same s).OH hp) g.1 g.2
 ·split at q3
  ·rename_i ds e;obtain⟨b,ys,rfl,g1,g2⟩:=d3.SV I3 e;exact .inr (.inr ⟨b,ys,rfl,g1,λp hp=>k3.list I3 hp (g2.cut i j) q3⟩)
  ·exact q3.elim
@[reducible] def Nu(ea:DX)(env:cm)(st:aQ)(Q:Bool->aQ->Prop):Prop:=ea env st λx aG=>match x with
 | .dat (.bool b)=>Q b aG
 | _=>False
@[reducible] def Gf(t u:DT)(env:cm)(st:aQ)(Q:Bool->aQ->Prop):Prop:=t env st λb aG=>if b=true then u env aG Q else Q false aG
@[reducible] def OS(t u:DT)(env:cm)(st:aQ)(Q:Bool->aQ->Prop):Prop:=t env st λb aG=>if b=true then Q true aG else u env aG Q
@[reducible] def KC(t:DT)(env:cm)(st:aQ)(Q:Bool->aQ->Prop):Prop:=t env st λb aG=>Q (!b) aG
theorem KD{t:TE}{e:DX}(h:AE K t e):AT K (JU t) (Nu e):=λH0 A0 G al H st s env Q R I E q k=>h H0 A0 G al H st s env _ _ I E q λx aG bL v H1 e1 I1 d1 q1=>by
 split at q1
 ·rw[aS.mL d1];exact⟨_,rfl,k _ _ _ _ e1 I1 q1⟩
 ·exact q1.elim
theorem xj{op:CmpOp}{r:R2}{o:Vo}(ho:jD X (compareOp op) r)(ao:AO X.K r o)(ha:cv X a ea)(hb:cv X b eb)(hm:behindInMarks op b=false):Dw X (.Compare a [op] [b] pos) (Nu (zm o ea eb)):=by
 obtain⟨ta,p1,a1⟩:=ha.h;obtain⟨tb,p2,a2⟩:=hb.h;exact⟨_,tR ho p1 p2 hm,KD (FV ao a1 a2)⟩
theorem Wn(ha:cv X a ea)(hb:cv X b eb):Dw X (.Compare a [.LtE] [b] pos) (Nu (zm (Vp λi j=>.bool (decide (i<=j))) ea eb)):=xj JT (RF λ_ _ _=>.bl _) ha hb (aH _)
theorem eN(hu:X.A.units + 64 < cLine)(ha:cv X a ea)(hb:cv X b eb):Dw X (.Compare a [.Eq] [b] pos) (Nu (zm (Ap id) ea eb)):=xj (ub bK (Eb hu)) RG ha hb (aH _)
theorem RJ(hu:X.A.units + 64 < cLine)(ha:cv X a ea)(hb:cv X b eb):Dw X (.Compare a [.NotEq] [b] pos) (Nu (zm (Ap not) ea eb)):=xj (ub Rp (SM hu)) Wh ha hb (aH _)
theorem B0(ha:cv X a ea)(hb:cv X b eb)(hm:behindInMarks .In b=false):Dw X (.Compare a [.In] [b] pos) (Nu (zm (Wl id) ea eb)):=xj ko (Wm false) ha hb hm
theorem OT:AO K (λx y H Q=>y=.non/\Q (.bl (!decide (x=.non))) H) (Eh not):=λH0 A0 G al H st x y dx dy Q R I h1 h2 q k=>by
 unfold Eh at q;split at q
 ·exact⟨aS.jY h2,k.here I (.d (.bl _)) (by rw[BZ h1];exact q)⟩
 ·exact q.elim
theorem OU(ha:cv X a ea)(hb:cv X b eb):Dw X (.Compare a [.IsNot] [b] pos) (Nu (zm (Eh not) ea eb)):=xj wG OT ha hb (aH _)
theorem Aq(ha:cv X a ea)(he:∀whole,isTrue a X.env whole=(do let v ← whole;standAt a.pos;holding [v] (truthy v)):=by intro _;rfl):Dw X a (Nu ea):=by
 obtain⟨ta,p1,a1⟩:=ha.h;exact⟨_,wY p1 he,KD a1⟩
variable {rest:List Expr} {ta tb:DT}
theorem KG(ha:Dw X a ta):Dw X (.UnaryOp .Not a pos) (KC ta):=by
 obtain⟨t,p1,a1⟩:=ha.h;exact⟨_,zU p1,λH0 A0 G al H st s env Q R I E q k=>a1 H0 A0 G al H st s env _ _ I E q λb aG bL H1 e1 I1 q1=>k _ _ _ _ e1 I1 q1⟩
theorem wJ(ha:Dw X a ta):FT X (.BoolOp .And [a] pos) ta:=by
 obtain⟨t,p1,a1⟩:=ha.h;exact⟨_,pw_and1 p1,a1⟩
theorem KH(ha:Dw X a ta):FT X (.BoolOp .Or [a] pos) ta:=by
 obtain⟨t,p1,a1⟩:=ha.h;exact⟨_,pw_or1 p1,a1⟩
theorem S7{t u:TT}(h1:AT K t ta)(h2:AT K u tb):AT K (Vx t u) (Gf ta tb):=λH0 A0 G al H st s env Q R I E q k=>h1 H0 A0 G al H st s env _ _ I E q λb aG bL H1 e1 I1 q1=>by
 cases b with
 | true=>exact iJ (h2 H0 A0 G bL H1 aG s env _ _ I1 (E.ext e1) (by rw[aaq rfl]at q1;exact q1) (k.go I1 e1))
 | false=>exact dj (k _ _ _ _ e1 I1 (by rw[aan aak]at q1;exact q1))
theorem Wo{t u:TT}(h1:AT K t ta)(h2:AT K u tb):AT K (tOr t u) (OS ta tb):=λH0 A0 G al H st s env Q R I E q k=>h1 H0 A0 G al H st s env _ _ I E q λb aG bL H1 e1 I1 q1=>by
 cases b with
 | false=>exact dj (h2 H0 A0 G bL H1 aG s env _ _ I1 (E.ext e1) (by rw[aan aak]at q1;exact q1) (k.go I1 e1))
 | true=>exact iJ (k _ _ _ _ e1 I1 (by rw[aaq rfl]at q1;exact q1))
theorem Ar(ha:Dw X a ta)(hb:FT X (.BoolOp .And (b::rest) pos) tb):FT X (.BoolOp .And (a::b::rest) pos) (Gf ta tb):=by
 obtain⟨t,p1,a1⟩:=ha.h;obtain⟨u,p2,a2⟩:=hb.h;exact⟨_,pw_and p1 p2,S7 a1 a2⟩
theorem KI(ha:Dw X a ta)(hb:FT X (.BoolOp .Or (b::rest) pos) tb):FT X (.BoolOp .Or (a::b::rest) pos) (OS ta tb):=by
 obtain⟨t,p1,a1⟩:=ha.h;obtain⟨u,p2,a2⟩:=hb.h;exact⟨_,pw_or p1 p2,Wo a1 a2⟩
theorem FT.dt(h:FT X a ta):Dw X a ta:=by
 obtain⟨t,p1,a1⟩:=h.h;exact⟨_,p1.pt,a1⟩
@[reducible] def KJ(ea eb:DX)(env:cm)(st:aQ)(Q:DC):Prop:=ea env st λx aG=>match x with
 | .dat (.bool b)=>if b=true then eb env aG Q else Q (.dat (.bool false)) aG
 | _=>False
theorem S8{op}(h:cv X a ea):cv X (.BoolOp op [a] pos) ea:=by
 obtain⟨t,p1,a1⟩:=h.h;exact⟨_,DH p1,a1⟩
theorem OV(ha:cv X a ea)(hb:cv X (.BoolOp .And (b::rest) pos) eb):cv X (.BoolOp .And (a::b::rest) pos) (KJ ea eb):=by
 obtain⟨t,p1,a1⟩:=ha.h;obtain⟨u,p2,a2⟩:=hb.h;refine⟨_,DJ p1 p2,λH0 A0 G al H st s env Q R I E q k=>a1 H0 A0 G al H st s env _ _ I E q λx aG bL v H1 e1 I1 d1 q1=>?_⟩;split at q1
 ·rename_i b;rw[aS.mL d1];refine⟨_,rfl,?_⟩
  cases b with
  | true=>exact iJ (a2 H0 A0 G bL H1 aG s env _ _ I1 (E.ext e1) (by rw[aaq rfl]at q1;exact q1) (k.go I1 e1))
  | false=>exact dj ((k.go I1 e1).here I1 (.d (.bl _)) (by rw[aan aak]at q1;exact q1))
 ·exact q1.elim
end
theorem KL{α:Type}{R:V->α->Prop}{vs:List V}{x:α}(h:dC R vs [x]):∃v,vs=[v]/\R v x:=by
 have:=h.1
 match vs,this,h with
 | [v],_,h=>exact⟨v,rfl,h.2 0 v x rfl rfl⟩
theorem Y9{α:Type}{R:V->α->Prop}{vs:List V}{x y:α}(h:dC R vs [x,y]):∃v u,vs=[v,u]/\R v x/\R u y:=by
 have:=h.1
 match vs,this,h with
 | [v,u],_,h=>exact⟨v,u,rfl,h.2 0 v x rfl rfl,h.2 1 u y rfl rfl⟩
section
variable {X:Cx} {a b c e:Expr} {es:List Expr} {pos p:Pos} {ea eb ec:DX} {K:ax} {x:Str} {id:String} {n:Nat} {d:yA} {r r':List V->Hp->VK->Prop} {o:Y4}
@[reducible] def Nv(o:Y4)(d:yA)(env:cm)(st:aQ)(Q:DC):Prop:=d env st λxs aG=>o xs aG Q
theorem RK{t:TA}(ho:AB K r o)(h:AA K t n d):AE K (YG r t) (Nv o d):=λH0 A0 G al H st s env Q R I E q k=>h H0 A0 G al H st s env _ _ I E q λxs aG bL vs H1 e1 I1 d1 q1=>ho H0 A0 G bL H1 aG vs xs Q R I1 d1 q1.2 (k.go I1 e1)
theorem KN(hc:jE X (.builtin id) r)(ho:AB X.K r o)(hg:Gl X x)(hm:X.mg x=none)(hv:bootBuiltins x=some (.builtin id))(ha:FU X (e::es) n d)(hn:x≠"__name__":=by decide)(hdb:(x == ("__debug__" : Str))=false:=by decide)
  (he:starEach (e::es) X.env=(false,eval e X.env)::starEach es X.env:=by rfl) (hpl:(backTo pos (starEach es X.env)).any (·.1)=false:=by rfl):cv X (.Call (.Name x p) (e::es) [] pos) (Nv o d):=by
 obtain⟨t,p1,a1⟩:=ha.h;exact⟨_,bP hc hg hm hv p1 hn hdb he hpl,RK ho a1⟩
theorem Hd{T:String}(hc:jE X (.type T) r)(ho:AB X.K r o)(hg:Gl X x)(hm:X.mg x=none)(hv:bootBuiltins x=some (.type T))(ha:FU X (e::es) n d)(hn:x≠"__name__":=by decide)(hdb:(x == ("__debug__" : Str))=false:=by decide)
  (he:starEach (e::es) X.env=(false,eval e X.env)::starEach es X.env:=by rfl) (hpl:(backTo pos (starEach es X.env)).any (·.1)=false:=by rfl):cv X (.Call (.Name x p) (e::es) [] pos) (Nv o d):=by
 obtain⟨t,p1,a1⟩:=ha.h;exact⟨_,dX hc hg hm hv p1 hn hdb he hpl,RK ho a1⟩
theorem Wq{f:Value}(h:jE X f r)(h':jE X f r'):jE X f (λxs H Q=>r xs H Q∨r' xs H Q):=λpins s σ H xs us Q I rv q=>by
 rcases q with q | q
 ·exact h pins s σ H xs us Q I rv q
 ·exact h' pins s σ H xs us Q I rv q
@[reducible] def KO(xs:List DV)(st:aQ)(Q:DC):Prop:=match xs with
 | [.dat (.str z)]=>z.length<=1000000/\Q (.dat (.int z.length)) st
 | [x]=>match r8 st x with
  | some ds=>Q (.dat (.int ds.length)) st
  | none=>False
 | _=>False
theorem S9:AB K (λxs H Q=>(∃p ys,xs=[.ref p]/\(bt K H p ys∨bu K H p ys)/\Q (.int ys.length) H)∨∃z,xs=[.str z]/\z.length<=sizeLine/\Q (.int z.length) H) KO:=λH0 A0 G al H st vs ds Q R I h q k=>by
 unfold KO at q;split at q
 ·obtain⟨v,rfl,h1⟩:=KL h;rw[aS.dE h1];exact .inr ⟨_,rfl,qt q.1,k.here I (.d (.int _)) q.2⟩
 ·split at q
  ·rename_i ds e;obtain⟨v,rfl,h1⟩:=KL h;obtain⟨p,ys,rfl,g1,g2⟩:=h1.Wi I e;exact .inl ⟨p,ys,rfl,g1,k.here I (.d (.int _)) (by rw[g2.len];exact q)⟩
  ·exact q.elim
 ·exact q.elim
theorem uc(hg:Gl X "len")(hm:X.mg "len"=none)(ha:FU X [e] n d)(he:starEach [e] X.env=(false,eval e X.env)::starEach [] X.env:=by rfl):cv X (.Call (.Name "len" p) [e] [] pos) (Nv KO d):=KN (Wq bD Ad) S9 hg hm gJ ha (by decide) (by decide) he rfl
@[reducible] def B1(xs:List DV)(st:aQ)(Q:DC):Prop:=match xs with
 | [x]=>match r8 st x with
  | some ds=>Q (.dat (.list ds)) st
  | none=>False
 | _=>False
theorem OW:AB K (λxs H Q=>∃p ys,xs=[.ref p]/\(bt K H p ys∨bu K H p ys)/\∀l,H l=none->Q (.ref l) (upd H l (.lst ys))) B1:=λH0 A0 G al H st vs ds Q R I h q k=>by
 unfold B1 at q;split at q
 ·split at q
  ·rename_i ds e;obtain⟨v,rfl,h1⟩:=KL h;obtain⟨p,ys,rfl,g1,g2⟩:=h1.Wi I e;exact⟨p,ys,rfl,g1,λl hl=>k.list I hl g2 q⟩
  ·exact q.elim
 ·exact q.elim
theorem wK(hg:Gl X "list")(hm:X.mg "list"=none)(ha:FU X [e] n d)(he:starEach [e] X.env=(false,eval e X.env)::starEach [] X.env:=by rfl):cv X (.Call (.Name "list" p) [e] [] pos) (Nv B1 d):=Hd bY OW hg hm ic ha (by decide) (by decide) he rfl
theorem wL{P:Addr->Prop}{H:Hp}:∀{ys:List V} {ns:List Int},dC (aS K P H) ys (ns.map PyData.int)->ys=ns.map V.int
 | [],[],_=>rfl
 | [],_::_,h=>by have:=h.1;simp at this
 | _::_,[],h=>by have:=h.1;simp at this
 | y::ys,i::ns,h=>by
  have h0:=aS.aW (h.2 0 y (.int i) rfl rfl);have ht:=wL (ys:=ys) (ns:=ns) ⟨by simpa using h.1,λj p q a b=>h.2 (j + 1) p q (by simpa using a) (by simpa using b)⟩;rw[h0,ht];rfl
abbrev As:=List PyData->(PyData->Prop)->Prop
def OX(K:ax)(T:As):Sp:=λvs H Q _=>∃(P:Addr->Prop) (ds:List PyData),(∀c,P c->∃o,H c=some o/\ua o)/\dC (aS K P H) vs ds/\T ds λd=>∀v H',aF H H'->aS K P H' v d->Q v H'
def Ei(K:ax)(sp:Sp)(T:As):Prop:=∀(vs:List V) (H:Hp) (Q:VK) (P:Addr->Prop) (ds:List PyData),(∀c,P c->∃o,H c=some o/\ua o)->dC (aS K P H) vs ds->T ds (λd=>∀v H',aF H H'->aS K P H' v d->Q v H')->sp vs H Q E0
theorem uW{T:As}:Ei K (OX K T) T:=λvs H Q P ds h1 h2 h3=>⟨P,ds,h1,h2,h3⟩
def se(T:As):Prop:=∀ds (Q Q':PyData->Prop),(∀d,Q d->Q' d)->T ds Q->T ds Q'
@[reducible] def Gg(T:As)(xs:List DV)(st:aQ)(Q:DC):Prop:=mv xs st λds aG=>T ds λd=>Q (.dat d) aG
theorem Ta{H:Hp}{v:V}{d:PyData}(h:aZ K H v d):aS K (λ_=>False) H v d:=aZ.same (λc o e=>fF.mpr ⟨id,e⟩) h
theorem OY{sp:Sp}{T:As}(h:Ei K sp T)(m:se T):AB K (λvs H Q=>sp (vs++[]) H Q E0) (Gg T):=λH0 A0 G al H st vs ds Q R I hp q k=>by
 obtain⟨es,aG,E1,I1,F1,q1⟩:=r6 I hp q;rw[abd];refine h vs H R (Fb G al aG) es (λc hc=>I1.rZ hc) F1 (m _ _ _ (λd hd v H' s r=>?_) q1);exact(k.go I1 E1).laid I1 s (.d r) hd
theorem Gh{sp:Sp}{t:TA}(h:AB K (λvs H Q=>sp (vs++[]) H Q E0) o)(ha:AA K t n d):AE K (JY sp [] E0 t) (Nv o d):=λH0 A0 G al H st s env Q R I E q k=>ha H0 A0 G al H st s env _ _ I E q λxs aG bL vs H1 e1 I1 d1 q1=>h H0 A0 G bL H1 aG vs xs Q R I1 d1 q1.2 (k.go I1 e1)
theorem br{kk:Nat}{ps:List Str}{sp:Sp}{T:As}(h:cT X.prog X.w X.K X.mg X.base aM x kk ps sp)(hs:Ei X.K sp T)(m:se T)(hr:fL kk X.A)(hg:Gl X x)(ha:FU X (e::es) n d)(hdb:(x == ("__debug__" : Str))=false:=by decide)
  (he:starEach (e::es) X.env=(false,eval e X.env)::starEach es X.env:=by rfl) (hpl:(backTo pos (starEach es X.env)).any (·.1)=false:=by rfl):cv X (.Call (.Name x p) (e::es) [] pos) (Nv (Gg T) d):=by
 obtain⟨t,p1,a1⟩:=ha.h;exact⟨_,cg h hr hg p1 hdb he hpl,Gh (OY hs m) a1⟩
end
abbrev yH:=cm->aQ->(List PyData->(aQ->Prop)->aQ->Prop)->Prop
def ItR(K:ax)(H0:Hp)(A0:Addr->Prop)(G:Addr->Prop)(al:List (List Addr))(H:Hp)(st:aQ)(J:It)(xs:List PyData)(ok:aQ->Prop):Prop:=∀(G1:Addr->Prop) (bL:List (List Addr)) (H1:Hp) (aG:aQ) (i:Nat),(∀c,G1 c->G c∨H c=none)->Ext al H st bL H1 aG->DI K H0 A0 G1 bL H1 aG->ok aG ->
 (∀d,xs[i]?=some d->J.go i H1/\∀x H2,J.yld i H1 x H2->aF H1 H2/\aS K (Fb G1 bL aG) H2 x d)/\(xs.length<=i->i<=xs.length->J.stop i H1)
def AI(K:ax)(wi:TI)(di:yH):Prop:=∀(H0:Hp) (A0:Addr->Prop) (G:Addr->Prop) (al:List (List Addr)) (H:Hp) (st:aQ) (s:St) (env:cm) (Q:List PyData->(aQ->Prop)->aQ->Prop) (R:It->Hp->Prop),DI K H0 A0 G al H st->uV K (Fb G al st) H al s env->di env st Q ->
 (∀J xs ok st' al' H',Ext al H st al' H' st'->DI K H0 A0 G al' H' st'->ItR K H0 A0 G al' H' st' J xs ok->Q xs ok st'->R J H')->wi s H R
structure Vq(X:Cx)(tg iter:Expr)(d:yH):Prop where
 h:∃wi,PI X tg iter wi/\AI X.K wi d
def iSq(K:ax)(tl:TE):TI:=λσ H R=>tl σ H λx H1=>∃a,x=.ref a/\(((∃xs,bt K H1 a xs)/\R (Ro K a) H1)∨((∃xs,bu K H1 a xs)/\R (Yy K a) H1))
theorem Wr{X:Cx}{tg l:Expr}{tl:TE}(hl:PE X l tl):PI X tg l (iSq X.K tl):=by
 intro pins s σ H R I h;refine c8 (hl pins s σ H _ I h) λv s1 ⟨x,H1,I1,r1,q1⟩=>?_
 obtain⟨a,e,q⟩:=q1;subst e;cases r1
 have fin:∀b∈[s1.heap.objs.size],rM X pins H1 b:=λb hb=>by
  have e:b=s1.heap.objs.size:=by simpa using hb
  subst e;exact I1.N1 (aaf _) (I1.hok.fresh (aaf _))
 rcases q with⟨⟨xs,hq⟩,q⟩ | ⟨⟨xs,hq⟩,q⟩
 ·obtain⟨its,rv,p,hz⟩:=I1.list hq;refine acA p.isList ?_;exact⟨s1.heap.objs.size,[s1.heap.objs.size],_,_,H1,rfl,I1.kept (t':=s1.toks) λb o e=>aad _ e,zb a _,⟨_,aav _ rfl,rfl,rfl⟩,fin,q⟩
 ·obtain⟨its,rv,p,hz⟩:=I1.tuple hq;refine wpAny_pyIter_tuple (show s1.heap.IsTuple a its.toArray from p) ?_;exact⟨s1.heap.objs.size,[s1.heap.objs.size],_,_,H1,rfl,I1.kept (t':=s1.toks) λb o e=>aad _ e,DK a _,⟨_,aav _ rfl,rfl,rfl⟩,fin,q⟩
section
variable {X:Cx} {tg a b c e:Expr} {es:List Expr} {pos p:Pos} {ea eb ec:DX} {K:ax} {n:Nat} {d:yA}
theorem aS.seq{P:Addr->Prop}{H:Hp}{v:V}{d:PyData}{ds:List PyData}(h:aS K P H v d)(e:d=.list ds∨d=.tuple ds):∃q a ys,v=.ref a/\Js q K (cutH P H) a ys/\Js q K H a ys/\dC (aS K P H) ys ds:=by
 rcases e with rfl | rfl
 ·obtain⟨a,ys,h1,h2,h3,h4⟩:=aS.eE h;exact⟨true,a,ys,h1,h3,h2,h4⟩
 ·obtain⟨a,ys,h1,h2,h3,h4⟩:=aS.cJ h;exact⟨false,a,ys,h1,h3,h2,h4⟩
@[reducible] def OZ(ea:DX)(env:cm)(st:aQ)(Q:List PyData->(aQ->Prop)->aQ->Prop):Prop:=ea env st λx aG=>vX x aG λd dw=>match d with
 | .list ds=>Q ds (λ_=>True) dw
 | .tuple ds=>Q ds (λ_=>True) dw
 | _=>False
theorem Tb{t:TE}(h:AE K t ea):AI K (iSq K t) (OZ ea):=λH0 A0 G al H st s env Q R I E q k=>h H0 A0 G al H st s env _ _ I E q λx aG bL v H1 e1 I1 d1 q1=>by
 obtain⟨d,dw,E2,I2,F2,q2⟩:=qs I1 d1 q1
 obtain⟨ds,ed,q2⟩:∃ds,(d=.list ds∨d=.tuple ds)/\Q ds (λ_=>True) dw:=by
  split at q2
  ·exact⟨_,.inl rfl,q2⟩
  ·exact⟨_,.inr rfl,q2⟩
  ·exact q2.elim
 obtain⟨w,a,ys,rfl,g1,g2,g3⟩:=F2.seq ed;refine⟨a,rfl,?_⟩;have yG:=e1.trans I1 E2
 cases w with
 | true =>
  refine .inl ⟨⟨ys,g2⟩,k (Ro K a) ds _ dw bL H1 yG I2 (λG1 al3 H3 t4 i hG e3 I3 _=>⟨λd hd=>?_,λh1 _=>?_⟩) q2⟩
  ·have s3:=(kR hG e3).seq g1;obtain⟨y,hy,_⟩:=g3.at hd;refine⟨⟨ys,y,fQ.seq s3,hy⟩,λx H4 ⟨e4,z⟩=>?_⟩;subst e4;have:=z ys (fQ.seq s3);exact⟨.refl _,(g3.2 i x d this hd).pH hG e3⟩
  ·exact⟨ys,fQ.seq ((kR hG e3).seq g1),by rw[g3.1];exact h1⟩
 | false =>
  refine .inr ⟨⟨ys,g2⟩,k (Yy K a) ds _ dw bL H1 yG I2 (λG1 al3 H3 t4 i hG e3 I3 _=>⟨λd hd=>?_,λh1 _=>?_⟩) q2⟩
  ·have s3:=(kR hG e3).tup g1;obtain⟨y,hy,_⟩:=g3.at hd;refine⟨⟨ys,y,fQ.tup s3,hy⟩,λx H4 ⟨e4,z⟩=>?_⟩;subst e4;have:=z ys (fQ.tup s3);exact⟨.refl _,(g3.2 i x d this hd).pH hG e3⟩
  ·exact⟨ys,fQ.tup ((kR hG e3).tup g1),by rw[g3.1];exact h1⟩
theorem ud(h:cv X a ea):Vq X tg a (OZ ea):=by
 obtain⟨t,p1,a1⟩:=h.h;exact⟨_,Wr p1,Tb a1⟩
def He(lo:Int)(m:Nat):List PyData:=(List.range m).map λ(k:Nat)=>PyData.int (lo + (k:Int))
theorem si{lo:Int}{m:Nat}:(He lo m).length=m:=by unfold He;rw[List.length_map,List.length_range]
theorem Au{lo:Int}{m i:Nat}{d:PyData}(h:(He lo m)[i]?=some d):i < m/\d=.int (lo + (i:Int)):=by
 have hi:=(bU h).1;rw[si]at hi;unfold He at h;rw[List.getElem?_map,List.getElem?_range hi]at h;cases h;exact⟨hi,rfl⟩
@[reducible] def Av(d:yA)(env:cm)(st:aQ)(Q:List PyData->(aQ->Prop)->aQ->Prop):Prop:=d env st λxs aG=>match xs with
 | [.dat (.int j)]=>(-(2 ^ 62)<=j/\j < 2 ^ 62)/\Q (He 0 j.toNat) (λ_=>True) aG
 | _=>False
theorem O0{H0:Hp}{A0:Addr->Prop}{G:Addr->Prop}{al:List (List Addr)}{H:Hp}{st:aQ}{lo:Int}{m:Nat}{ok:aQ->Prop}:ItR K H0 A0 G al H st (VF lo m) (He lo m) ok:=λG1 bL H1 aG i hG e1 I1 _=>by
 refine⟨λd hd=>?_,λh1 _=>by rw[si]at h1;exact h1⟩;obtain⟨hi,rfl⟩:=Au hd;refine⟨hi,λx H2 ⟨e,z⟩=>?_⟩;subst e;subst z;exact⟨.refl _,.int _⟩
theorem zq(hg:Gl X "range")(hm:X.mg "range"=none)(ha:FU X [a] n d)(hs:starEach [a] X.env=[(false,eval a X.env)]:=by rfl):Vq X tg (.Call (.Name "range" p) [a] [] pos) (Av d):=by
 obtain⟨t,p1,a1⟩:=ha.h;refine⟨_,zc hg hm p1 hs,λH0 A0 G al H st s env Q R I E q k=>a1 H0 A0 G al H st s env _ _ I E q λxs aG bL vs H1 e1 I1 d1 q1=>?_⟩;have q1:=q1.2;split at q1
 ·obtain⟨v,rfl,h1⟩:=KL d1;rw[aS.aW h1];exact⟨_,rfl,q1.1.1,q1.1.2,k _ _ _ aG bL H1 e1 I1 O0 q1.2⟩
 ·exact q1.elim
abbrev zr:=DV->cm->aQ->(cm->aQ->Prop)->Prop
abbrev B2:=List PyData->cm->aQ->(cm->aQ->Prop)->Prop
def RL(K:ax)(H0:Hp)(A0:Addr->Prop)(G:Addr->Prop)(al:List (List Addr))(H:Hp)(st:aQ)(Q:cm->aQ->Prop)(R:St->Hp->Prop):Prop:=∀env' st' al' s' H',Ext al H st al' H' st'->DI K H0 A0 G al' H' st'->uV K (Fb G al' st') H' al' s' env'->Q env' st'->R s' H'
theorem RL.go{H0:Hp}{A0:Addr->Prop}{G:Addr->Prop}{al bL:List (List Addr)}{H H1:Hp}{st aG:aQ}{Q:cm->aQ->Prop}{R:St->Hp->Prop}(k:RL K H0 A0 G al H st Q R)(I:DI K H0 A0 G bL H1 aG)(e:Ext al H st bL H1 aG):RL K H0 A0 G bL H1 aG Q R:=λdv st' al' s' H' e' I' h q=>k dv st' al' s' H' (e.trans I e') I' h q
def AG(K:ax)(g:TG)(dg:zr):Prop:=∀(H0:Hp) (A0:Addr->Prop) (G:Addr->Prop) (al:List (List Addr)) (H:Hp) (st:aQ) (s:St) (env:cm) (v:V) (dv:DV) (Q:cm->aQ->Prop) (R:St->Hp->Prop),DI K H0 A0 G al H st->uV K (Fb G al st) H al s env->kQ K (Fb G al st) H al v dv->dg dv env st Q->RL K H0 A0 G al H st Q R->g v s H R
def XW(K:ax)(g:Np)(dg:B2):Prop:=∀(H0:Hp) (A0:Addr->Prop) (G:Addr->Prop) (al:List (List Addr)) (H:Hp) (st:aQ) (s:St) (env:cm) (vs:List V) (ds:List PyData) (Q:cm->aQ->Prop) (R:St->Hp->Prop),DI K H0 A0 G al H st->uV K (Fb G al st) H al s env->dC (aS K (Fb G al st) H) vs ds->dg ds env st Q->RL K H0 A0 G al H st Q R->g vs s H R
structure Vr(X:Cx)(tg:Expr)(d:zr):Prop where
 h:∃g,PG X tg g/\AG X.K g d
structure O1(X:Cx)(tg:List Expr)(d:B2):Prop where
 h:∃g,VB X tg g/\XW X.K g d
@[reducible] def gN(i:Nat)(dv:DV)(env:cm)(st:aQ)(Q:cm->aQ->Prop):Prop:=Q (env.set i (some dv)) st
@[reducible] def Gi(ds:List PyData)(env:cm)(st:aQ)(Q:cm->aQ->Prop):Prop:=match ds with
 | []=>Q env st
 | _=>False
@[reducible] def xk(g:zr)(r:B2)(ds:List PyData)(env:cm)(st:aQ)(Q:cm->aQ->Prop):Prop:=match ds with
 | d::ds=>g (.dat d) env st λenv' st'=>r ds env' st' Q
 | []=>False
@[reducible] def gT(n:Nat)(r:B2)(dv:DV)(env:cm)(st:aQ)(Q:cm->aQ->Prop):Prop:=match dv with
 | .dat (.tuple ds)=>ds.length=n/\r ds env st Q
 | _=>False
theorem KP{i:Nat}:AG K (wZ i) (gN i):=λH0 A0 G al H st s env v dv Q R I E h q k=>k _ _ al _ H .refl I (E.set h i) q
theorem kS{i:Nat}{x:Str}(hN:X.N.Nodup)(hi:X.N[i]?=some x)(hx:Loc X.env.scope x)(hf:X.fn x=true∨X.env.scope.names.lookup x=some .local:=by first | exact .inl rfl | exact .inr rfl | assumption):Vr X (.Name x pos) (gN i):=⟨_,dW hN hi hx hf,KP⟩
theorem O2:O1 X [] Gi:=⟨_,FG,λH0 A0 G al H st s env vs ds Q R I E h q k=>by
 unfold Gi at q;split at q
 ·have:=h.1
  cases vs with
  | nil=>exact⟨rfl,k _ _ al _ H .refl I E q⟩
  | cons v r=>simp at this
 ·exact q.elim⟩
theorem KQ{g:TG}{u:Np}{dg:zr}{r:B2}(a1:AG K g dg)(a2:XW K u r):XW K (Rn g u) (xk dg r):=λH0 A0 G al H st s env vs ds Q R I E h q k=>by
 unfold xk at q;split at q
 ·rename_i d ds';have:=h.1
  cases vs with
  | nil=>simp at this
  | cons v vs' =>
   have h':dC (aS K (Fb G al st) H) vs' ds':=⟨by simpa using this,λi p q a b=>h.2 (i + 1) p q (by simpa using a) (by simpa using b)⟩;refine⟨v,vs',rfl,a1 H0 A0 G al H st s env v (.dat d) _ _ I E (.d (h.2 0 v d rfl rfl)) q λenv' st' al' s' H' e' I' E' q'=>?_⟩;exact a2 H0 A0 G al' H' st' s' env' vs' ds' Q R I' E' (h'.imp λy x z=>z.ext e') q' (k.go I' e')
 ·exact q.elim
theorem B3{g:zr}{r:B2}(h1:Vr X e g)(h2:O1 X es r)(hs:(assignEach (e::es) X.env).map (·.2)=assign e X.env::(assignEach es X.env).map (·.2):=by rfl):O1 X (e::es) (xk g r):=by
 obtain⟨t,p1,a1⟩:=h1.h;obtain⟨u,p2,a2⟩:=h2.h;exact⟨_,w6 p1 p2 hs,KQ a1 a2⟩
theorem Za{m:Nat}{u:Np}{r:B2}(a1:XW K u r):AG K (VD K m u) (gT m r):=λH0 A0 G al H st s env v dv Q R I E h q k=>by
 unfold gT at q;split at q
 ·obtain⟨a,ys,rfl,g1,_,g2⟩:=aS.cJ h;exact⟨a,ys,rfl,g1,by rw[g2.1];exact q.1,a1 H0 A0 G al H st s env ys _ Q R I E g2 q.2 k⟩
 ·exact q.elim
theorem Tc{kx m:Nat}{r:B2}(hc:X.calm=true)(h:O1 X es r)(hn:(assignEach es X.env).length=m:=by rfl)(hst:(assignEach es X.env).findIdx? (·.1)=none:=by rfl):Vr X (.Tuple es kx pos) (gT m r):=by
 obtain⟨u,p1,a1⟩:=h.h;exact⟨_,JK hc p1 hn hst,Za a1⟩
@[reducible] def gS(eo ei:DX)(dv:DV)(env:cm)(st:aQ)(Q:cm->aQ->Prop):Prop:=eo env st λo aG=>ei env aG λi dw=>match o,i with
 | .ref k,.dat (.int j)=>vX dv dw λd t4=>match t4[k]? with
  | some (.live ds)=>∃m,D6 ds.length j=some m/\Q env (t4.set k (.live (ds.set m d)))
  | _=>False
 | _,_=>False
theorem Zb{to ti:TE}{eo ei:DX}(h1:AE K to eo)(h2:AE K ti ei):AG K (VE to ti Rv) (gS eo ei):=λH0 A0 G al H st s env v dv Q R I E h q k=>by
 refine h1 H0 A0 G al H st s env _ _ I E q λo aG bL vo H1 e1 I1 d1 q1=>?_
 refine h2 H0 A0 G bL H1 aG s env _ _ I1 (E.ext e1) q1 λi dw gK vi H2 e2 I2 d2 q2=>?_
 have yG:=e1.trans I1 e2;split at q2
 ·rename_i kk j;obtain⟨d,t4,E3,I3,F3,q3⟩:=qs I2 (h.ext yG) q2;split at q3
  ·rename_i ds hs;obtain⟨m,qm,q4⟩:=q3;obtain⟨a,r0,ha,rfl⟩:=(d1.ext e2).ext E3;obtain⟨a',ys,e0,g1,g2⟩:=I3.cel kk _ _ ha hs;cases e0;rw[aS.aW d2];have Zc:=yG.trans I2 E3;obtain⟨E4,I4⟩:=I3.put ha hs (g2.set F3 m);refine⟨a,ys,j,m,rfl,rfl,g1,by rw[g2.1];exact qm,?_⟩;have Ws:=Zc.trans I3 E4;exact k _ _ _ _ _ Ws I4 (E.ext Ws) q4
  ·exact q3.elim
 ·exact q2.elim
theorem Aw{o i:Expr}{eo ei:DX}(h1:cv X o eo)(h2:cv X i ei)(ha:∀v,assign (.Subscript o i pos) X.env v=(do
   let ov ← holding [v] (eval o X.env)
   let iv ← holding [v,ov] (eval i X.env)
   standAt pos
   holding [v,ov,iv] (setItem ov iv v)
   release [v,ov,iv] []):=by intro _;rfl):Vr X (.Subscript o i pos) (gS eo ei):=by
 obtain⟨t,p1,a1⟩:=h1.h;obtain⟨u,p2,a2⟩:=h2.h;exact⟨_,zV p1 p2 set_list ha,Zb a1 a2⟩
end
def Zd(K:ax)(e:DX):TE:=λs H R=>∃(H0:Hp) (A0:Addr->Prop) (G:Addr->Prop) (al:List (List Addr)) (st:aQ) (env:cm) (Q:DC),DI K H0 A0 G al H st/\uV K (Fb G al st) H al s env/\e env st Q/\Kn K H0 A0 G al H st Q R
def Td(K:ax)(e:DT):TT:=λs H R=>∃(H0:Hp) (A0:Addr->Prop) (G:Addr->Prop) (al:List (List Addr)) (st:aQ) (env:cm) (Q:Bool->aQ->Prop),DI K H0 A0 G al H st/\uV K (Fb G al st) H al s env/\e env st Q/\Wc K H0 A0 G al H st Q R
theorem cv.pe{X:Cx}{e:Expr}{d:DX}(h:cv X e d):PE X e (Zd X.K d):=by
 obtain⟨t,p,a⟩:=h.h;intro pins s σ H Q I ⟨H0,A0,G,al,st,env,Q',I',E,q,k⟩;exact p pins s σ H Q I (a H0 A0 G al H st σ env Q' Q I' E q k)
structure XX(X:Cx)(ifs:List Expr)(d:DT):Prop where
 h:V0 X ifs (Td X.K d)
@[reducible] def KR(_:cm)(st:aQ)(Q:Bool->aQ->Prop):Prop:=Q true st
theorem KS{X:Cx}:XX X [] KR:=⟨λpins s σ H Q I ⟨H0,A0,G,al,st,env,Q',I',E,q,k⟩=>kN pins s σ H Q I (k true st al H .refl I' q)⟩
def GB(own:Nat)(g:TG):Prop:=∀v s H R R',(∀(s2:St) (H2:Hp),s2.drop own=s.drop own->R s2 H2->R' s2 H2)->g v s H R->g v s H R'
theorem Wt{own i:Nat}(h:i < own):GB own (wZ i):=λv s H R R' f q=>f _ _ (by rw[List.drop_set_of_lt h]) q
@[reducible] def Gj(own:Nat)(ix:List Nat)(env:cm):cm:=List.replicate own none++ix.map λi=>(env[i]?).getD none
def LcP(fin:List PyData->aQ->DC->Prop)(dg:zr)(dt:DT)(de:DX)(xs:List PyData)(ok:aQ->Prop)(env:cm)(aG:aQ)(Q:DC):Prop:=(ok aG/\xs.length<=1000000)/\∃I:Nat->List PyData->Prop,I 0 [] /\
 (∀i ys d,I i ys->xs[i]?=some d->dg (.dat d) env aG λwc dw=>dw=aG/\dt wc aG λb t4=>t4=aG/\if b=true then de wc aG λy Ov=>vX y Ov λdy JO=>JO=aG/\I (i + 1) (ys++[dy])else I (i + 1) ys)/\∀ys,I xs.length ys->fin ys aG Q
@[reducible] def Hf(fin:List PyData->aQ->DC->Prop)(own:Nat)(ix:List Nat)(di:yH)(dg:zr)(dt:DT)(de:DX)(env:cm)(st:aQ)(Q:DC):Prop:=di env st λxs ok aG=>LcP fin dg dt de xs ok (Gj own ix env) aG Q
theorem RM{fin:List PyData->aQ->DC->Prop}{dg:zr}{dt:DT}{de:DX}{xs:List PyData}{env:cm}{aG:aQ}{Q:DC}(I:Nat->List PyData->Prop)(hl:xs.length<=1000000)(h0:I 0 [])
  (hs:∀i ys d,xs[i]?=some d->I i ys->dg (.dat d) env aG λwc dw=>dw=aG/\dt wc aG λb t4=>t4=aG/\if b=true then de wc aG λy Ov=>vX y Ov λdy JO=>JO=aG/\I (i + 1) (ys++[dy])else I (i + 1) ys) (hd:∀ys,I xs.length ys->fin ys aG Q):LcP fin dg dt de xs (λ_=>True) env aG Q:=⟨⟨trivial,hl⟩,I,h0,λi ys d a b=>hs i ys d b a,hd⟩
@[reducible] def O3:List PyData->aQ->DC->Prop:=λys st Q=>Q (.dat (.list ys)) st
@[reducible] def Te:List PyData->aQ->DC->Prop:=λys st Q=>Q (.ref st.length) (st++[.live ys])
theorem uV.rW{K:ax}{P:Addr->Prop}{H:Hp}{al:List (List Addr)}{s:St}{env:cm}(h:uV K P H al s env)(own:Nat)(ix:List Nat):uV K P H al (fN own ix s) (Gj own ix env):=by
 refine⟨by simp[fN],λi dv hi=>?_⟩;by_cases l:i < own
 ·rw[List.getElem?_append_left (by simpa using l),List.getElem?_replicate,if_pos l]at hi;cases hi
 ·rw[List.getElem?_append_right (by simp;omega),List.length_replicate,List.getElem?_map]at hi
  cases q:ix[i - own]? with
  | none=>rw[q]at hi;cases hi
  | some j =>
   rw[q]at hi;have hi:some ((env[j]?).getD none)=some (some dv):=hi
   have e:env[j]?=some (some dv):=by
    cases w:env[j]? with
    | none=>rw[w]at hi;cases hi
    | some u=>rw[w]at hi;exact hi
   obtain⟨v,h1,h2⟩:=h.2 j dv e;refine⟨v,?_,h2⟩;unfold fN;rw[List.getElem?_append_right (by simp;omega),List.length_replicate,List.getElem?_map,q];show some ((s[j]?).getD none)=_;rw[h1];rfl
theorem DI.Tf{K:ax}{H0:Hp}{A0:Addr->Prop}{G:Addr->Prop}{al:List (List Addr)}{H:Hp}{st:aQ}(I:DI K H0 A0 G al H st){D:Addr}{ys:List V}(h:H D=none):Ext al H st al (upd H D (.lst ys)) st/\DI K H0 A0 (λc=>G c∨c=D) al (upd H D (.lst ys)) st:=by
 have E:Ext al H st al (upd H D (.lst ys)) st:=.new h
 have g:∀c,(G c∨c=D)->G c∨H c=none:=λc hc=>by
  rcases hc with z | z
  ·exact .inl z
  ·rw[z];exact .inr h
 have keep:∀c o,H c=some o->upd H D (.lst ys) c=some o:=λc o e=>by rw[uN (nN e h)];exact e
 have I1:=I.new (o:=.lst ys) h;refine⟨E,I.len,I.nd,I1.ok,λk a c h1 h2=>(I.cel k a c h1 h2).pH g E (λc hc=>I.rZ hc) λ_ b _ o q=>keep _ _ q,I1.fr,I.nw,λa ha hc=>?_,λc hc=>?_⟩
 ·rcases hc with z | z
  ·exact I.gd a ha z
  ·obtain⟨o,e⟩:=I.ok a ha;rw[z,h]at e;cases e
 ·rcases hc with z | z
  ·exact I1.gs c z
  ·rw[z];exact⟨_,uS,.inl ⟨_,rfl⟩⟩
theorem DI.grow{K:ax}{H0:Hp}{A0:Addr->Prop}{G:Addr->Prop}{al:List (List Addr)}{H:Hp}{st:aQ}{D:Addr}{ys zs:List V}(I:DI K H0 A0 (λc=>G c∨c=D) al H st)(h:H D=some (.lst zs))(n0:A0 D∨H0 D=none):DI K H0 A0 (λc=>G c∨c=D) al (upd H D (.lst ys)) st/\∀v d,aS K (Fb (λc=>G c∨c=D) al st) H v d->aS K (Fb (λc=>G c∨c=D) al st) (upd H D (.lst ys)) v d:=by
 have sm:aF (cutH (Fb (λc=>G c∨c=D) al st) H) (cutH (Fb (λc=>G c∨c=D) al st) (upd H D (.lst ys))):=jF λc o n e=>⟨n,by rw[uN (λz=>n (.inl (.inr z)))];exact e⟩
 have rd:∀v d,aS K (Fb (λc=>G c∨c=D) al st) H v d->aS K (Fb (λc=>G c∨c=D) al st) (upd H D (.lst ys)) v d:=λv d z=>aZ.same sm z
 have nD:∀a∈al.flatten,a≠D:=λa ha z=>I.gd a ha (.inr z)
 refine⟨⟨I.len,I.nd,λa ha=>?_,λk fp c h1 h2=>?_,λc o n e=>?_,I.nw,I.gd,λc hc=>?_⟩,rd⟩
 ·rw[uN (nD a ha)];exact I.ok a ha
 ·have z:=I.cel k fp c h1 h2;have na:∀a∈fp,a≠D:=λa ha=>nD a (cQ h1 ha)
  cases c with
  | live xs =>
   obtain⟨a,ws,e0,g1,g2⟩:=z;exact⟨a,ws,e0,by rw[uN (na a (by rw[e0];exact aaN.mpr rfl))];exact g1,g2.imp λy x q=>rd y x q⟩
  | froz ds=>obtain⟨a,e0,g0⟩:=z;exact⟨a,e0,rd _ _ g0⟩
  | deep xs =>
   obtain⟨a,ws,e0,g1,g2⟩:=z;refine⟨a,ws,e0,by rw[uN (na a (by rw[e0];exact aaN.mpr rfl))];exact g1,g2.imp λy x q=>?_⟩
   cases x with
   | dat d=>exact rd _ _ q
   | ref j=>exact q
  | obj o=>exact⟨z.1,o.keep _ _ _ _ _ _ z.2 (λc hc=>I.rZ hc) (λa ha o e=>by rw[uN (na a ha)];exact e) sm⟩
 ·by_cases w:c=D
  ·rw[w]at n e;rcases n0 with y | y
   ·exact absurd y n
   ·rw[y]at e;cases e
  ·rw[uN w];exact I.fr c o n e
 ·by_cases w:c=D
  ·rw[w];exact⟨_,uS,.inl ⟨_,rfl⟩⟩
  ·rw[uN w];exact I.gs c hc
section
variable {X:Cx} {tg a b c e:Expr} {es:List Expr} {pos p:Pos} {ea eb ec:DX} {K:ax} {n:Nat} {d:yA}
theorem Ext.upG{al:List (List Addr)}{H:Hp}{st:aQ}{D:Addr}{ys:List V}{bL:List (List Addr)}{H1:Hp}{aG:aQ}(e:Ext al H st bL H1 aG)(hD:H D=none):Ext al H st bL (upd H1 D (.lst ys)) aG:=⟨λc o n q=>by rw[uN (λz=>by rw[z,hD]at q;cases q)];exact e.keep c o n q,e.pre,e.nws,e.lv⟩
def KU(K:ax)(fin:List PyData->aQ->DC->Prop):Prop:=∀(H0:Hp) (A0:Addr->Prop) (G:Addr->Prop) (al:List (List Addr)) (H:Hp) (st:aQ) (Q:DC) (R:VK) (D:Addr) (gK:List (List Addr)) (H2:Hp) (vs:List V) (ys:List PyData),DI K H0 A0 G al H st->H D=none->Kn K H0 A0 G al H st Q R->fin ys st Q->DI K H0 A0 (λc=>G c∨c=D) gK H2 st->Ext al H st gK H2 st->H2 D=some (.lst vs)->dC (aS K (Fb (λc=>G c∨c=D) gK st) H2) vs ys->R (.ref D) H2
theorem RN{fin:List PyData->aQ->DC->Prop}(hf:KU K fin)
  {own:Nat} {ix:List Nat} {wi:TI} {g:TG} {di:yH} {dg:zr} {dt:DT} {de:DX} (hi:AI K wi di) (hg:AG K g dg) (gb:GB own g):AE K (YO own ix wi g (Td K dt) (Zd K de)) (Hf fin own ix di dg dt de):=λH0 A0 G al H st s env Q R I E q k=>by
 refine hi H0 A0 G al H st s env _ _ I E q λJ xs ok aG bL H1 e1 I1 ir q1=>?_
 intro D hD;obtain⟨⟨hok,hlen⟩,Iv,i0,istep,ifin⟩:=q1;have k1:=k.go I1 e1;have E1:=E.ext e1
 have gG:∀c,(G c∨c=D)->G c∨H1 c=none:=λc hc=>by
  rcases hc with z | z
  ·exact .inl z
  ·rw[z];exact .inr hD
 have n0:=I1.n0 hD;obtain⟨EB,IB⟩:=I1.Tf (ys:=[]) hD;refine⟨λi m ys H2=>(m=xs.length - i/\i<=xs.length/\ys.length<=i)/\∃ds gK,Iv i ds/\H2 D=some (.lst ys)/\dC (aS K (Fb (λc=>G c∨c=D) gK aG) H2) ys ds/\DI K H0 A0 (λc=>G c∨c=D) gK H2 aG/\Ext bL H1 aG gK H2 aG,⟨_,⟨rfl,aba _,aba _⟩,[],bL,i0,uS,.nil,IB,EB⟩,?_⟩;rintro i m ys H2 ⟨⟨em,hil,hyl⟩,ds,gK,hI,gD,hP,I2,E2⟩;refine⟨gD,?_⟩;have IR:=ir (λc=>G c∨c=D) gK H2 aG i gG E2 I2 hok;by_cases hx:i < xs.length
 ·right
  obtain⟨d0,Wu⟩:∃d0,xs[i]?=some d0:=⟨xs[i],dh hx⟩;obtain⟨go,yl⟩:=IR.1 d0 Wu;refine⟨go,aaI (aaO hyl hil) (aaI hlen (by decide)),λys' H'=>∃m',m' < m/\(m'=xs.length - (i + 1)/\i + 1<=xs.length/\ys'.length<=i + 1)/\∃ds gK,Iv (i + 1) ds/\H' D=some (.lst ys')/\dC (aS K (Fb (λc=>G c∨c=D) gK aG) H') ys' ds/\DI K H0 A0 (λc=>G c∨c=D) gK H' aG/\Ext bL H1 aG gK H' aG,λys' H' ⟨m',lt,w⟩=>⟨m',lt,w⟩,λx H3 hy=>?_⟩;obtain⟨s3,r3⟩:=yl x H3 hy;have I3:=I2.same s3;have E3:Ext bL H1 aG gK H3 aG:=E2.trans I2 (.same s3);have P3:=hP.imp λy x z=>z.same s3
  have g3:=s3 _ _ gD;have En3:=(E1.pH gG E3).rW own ix;refine gb x _ H3 _ _ ?_ (hg H0 A0 (λc=>G c∨c=D) gK H3 aG _ _ x (.dat d0) _ (λσ2 H4=>Td K dt σ2 H4 λb H5=>if b=true then Zd K de σ2 H5 λv H6=>H6 D=some (.lst ys)/\∃m',m' < m/\(m'=xs.length - (i + 1)/\i + 1<=xs.length/\(ys++[v]).length<=i + 1)/\∃ds gK,Iv (i + 1) ds/\upd H6 D (.lst (ys++[v])) D=some (.lst (ys++[v]))/\dC (aS K (Fb (λc=>G c∨c=D) gK aG) (upd H6 D (.lst (ys++[v])))) (ys++[v]) ds/\DI K H0 A0 (λc=>G c∨c=D) gK (upd H6 D (.lst (ys++[v]))) aG/\Ext bL H1 aG gK (upd H6 D (.lst (ys++[v]))) aG else ∃m',m' < m/\(m'=xs.length - (i + 1)/\i + 1<=xs.length/\ys.length<=i + 1)/\∃ds gK,Iv (i + 1) ds/\H5 D=some (.lst ys)/\dC (aS K (Fb (λc=>G c∨c=D) gK aG) H5) ys ds/\DI K H0 A0 (λc=>G c∨c=D) gK H5 aG/\Ext bL H1 aG gK H5 aG) I3 En3 (.d r3) (istep i ds d0 hI Wu) λwc dw Ze s2 H4 e4 I4 En4 q4=>?_)
  ·intro s2 H4 ed q4;refine⟨?_,q4⟩;rw[ed];unfold fN;rw[List.drop_left' (by simp)]
  ·obtain⟨rfl,q4⟩:=q4;refine⟨H0,A0,_,Ze,dw,wc,_,I4,En4,q4,λb t4 al5 H5 e5 I5 q5=>?_⟩;obtain⟨rfl,q5⟩:=q5;have Zf:=e4.trans I4 e5;have E5:=E3.trans I3 Zf;have nL:∀(al':List (List Addr)) (H':Hp),DI K H0 A0 (λc=>G c∨c=D) al' H' t4->¬ Lv al' t4 D:=λal' H' I' z=>I'.gd D z.mem (.inr rfl)
   have g5:=Zf.keep D _ (nL _ _ I3) g3;have P5:=P3.imp λy x z=>aS.ext z Zf
   cases b with
   | false =>
    rw[aan aak]at q5;exact dj ⟨xs.length - (i + 1),by omega,⟨rfl,hx,by omega⟩,ds,al5,q5,g5,P5,I5,E5⟩
   | true =>
    rw[aaq rfl]at q5;refine iJ ⟨H0,A0,_,al5,t4,wc,_,I5,En4.ext e5,q5,λy Ov al6 v H6 e6 I6 d6 q6=>?_⟩;obtain⟨dy,JO,E7,I7,F7,rfl,q7⟩:=qs I6 d6 q6;have Zg:=e6.trans I6 E7;have E6:=E5.trans I5 Zg;have g6:=Zg.keep D _ (nL _ _ I5) g5;have P6:=P5.imp λy x z=>aS.ext z Zg
    obtain⟨I8,rd8⟩:=I7.grow (ys:=ys++[v]) g6 n0;refine⟨g6,xs.length - (i + 1),by omega,⟨rfl,hx,by simp;omega⟩,ds++[dy],al6,q7,uS,?_,I8,E6.upG hD⟩;exact(P6.imp λy x z=>rd8 y x z).append (.cons (rd8 _ _ F7) .nil)
 ·left
  have ei:i=xs.length:=by omega
  subst ei;exact⟨IR.2 (aaf _) (aaf _),hf H0 A0 G bL H1 aG Q R D gK H2 ys ds I1 hD k1 (ifin ds hI) I2 E2 gD hP⟩
end
section
variable {X:Cx} {tg a b c e:Expr} {es:List Expr} {pos p:Pos} {ea eb ec:DX} {K:ax} {n:Nat} {d:yA} {scope:Scope}
theorem DI.less{H0:Hp}{A0:Addr->Prop}{G G':Addr->Prop}{al:List (List Addr)}{H:Hp}{st:aQ}(I:DI K H0 A0 G' al H st)(s:∀c,G c->G' c):DI K H0 A0 G al H st:=by
 have sub:∀c,Fb G al st c->Fb G' al st c:=λc z=>by
  rcases z with z | z
  ·exact .inl (s c z)
  ·exact .inr z
 have sm:aF (cutH (Fb G' al st) H) (cutH (Fb G al st) H):=jF λc o n e=>⟨λz=>n (sub c z),e⟩
 refine⟨I.len,I.nd,I.ok,λk fp c h1 h2=>?_,I.fr,I.nw,λa ha z=>I.gd a ha (s a z),λc hc=>I.gs c (s c hc)⟩;have z:=I.cel k fp c h1 h2
 cases c with
 | live xs=>obtain⟨a,ws,e0,g1,g2⟩:=z;exact⟨a,ws,e0,g1,g2.imp λy x q=>aZ.same sm q⟩
 | froz ds=>obtain⟨a,e0,g0⟩:=z;exact⟨a,e0,aZ.same sm g0⟩
 | deep xs =>
  obtain⟨a,ws,e0,g1,g2⟩:=z;refine⟨a,ws,e0,g1,g2.imp λy x q=>?_⟩
  cases x with
  | dat d=>exact aZ.same sm q
  | ref j=>exact q
 | obj o=>exact⟨z.1,o.keep _ _ _ _ _ _ z.2 (λc hc=>I.rZ hc) (λ_ _ _ e=>e) sm⟩
theorem Wv:KU K O3:=λH0 A0 G al H st Q R D gK H2 vs ys I hD k q I2 E2 g P=>by
 have sub:∀c,Fb G gK st c->Fb (λc=>G c∨c=D) gK st c:=λc z=>by
  rcases z with z | z
  ·exact .inl (.inl z)
  ·exact .inr z
 have nD:¬ Fb G gK st D:=λz=>by
  rcases z with z | z
  ·exact I.RE hD (.inl z)
  ·exact I2.gd D z.mem (.inr rfl)
 exact k (.dat (.list ys)) st gK _ H2 E2 (I2.less λc z=>.inl z) (.d (aS.lst nD g (P.imp λy x z=>aS.sub z sub))) q
theorem DI.take{H0:Hp}{A0:Addr->Prop}{G:Addr->Prop}{al:List (List Addr)}{H:Hp}{st:aQ}{D:Addr}{vs:List V}{ys:List PyData}(I:DI K H0 A0 (λc=>G c∨c=D) al H st)(nG:¬ G D)(n0:A0 D∨H0 D=none)(g:H D=some (.lst vs))(P:dC (aS K (Fb (λc=>G c∨c=D) al st) H) vs ys):DI K H0 A0 G (al++[[D]]) H (st++[.live ys]):=by
 have nal:D∉al.flatten:=λz=>I.gd D z (.inr rfl)
 have mem:∀c∈(al++[[D]]).flatten,c∈al.flatten∨c=D:=λc hc=>by
  rw[abw,abp]at hc;rcases aaQ.mp hc with z | z
  ·exact .inl z
  ·exact .inr (bN z)
 have sub:∀c,Fb G (al++[[D]]) (st++[.live ys]) c->Fb (λc=>G c∨c=D) al st c:=λc z=>by
  rcases z with z | ⟨j,f,ce,z1,z2,z3,z4⟩
  ·exact .inl (.inl z)
  ·by_cases w:j < al.length
   ·rw[aac w]at z1;rw[aac (by rw[← I.len];exact w)]at z3;exact .inr ⟨j,f,ce,z1,z2,z3,z4⟩
   ·rw[aaj (by omega)]at z1;have:=aat z1;rw[bN this]at z2;exact .inl (.inr (bN z2))
 have sm:aF (cutH (Fb (λc=>G c∨c=D) al st) H) (cutH (Fb G (al++[[D]]) (st++[.live ys])) H):=jF λc o n e=>⟨λz=>n (sub c z),e⟩
 refine⟨by simp[I.len],?_,λc hc=>?_,λj fp c h1 h2=>?_,I.fr,λc hc=>?_,λc hc=>?_,λc hc=>I.gs c (.inl hc)⟩
 ·rw[List.flatten_append,List.flatten_singleton,List.nodup_append];exact⟨I.nd,by simp,λx hx y hy=>by rw[bN hy];intro z;exact nal (z ▸ hx)⟩
 ·rcases mem c hc with z | z
  ·exact I.ok c z
  ·rw[z];exact⟨_,g⟩
 ·by_cases w:j < al.length
  ·rw[aac w]at h1;rw[aac (by rw[← I.len];exact w)]at h2;have z:=I.cel j fp c h1 h2
   cases c with
   | live xs=>obtain⟨a,ws,e0,g1,g2⟩:=z;exact⟨a,ws,e0,g1,g2.imp λy x q=>aZ.same sm q⟩
   | froz ds=>obtain⟨a,e0,g0⟩:=z;exact⟨a,e0,aZ.same sm g0⟩
   | deep xs =>
    obtain⟨a,ws,e0,g1,g2⟩:=z;refine⟨a,ws,e0,g1,g2.imp λy x q=>?_⟩
    cases x with
    | dat d=>exact aZ.same sm q
    | ref i =>
     obtain⟨b,r,q1,q2⟩:=q;exact⟨b,r,by rw[aac (bU q1).1];exact q1,q2⟩
   | obj o=>exact⟨z.1,o.keep _ _ _ _ _ _ z.2 (λc hc=>I.rZ hc) (λ_ _ _ e=>e) sm⟩
  ·have hj:j=al.length:=by have:=(bU h1).1;simp at this;omega
   subst hj;rw[aaj (aaf _),aa3]at h1;rw[I.len,aaj (aaf _),aa3]at h2;cases h1;cases h2;exact⟨D,vs,rfl,g,P.imp λy x z=>aZ.same sm z⟩
 ·rcases mem c hc with z | z
  ·exact I.nw c z
  ·rw[z];exact n0
 ·rcases mem c hc with z | z
  ·exact λw=>I.gd c z (.inl w)
  ·rw[z];exact nG
theorem Ww:KU K Te:=λH0 A0 G al H st Q R D gK H2 vs ys I hD k q I2 E2 g P=>by
 have I3:=I2.take (λz=>I.RE hD (.inl z)) (I.n0 hD) g P;have gt:(gK++[[D]])[st.length]?=some [D]:=by rw[← I2.len,aaj (aaf _),aa3];rfl
 refine k (.ref st.length) (st++[.live ys]) (gK++[[D]]) _ H2 ⟨E2.keep,λj a r h=>?_,λc hc=>?_,λc ⟨j,f,ce,z1,z2,z3,z4⟩=>?_⟩ I3 ⟨D,[],gt,rfl⟩ q
 ·obtain⟨r',h'⟩:=E2.pre j a r h;exact⟨r',by rw[aac (bU h').1];exact h'⟩
 ·rw[abw,abp]at hc;rcases aaQ.mp hc with z | z
  ·exact E2.nws c z
  ·rw[bN z];exact .inr hD
 ·by_cases w:j < gK.length
  ·rw[aac w]at z1;rw[aac (by rw[← I2.len];exact w)]at z3;exact E2.lv c ⟨j,f,ce,z1,z2,z3,z4⟩
  ·rw[aaj (by omega)]at z1;have:=aat z1;rw[bN this]at z2;rw[bN z2];exact .inr hD
@[reducible] def Zh:Nat->List Nat->yH->zr->DT->DX->DX:=Hf O3
theorem Tg{fin:List PyData->aQ->DC->Prop}(hf:KU X.K fin)
  {elt iter:Expr} {ifs:List Expr} {g:TG} {di:yH} {dg:zr} {dt:DT} {de:DX} (own:Nat) (N:List Str) (ix:List Nat) (B:rX X own N ix scope) (hi:Vq X tg iter di)
  (hg:∀(C:Addr) (fp:List Addr) (s:Shared) (H:Hp),PG (X.rW N scope C fp s H) tg g) (ag:AG X.K g dg) (gb:GB own g)
  (hin:∀(C:Addr) (fp:List Addr) (s:Shared) (H:Hp),XX (X.rW N scope C fp s H) ifs dt/\cv (X.rW N scope C fp s H) elt de)
  (hs:∀x,foldedSetIterable iter X.env x=pure x:=by intro _;rfl):cv X (.ListComp elt [⟨tg,iter,ifs,0⟩] scope pos) (Hf fin own ix di dg dt de):=by
 obtain⟨wi,p1,a1⟩:=hi.h;exact⟨_,Ke own N ix B p1 (λC fp s H=>⟨hg C fp s H,(hin C fp s H).1.h,(hin C fp s H).2.pe⟩) hs,RN hf a1 ag gb⟩
theorem Wx{elt iter:Expr}{ifs:List Expr}{g:TG}{di:yH}{dg:zr}{dt:DT}{de:DX}(own:Nat)(N:List Str)(ix:List Nat)(B:rX X own N ix scope)(hi:Vq X tg iter di)
  (hg:∀(C:Addr) (fp:List Addr) (s:Shared) (H:Hp),PG (X.rW N scope C fp s H) tg g) (ag:AG X.K g dg) (gb:GB own g)
  (hin:∀(C:Addr) (fp:List Addr) (s:Shared) (H:Hp),XX (X.rW N scope C fp s H) ifs dt/\cv (X.rW N scope C fp s H) elt de)
  (hs:∀x,foldedSetIterable iter X.env x=pure x:=by intro _;rfl):cv X (.ListComp elt [⟨tg,iter,ifs,0⟩] scope pos) (Zh own ix di dg dt de):=Tg Wv own N ix B hi hg ag gb hin hs
@[reducible] def RO(st:aQ)(k:Nat):Bool:=match st[k]? with
 | some (.live _)=>true
 | some (.froz _)=>true
 | some (.deep _)=>true
 | _=>false
@[reducible] def Ax(eo:DX)(dx:yA)(env:cm)(st:aQ)(Q:DC):Prop:=eo env st λo aG=>match o with
 | .ref k=>RO aG k=true/\dx env aG λxs dw=>match xs with
  | [x]=>match dw[k]? with
   | some (.deep ys)=>ys.length < 1000000/\Q (.dat .none) (dw.set k (.deep (ys++[x])))
   | _=>vX x dw λd t4=>match t4[k]? with
    | some (.live ds)=>ds.length < 1000000/\Q (.dat .none) (t4.set k (.live (ds++[d])))
    | _=>False
  | _=>False
 | _=>False
@[reducible] def Th(eo:DX)(env:cm)(st:aQ)(Q:DC):Prop:=eo env st λo aG=>match o with
 | .ref k=>match aG[k]? with
   | some (.deep ds)=>∃d,ds[ds.length - 1]?=some d/\Q d (aG.set k (.deep ds.dropLast))
   | some (.live ds)=>∃d,ds[ds.length - 1]?=some d/\Q (.dat d) (aG.set k (.live ds.dropLast))
   | _=>False
 | _=>False
theorem wM{H0:Hp}{A0:Addr->Prop}{G:Addr->Prop}{al:List (List Addr)}{H:Hp}{st:aQ}(I:DI K H0 A0 G al H st){v:V}{k:Nat}(h:kQ K (Fb G al st) H al v (.ref k))(hl:RO st k=true):∃a ys,v=.ref a/\bt K H a ys:=by
 obtain⟨a,r,h1,rfl⟩:=h;have hk:k < st.length:=by rw[← I.len];exact(bU h1).1
 have hs:=dh hk;have z:=I.cel k _ _ h1 hs;refine⟨a,?_⟩
 cases q:st[k]with
 | live ds=>rw[q]at z;obtain⟨a',ys,e0,g,_⟩:=z;cases e0;exact⟨ys,rfl,bt.of g⟩
 | deep ds=>rw[q]at z;obtain⟨a',ys,e0,g,_⟩:=z;cases e0;exact⟨ys,rfl,bt.of g⟩
 | froz ds =>
  rw[q]at z;obtain⟨a',e0,g0⟩:=z;cases e0;obtain⟨b,ys,g1,g2,_⟩:=aS.eE g0;cases g1;exact⟨ys,rfl,g2⟩
 | obj o =>
  unfold RO at hl;rw[hs,q]at hl;cases hl
theorem xm{H:Hp}{v:V}(h:∃a ys,v=.ref a/\bt K H a ys):XM K "list" v H:=by
 obtain⟨a,ys,rfl,g⟩:=h;exact .inl ⟨rfl,ys,g⟩
theorem ck{apos cpos:Pos}{o:Expr}{eo:DX}(ho:cv X o eo)(ha:FU X (e::es) n d)(hbase:attributeBase o "append" X.env (eval o X.env)=eval o X.env:=by rfl)
  (hfew:((backTo cpos (starEach (e::es) X.env)).all (λx=>!x.1)&&(backToKw cpos (keywordEach [] X.env)).all (λx=>x.1.isSome)
   && decide ((e::es).length + ([]:List Keyword).length + (if ([]:List Keyword).isEmpty then 0 else 1) < 30))=true:=by rfl)
  (hline:(apos.endLine == cpos.line)=true:=by rfl) (hs:starEach (e::es) X.env=(false,eval e X.env)::starEach es X.env:=by rfl) (hplain:(backTo cpos (starEach es X.env)).any (·.1)=false:=by rfl) :
  cv X (.Call (.Attribute o "append" apos) (e::es) [] cpos) (Ax eo d):=by
 obtain⟨t,p1,a1⟩:=ho.h;obtain⟨u,p2,a2⟩:=ha.h;refine⟨_,kq aae aaA aaB cj p1 p2 hbase hfew hline hs hplain,λH0 A0 G al H st s env Q R I E q k=>a1 H0 A0 G al H st s env _ _ I E q λx aG bL v H1 e1 I1 d1 q1=>?_⟩;split at q1
 ·rename_i kk;refine⟨xm (wM I1 d1 q1.1),a2 H0 A0 G bL H1 aG s env _ _ I1 (E.ext e1) q1.2 λxs dw gK vs H2 e2 I2 d2 q2=>?_⟩;have q2:=q2.2;split at q2
  ·obtain⟨w,rfl,hw⟩:=KL d2;have yG:=e1.trans I1 e2;split at q2
   ·rename_i zs hs;obtain⟨a,r0,ha,rfl⟩:=d1.ext e2;obtain⟨a',ys,e0,g1,g2⟩:=I2.cel kk _ _ ha hs;cases e0;obtain⟨E4,I4⟩:=I2.putD ha hs (g2.append (.cons hw .nil));exact⟨a,ys,w,rfl,rfl,g1,by rw[g2.1];exact aao q2.1 (by decide),(k.go I2 yG) _ _ _ _ _ E4 I4 (.d .non) q2.2⟩
   ·obtain⟨dd,t4,E3,I3,F3,q3⟩:=qs I2 hw q2;split at q3
    ·rename_i ds hs;have e13:=yG.trans I2 E3;obtain⟨a,r0,ha,rfl⟩:=(d1.ext e2).ext E3;obtain⟨a',ys,e0,g1,g2⟩:=I3.cel kk _ _ ha hs;cases e0;obtain⟨E4,I4⟩:=I3.put ha hs (g2.append (.cons F3 .nil));exact⟨a,ys,w,rfl,rfl,g1,by rw[g2.1];exact aao q3.1 (by decide),(k.go I3 e13) _ _ _ _ _ E4 I4 (.d .non) q3.2⟩
    ·exact q3.elim
  ·exact q2.elim
 ·exact q1.elim
theorem sj{α:Type}{R:V->α->Prop}{ys:List V}{xs:List α}(h:dC R ys xs):dC R ys.dropLast xs.dropLast:=by
 rw[acn,acn,h.1];exact h.take _
theorem qu{apos cpos:Pos}{o:Expr}{eo:DX}(ho:cv X o eo)(hbase:attributeBase o "pop" X.env (eval o X.env)=eval o X.env:=by rfl)(hline:(apos.endLine == cpos.line)=true:=by rfl):cv X (.Call (.Attribute o "pop" apos) [] [] cpos) (Th eo):=by
 obtain⟨t,p1,a1⟩:=ho.h;refine⟨_,iI aae aaJ aaK jg p1 hbase hline,λH0 A0 G al H st s env Q R I E q k=>a1 H0 A0 G al H st s env _ _ I E q λx aG bL v H1 e1 I1 d1 q1=>?_⟩;split at q1
 ·rename_i kk;split at q1
  ·rename_i zs hs;refine⟨xm (wM I1 d1 (by unfold RO;rw[hs])),?_⟩;obtain⟨dx,hd,q2⟩:=q1;obtain⟨a,r0,ha,rfl⟩:=d1;obtain⟨a',ys,e0,g1,g2⟩:=I1.cel kk _ _ ha hs;cases e0;obtain⟨y,hy,ry⟩:=g2.at hd;obtain⟨E4,I4⟩:=I1.putD ha hs (sj g2);exact⟨a,ys,y,rfl,rfl,g1,by rw[g2.1];exact hy,(k.go I1 e1) _ _ _ _ _ E4 I4 (ry.ext E4) q2⟩
  ·rename_i ds hs;refine⟨xm (wM I1 d1 (by unfold RO;rw[hs])),?_⟩;obtain⟨dd,hd,q2⟩:=q1;obtain⟨a,r0,ha,rfl⟩:=d1;obtain⟨a',ys,e0,g1,g2⟩:=I1.cel kk _ _ ha hs;cases e0;obtain⟨y,hy,ry⟩:=g2.at hd;obtain⟨E4,I4⟩:=I1.put ha hs (sj g2);exact⟨a,ys,y,rfl,rfl,g1,by rw[g2.1];exact hy,(k.go I1 e1) _ _ _ _ _ E4 I4 (.d (ry.ext E4)) q2⟩
  ·exact q1.elim
 ·exact q1.elim
structure fG where
 nx:cm->aQ->Prop
 rt:DC
 bk:cm->aQ->Prop:=λ_ _=>False
 ct:cm->aQ->Prop:=λ_ _=>False
abbrev DS:=fG->cm->aQ->Prop
structure O4(K:ax)(H0:Hp)(A0:Addr->Prop)(G:Addr->Prop)(al:List (List Addr))(H:Hp)(st:aQ)(DD:fG)(D:Ends):Prop where
 nx:RL K H0 A0 G al H st DD.nx D.nx
 rt:Kn K H0 A0 G al H st DD.rt D.rt
 bk:RL K H0 A0 G al H st DD.bk D.bk
 ct:RL K H0 A0 G al H st DD.ct D.ct
theorem O4.go{H0:Hp}{A0:Addr->Prop}{G:Addr->Prop}{al bL:List (List Addr)}{H H1:Hp}{st aG:aQ}{DD:fG}{D:Ends}(k:O4 K H0 A0 G al H st DD D)(I:DI K H0 A0 G bL H1 aG)(e:Ext al H st bL H1 aG):O4 K H0 A0 G bL H1 aG DD D:=⟨k.nx.go I e,k.rt.go I e,k.bk.go I e,k.ct.go I e⟩
def AS(K:ax)(t:TS)(s:DS):Prop:=∀(H0:Hp) (A0:Addr->Prop) (G:Addr->Prop) (al:List (List Addr)) (H:Hp) (st:aQ) (σ:St) (env:cm) (DD:fG) (D:Ends),DI K H0 A0 G al H st->uV K (Fb G al st) H al σ env->s DD env st->O4 K H0 A0 G al H st DD D->t D σ H
structure Ju(X:Cx)(stm:Stmt)(s:DS):Prop where
 h:∃t,PS X stm t/\AS X.K t s
structure Ay(X:Cx)(stms:List Stmt)(s:DS):Prop where
 h:∃t,BG X stms t/\AS X.K t s
@[reducible] def Gk(DD:fG)(env:cm)(st:aQ):Prop:=DD.nx env st
@[reducible] def B4(s u:DS)(DD:fG)(env:cm)(st:aQ):Prop:=s {DD with nx:=u DD} env st
@[reducible] def KW(e:DX)(DD:fG)(env:cm)(st:aQ):Prop:=e env st λ_ aG=>DD.nx env aG
@[reducible] def Ti(e:DX)(DD:fG)(env:cm)(st:aQ):Prop:=e env st DD.rt
@[reducible] def Zi(c:DT)(s u:DS)(DD:fG)(env:cm)(st:aQ):Prop:=c env st λb aG=>if b=true then s DD env aG else u DD env aG
@[reducible] def Hg(e:DX)(g:zr)(DD:fG)(env:cm)(st:aQ):Prop:=e env st λdv aG=>g dv env aG DD.nx
@[reducible] def KY(c:DT)(s:DS)(DD:fG)(env:cm)(st:aQ):Prop:=∃W:Nat->cm->aQ->Prop,(∃m,W m env st)/\∀m env st,W m env st->c env st λb aG=>if b=true then s {DD with nx:=λenv' st'=>∃m',m' < m/\W m' env' st',ct:=λenv' st'=>∃m',m' < m/\W m' env' st',bk:=DD.nx} env aG else DD.nx env aG
def RP(g:zr)(s:DS)(DD:fG)(xs:List PyData)(ok:aQ->Prop)(env:cm)(st:aQ):Prop:=∃W:Nat->cm->aQ->Prop,W 0 env st/\∀i env st,i<=xs.length->W i env st->ok st/\(i=xs.length->DD.nx env st)/\∀d,xs[i]?=some d->g (.dat d) env st λenv' st'=>s {DD with nx:=W (i + 1),ct:=W (i + 1),bk:=DD.nx} env' st'
@[reducible] def Tj(di:yH)(g:zr)(s:DS)(DD:fG)(env:cm)(st:aQ):Prop:=di env st λxs ok aG=>RP g s DD xs ok env aG
theorem pk{g:zr}{s:DS}{DD:fG}{xs:List PyData}{ok:aQ->Prop}{env:cm}{st:aQ}(W:Nat->cm->aQ->Prop)(h0:W 0 env st)(hok:∀i env st,W i env st->ok st)
  (hs:∀i env st d,xs[i]?=some d->W i env st->g (.dat d) env st λenv' st'=>s {DD with nx:=W (i + 1),ct:=W (i + 1),bk:=DD.nx} env' st') (hd:∀env st,W xs.length env st->DD.nx env st):RP g s DD xs ok env st :=
 ⟨W,h0,λi env st _ w=>⟨hok i env st w,λe=>hd env st (e ▸ w),λd h=>hs i env st d h w⟩⟩
theorem Gm{c:DT}{s:DS}{DD:fG}{env:cm}{st:aQ}(W:Nat->cm->aQ->Prop)(h0:∃m,W m env st)
  (hs:∀m env st,W m env st->c env st λb aG=>if b=true then s {DD with nx:=λenv' st'=>∃m',m' < m/\W m' env' st',ct:=λenv' st'=>∃m',m' < m/\W m' env' st',bk:=DD.nx} env aG else DD.nx env aG):KY c s DD env st:=⟨W,h0,hs⟩
variable {stm:Stmt} {stms rest:List Stmt} {s u:DS}
theorem O5:AS K iu Gk:=λH0 A0 G al H st σ env DD D I E h k=>k.nx env st al σ H .refl I E h
theorem KZ{t r:TS}(h1:AS K t s)(h2:AS K r u):AS K (NZ t r) (B4 s u):=λH0 A0 G al H st σ env DD D I E h k=>h1 H0 A0 G al H st σ env _ _ I E h ⟨λenv' st' al' σ' H' e' I' E' q'=>h2 H0 A0 G al' H' st' σ' env' DD D I' E' q' (k.go I' e'),k.rt,k.bk,k.ct⟩
theorem cu:Ay X [] Gk:=⟨_,aX,O5⟩
theorem bW(h1:Ju X stm s)(h2:Ay X rest u):Ay X (stm::rest) (B4 s u):=by
 obtain⟨t,p1,a1⟩:=h1.h;obtain⟨r,p2,a2⟩:=h2.h;exact⟨_,qK p1 p2,KZ a1 a2⟩
theorem aP(h1:Ju X stm s):Ay X [stm] s:=by
 obtain⟨t,p1,a1⟩:=h1.h;exact⟨_,qO p1,a1⟩
theorem cU(he:cv X e ea)(hs:swapsWith e none pos.line X.env=pure false:=by rfl):Ju X (.Expr e pos) (KW ea):=by
 obtain⟨t,p1,a1⟩:=he.h;exact⟨_,bC p1 hs,λH0 A0 G al H st σ env DD D I E h k=>a1 H0 A0 G al H st σ env _ _ I E h λdv aG bL v H1 e1 I1 d1 q1=>k.nx env aG bL σ H1 e1 I1 (E.ext e1) q1⟩
theorem cR(he:cv X e ea):Ju X (.Return (some e) pos) (Ti ea):=by
 obtain⟨t,p1,a1⟩:=he.h;exact⟨_,aE p1,λH0 A0 G al H st σ env DD D I E h k=>a1 H0 A0 G al H st σ env _ _ I E h k.rt⟩
theorem da{c:Expr}{tc:DT}{x y:List Stmt}(hc:Dw X c tc)(ha:Ay X x s)(hb:Ay X y u):Ju X (.If c x y pos) (Zi tc s u):=by
 obtain⟨t,p1,a1⟩:=hc.h;obtain⟨r,p2,a2⟩:=ha.h;obtain⟨w,p3,a3⟩:=hb.h;refine⟨_,bg p1 p2 p3,λH0 A0 G al H st σ env DD D I E h k=>a1 H0 A0 G al H st σ env _ _ I E h λb aG bL H1 e1 I1 q1=>?_⟩
 cases b with
 | true=>exact iJ (a2 H0 A0 G bL H1 aG σ env DD D I1 (E.ext e1) (by rw[aaq rfl]at q1;exact q1) (k.go I1 e1))
 | false=>exact dj (a3 H0 A0 G bL H1 aG σ env DD D I1 (E.ext e1) (by rw[aan aak]at q1;exact q1) (k.go I1 e1))
theorem Ej{t:TE}{g:TG}{dg:zr}(h1:AE K t ea)(h2:AG K g dg):AS K (N0 t g) (Hg ea dg):=λH0 A0 G al H st σ env DD D I E h k=>h1 H0 A0 G al H st σ env _ _ I E h λdv aG bL v H1 e1 I1 d1 q1=>h2 H0 A0 G bL H1 aG σ env v dv _ _ I1 (E.ext e1) d1 q1 (k.nx.go I1 e1)
theorem bh{i:Nat}{x:Str}{pos':Pos}(hN:X.N.Nodup)(hi:X.N[i]?=some x)(hx:Loc X.env.scope x)(he:cv X e ea)(hs:swapsWith e (some (.Name x pos')) pos.line X.env=pure false:=by rfl)(hf:X.fn x=true∨X.env.scope.names.lookup x=some .local:=by first | exact .inl rfl | exact .inr rfl | assumption):Ju X (.Assign [.Name x pos'] e pos) (Hg ea (gN i)):=by
 obtain⟨t,p1,a1⟩:=he.h;exact⟨_,bI hN hi hx p1 hs hf,Ej a1 KP⟩
theorem Az{g:zr}(he:cv X e ea)(hg:Vr X tg g)(hs:swapsWithSole [tg] e pos.line X.env=pure false:=by rfl)(hw:swappedStores [tg] e X.env=pure none:=by rfl)(h1:(assignEach [tg] X.env).map (·.2)=[assign tg X.env]:=by rfl):Ju X (.Assign [tg] e pos) (Hg ea g):=by
 obtain⟨t,p1,a1⟩:=he.h;obtain⟨gg,p2,a2⟩:=hg.h;exact⟨_,zW p1 p2 hs hw h1,Ej a1 a2⟩
theorem Hh{fin:List PyData->aQ->DC->Prop}(hf:KU X.K fin)
  {i:Nat} {x:Str} {pos' spos:Pos} (hN:X.N.Nodup) (hxi:X.N[i]?=some x) (hx:Loc X.env.scope x) {elt iter:Expr} {ifs:List Expr} {g:TG} {di:yH} {dg:zr} {dt:DT} {de:DX} (own:Nat) (N:List Str) (ix:List Nat) (B:rX X own N ix scope) (hi:Vq X tg iter di)
  (hg:∀(C:Addr) (fp:List Addr) (s:Shared) (H:Hp),PG (X.rW N scope C fp s H) tg g) (ag:AG X.K g dg) (gb:GB own g)
  (hin:∀(C:Addr) (fp:List Addr) (s:Shared) (H:Hp),XX (X.rW N scope C fp s H) ifs dt/\cv (X.rW N scope C fp s H) elt de)
  (hsw:swapsWith (.ListComp elt [⟨tg,iter,ifs,0⟩] scope pos) (some (.Name x pos')) spos.line X.env=pure true:=by rfl) (hs:∀x,foldedSetIterable iter X.env x=pure x:=by intro _;rfl)
  (hfn:X.fn x=true∨X.env.scope.names.lookup x=some .local:=by first | exact .inl rfl | exact .inr rfl):Ju X (.Assign [.Name x pos'] (.ListComp elt [⟨tg,iter,ifs,0⟩] scope pos) spos) (Hg (Hf fin own ix di dg dt de) (gN i)):=by
 obtain⟨wi,p1,a1⟩:=hi.h;exact⟨_,mK hN hxi hx own N ix B p1 (λC fp s H=>⟨hg C fp s H,(hin C fp s H).1.h,(hin C fp s H).2.pe⟩) hsw hs hfn,Ej (RN hf a1 ag gb) KP⟩
theorem B5{c:Expr}{tc:DT}{body:List Stmt}(hp:PassesOwn (model X.prog X.w) X.A X.env X.xe)(hc:Dw X c tc)(hb:Ay X body s):Ju X (.While c body [] pos) (KY tc s):=by
 obtain⟨t,p1,a1⟩:=hc.h;obtain⟨r,p2,a2⟩:=hb.h;refine⟨_,w8 hp p1 p2,λH0 A0 G al H st σ env DD D I E h k=>?_⟩;obtain⟨W,⟨m0,w0⟩,step⟩:=h;refine⟨λm σ' H'=>∃env' st' al',Ext al H st al' H' st'/\DI X.K H0 A0 G al' H' st'/\uV X.K (Fb G al' st') H' al' σ' env'/\W m env' st',⟨m0,env,st,al,.refl,I,E,w0⟩,?_⟩;rintro m σ1 H1 ⟨O6,aG,bL,e1,I1,E1,w1⟩;refine a1 H0 A0 G bL H1 aG σ1 O6 _ _ I1 E1 (step m O6 aG w1) λb dw gK H2 e2 I2 q2=>?_
 have yG:=e1.trans I1 e2
 cases b with
 | false=>exact dj (k.nx O6 dw gK σ1 H2 yG I2 (E1.ext e2) (by rw[aan aak]at q2;exact q2))
 | true =>
  rw[aaq rfl]at q2;refine iJ ⟨_,λσ' H' z=>z,a2 H0 A0 G gK H2 dw σ1 O6 _ _ I2 (E1.ext e2) q2 ⟨?_,k.rt.go I2 yG,k.nx.go I2 yG,?_⟩⟩
  ·rintro env' st' al' σ' H' e' I' E' ⟨m',lt,w'⟩;exact⟨m',lt,env',st',al',yG.trans I2 e',I',E',w'⟩
  ·rintro env' st' al' σ' H' e' I' E' ⟨m',lt,w'⟩;exact⟨m',lt,env',st',al',yG.trans I2 e',I',E',w'⟩
theorem ue{iter:Expr}{body:List Stmt}{di:yH}{g:zr}(hp:PassesOwn (model X.prog X.w) X.A X.env X.xe)(hc:X.calm=true)(hi:Vq X tg iter di)(hg:Vr X tg g)(hb:Ay X body s)(hs:∀x,foldedSetIterable iter X.env x=pure x:=by intro _;rfl):Ju X (.For tg iter body [] pos) (Tj di g s):=by
 obtain⟨t,p1,a1⟩:=hi.h;obtain⟨gg,p2,a2⟩:=hg.h;obtain⟨r,p3,a3⟩:=hb.h;refine⟨_,zX hp hc p1 p2 p3 hs,λH0 A0 G al H st σ env DD D I E h k=>a1 H0 A0 G al H st σ env _ _ I E h λJ xs ok aG bL H1 e1 I1 ir q1=>?_⟩;obtain⟨W,w0,step⟩:=q1;refine⟨λi m σ' H'=>(m=xs.length - i/\i<=xs.length)/\∃env' st' al',Ext bL H1 aG al' H' st'/\DI X.K H0 A0 G al' H' st'/\uV X.K (Fb G al' st') H' al' σ' env'/\W i env' st',⟨_,⟨rfl,aba _⟩,env,aG,bL,.refl,I1,E.ext e1,w0⟩,?_⟩;rintro i m σ2 H2 ⟨⟨em,hil⟩,wc,dw,gK,e2,I2,E2,w2⟩;obtain⟨hok,hnx,hst⟩:=step i wc dw hil w2;have IR:=ir G gK H2 dw i (λc z=>.inl z) e2 I2 hok;have yG:=e1.trans I1 e2;by_cases hx:i < xs.length
 ·obtain⟨d0,Wu⟩:∃d0,xs[i]?=some d0:=⟨xs[i],dh hx⟩;obtain⟨go,yl⟩:=IR.1 d0 Wu;refine .inr ⟨go,λσ' H'=>∃m',m' < m/\(m'=xs.length - (i + 1)/\i + 1<=xs.length)/\∃env' st' al',Ext bL H1 aG al' H' st'/\DI X.K H0 A0 G al' H' st'/\uV X.K (Fb G al' st') H' al' σ' env'/\W (i + 1) env' st',λσ' H' z=>z,λx H3 hy=>?_⟩;obtain⟨s3,r3⟩:=yl x H3 hy;have I3:=I2.same s3;have E23:Ext gK H2 dw gK H3 dw:=.same s3;refine a2 H0 A0 G gK H3 dw σ2 wc x (.dat d0) _ _ I3 (E2.ext E23) (.d r3) (hst d0 Wu) λZj Ov Ze σ4 H4 e4 I4 E4 q4=>?_
  have Zk:=E23.trans I3 e4;have Ws:=e2.trans I2 Zk;refine a3 H0 A0 G Ze H4 Ov σ4 Zj _ _ I4 E4 q4 ⟨?_,k.rt.go I4 (yG.trans I2 Zk),k.nx.go I4 (yG.trans I2 Zk),?_⟩
  ·intro env' st' al' σ' H' e' I' E' w';exact⟨xs.length - (i + 1),by omega,⟨rfl,hx⟩,env',st',al',Ws.trans I4 e',I',E',w'⟩
  ·intro env' st' al' σ' H' e' I' E' w';exact⟨xs.length - (i + 1),by omega,⟨rfl,hx⟩,env',st',al',Ws.trans I4 e',I',E',w'⟩
 ·have ei:i=xs.length:=by omega
  exact .inl ⟨IR.2 (by omega) (by omega),k.nx wc dw gK σ2 H2 yG I2 E2 (hnx ei)⟩
def Dx(X:Cx)(body:List Stmt)(DD:fG)(env:cm)(st:aQ):Prop:=∃s,Ay X body s/\s DD env st
theorem aD{DD:fG}{env:cm}{st:aQ}(h:Ju X stm s)(k:∀R:cm->aQ->Prop,(∀env' st',Dx X rest DD env' st'->R env' st')->s {DD with nx:=R} env st):Dx X (stm::rest) DD env st:=by
 obtain⟨t,p1,a1⟩:=h.h;refine⟨B4 s (λDD env st=>Dx X rest DD env st),⟨NZ t (λD σ H=>∃r,BG X rest r/\r D σ H),qK p1 (λpins s σ H D I ⟨_,hu,q⟩=>hu pins s σ H D I q),KZ a1 λH0 A0 G al H st σ env DD D I E h k=>?_⟩,k _ λ_ _ z=>z⟩;obtain⟨s2,⟨r,p2,a2⟩,q⟩:=h;exact⟨r,p2,a2 H0 A0 G al H st σ env DD D I E q k⟩
theorem fS{DD:fG}{env:cm}{st:aQ}(h:Ju X stm s)(k:s DD env st):Dx X [stm] DD env st:=⟨s,aP h,k⟩
theorem fT{N:List Str}{body:List Stmt}{vs:List V}{ds:List PyData}{H:Hp}{Q:VK}{P:Addr->Prop}(hP:∀c,P c->∃o,H c=some o/\ua o)(hv:dC (aS X.K P H) vs ds)
  (h:Dx X body {nx:=λ_ _=>∀v H',aF H H'->aS X.K P H' v .none->Q v H',rt:=λdv st=>vX dv st λd _=>∀v H',aF H H'->aS X.K P H' v d->Q v H'} (ds.map (λd=>some (DV.dat d))++List.replicate (N.length - ds.length) none) []) :
  ∃t,BG X body t/\t {nx:=λ_ H'=>Q .non H',rt:=Q} (start N vs) H:=by
 obtain⟨s,⟨t,p1,a1⟩,q⟩:=h;have lv:∀c,¬ Lv [] [] c:=λc ⟨k,xs,ce,h,_⟩=>by simp at h
 have I:DI X.K H (λ_=>False) P [] H []:=⟨rfl,List.nodup_nil,λ_ h=>by simp at h,λk a c h=>by simp at h,λc o _ e=>e,λ_ h=>by simp at h,λ_ h=>by simp at h,hP⟩
 have fb:∀c,Fb P [] [] c->P c:=λc z=>by
  rcases z with z | z
  ·exact z
  ·exact absurd z (lv c)
 refine⟨t,p1,a1 H (λ_=>False) P [] H [] _ _ _ _ I ⟨by unfold start;simp[hv.1],λi dv hi=>?_⟩ q ⟨λenv' st' al' σ' H' e' I' E' q'=>?_,λdv st' al' v H' e' I' d' q'=>?_,λenv' st' al' σ' H' e' I' E' q'=>q'.elim,λenv' st' al' σ' H' e' I' E' q'=>q'.elim⟩⟩
 ·by_cases l:i < ds.length
  ·rw[List.getElem?_append_left (by simpa using l),List.getElem?_map,dh l]at hi;cases hi;obtain⟨y,hy,hr⟩:=hv.at (dh l);refine⟨y,?_,.d (aS.sub hr fb)⟩;unfold start;rw[List.getElem?_append_left (by rw[List.length_map,hv.1];exact l),List.getElem?_map,hy];rfl
  ·rw[List.getElem?_append_right (by simp;omega)]at hi;rw[List.getElem?_replicate]at hi;split at hi
   ·cases hi
   ·cases hi
 ·exact q' .non H' (λc o e=>I'.fr c o id e) .non
 ·obtain⟨d,dw,_,I2,F,q2⟩:=qs I' d' q';exact q2 v H' (λc o e=>I'.fr c o id e) (aS.sub F λc z=>.inl z)
end
@[reducible] def Wy:DV->String
 | .dat .none=>"NoneType"
 | .dat (.bool _)=>"bool"
 | .dat (.int _)=>"int"
 | .dat (.str _)=>"str"
 | .dat (.list _)=>"list"
 | .dat (.tuple _)=>"tuple"
 | .dat (.dict _)=>"dict"
 | .ref _=>"list"
def IsT(K:ax)(n:String)(f:String->Bool):Prop:=∀t∈(["NoneType","bool","int","str","list","tuple"]:List String),PySem.W.kitOne K (.type t) (.type n)=some (f t)
@[reducible] def uX(n:String):String->Bool:=λt=>t == n
@[reducible] def Tn(f:String->Bool)(ea:DX)(env:cm)(st:aQ)(Q:DC):Prop:=ea env st λx aG=>match x with
 | .dat d=>Q (.dat (.bool (f (Wy (.dat d))))) aG
 | .ref k=>RO aG k=true/\Q (.dat (.bool (f "list"))) aG
theorem kQ.ty{K:ax}{P:Addr->Prop}{al:List (List Addr)}{H:Hp}{v:V}{d:PyData}(h:kQ K P H al v (.dat d)):Oq K H v (Wy (.dat d))/\Wy (.dat d)∈(["NoneType","bool","int","str","list","tuple"]:List String):=by
 cases d with
 | none=>rw[aS.jY h];exact⟨.non,by simp⟩
 | bool b=>rw[aS.mL h];exact⟨.bl _,by simp⟩
 | int b=>rw[aS.aW h];exact⟨.int _,by simp⟩
 | str b=>rw[aS.dE h];exact⟨.str _,by simp⟩
 | list ds=>obtain⟨b,ys,rfl,g2,_⟩:=aS.eE h;exact⟨.lst g2,by simp⟩
 | tuple ds=>obtain⟨b,ys,rfl,g2,_⟩:=aS.cJ h;exact⟨.tup g2,by simp⟩
 | dict kv=>have h:aZ K _ v (.dict kv):=h;cases h
theorem Ek{X:Cx}{a:Expr}{ea:DX}{pos p p2:Pos}{T:Str}{n:String}{f:String->Bool}(hf:IsT X.K n f)(hg:Gl X "isinstance")(hm:X.mg "isinstance"=none)(hg2:Gl X T)(hm2:X.mg T=none)(hb:bootBuiltins T=some (.type n))(ha:cv X a ea)(hn:T≠"__name__":=by decide)(hd:(T == ("__debug__" : Str))=false:=by decide)
  (h1:starEach [a,.Name T p2] X.env=(false,eval a X.env)::starEach [.Name T p2] X.env:=by rfl):cv X (.Call (.Name "isinstance" p) [a,.Name T p2] [] pos) (Tn f ea):=by
 obtain⟨t,p1,a1⟩:=ha.h;refine⟨_,bP Kb hg hm yF (pK p1 (pK (NY (v:=.ty n) hg2 hm2 hb rfl hn hd) pN rfl) h1) (by decide) (by decide) h1 rfl,λH0 A0 G al H st s env Q R I E q k=>a1 H0 A0 G al H st s env _ _ I E q λx aG bL v H1 e1 I1 d1 q1=>?_⟩;split at q1
 ·obtain⟨ty,mem⟩:=d1.ty;exact⟨v,n,_,_,rfl,ty,hf _ mem,(k.go I1 e1).here I1 (.d (.bl _)) q1⟩
 ·obtain⟨b,ys,rfl,g⟩:=wM I1 d1 q1.1;exact⟨_,n,"list",_,rfl,.lst g,hf _ (by simp),(k.go I1 e1).here I1 (.d (.bl _)) q1.2⟩
theorem El{K:ax}{n:String}{f:String->Bool}(h1:PySem.W.kitOne K (.type "NoneType") (.type n)=some (f "NoneType"))(h2:PySem.W.kitOne K (.type "bool") (.type n)=some (f "bool"))(h3:PySem.W.kitOne K (.type "int") (.type n)=some (f "int"))(h4:PySem.W.kitOne K (.type "str") (.type n)=some (f "str"))(h5:PySem.W.kitOne K (.type "list") (.type n)=some (f "list"))(h6:PySem.W.kitOne K (.type "tuple") (.type n)=some (f "tuple")):IsT K n f:=λt ht=>by
 simp only[List.mem_cons,List.not_mem_nil,or_false]at ht;rcases ht with rfl | rfl | rfl | rfl | rfl | rfl<;>assumption
theorem pZ{j:Int}(h:0 < j)(h':j < 18446744073709551616):Ku j:=⟨h,h'⟩
theorem RQ{x:Str}{l:List Str}{A B:Prop}(h1:x∈l->A)(h2:x∉l->B):if inD (.str x) (l.map PyData.str)=true then A else B:=by
 rw[Kw];by_cases e:x∈l
 ·rw[aaq (aaM e)];exact h1 e
 ·rw[aan (λz=>e (aa1 z))];exact h2 e
theorem eF{c:Prop}[Decidable c]{A B:Prop}(h1:c->A)(h2:¬ c->B):if decide c=true then A else B:=by
 by_cases e:c
 ·rw[aaq (aaM e)];exact h1 e
 ·rw[aan (λz=>e (aa1 z))];exact h2 e
theorem Gn{c:Prop}[Decidable c]{A B:Prop}(h1:¬ c->A)(h2:c->B):if (!decide c)=true then A else B:=by
 by_cases e:c
 ·rw[aaM e];exact dj (h2 e)
 ·rw[aaH e];exact iJ (h1 e)
theorem RS{b:Bool}{A B:Prop}(h1:b=true->A)(h2:b=false->B):if b=true then A else B:=by
 cases b with
 | true=>exact iJ (h1 rfl)
 | false=>exact dj (h2 rfl)
theorem K5{α:Type}{xs:List α}{j:Nat}{x:α}(h:xs[j]?=some x):pF xs (j:Int)=some x:=by
 have hl:=(bU h).1;unfold pF D6;rw[if_pos (by omega),if_pos (by omega)];show xs[((j:Nat):Int).toNat]?=some x;rw[Int.toNat_natCast];exact h
theorem mM(i:Int){n:Int}(h:0 < n):∃k:Nat,i % n=(k:Int)/\(k:Int) < n:=⟨(i % n).toNat,by have:=aa6 i (b:=n) (by omega);omega,by have:=aa6 i (b:=n) (by omega);have:=aa5 i h;omega⟩
theorem B6{K:ax}{P:Addr->Prop}{H:Hp}{ns:List Int}:dC (aS K P H) (ns.map V.int) (ns.map PyData.int):=⟨by simp,λi y x hy hx=>by
 rw[aar]at hy hx
 cases q:ns[i]? with
 | none=>rw[q]at hy;cases hy
 | some n=>rw[q]at hy hx;cases hy;cases hx;exact .int _⟩
theorem AD{α β:Type}{f:α->β}{l:List α}{i:Nat}{d:β}(h:(l.map f)[i]?=some d):∃a,l[i]?=some a/\d=f a:=by
 rw[aar]at h
 cases q:l[i]? with
 | none=>rw[q]at h;cases h
 | some a=>rw[q]at h;cases h;exact⟨a,rfl,rfl⟩
theorem jH{α β:Type}{f:α->β}{l:List α}{j:Nat}{a:α}(h:l[j]?=some a):pF (l.map f) (j:Int)=some (f a):=K5 (by rw[aar,h];rfl)
@[reducible] def To(n:Nat)(ea:DX)(env:cm)(st:aQ)(Q:DC):Prop:=ea env st λx aG=>match r8 aG x with
 | some ds=>match ds[n]? with
  | some d=>Q (.dat d) aG
  | none=>False
 | none=>False
theorem bG{X:Cx}{a:Expr}{ea:DX}{pos p:Pos}{n:Nat}{j}(ha:cv X a ea)(hs:z9 (.Constant (.int (n:Int)) j p):=by exact λ_ _=>rfl):cv X (.Subscript a (.Constant (.int (n:Int)) j p) pos) (To n ea):=by
 obtain⟨ta,p1,a1⟩:=ha.h;refine⟨_,az J3 p1 pI hs,λH0 A0 G al H st s env Q R I E q k=>a1 H0 A0 G al H st s env _ _ I E q λx aG bL v H1 e1 I1 d1 q1=>?_⟩;split at q1
 ·rename_i ds e;split at q1
  ·rename_i d hd;obtain⟨b,ys,rfl,g1,g2⟩:=d1.Wi I1 e;obtain⟨z,g3,g4⟩:=g2.pF (K5 hd);have kk:=(k.go I1 e1).here I1 (.d g4) q1;rcases g1 with g1 | g1
   ·exact .inl ⟨b,ys,_,z,rfl,rfl,g1,g3,kk⟩
   ·exact .inr (.inl ⟨b,ys,_,z,rfl,rfl,g1,g3,kk⟩)
  ·exact q1.elim
 ·exact q1.elim
structure Sh(n:Nat)(d:PyData):Prop where
 cl:d.canLay0=true
 dp:d.depth<=n
theorem Em{n:Nat}{i:Int}:Sh n (.int i):=⟨rfl,aba _⟩
theorem K6{n:Nat}{x:Str}(h:PyData.canLay0 (.str x)=true:=by decide +kernel):Sh n (.str x):=⟨h,aba _⟩
theorem xn{n:Nat}:∀{ds:List PyData},(∀d∈ds,Sh n d)->PyData.canLayAll0 ds=true/\PyData.depthAll ds<=n
 | [],_=>⟨rfl,aba _⟩
 | d::r,h=>by
  obtain⟨h1,h2⟩:=xn (ds:=r) λx hx=>h x (aaF _ hx)
  have hd:=h d aaz;refine⟨?_,?_⟩
  ·show(PyData.canLay0 d&&PyData.canLayAll0 r)=true;rw[hd.cl,h1];rfl
  ·show max (PyData.depth d) (PyData.depthAll r)<=n;exact Nat.max_le.mpr ⟨hd.dp,h2⟩
theorem sq{n:Nat}{ds:List PyData}(h:∀d∈ds,Sh n d):Sh (n + 1) (.list ds):=⟨(xn h).1,Nat.succ_le_succ (xn h).2⟩
theorem AF{n:Nat}{ds:List PyData}(h:∀d∈ds,Sh n d):Sh (n + 1) (.tuple ds):=⟨(xn h).1,Nat.succ_le_succ (xn h).2⟩
theorem uf{n:Nat}:∀d∈([]:List PyData),Sh n d:=λ_ h=>nomatch h
theorem cM{n:Nat}{x:PyData}{ds:List PyData}(h:Sh n x)(r:∀d∈ds,Sh n d):∀d∈x::ds,Sh n d:=λd hd=>by
 rcases aam.mp hd with z | z
 ·rw[z];exact h
 ·exact r d z
theorem En{α:Type}{n:Nat}{f:α->PyData}{l:List α}(h:∀a∈l,Sh n (f a)):∀d∈l.map f,Sh n d:=λd hd=>by
 obtain⟨a,ha,rfl⟩:=List.mem_map.mp hd;exact h a ha
theorem Sh.ok{n:Nat}{d:PyData}(h:Sh n d)(l:n<=64:=by decide):PySem.SeqAt.shaped d=true:=by
 show(d.canLay0&&decide (d.depth<=64))=true;rw[h.cl,aaM (aaO h.dp l)];rfl
theorem Sh.self{n:Nat}{d:PyData}(h:Sh n d):PyData.eqv d d=true:=PySem.SeqAt.eqv_refl _ h.cl
theorem O7{α:Type}{l:List α}{x:α}:(l++[x])[l.length]?=some x:=by rw[aaj (aaf _),aa3];rfl
def sub{α:Type}:List Nat->List α->List α
 | [],_=>[]
 | k::ks,xs=>match xs[k]? with
  | some x=>x::sub ks xs
  | none=>sub ks xs
def t6{α:Type}:List Nat->List α->List α->List α
 | k::ks,y::ys,xs=>t6 ks ys (xs.set k y)
 | _,_,xs=>xs
theorem B7{α:Type}{k:Nat}{ks:List Nat}{xs:List α}{x:α}(h:xs[k]?=some x):sub (k::ks) xs=x::sub ks xs:=by
 show(match xs[k]? with | some x=>x::sub ks xs | none=>sub ks xs)=_;rw[h]
theorem dY{α:Type}{xs:List α}:∀{ks:List Nat},(∀k∈ks,k < xs.length)->∀(i:Nat) (y:α),(sub ks xs)[i]?=some y↔∃k,ks[i]?=some k/\xs[k]?=some y
 | [],_,i,y=>⟨λh=>by simp[sub]at h,λ⟨k,h,_⟩=>by simp at h⟩
 | k::ks,h,i,y=>by
  rw[B7 (dh (h k aaz))]
  cases i with
  | zero =>
   rw[abo];exact⟨λe=>⟨k,rfl,by rw[dh (h k aaz)];exact e⟩,λ⟨j,e,q⟩=>by rw[abo]at e;cases e;rw[dh (h k aaz)]at q;exact q⟩
  | succ i =>
   rw[aa7,aa7];exact dY (λj hj=>h j (aaF _ hj)) i y
theorem sub_len{α:Type}{xs:List α}:∀{ks:List Nat},(∀k∈ks,k < xs.length)->(sub ks xs).length=ks.length
 | [],_=>rfl
 | k::ks,h=>by
  rw[B7 (dh (h k aaz)),aaT,aaT,sub_len λj hj=>h j (aaF _ hj)]
theorem AH{α:Type}:∀{ks:List Nat} {ys xs:List α},(t6 ks ys xs).length=xs.length
 | [],[],_=>rfl
 | [],_::_,_=>rfl
 | _::_,[],_=>rfl
 | k::ks,y::ys,xs=>by
  show(t6 ks ys (xs.set k y)).length=_;rw[AH,aaL]
theorem fU{α:Type}:∀{ks:List Nat} {ys xs:List α} {j:Nat},j∉ks->(t6 ks ys xs)[j]?=xs[j]?
 | [],[],_,_,_=>rfl
 | [],_::_,_,_,_=>rfl
 | _::_,[],_,_,_=>rfl
 | k::ks,y::ys,xs,j,h=>by
  show(t6 ks ys (xs.set k y))[j]?=_;rw[fU λz=>h (aaF _ z),aay λe=>h (by rw[← e];exact aaz)]
theorem Eo{α:Type}:∀{ks:List Nat} {ys xs:List α} {i k:Nat} {y:α},ks.Nodup->ks[i]?=some k->ys[i]?=some y->k < xs.length->(t6 ks ys xs)[k]?=some y
 | [],_,_,i,k,y,_,h,_,_=>by simp at h
 | _::_,[],_,i,k,y,_,_,h,_=>by simp at h
 | k0::ks,y0::ys,xs,i,k,y,nd,h1,h2,h3=>by
  show(t6 ks ys (xs.set k0 y0))[k]?=_
  cases i with
  | zero =>
   rw[abo]at h1 h2;cases h1;cases h2;rw[fU (List.nodup_cons.mp nd).1,aau h3]
  | succ i =>
   rw[aa7]at h1 h2;exact Eo (List.nodup_cons.mp nd).2 h1 h2 (by rw[aaL];exact h3)
def Ce.nd:Ce->Prop
 | .deep _=>False
 | _=>True
section
variable {K:ax} {H0 H H1:Hp} {A0 G:Addr->Prop} {al bL:List (List Addr)} {st aG:aQ} {ks:List Nat}
def Gc(G:Addr->Prop)(al:List (List Addr))(st:aQ)(ks:List Nat):Addr->Prop:=λc=>Fb G al st c/\c∉(sub ks al).flatten
theorem xo(hk:∀k∈ks,k < al.length){c:Addr}:c∈(sub ks al).flatten↔∃k f,k∈ks/\al[k]?=some f/\c∈f:=by
 constructor
 ·intro h;obtain⟨f,hf,hc⟩:=abl.mp h;obtain⟨i,hi⟩:=aaV hf;obtain⟨k,h1,h2⟩:=(dY hk i f).mp hi;exact⟨k,f,aat h1,h2,hc⟩
 ·rintro⟨k,f,h1,h2,h3⟩;obtain⟨i,hi⟩:=aaV h1;exact cQ ((dY hk i f).mpr ⟨k,hi,h2⟩) h3
theorem AJ(I:DI K H0 A0 G al H st)(hk:∀k∈ks,k < al.length){c:Addr}(h:Lv (sub ks al) (sub ks st) c):Lv al st c:=by
 obtain⟨i,f,ce,h1,h2,h3,h4⟩:=h;obtain⟨k,e1,e2⟩:=(dY hk i f).mp h1;obtain⟨k',e3,e4⟩:=(dY (λj hj=>by rw[← I.len];exact hk j hj) i ce).mp h3;rw[e1]at e3;cases e3;exact⟨k,f,ce,e2,h2,e4,h4⟩
theorem Gp(I:DI K H0 A0 G al H st)(hk:∀k∈ks,k < al.length){c:Addr}(h:Fb (Gc G al st ks) (sub ks al) (sub ks st) c):Fb G al st c:=by
 rcases h with z | z
 ·exact z.1
 ·exact .inr (AJ I hk z)
theorem Jt.RT{P P':Addr->Prop}{fp:List Addr}{c:Ce}{al al':List (List Addr)}(h:Jt K P H al fp c)(n:c.nd)(s:∀c,P' c->P c)(hP:∀c,P c->∃o,H c=some o/\ua o):Jt K P' H al' fp c:=by
 cases c with
 | live xs =>
  obtain⟨a,ys,e1,e2,e3⟩:=h;exact⟨a,ys,e1,e2,e3.imp λy x r=>r.sub s⟩
 | froz ds =>
  obtain⟨a,e1,e2⟩:=h;exact⟨a,e1,e2.sub s⟩
 | deep xs=>exact n.elim
 | obj o=>exact⟨h.1,o.keep K P H fp P' H h.2 hP (λ_ _ _ e=>e) (jF λc o n e=>⟨λz=>n (s c z),e⟩)⟩
theorem DI.lend(I:DI K H0 A0 G al H st)(nd:ks.Nodup)(hk:∀k∈ks,k < al.length)(nn:∀k∈ks,∀c,st[k]?=some c->c.nd):DI K H (λc=>c∈(sub ks al).flatten) (Gc G al st ks) (sub ks al) H (sub ks st):=by
 have hk':∀k∈ks,k < st.length:=λj hj=>by rw[← I.len];exact hk j hj
 refine⟨by rw[sub_len hk,sub_len hk'],?_,λb hb=>?_,λi f ce h1 h2=>?_,.refl,λb hb=>.inl hb,λb hb z=>z.2 hb,λb hb=>I.rZ hb.1⟩
 ·unfold List.Nodup;rw[List.pairwise_flatten,List.pairwise_iff_getElem];refine⟨λf hf=>?_,λi j hi hj hij x hx y hy e=>?_⟩
  ·obtain⟨i,hi⟩:=aaV hf;obtain⟨k,_,h2⟩:=(dY hk i f).mp hi;exact(abt.mp I.nd).1 f (aat h2)
  ·subst e;obtain⟨k1,a1,b1⟩:=(dY hk i _).mp (dh hi);obtain⟨k2,a2,b2⟩:=(dY hk j _).mp (dh hj);have q:=fR I.nd b1 b2 hx hy;subst q;obtain⟨p1,q1⟩:=bU a1;obtain⟨p2,q2⟩:=bU a2;exact absurd (q1.trans q2.symm) ((List.pairwise_iff_getElem.mp nd) i j p1 p2 hij)
 ·obtain⟨k,f,_,h2,h3⟩:=(xo hk).mp hb;exact I.ok b (cQ h2 h3)
 ·obtain⟨k,e1,e2⟩:=(dY hk i f).mp h1;obtain⟨k',e3,e4⟩:=(dY hk' i ce).mp h2;rw[e1]at e3;cases e3;exact(I.cel k f ce e2 e4).RT (nn k (aat e1) ce e4) (λc hc=>Gp I hk hc) λc hc=>I.rZ hc
theorem DI.back(I:DI K H0 A0 G al H st)(nd:ks.Nodup)(hk:∀k∈ks,k < al.length)(J:DI K H (λc=>c∈(sub ks al).flatten) (Gc G al st ks) bL H1 aG)(e:Ext (sub ks al) H (sub ks st) bL H1 aG)(hl:ks.length<=bL.length)(nn:∀i < ks.length,∀c,aG[i]?=some c->c.nd):
  Ext al H st (t6 ks bL al) H1 (t6 ks aG st)/\DI K H0 A0 G (t6 ks bL al) H1 (t6 ks aG st)/\∀c,Fb G (t6 ks bL al) (t6 ks aG st) c->Fb (Gc G al st ks) bL aG c:=by
 have hk':∀k∈ks,k < st.length:=λj hj=>by rw[← I.len];exact hk j hj
 have O8:∀k∈ks,∃(i:Nat) (f:List Addr) (c:Ce),ks[i]?=some k/\i < ks.length/\bL[i]?=some f/\aG[i]?=some c/\(t6 ks bL al)[k]?=some f/\(t6 ks aG st)[k]?=some c:=λk h=>by
  obtain⟨i,hi⟩:=aaV h;obtain⟨hil,_⟩:=bU hi;have h1:=dh (l:=bL) (i:=i) (by omega);have h2:=dh (l:=aG) (i:=i) (by rw[← J.len];omega);exact⟨i,_,_,hi,hil,h1,h2,Eo nd hi h1 (hk k h),Eo nd hi h2 (hk' k h)⟩
 have lentIn:∀{c:Addr},c∈(sub ks al).flatten->c∈al.flatten:=λh=>by
  obtain⟨k,f,_,h2,h3⟩:=(xo hk).mp h;exact cQ h2 h3
 have outs:∀{j:Nat} {f:List Addr} {c:Addr},j∉ks->al[j]?=some f->c∈f->c∉(sub ks al).flatten:=λhj hf hc h=>by
  obtain⟨k,g,h1,h2,h3⟩:=(xo hk).mp h;exact hj (by rw[fR I.nd hf h2 hc h3];exact h1)
 have parted:∀b∈(t6 ks bL al).flatten,(∃(i:Nat) (f:List Addr),i < ks.length/\bL[i]?=some f/\b∈f)∨∃(j:Nat) (f:List Addr),j∉ks/\al[j]?=some f/\b∈f:=λb hb=>by
  obtain⟨f,hf,hbf⟩:=abl.mp hb;obtain⟨j,hj⟩:=aaV hf;by_cases m:j∈ks
  ·obtain⟨i,g,c,_,h2,h3,_,h5,_⟩:=O8 j m;rw[h5]at hj;cases hj;exact .inl ⟨i,f,h2,h3,hbf⟩
  ·rw[fU m]at hj;exact .inr ⟨j,f,m,hj,hbf⟩
 have mem:∀b∈(t6 ks bL al).flatten,b∈al.flatten∨H b=none:=λb hb=>by
  rcases parted b hb with⟨i,f,_,h2,h3⟩ | ⟨j,f,_,h2,h3⟩
  ·rcases e.nws b (cQ h2 h3)with z | z
   ·exact .inl (lentIn z)
   ·exact .inr z
  ·exact .inl (cQ h2 h3)
 have keepOut:∀{b:Addr} {o:HO},b∉(sub ks al).flatten->H b=some o->H1 b=some o:=λn q=>J.fr _ _ n q
 have E:Ext al H st (t6 ks bL al) H1 (t6 ks aG st):=⟨λb o n q=>e.keep b o (λz=>n (AJ I hk z)) q,λj a r h=>by
   by_cases m:j∈ks
   ·obtain⟨i,f,c,h1,_,h3,_,h5,_⟩:=O8 j m;obtain⟨r',q⟩:=e.pre i a r ((dY hk i _).mpr ⟨j,h1,h⟩);rw[h3]at q;cases q;exact⟨r',h5⟩
   ·exact⟨r,by rw[fU m];exact h⟩,mem,λb ⟨j,f,ce,h1,h2,h3,h4⟩=>by
   by_cases m:j∈ks
   ·obtain⟨i,g,c,_,_,q3,q4,q5,q6⟩:=O8 j m;rw[q5]at h1;cases h1;rw[q6]at h3;cases h3;rcases e.lv b ⟨i,f,ce,q3,h2,q4,h4⟩with z | z
    ·exact .inl (AJ I hk z)
    ·exact .inr z
   ·rw[fU m]at h1 h3;exact .inl ⟨j,f,ce,h1,h2,h3,h4⟩⟩
 have fb:∀c,Fb G (t6 ks bL al) (t6 ks aG st) c->Fb (Gc G al st ks) bL aG c:=λc h=>by
  rcases h with z | ⟨j,f,ce,h1,h2,h3,h4⟩
  ·exact .inl ⟨.inl z,λy=>I.gd c (lentIn y) z⟩
  ·by_cases m:j∈ks
   ·obtain⟨i,g,c',_,_,q3,q4,q5,q6⟩:=O8 j m;rw[q5]at h1;cases h1;rw[q6]at h3;cases h3;exact .inr ⟨i,f,ce,q3,h2,q4,h4⟩
   ·rw[fU m]at h1 h3;exact .inl ⟨.inr ⟨j,f,ce,h1,h2,h3,h4⟩,outs m h1 h2⟩
 refine⟨E,⟨by rw[AH,AH];exact I.len,?_,λb hb=>?_,λj f ce h1 h2=>?_,λb o n q=>?_,λb hb=>?_,λb hb z=>?_,λb hb=>?_⟩,fb⟩
 ·unfold List.Nodup;rw[List.pairwise_flatten,List.pairwise_iff_getElem]
  have far:∀(i j:Nat) f g x,bL[i]?=some f->j∉ks->al[j]?=some g->x∈f->x∈g->False:=λi j f g x h1 h2 h3 h4 h5=>by
   rcases e.nws x (cQ h1 h4)with z | z
   ·exact outs h2 h3 h5 z
   ·obtain⟨o,q⟩:=I.ok x (cQ h3 h5);rw[z]at q;cases q
  refine⟨λf hf=>?_,λi j hi hj hij x hx y hy w=>?_⟩
  ·obtain⟨j,hj⟩:=aaV hf;by_cases m:j∈ks
   ·obtain⟨i,g,c,_,_,h3,_,h5,_⟩:=O8 j m;rw[h5]at hj;cases hj;exact(abt.mp J.nd).1 f (aat h3)
   ·rw[fU m]at hj;exact(abt.mp I.nd).1 f (aat hj)
  ·subst w;have gi:=dh hi;have gj:=dh hj;by_cases m1:i∈ks
   ·obtain⟨i1,f1,c1,a1,_,b1,_,d1,_⟩:=O8 i m1;rw[d1]at gi;have hx':x∈f1:=by rw[aaE gi];exact hx
    by_cases m2:j∈ks
    ·obtain⟨i2,f2,c2,a2,_,b2,_,d2,_⟩:=O8 j m2;rw[d2]at gj;have hy':x∈f2:=by rw[aaE gj];exact hy
     have q:=fR J.nd b1 b2 hx' hy';subst q;rw[a1]at a2;cases a2;omega
    ·rw[fU m2]at gj;exact far i1 j f1 _ x b1 m2 gj hx' hy
   ·rw[fU m1]at gi;by_cases m2:j∈ks
    ·obtain⟨i2,f2,c2,a2,_,b2,_,d2,_⟩:=O8 j m2;rw[d2]at gj;have hy':x∈f2:=by rw[aaE gj];exact hy
     exact far i2 i f2 _ x b2 m1 gi hy' hx
    ·rw[fU m2]at gj;exact absurd (fR I.nd gi gj hx hy) (by omega)
 ·rcases parted b hb with⟨i,f,_,h2,h3⟩ | ⟨j,f,h1,h2,h3⟩
  ·exact J.ok b (cQ h2 h3)
  ·obtain⟨o,q⟩:=I.ok b (cQ h2 h3);exact⟨o,keepOut (outs h1 h2 h3) q⟩
 ·by_cases m:j∈ks
  ·obtain⟨i,g,c,_,q2,q3,q4,q5,q6⟩:=O8 j m;rw[q5]at h1;cases h1;rw[q6]at h2;cases h2;exact(J.cel i f ce q3 q4).RT (nn i q2 ce q4) fb λc hc=>J.rZ hc
  ·rw[fU m]at h1 h2;exact(I.cel j f ce h1 h2).ext E (λc hc=>I.rZ hc) λ_ b hb o q=>keepOut (outs m h1 hb) q
 ·by_cases w:b∈(sub ks al).flatten
  ·rcases I.nw b (lentIn w)with y | y
   ·exact absurd y n
   ·rw[y]at q;cases q
  ·exact keepOut w (I.fr b o n q)
 ·rcases mem b hb with z | z
  ·exact I.nw b z
  ·exact I.n0 z
 ·rcases mem b hb with w | w
  ·exact I.gd b w z
  ·exact I.RE w (.inl z)
 ·obtain⟨o,q,m⟩:=I.gs b hb;exact⟨o,keepOut (λw=>I.gd b (lentIn w) hb) q,m⟩
end
abbrev RU:=List DV->aQ->(PyData->aQ->Prop)->Prop
def Gq(K:ax)(G:Addr->Prop)(al:List (List Addr))(H:Hp)(st:aQ)(Q:VK)(d:PyData)(st':aQ):Prop:=∀(v:V) (H':Hp) (al':List (List Addr)) (own:aQ),DI K H (λc=>c∈al.flatten) G al' H' (st'++own)->Ext al H st al' H' (st'++own)->aS K (Fb G al' (st'++own)) H' v d->Q v H'
def spC(K:ax)(T:RU):Sp:=λvs H Q _=>∃(G:Addr->Prop) (al:List (List Addr)) (st:aQ) (xs:List DV),DI K H (λc=>c∈al.flatten) G al H st/\dC (kQ K (Fb G al st) H al) vs xs/\T xs st (Gq K G al H st Q)
def O9(K:ax)(sp:Sp)(T:RU):Prop:=∀(vs:List V) (H:Hp) (Q:VK) (G:Addr->Prop) (al:List (List Addr)) (st:aQ) (xs:List DV),DI K H (λc=>c∈al.flatten) G al H st->dC (kQ K (Fb G al st) H al) vs xs->T xs st (Gq K G al H st Q)->sp vs H Q E0
theorem Tp{K:ax}{T:RU}:O9 K (spC K T) T:=λ_ _ _ G al st xs h1 h2 h3=>⟨G,al,st,xs,h1,h2,h3⟩
def K7(T:RU):Prop:=∀xs st (Q Q':PyData->aQ->Prop),(∀d s,Q d s->Q' d s)->T xs st Q->T xs st Q'
@[reducible] def Ep:List Bool->List DV->Option (List Nat)
 | [],[]=>some []
 | true::js,.ref k::xs=>match Ep js xs with
  | some ks=>some (k::ks)
  | none=>none
 | false::js,.dat _::xs=>Ep js xs
 | _,_=>none
@[reducible] def Er:Nat->List Bool->List DV->List DV
 | p,true::js,_::xs=>.ref p::Er (p + 1) js xs
 | p,false::js,x::xs=>x::Er p js xs
 | _,_,_=>[]
@[reducible] def Vs:aQ->Bool
 | []=>true
 | .deep _::_=>false
 | _::r=>Vs r
@[reducible] def xp(js:List Bool)(T:RU)(xs:List DV)(st:aQ)(Q:DC):Prop:=match Ep js xs with
 | some ks=>ks.Nodup/\(∀k∈ks,k < st.length)/\Vs (sub ks st)=true/\T (Er 0 js xs) (sub ks st) λd aG=>aG.length=ks.length/\Vs aG=true/\Q (.dat d) (t6 ks aG st)
 | none=>False
theorem xq:∀{st:aQ},Vs st=true->∀(i:Nat) c,st[i]?=some c->c.nd
 | [],_,i,c,h=>by simp at h
 | .deep _::_,h,_,_,_=>by cases h
 | .live x::r,h,i,c,e=>by
  cases i with
  | zero=>cases e;trivial
  | succ i=>exact xq (st:=r) h i c (by simpa using e)
 | .froz x::r,h,i,c,e=>by
  cases i with
  | zero=>cases e;trivial
  | succ i=>exact xq (st:=r) h i c (by simpa using e)
 | .obj x::r,h,i,c,e=>by
  cases i with
  | zero=>cases e;trivial
  | succ i=>exact xq (st:=r) h i c (by simpa using e)
theorem Gr{α:Type}:∀{ks:List Nat} {ys zs xs:List α},ys.length=ks.length->t6 ks (ys++zs) xs=t6 ks ys xs
 | [],[],[],_,_=>rfl
 | [],[],_::_,_,_=>rfl
 | [],_::_,_,_,h=>by simp at h
 | _::_,[],_,_,h=>by simp at h
 | k::ks,y::ys,zs,xs,h=>by
  show t6 ks (ys++zs) (xs.set k y)=t6 ks ys (xs.set k y);exact Gr (by simpa using h)
section
variable {K:ax} {H0 H H1:Hp} {A0 G:Addr->Prop} {al bL:List (List Addr)} {st aG:aQ} {ks:List Nat}
theorem Es(I:DI K H0 A0 G al H st)(hk:∀k∈ks,k < al.length):∀{js:List Bool} {xs:List DV} {vs:List V} {r:List Nat} {p:Nat},dC (kQ K (Fb G al st) H al) vs xs->Ep js xs=some r->(∀i,r[i]?=ks[p + i]?)->dC (kQ K (Fb (Gc G al st ks) (sub ks al) (sub ks st)) H (sub ks al)) vs (Er p js xs)
 | [],[],vs,r,p,h,e,q=>by
  cases vs with
  | nil=>exact .nil
  | cons _ _=>have:=h.1;simp at this
 | true::js,.ref k::xs,vs,r,p,h,e,q=>by
  have e:(match Ep js xs with | some ks=>some (k::ks) | none=>none)=some r:=e;split at e
  ·rename_i r' e';cases e
   cases vs with
   | nil=>have:=h.1;simp at this
   | cons v vs =>
    obtain⟨a,f,h1,h2⟩:=h.2 0 v _ rfl rfl;have hp:ks[p]?=some k:=by have:=q 0;rw[abo]at this;exact this.symm
    refine .cons ⟨a,f,(dY hk p _).mpr ⟨k,hp,h1⟩,h2⟩ (Es I hk (p:=p + 1) ⟨by simpa using h.1,λi y x a b=>h.2 (i + 1) y x (by simpa using a) (by simpa using b)⟩ e' λi=>?_);have:=q (i + 1);rw[List.getElem?_cons_succ]at this;rw[this]
    congr 1
    omega
  ·cases e
 | false::js,.dat d::xs,vs,r,p,h,e,q=>by
  cases vs with
  | nil=>have:=h.1;simp at this
  | cons v vs =>
   have hd:aS K (Fb G al st) H v d:=h.2 0 v _ rfl rfl;exact .cons (.d (hd.sub λc hc=>Gp I hk hc)) (Es I hk (p:=p) ⟨by simpa using h.1,λi y x a b=>h.2 (i + 1) y x (by simpa using a) (by simpa using b)⟩ e q)
 | [],_::_,_,_,_,_,e,_=>by cases e
 | true::_,[],_,_,_,_,e,_=>by cases e
 | false::_,[],_,_,_,_,e,_=>by cases e
 | true::_,.dat _::_,_,_,_,_,e,_=>by cases e
 | false::_,.ref _::_,_,_,_,_,e,_=>by cases e
theorem K9{sp:Sp}{T:RU}{js:List Bool}(h:O9 K sp T)(m:K7 T):AB K (λvs H Q=>sp (vs++[]) H Q E0) (xp js T):=λH0 A0 G al H st vs xs Q R I hp q k=>by
 unfold xp at q;split at q
 ·rename_i ks e;obtain⟨nd,hk',nn,q⟩:=q;have hk:∀k∈ks,k < al.length:=λj hj=>by rw[I.len];exact hk' j hj
  rw[abd]
  have nn1:∀k∈ks,∀c,st[k]?=some c->c.nd:=λj hj c hc=>by
   obtain⟨i,hi⟩:=aaV hj;exact xq nn i c ((dY hk' i c).mpr ⟨j,hi,hc⟩)
  refine h vs H R (Gc G al st ks) (sub ks al) (sub ks st) (Er 0 js xs) (I.lend nd hk nn1) (Es I hk hp e λi=>by rw[acq]) (m _ _ _ _ (λd aG hd v H' al' own J e F=>?_) q);obtain⟨hl,n1,hq⟩:=hd;have l1:ks.length<=al'.length:=by rw[J.len,aaG];omega
  obtain⟨E,I2,fb⟩:=I.back nd hk J e l1 λi hi c hc=>xq n1 i c (by rw[aac (by omega)]at hc;exact hc)
  rw[Gr hl]at E I2 fb;exact k (.dat d) _ _ v H' E I2 (.d (F.sub fb)) hq
 ·exact q.elim
end
section
variable {X:Cx} {x:Str} {e:Expr} {es:List Expr} {p pos:Pos} {n:Nat} {d:yA}
theorem La{kk:Nat}{ps:List Str}{sp:Sp}{T:RU}{js:List Bool}(h:cT X.prog X.w X.K X.mg X.base aM x kk ps sp)(hs:O9 X.K sp T)(m:K7 T)(hr:fL kk X.A)(hg:Gl X x)(ha:FU X (e::es) n d)(hdb:(x == ("__debug__" : Str))=false:=by decide)
  (he:starEach (e::es) X.env=(false,eval e X.env)::starEach es X.env:=by rfl) (hpl:(backTo pos (starEach es X.env)).any (·.1)=false:=by rfl):cv X (.Call (.Name x p) (e::es) [] pos) (Nv (xp js T) d):=by
 obtain⟨t,p1,a1⟩:=ha.h;exact⟨_,cg h hr hg p1 hdb he hpl,Gh (K9 hs m) a1⟩
theorem Hi{N:List Str}{body:List Stmt}{vs:List V}{xs:List DV}{H:Hp}{Q:VK}{G:Addr->Prop}{al:List (List Addr)}{st:aQ}(I:DI X.K H (λc=>c∈al.flatten) G al H st)(hv:dC (kQ X.K (Fb G al st) H al) vs xs)
  (h:Dx X body {nx:=λ_ dw=>Gq X.K G al H st Q .none (dw.take st.length),rt:=λdv dw=>vX dv dw λd t4=>Gq X.K G al H st Q d (t4.take st.length)} (xs.map some++List.replicate (N.length - xs.length) none) st) :
  ∃t,BG X body t/\t {nx:=λ_ H'=>Q .non H',rt:=Q} (start N vs) H:=by
 obtain⟨s,⟨t,p1,a1⟩,q⟩:=h;refine⟨t,p1,a1 H (λc=>c∈al.flatten) G al H st _ _ _ _ I ⟨by unfold start;simp[hv.1],λi dv hi=>?_⟩ q ⟨λenv' st' al' σ' H' e' I' E' q'=>?_,λdv st' al' v H' e' I' d' q'=>?_,λenv' st' al' σ' H' e' I' E' q'=>q'.elim,λenv' st' al' σ' H' e' I' E' q'=>q'.elim⟩⟩
 ·by_cases l:i < xs.length
  ·rw[List.getElem?_append_left (by simpa using l),List.getElem?_map,dh l]at hi;cases hi;obtain⟨y,hy,hr⟩:=hv.at (dh l);refine⟨y,?_,hr⟩;unfold start;rw[List.getElem?_append_left (by rw[List.length_map,hv.1];exact l),List.getElem?_map,hy];rfl
  ·rw[List.getElem?_append_right (by simp;omega)]at hi;rw[List.getElem?_replicate]at hi;split at hi
   ·cases hi
   ·cases hi
 ·refine q' .non H' al' (st'.drop st.length) ?_ ?_ .non
  ·rw[aaW];exact I'
  ·rw[aaW];exact e'
 ·obtain⟨d,dw,E2,I2,F,q2⟩:=qs I' d' q';refine q2 v H' al' (dw.drop st.length) ?_ ?_ ?_
  ·rw[aaW];exact I2
  ·rw[aaW];exact e'.trans I' E2
  ·rw[aaW];exact F
end
theorem wN{s u:DS}{DD:fG}{env:cm}{st:aQ}(k:∀R:cm->aQ->Prop,(∀env' st',u DD env' st'->R env' st')->s {DD with nx:=R} env st):B4 s u DD env st:=k (u DD) (λ_ _ h=>h)
theorem Lb{s u v:DS}{DD:fG}{env:cm}{st:aQ}(k:∀R:cm->aQ->Prop,(∀env' st',v DD env' st'->R env' st')->B4 s u {DD with nx:=R} env st):B4 s (B4 u v) DD env st:=k (v DD) (λ_ _ h=>h)
end L2
local macro_rules | `(tactic| walk_at "cond")=>`(tactic| first | rfl | decide | omega | (show (0:Int) < _; decide) | (show (0:Int) < _; omega) | exact ⟨by decide,by decide⟩ | exact ⟨by omega,by omega⟩ | exact Or.inl ⟨by decide,by decide⟩ | exact Or.inr ⟨by decide,by decide⟩ | exact Or.inl ⟨by omega,by omega⟩ | exact Or.inr ⟨by omega,by omega⟩ | assumption)
local macro_rules | `(tactic| walk_at "rd1")=>`(tactic| first
 | refine⟨_,rfl,?_⟩
 | refine⟨_,_,rfl,rfl,?_⟩
 | (refine And.intro ?_ ?_;walk_at "cond"))
local macro_rules | `(tactic| walk_at "vc")=>`(tactic| try dsimp only [L2.Gk,L2.B4,L2.KW,L2.Ti,L2.Zi,L2.Hg,L2.Kr,L2.eC,L2.zm,L2.oI,L2.Vp,L2.Kt,L2.BY,L2.S5,L2.Ap,L2.Ga,L2.Eh,L2.r8,L2.ku,L2.zp,L2.Wj,L2.To,L2.r9,L2.Wl,L2.Kx,L2.Ky,L2.Y7,L2.Nu,L2.Gf,L2.OS,L2.KC,L2.KJ,L2.Nv,L2.KO,L2.B1,L2.Gg,L2.xp,L2.Ep,L2.Er,L2.Vs,L2.sub,L2.t6,List.take_succ_cons,List.take_zero,L2.vX,L2.mv,L2.OJ,L2.FW,L2.OL,L2.OM,L2.FX,L2.OZ,L2.Av,L2.gN,L2.Gi,L2.xk,L2.gT,L2.gS,L2.RO,L2.Ax,L2.Th,L2.Zh,L2.Hf,L2.Tj,L2.O3,L2.Te,L2.Tn,L2.Wy,L2.uX,L2.Gj,L2.KR,id_eq,List.map_cons,List.map_nil,List.replicate,List.getElem?_cons_zero,List.getElem?_cons_succ,List.set_cons_zero,List.set_cons_succ,List.nil_append,List.cons_append,List.length_cons,List.length_nil,Nat.zero_add,Nat.reduceAdd,Option.getD_some,Option.getD_none,List.getElem?_nil])
local macro_rules | `(tactic| walk_at "vs")=>`(tactic| try dsimp only [L2.Gk,L2.KW,L2.Ti,L2.Zi,L2.Hg,L2.Kr,L2.eC,L2.zm,L2.oI,L2.Vp,L2.Kt,L2.BY,L2.S5,L2.Ap,L2.Ga,L2.Eh,L2.r8,L2.ku,L2.zp,L2.Wj,L2.To,L2.r9,L2.Wl,L2.Kx,L2.Ky,L2.Y7,L2.Nu,L2.Gf,L2.OS,L2.KC,L2.KJ,L2.Nv,L2.KO,L2.B1,L2.Gg,L2.xp,L2.Ep,L2.Er,L2.Vs,L2.sub,L2.t6,List.take_succ_cons,List.take_zero,L2.vX,L2.mv,L2.OJ,L2.FW,L2.OL,L2.OM,L2.FX,L2.OZ,L2.Av,L2.gN,L2.Gi,L2.xk,L2.gT,L2.gS,L2.RO,L2.Ax,L2.Th,L2.Zh,L2.Hf,L2.Tj,L2.O3,L2.Te,L2.Tn,L2.Wy,L2.uX,L2.Gj,L2.KR,id_eq,List.map_cons,List.map_nil,List.replicate,List.getElem?_cons_zero,List.getElem?_cons_succ,List.set_cons_zero,List.set_cons_succ,List.nil_append,List.cons_append,List.length_cons,List.length_nil,Nat.zero_add,Nat.reduceAdd,Option.getD_some,Option.getD_none,List.getElem?_nil])
local macro_rules | `(tactic| walk_at "rd")=>`(tactic| repeat walk_at "rd1")
set_option maxHeartbeats 4000000
local macro_rules | `(tactic| walk_at "sc")=>`(tactic| exact ⟨rfl,rfl,rfl,by decide +kernel,rfl,by decide +kernel,by decide +kernel⟩)
namespace Mine
open PySem L2
theorem ln0{α:Type}{P:List α->Prop}(h:P []):∀us:List α,us.length=0->P us:=λus hl=>by
 cases us with
 | nil=>exact h
 | cons a r=>exact absurd hl (aa8 _)
theorem Hj{α:Type}{P:List α->Prop}(h:∀a0:α,P [a0]):∀us:List α,us.length=1->P us:=λus hl=>by
 cases us with
 | nil=>exact absurd hl.symm (aa8 _)
 | cons a r=>exact ln0 (P:=λr=>P (a::r)) (h a) r (abB hl)
theorem ln2{α:Type}{P:List α->Prop}(h:∀a0 a1:α,P [a0,a1]):∀us:List α,us.length=2->P us:=λus hl=>by
 cases us with
 | nil=>exact absurd hl.symm (aa8 _)
 | cons a r=>exact Hj (P:=λr=>P (a::r)) (λa1=>h a a1) r (abB hl)
theorem wd{α:Type}{P:List α->Prop}(h:∀a0 a1 a2:α,P [a0,a1,a2]):∀us:List α,us.length=3->P us:=λus hl=>by
 cases us with
 | nil=>exact absurd hl.symm (aa8 _)
 | cons a r=>exact ln2 (P:=λr=>P (a::r)) (λa1 a2=>h a a1 a2) r (abB hl)
theorem Nw{α:Type}{P:List α->Prop}(h:∀a0 a1 a2 a3:α,P [a0,a1,a2,a3]):∀us:List α,us.length=4->P us:=λus hl=>by
 cases us with
 | nil=>exact absurd hl.symm (aa8 _)
 | cons a r=>exact wd (P:=λr=>P (a::r)) (λa1 a2 a3=>h a a1 a2 a3) r (abB hl)
theorem ln5{α:Type}{P:List α->Prop}(h:∀a0 a1 a2 a3 a4:α,P [a0,a1,a2,a3,a4]):∀us:List α,us.length=5->P us:=λus hl=>by
 cases us with
 | nil=>exact absurd hl.symm (aa8 _)
 | cons a r=>exact Nw (P:=λr=>P (a::r)) (λa1 a2 a3 a4=>h a a1 a2 a3 a4) r (abB hl)
theorem ln6{α:Type}{P:List α->Prop}(h:∀a0 a1 a2 a3 a4 a5:α,P [a0,a1,a2,a3,a4,a5]):∀us:List α,us.length=6->P us:=λus hl=>by
 cases us with
 | nil=>exact absurd hl.symm (aa8 _)
 | cons a r=>exact ln5 (P:=λr=>P (a::r)) (λa1 a2 a3 a4 a5=>h a a1 a2 a3 a4 a5) r (abB hl)
theorem XY{α:Type}{xs:List α}(h:xs.length=1):∃a0,xs=[a0]:=Hj (P:=λxs=>∃a0,xs=[a0]) (λa0=>⟨a0,rfl⟩) xs h
theorem Zl{α:Type}{xs:List α}(h:xs.length=2):∃a0 a1,xs=[a0,a1]:=ln2 (P:=λxs=>∃a0 a1,xs=[a0,a1]) (λa0 a1=>⟨a0,a1,rfl⟩) xs h
theorem Zm{α:Type}{xs:List α}(h:xs.length=3):∃a0 a1 a2,xs=[a0,a1,a2]:=wd (P:=λxs=>∃a0 a1 a2,xs=[a0,a1,a2]) (λa0 a1 a2=>⟨a0,a1,a2,rfl⟩) xs h
theorem ex4{α:Type}{xs:List α}(h:xs.length=4):∃a0 a1 a2 a3,xs=[a0,a1,a2,a3]:=Nw (P:=λxs=>∃a0 a1 a2 a3,xs=[a0,a1,a2,a3]) (λa0 a1 a2 a3=>⟨a0,a1,a2,a3,rfl⟩) xs h
theorem ex6{α:Type}{xs:List α}(h:xs.length=6):∃a0 a1 a2 a3 a4 a5,xs=[a0,a1,a2,a3,a4,a5]:=ln6 (P:=λxs=>∃a0 a1 a2 a3 a4 a5,xs=[a0,a1,a2,a3,a4,a5]) (λa0 a1 a2 a3 a4 a5=>⟨a0,a1,a2,a3,a4,a5,rfl⟩) xs h
def tf(p:Program)(i:Nat):Stmt:=p.main.body.getD i (.Pass ⟨0,0,0,0⟩)
def top(i:Nat):Stmt:=tf PySem.Challenge.pw_stackwarden_k34_goings_on_and_budget i
abbrev qv:Stmt:=top 63
abbrev qw:Stmt:=top 53
abbrev qx:Stmt:=top 54
abbrev mN:Stmt:=top 56
abbrev kT:Stmt:=top 57
abbrev qy:Stmt:=top 58
abbrev jZ:Stmt:=top 55
abbrev ug:Stmt:=top 59
abbrev qz:Stmt:=top 61
abbrev mO:Stmt:=top 60
abbrev kU:Stmt:=top 62
abbrev kW:Stmt:=iC (top 42) 19
abbrev ji:Stmt:=iC (top 47) 2
abbrev iK:Stmt:=iC (top 42) 15
abbrev j0:Stmt:=iC (top 42) 12
abbrev j1:Stmt:=iC (top 42) 11
abbrev mP:Stmt:=top 6
abbrev qA:Stmt:=top 8
abbrev kY:Stmt:=iC (top 42) 10
abbrev gL:Stmt:=iC (top 42) 9
abbrev gM:Stmt:=iC (top 42) 22
abbrev fe:Stmt:=iC (top 47) 5
abbrev mQ:Stmt:=top 7
abbrev fh:Stmt:=iC (top 42) 20
abbrev dG:Stmt:=iC (top 47) 3
abbrev jj:Stmt:=iC (top 42) 18
abbrev gO:Stmt:=iC (top 47) 1
abbrev qB:Stmt:=top 38
abbrev fi:Stmt:=iC (top 42) 21
abbrev dH:Stmt:=iC (top 47) 4
abbrev dm:Stmt:=iC (top 42) 7
abbrev uh:Stmt:=top 13
abbrev ui:Stmt:=top 15
abbrev qC:Stmt:=top 14
abbrev AK:Stmt:=top 35
abbrev dI:Stmt:=iC (top 42) 8
abbrev eG:Stmt:=iC (top 42) 6
abbrev jk:Stmt:=iC (top 42) 5
abbrev jl:Stmt:=iC (top 42) 23
abbrev mR:Stmt:=top 9
abbrev fj:Stmt:=top 28
abbrev AL:Stmt:=top 27
abbrev fV:Stmt:=top 45
abbrev qD:Stmt:=top 44
abbrev xr:Stmt:=top 29
abbrev gP:Stmt:=iC (top 47) 6
abbrev kZ:Stmt:=iC (top 42) 4
abbrev lh:Stmt:=iC (top 42) 1
abbrev qE:Stmt:=top 49
abbrev uj:Stmt:=top 22
abbrev lj:Stmt:=top 23
abbrev xt:Stmt:=top 20
abbrev gQ:Stmt:=iC (top 33) 0
abbrev uk:Stmt:=top 34
abbrev iL:Stmt:=iC (top 42) 17
abbrev fW:Stmt:=iC (top 47) 0
abbrev fX:Stmt:=iC (top 42) 13
abbrev gU:Stmt:=iC (top 42) 0
abbrev Lc:Stmt:=top 50
abbrev j2:Stmt:=top 51
abbrev su:Stmt:=top 64
structure ah(K:ax)(C:Addr):Prop where
 cl:GZ K C
 xu:eD K C "part"
 pJ:eD K C "at"
 AM:eD K C "boxes"
 ig:eD K C "stack"
structure au(K:ax)(C:Addr):Prop where
 cl:GZ K C
 ll:eD K C "book"
 um:eD K C "live"
 cz:eD K C "records"
 Eu:eD K C "said"
 xv:eD K C "left"
 xw:eD K C "end"
def bw:List (Str×PyData):=[("push",.tuple []),("load",.tuple []),("store",.tuple [.tuple [.str "any"]]),("dup",.tuple [.tuple [.str "any"]]),("swap",.tuple [.tuple [.str "any"],.tuple [.str "any"]]),("drop",.tuple [.tuple [.str "any"]]),("add",.tuple [.tuple [.str "number"],.tuple [.str "number"]]),("sub",.tuple [.tuple [.str "number"],.tuple [.str "number"]]),("mul",.tuple [.tuple [.str "number"],.tuple [.str "number"]]),("div",.tuple [.tuple [.str "number"],.tuple [.str "number"]]),("rem",.tuple [.tuple [.str "number"],.tuple [.str "number"]]),("less",.tuple [.tuple [.str "number"],.tuple [.str "number"]]),("same",.tuple [.tuple [.str "number"],.tuple [.str "number"]]),("jump",.tuple []),("zero",.tuple [.tuple [.str "number"]]),("kin",.tuple [.tuple [.str "whole",.int 0]]),("make",.tuple []),("toss",.tuple [.tuple [.str "number"]]),("say",.tuple [.tuple [.str "number"]])]
def B8:PyData:=.tuple [.str "jump",.str "zero",.str "kin"]
def pq:List (Str×PyData):=[("store",.int 0),("dup",.int 2),("swap",.int 2),("drop",.int 0),("jump",.int 0),("zero",.int 0),("put",.int 0),("toss",.int 0),("say",.int 0),("give",.int 0)]
def p6:PyData:=.tuple [.str "make",.str "fill",.str "begin",.str "get",.str "put"]
def sv:PyData:=.tuple [.str "add",.str "sub",.str "mul",.str "div",.str "rem",.str "less",.str "same"]
inductive Kd where
 | any | num | whole (c:Nat) | raw (c m:Nat)
 deriving DecidableEq
def RV:Kd->List V
 | .any=>[.str "any"]
 | .num=>[.str "number"]
 | .whole c=>[.str "whole",.int c]
 | .raw c m=>[.str "raw",.int c,.int m]
def xx:Kd->List PyData
 | .any=>[.str "any"]
 | .num=>[.str "number"]
 | .whole c=>[.str "whole",.int c]
 | .raw c m=>[.str "raw",.int c,.int m]
abbrev cV:=List (Option Nat×List Kd)
def Tq:Option Nat->V
 | none=>.non
 | some n=>.int n
def AN:Option Nat->PyData
 | none=>.none
 | some n=>.int n
def Tr(m:Option Nat×List Kd):PyData:=.tuple [AN m.1,.list (m.2.map λk=>.tuple (xx k))]
def Ts(ms:cV):PyData:=.list (ms.map Tr)
structure Wf(ms:cV):Prop where
 ne:0 < ms.length
 few:ms.length<=8
 first:∀m,ms[0]?=some m->m.1=none
 ahead:∀(i:Nat) m,ms[i]?=some m->0 < i->∃j,m.1=some j/\j < i
def qF(ms:cV)(c:Nat):Option Nat:=(ms[c]?).bind (·.1)
theorem Wf.el{ms:cV}(w:Wf ms){c:Nat}(hc:c < ms.length):∃m,ms[c]?=some m/\qF ms c=m.1/\∀j,m.1=some j->j < c:=by
 refine⟨ms[c],dh hc,by unfold qF;rw[dh hc];rfl,λj hj=>?_⟩;rcases Nat.eq_zero_or_pos c with z | z
 ·subst z;have:=w.first _ (dh hc);rw[hj]at this;cases this
 ·obtain⟨j',h1,h2⟩:=w.ahead c _ (dh hc) z;rw[hj]at h1;cases h1;exact h2
def xy(ms:cV):Nat->Nat->List Nat
 | 0,_=>[]
 | n + 1,c=>c::(match qF ms c with | none=>[] | some j=>xy ms n j)
def bc(ms:cV)(c:Nat):List Nat:=xy ms (c + 1) c
theorem Pa{ms:cV}(w:Wf ms):∀c:Nat,c < ms.length->∀n,c + 1<=n->xy ms n c=xy ms (c + 1) c:=by
 intro c
 induction c using Nat.strongRecOn with
 | ind c ih =>
  intro hc n hn;obtain⟨n',rfl⟩:∃n',n=n' + 1:=⟨n - 1,by omega⟩;show(c::(match qF ms c with | none=>[] | some j=>xy ms n' j))=c::(match qF ms c with | none=>[] | some j=>xy ms c j);obtain⟨m,_,e,hj⟩:=w.el hc
  cases q:qF ms c with
  | none=>rfl
  | some j =>
   have hlt:j < c:=hj j (by rw[← e,q]);show c::xy ms n' j=c::xy ms c j;rw[ih j hlt (by omega) n' (by omega),ih j hlt (by omega) c (by omega)]
def rest(ms:cV):Option Nat->List Nat
 | none=>[]
 | some j=>bc ms j
theorem dJ{ms:cV}(w:Wf ms){c:Nat}(hc:c < ms.length):bc ms c=c::rest ms (qF ms c):=by
 show(c::(match qF ms c with | none=>[] | some j=>xy ms c j))=_;obtain⟨m,_,e,hj⟩:=w.el hc
 cases q:qF ms c with
 | none=>rfl
 | some j =>
  have hlt:j < c:=hj j (by rw[← e,q]);show c::xy ms c j=c::xy ms (j + 1) j;rw[Pa w j (by omega) c (by omega)]
theorem px{ms:cV}(w:Wf ms):∀c:Nat,c < ms.length->(bc ms c).length<=c + 1/\∀x∈bc ms c,x<=c:=by
 intro c
 induction c using Nat.strongRecOn with
 | ind c ih =>
  intro hc;rw[dJ w hc];obtain⟨m,_,e,hj⟩:=w.el hc
  cases q:qF ms c with
  | none=>exact⟨by simp[rest],λx hx=>by simp[rest]at hx;omega⟩
  | some j =>
   have hlt:j < c:=hj j (by rw[← e,q]);obtain⟨h1,h2⟩:=ih j hlt (by omega);refine⟨by simp only[rest,List.length_cons];omega,λx hx=>?_⟩;rcases List.mem_cons.mp hx with z | z
   ·omega
   ·have:=h2 x z;omega
theorem B9{ms:cV}(w:Wf ms):∀c:Nat,c < ms.length->0∈bc ms c:=by
 intro c
 induction c using Nat.strongRecOn with
 | ind c ih =>
  intro hc;rw[dJ w hc];rcases acu c with z | z
  ·subst z;exact aaz
  ·obtain⟨j,h1,h2⟩:=w.ahead c _ (dh hc) z;have e:qF ms c=some j:=by unfold qF;rw[dh hc];exact h1
   rw[e];exact aaF _ (ih j h2 (by omega))
abbrev mn(l:List Nat):List V:=l.map λ(n:Nat)=>V.int (n:Int)
theorem Ca(n:Nat):∀l:List Nat,J5 (.int (n:Int)) (mn l)=decide (n∈l)
 | []=>by simp[J5,mn]
 | x::r=>by
  have ih:=Ca n r;show(G3 (.int (x:Int)) (.int (n:Int))||J5 (.int (n:Int)) (mn r))=decide (n∈x::r);rw[ih];show(((x:Int) == (n:Int))||decide (n∈r))=_;by_cases h:n=x
  ·subst h;simp
  ·have h':((x:Int) == (n:Int))=false:=by
    rw[ac1];intro z;exact h (Int.ofNat.inj z).symm
   rw[h'];simp[h]
theorem zt:∀l:List Nat,(mn l).all jf=true
 | []=>rfl
 | _::r=>by show(true&&(mn r).all jf)=true;rw[zt r];rfl
def Ld(K:ax)(H:Hp)(xs:List V)(ms:cV):Prop:=xs.length=ms.length/\∀(i:Nat) x m,xs[i]?=some x->ms[i]?=some m->∃(t l:Addr) (ks:List V),x=.ref t/\bu K H t [Tq m.1,.ref l]/\bt K H l ks/\aL K H ks (m.2.map λk=>.tuple (xx k))
def ey(K:ax)(H:Hp)(a:Addr)(ms:cV):Prop:=∃xs,bt K H a xs/\Ld K H xs ms
theorem Ld.same{K:ax}{H H':Hp}{xs:List V}{ms:cV}(e:aF H H')(h:Ld K H xs ms):Ld K H' xs ms:=⟨h.1,λi x m h1 h2=>by
 obtain⟨t,l,ks,e1,e2,e3,e4⟩:=h.2 i x m h1 h2;exact⟨t,l,ks,e1,e.tup e2,e.seq e3,e4.same e⟩⟩
theorem ey.same{K:ax}{H H':Hp}{a:Addr}{ms:cV}(e:aF H H')(h:ey K H a ms):ey K H' a ms:=let ⟨xs,h1,h2⟩:=h;⟨xs,e.seq h1,h2.same e⟩
theorem aZ.el(K:ax)(H:Hp):∀o:Option Nat,aZ K H (Tq o) (AN o)
 | none=>.non
 | some n=>.int n
theorem ey.rd{K:ax}{H:Hp}{a:Addr}{ms:cV}(h:ey K H a ms):aZ K H (.ref a) (Ts ms):=by
 obtain⟨xs,h1,h2,h3⟩:=h;refine .lst h1 (by rw[aah];exact h2) λi x d hx hd=>?_
 rw[aar]at hd
 cases q:ms[i]? with
 | none=>rw[q]at hd;cases hd
 | some m =>
  rw[q]at hd;cases hd;obtain⟨t,l,ks,rfl,e2,e3,e4⟩:=h3 i x m hx q;exact .rV e2 (.cons (aZ.el K H m.1) (.cons (.Ka e3 e4) .nil))
def Tt(zs:List Nat):Kd->Prop
 | .any=>True
 | .num=>True
 | .whole c=>c < zs.length
 | .raw c m=>∃z,zs[c]?=some z/\m < 2 ^ z
theorem sN{H:Hp}{p:Addr}(h:H p=none)(o:HO):aF H (upd H p o):=λb u q=>by rw[uN (nN q h)];exact q
theorem Ld.nil(K:ax)(H:Hp):Ld K H [] []:=⟨rfl,λi x m h=>by simp at h⟩
theorem Ld.snoc{K:ax}{H:Hp}{x:V}{m:Option Nat×List Kd}{xs:List V}{ms:cV}(h:Ld K H xs ms)(hx:∃(t l:Addr) (ks:List V),x=.ref t/\bu K H t [Tq m.1,.ref l]/\bt K H l ks/\aL K H ks (m.2.map λk=>.tuple (xx k))):
  Ld K H (xs++[x]) (ms++[m]):=by
 refine⟨by simp[h.1],λi y n h1 h2=>?_⟩;by_cases hi:i < xs.length
 ·rw[aac hi]at h1;rw[aac (by rw[← h.1];exact hi)]at h2;exact h.2 i y n h1 h2
 ·have hl:i < (xs++[x]).length:=(bU h1).1;have e:i=xs.length:=by simp at hl;omega
  subst e;rw[List.getElem?_append_right (Nat.le_refl _)]at h1;rw[h.1,List.getElem?_append_right (Nat.le_refl _)]at h2;simp at h1 h2;subst h1;subst h2;exact hx
theorem zu{K:ax}{H:Hp}{t:Addr}{k:Kd}(h:bu K H t (RV k)):aZ K H (.ref t) (.tuple (xx k)):=by
 refine .rV h ?_
 cases k with
 | any=>exact .cons (.str _) .nil
 | num=>exact .cons (.str _) .nil
 | whole c=>exact .cons (.str _) (.cons (.int _) .nil)
 | raw c m=>exact .cons (.str _) (.cons (.int _) (.cons (.int _) .nil))
structure afd(sh:List (Option Nat×Nat))(zs:List Nat):Prop where
 len:sh.length=zs.length
 ne:0 < sh.length
 s0:sh[0]?=some (none,0)
 z0:zs[0]?=some 0
 six:∀z∈zs,z<=6
 go:∀(i:Nat) (s:Option Nat×Nat),0 < i->sh[i]?=some s->∃j z,s.1=some j/\j < i/\zs[j]?=some z/\zs[i]?=some (z + s.2)
structure Good(ms:cV)(zs:List Nat):Prop where
 wf:Wf ms
 len:ms.length=zs.length
 Wz:∀m,ms[0]?=some m->m.2=[]
 z0:zs[0]?=some 0
 six:∀z∈zs,z<=6
 go:∀(i:Nat) m,0 < i->ms[i]?=some m->∃j z,m.1=some j/\j < i/\zs[j]?=some z/\zs[i]?=some (z + m.2.length)
 kds:∀(i:Nat) m,ms[i]?=some m->∀k∈m.2,Tt zs k
def Pb(K:ax)(H:Hp)(ys:List V)(ks:List Kd):Prop:=ys.length=ks.length/\∀(j:Nat) y k,ys[j]?=some y->ks[j]?=some k->∃t:Addr,y=.ref t/\bu K H t (RV k)
theorem Pb.same{K:ax}{H H':Hp}{ys:List V}{ks:List Kd}(e:aF H H')(h:Pb K H ys ks):Pb K H' ys ks:=⟨h.1,λi x s h1 h2=>by
 obtain⟨t,e1,e2⟩:=h.2 i x s h1 h2;exact⟨t,e1,e.tup e2⟩⟩
theorem Tu{xs:List V}{n:Nat}:km xs none (some (n:Int))=xs.take n:=by
 unfold km;rw[HT.xc,HT.rP,List.drop_zero,Nat.sub_zero];exact List.take_eq_take_iff.mpr (by omega)
def ownOf(ms:cV)(c:Nat):List Kd:=match ms[c]? with | some m=>m.2 | none=>[]
def dM(ms:cV):List Nat->List Kd
 | []=>[]
 | e::r=>dM ms r++ownOf ms e
def fields(ms:cV)(c:Nat):List Kd:=dM ms (bc ms c)
theorem lp(ms:cV):∀l:List Nat,dM ms l=(l.reverse.map (ownOf ms)).flatten
 | []=>rfl
 | e::r=>by
  show dM ms r++ownOf ms e=_;rw[lp ms r];simp
theorem Cb{ms:cV}(w:Wf ms){c:Nat}(hc:c < ms.length):fields ms c=dM ms (rest ms (qF ms c))++ownOf ms c:=by
 unfold fields;rw[dJ w hc];rfl
theorem Good.Ew{ms:cV}{zs:List Nat}(g:Good ms zs):∀c:Nat,c < ms.length->∃z,zs[c]?=some z/\(fields ms c).length=z:=by
 intro c
 induction c using Nat.strongRecOn with
 | ind c ih =>
  intro hc;have hm:=dh hc;rw[Cb g.wf hc];have own:ownOf ms c=(ms[c]).2:=by unfold ownOf;rw[hm]
  have el:qF ms c=(ms[c]).1:=by unfold qF;rw[hm];rfl
  rcases acu c with z | z
  ·subst z;refine⟨0,g.z0,?_⟩;rw[own,g.Wz _ hm,el,g.wf.first _ hm];rfl
  ·obtain⟨j,y,e1,e2,e3,e4⟩:=g.go c _ z hm;obtain⟨z',f1,f2⟩:=ih j e2 (by omega);rw[e3]at f1;cases f1;refine⟨_,e4,?_⟩;rw[own,el,e1,aaG];show(fields ms j).length + _=_;rw[f2]
theorem aL.append{K:ax}{H:Hp}:∀{xs ys:List V} {ds es:List PyData},aL K H xs ds->aL K H ys es->aL K H (xs++ys) (ds++es)
 | [],_,[],_,_,r=>r
 | [],_,_::_,_,h,_=>nomatch h.1
 | _::_,_,[],_,h,_=>nomatch h.1
 | x::xs,ys,d::ds,es,h,r=>aL.cons (h.2 0 x d rfl rfl) (aL.append ⟨by simpa using h.1,λi a b h1 h2=>h.2 (i + 1) a b (by simpa using h1) (by simpa using h2)⟩ r)
abbrev eO(ks:List Kd):List PyData:=ks.map λk=>PyData.tuple (xx k)
theorem Ex(m n:Nat):Builtin.bitAnd (m:Int) (n:Int)=((m&&&n:Nat):Int):=by
 unfold Builtin.bitAnd;simp
def below(ms:cV):Kd->Kd->Bool
 | _,.any=>true
 | .num,.num=>true
 | .whole c,.whole d=>decide (d∈bc ms c)
 | .raw c m,.raw d n=>decide (c=d)&&decide (m&&&n=n)
 | _,_=>false
def KAt(K:ax)(H:Hp)(v:V)(k:Kd):Prop:=∃t:Addr,v=.ref t/\bu K H t (RV k)
theorem Pb.at{K:ax}{H:Hp}{ys:List V}{ks:List Kd}(h:Pb K H ys ks){i:Nat}{y:V}(hy:ys[i]?=some y):∃k,ks[i]?=some k/\KAt K H y k:=by
 have hi:i < ks.length:=by rw[← h.1];exact(bU hy).1
 obtain⟨t,e1,e2⟩:=h.2 i y _ hy (dh hi);exact⟨ks[i],dh hi,t,e1,e2⟩
theorem Tv(k:Kd):PySem.SeqAt.shaped (.tuple (xx k))=true:=by
 cases k<;>(simp only[xx,PySem.SeqAt.shaped,PyData.canLay0,PyData.canLayAll0,PyData.depth,PyData.depthAll];decide +kernel)
theorem Hk{a b:Nat}:(V.int (a:Int)=V.int (b:Int))↔a=b:=⟨λh=>by
 have h':(a:Int)=(b:Int):=V.int.inj h;omega,λh=>by rw[h]⟩
theorem Gs(a b:Nat):decide (V.int (a:Int)=V.int (b:Int))=decide (a=b):=acm.mpr Hk
theorem nWA:¬ (V.str "whole"=V.str "any"):=by decide +kernel
theorem nRA:¬ (V.str "raw"=V.str "any"):=by decide +kernel
theorem nNA:¬ (V.str "number"=V.str "any"):=by decide +kernel
theorem nAN:¬ (V.str "any"=V.str "number"):=by decide +kernel
theorem nWN:¬ (V.str "whole"=V.str "number"):=by decide +kernel
theorem nRN:¬ (V.str "raw"=V.str "number"):=by decide +kernel
theorem nRW:¬ (V.str "raw"=V.str "whole"):=by decide +kernel
theorem aZ.cJ{K:ax}{H:Hp}{v:V}{ds:List PyData}(h:aZ K H v (.tuple ds)):∃(a:Addr) (xs:List V),v=.ref a/\bu K H a xs/\aL K H xs ds:=by
 cases h with
 | tup h hl hi=>exact⟨_,_,rfl,h,hl,hi⟩
theorem aZ.aW{K:ax}{H:Hp}{v:V}{i:Int}(h:aZ K H v (.int i)):v=.int i:=by cases h;rfl
def Jv(ms:cV):Prop:=∀(i:Nat) m,ms[i]?=some m->m.2.length<=50
theorem Good.Hl{ms:cV}{zs:List Nat}(g:Good ms zs):Jv ms:=λi m hm=>by
 rcases acu i with z | z
 ·subst z;rw[g.Wz m hm]
  decide
 ·obtain⟨j,y,_,_,_,e4⟩:=g.go i m z hm;have:=g.six _ (aat e4);omega
theorem Jv.up{ms:cV}(f:Jv ms):∀l:List Nat,(dM ms l).length<=50 * l.length
 | []=>aaf _
 | e::r=>by
  have ih:=f.up r;show(dM ms r++ownOf ms e).length<=_;rw[aaG,aaT]
  have:(ownOf ms e).length<=50:=by
   unfold ownOf
   cases q:ms[e]? with
   | none=>simp
   | some m=>exact f e m q
  omega
theorem Jv.fields{ms:cV}(f:Jv ms)(w:Wf ms){c:Nat}(hc:c < ms.length):(Mine.fields ms c).length<=400:=by
 have h1:=f.up (bc ms c);have h2:=(px w c hc).1;have h3:=w.few;show(dM ms (bc ms c)).length<=400;omega
theorem iw(n:Str):∀l:List Str,J5 (.str n) (l.map V.str)=decide (n∈l)
 | []=>by simp[J5]
 | x::r=>by
  have ih:=iw n r;show(G3 (.str x) (.str n)||J5 (.str n) (r.map V.str))=decide (n∈x::r);rw[ih];by_cases h:x=n
  ·subst h;simp[G3]
  ·have h':¬ n=x:=λe=>h e.symm
   simp[G3,h,h',List.mem_cons]
theorem fH:∀l:List Str,(l.map V.str).all jf=true
 | []=>rfl
 | x::r=>by show(jf (.str x)&&(r.map V.str).all jf)=true;rw[fH r];rfl
inductive Rw where
 | push (w:Int) | load (b:Nat) | store (b:Nat) | bare (s:Str) | jump (t:Nat) | zero (t:Nat) | kin (c t:Nat) | make (c:Nat) | beg (c:Nat) | fill (c f:Nat) | get (c f:Nat) | put (c f:Nat) | call (p:Nat)
def kG:Rw->Str
 | .push _=>"push" | .load _=>"load" | .store _=>"store" | .bare s=>s | .jump _=>"jump" | .zero _=>"zero" | .kin _ _=>"kin" | .make _=>"make" | .beg _=>"begin" | .fill _ _=>"fill" | .get _ _=>"get" | .put _ _=>"put" | .call _=>"call"
def Hm:Rw->List Int
 | .push w=>[w] | .load b=>[b] | .store b=>[b] | .bare _=>[] | .jump t=>[t] | .zero t=>[t] | .kin c t=>[c,t] | .make c=>[c] | .beg c=>[c] | .fill c f=>[c,f] | .get c f=>[c,f] | .put c f=>[c,f] | .call p=>[p]
def Le(r:Rw):List V:=.str (kG r)::(Hm r).map V.int
def jm(r:Rw):PyData:=.tuple (.str (kG r)::(Hm r).map PyData.int)
def uY:List Str:=["dup","swap","drop","add","sub","mul","div","rem","less","same","toss","say","give"]
def Rw.Ok(zs:List Nat)(np nb nr:Nat):Rw->Prop
 | .push w=>-2147483648<=w/\w < 2147483648
 | .load b=>b < nb
 | .store b=>b < nb
 | .bare s=>s∈uY
 | .jump t=>t < nr
 | .zero t=>t < nr
 | .kin c t=>c < zs.length/\t < nr
 | .make c=>c < zs.length
 | .beg c=>c < zs.length
 | .fill c f=>∃z,zs[c]?=some z/\f < z
 | .get c f=>∃z,zs[c]?=some z/\f < z
 | .put c f=>∃z,zs[c]?=some z/\f < z
 | .call p=>p < np
structure Pt where
 takes:List Kd
 gives:Kd
 boxes:Nat
 height:Nat
 rows:List Rw
 spans:List (Nat×Nat×Nat)
def Zn(s:Nat×Nat×Nat):List V:=[.int (s.1:Int),.int (s.2.1:Int),.int (s.2.2:Int)]
def Pc(s:Nat×Nat×Nat):PyData:=.tuple [.int (s.1:Int),.int (s.2.1:Int),.int (s.2.2:Int)]
def Cc(p:Pt):PyData:=.tuple [.list (eO p.takes),.tuple (xx p.gives),.int (p.boxes:Int),.int (p.height:Int),.list (p.rows.map jm),.list (p.spans.map Pc)]
def Dy(ms:cV)(ps:List Pt):PyData:=.tuple [Ts ms,.list (ps.map Cc)]
structure afl(zs:List Nat)(np:Nat)(p:Pt):Prop where
 tk:∀k∈p.takes,Tt zs k
 gv:Tt zs p.gives
 bx:p.boxes<=8
 tb:p.takes.length<=p.boxes
 h1:1<=p.height
 h8:p.height<=8
 r1:1<=p.rows.length
 r2:p.rows.length<=100
 ro:∀r∈p.rows,r.Ok zs np p.boxes p.rows.length
 la:∃l r,p.rows=l++[r]/\(r=.bare "toss"∨r=.bare "give"∨∃t,r=.jump t)
 s8:p.spans.length<=8
 so:∀s∈p.spans,s.1 < s.2.1/\s.2.1<=p.rows.length/\s.2.2 < p.rows.length
theorem Gu{K:ax}{H:Hp}:∀l:List Int,aL K H (l.map V.int) (l.map PyData.int)
 | []=>.nil
 | x::r=>.cons (.int x) (Gu r)
theorem WA{K:ax}{H:Hp}{t:Addr}{r:Rw}(h:bu K H t (Le r)):aZ K H (.ref t) (jm r):=.rV h (.cons (.str _) (Gu _))
theorem WB{K:ax}{H:Hp}{t:Addr}{s:Nat×Nat×Nat}(h:bu K H t (Zn s)):aZ K H (.ref t) (Pc s):=.rV h (.cons (.int _) (.cons (.int _) (.cons (.int _) .nil)))
theorem Cd:∀l:List Int,PyData.canLayAll0 (l.map PyData.int)=true/\PyData.depthAll (l.map PyData.int)=0
 | []=>⟨rfl,rfl⟩
 | x::r=>by
  obtain⟨h1,h2⟩:=Cd r;refine⟨?_,?_⟩
  ·show(PyData.canLay0 (.int x)&&PyData.canLayAll0 (r.map PyData.int))=true;rw[h1];rfl
  ·show max (PyData.depth (.int x)) (PyData.depthAll (r.map PyData.int))=0;rw[h2];rfl
theorem xA{α:Type}{f:α->PyData}{n:Nat}:∀(l:List α) (_:∀x∈l,PyData.canLay0 (f x)=true/\PyData.depth (f x)<=n),PyData.canLayAll0 (l.map f)=true/\PyData.depthAll (l.map f)<=n
 | [],_=>⟨rfl,aba _⟩
 | x::r,hf=>by
  obtain⟨h1,h2⟩:=xA r (λy hy=>hf y (aaF _ hy));have hx:=hf x aaz;refine⟨?_,?_⟩
  ·show(PyData.canLay0 (f x)&&PyData.canLayAll0 (r.map f))=true;rw[hx.1,h1];rfl
  ·exact Nat.max_le.mpr ⟨hx.2,h2⟩
theorem AQ{α:Type}{f:α->PyData}{n:Nat}(hf:∀x,PyData.canLay0 (f x)=true/\PyData.depth (f x)<=n)(l:List α):PyData.canLayAll0 (l.map f)=true/\PyData.depthAll (l.map f)<=n:=xA l λx _=>hf x
theorem Ey(k:Kd):PyData.canLay0 (.tuple (xx k))=true/\PyData.depth (.tuple (xx k))<=1:=by
 cases k<;>exact⟨by simp only[xx,PyData.canLay0,PyData.canLayAll0];decide +kernel,by simp[xx,PyData.depth,PyData.depthAll]⟩
def Rw.Sg(r:Rw):Prop:=PyData.canLay0 (.str (kG r))=true
theorem rw_lay(r:Rw)(hs:r.Sg):PyData.canLay0 (jm r)=true/\PyData.depth (jm r)<=1:=by
 obtain⟨h1,h2⟩:=Cd (Hm r);refine⟨?_,?_⟩
 ·show(PyData.canLay0 (.str (kG r))&&PyData.canLayAll0 ((Hm r).map PyData.int))=true;rw[h1,Bool.and_true];exact hs
 ·show max (PyData.depth (.str (kG r))) (PyData.depthAll ((Hm r).map PyData.int)) + 1<=1;rw[h2];exact aaf _
theorem Lf(p:Pt)(hs:∀r∈p.rows,r.Sg):PyData.canLay0 (Cc p)=true/\PyData.depth (Cc p)<=3:=by
 have h:=AQ Ey p.takes;have g:=Ey p.gives;have r:=xA p.rows (λr hr=>rw_lay r (hs r hr));have s:=AQ (f:=Pc) (n:=1) (λs=>⟨rfl,aaf _⟩) p.spans;refine⟨?_,?_⟩
 ·show(PyData.canLayAll0 (eO p.takes)&&(PyData.canLay0 (.tuple (xx p.gives))&&(PyData.canLay0 (.int p.boxes)&&(PyData.canLay0 (.int p.height)&&(PyData.canLayAll0 (p.rows.map jm)&&(PyData.canLayAll0 (p.spans.map Pc)&&true))))))=true;rw[h.1,g.1,r.1,s.1];rfl
 ·show max (PyData.depthAll (eO p.takes) + 1) (max (PyData.depth (.tuple (xx p.gives))) (max (PyData.depth (.int p.boxes)) (max (PyData.depth (.int p.height)) (max (PyData.depthAll (p.rows.map jm) + 1) (max (PyData.depthAll (p.spans.map Pc) + 1) 0))))) + 1<=3;have e1:PyData.depth (.int p.boxes)=0:=rfl;have e2:PyData.depth (.int p.height)=0:=rfl;have h2:PyData.depthAll (eO p.takes)<=1:=h.2;have g2:=g.2;have r2:=r.2;have s2:=s.2;omega
theorem Lg(m:Option Nat×List Kd):PyData.canLay0 (Tr m)=true/\PyData.depth (Tr m)<=3:=by
 obtain⟨o,ks⟩:=m;have h:=AQ Ey ks;refine⟨?_,?_⟩
 ·show(PyData.canLay0 (AN o)&&(PyData.canLayAll0 (eO ks)&&true))=true;have:PyData.canLay0 (AN o)=true:=by cases o<;>rfl
  rw[this,h.1];rfl
 ·show max (PyData.depth (AN o)) (max (PyData.depthAll (eO ks) + 1) 0) + 1<=3;have:PyData.depth (AN o)=0:=by cases o<;>rfl
  have h2:PyData.depthAll (eO ks)<=1:=h.2;omega
theorem aZ.eE{K:ax}{H:Hp}{v:V}{ds:List PyData}(h:aZ K H v (.list ds)):∃(a:Addr) (xs:List V),v=.ref a/\bt K H a xs/\aL K H xs ds:=by
 cases h with
 | lst h hl hi=>exact⟨_,_,rfl,h,hl,hi⟩
theorem aL.at{K:ax}{H:Hp}{xs:List V}{ds:List PyData}{i:Nat}{d:PyData}(h:aL K H xs ds)(hd:ds[i]?=some d):∃x,xs[i]?=some x/\aZ K H x d:=by
 have hi:i < xs.length:=by rw[h.1];exact(bU hd).1
 exact⟨xs[i],dh hi,h.2 i _ d (dh hi) hd⟩
theorem WC{K:ax}{H:Hp}{v:V}{o:Option Nat}(h:aZ K H v (AN o)):v=Tq o:=by
 cases o with
 | none=>cases h;rfl
 | some n=>cases h;rfl
theorem ey.Tw{K:ax}{H:Hp}{v:V}{ms:cV}(h:aZ K H v (Ts ms)):∃a,v=.ref a/\ey K H a ms:=by
 obtain⟨a,xs,rfl,hS,hR⟩:=aZ.eE h;refine⟨a,rfl,xs,hS,by have:=hR.1;simpa using this,λi x m hx hm=>?_⟩;have z:=hR.2 i x (Tr m) hx (by rw[List.getElem?_map,hm];rfl);obtain⟨t,ys,rfl,hT,hY⟩:=aZ.cJ z;have hl:=hY.1;obtain⟨y0,y1,rfl⟩:=Zl hl;have e0:=WC (hY.2 0 y0 (AN m.1) rfl rfl);obtain⟨l,ks,e1,hls,hk⟩:=aZ.eE (hY.2 1 y1 _ rfl rfl);subst e0;subst e1;exact⟨t,l,ks,rfl,hT,hls,hk⟩
theorem Lh{K:ax}{H:Hp}{v:V}{ms:cV}{ps:List Pt}(hB:aZ K H v (Dy ms ps)):∃(b mk pl:Addr) (xs:List V),v=.ref b/\bu K H b [.ref mk,.ref pl]/\ey K H mk ms/\bt K H pl xs/\aL K H xs (ps.map Cc):=by
 obtain⟨b',bs,e,hT,hR⟩:=aZ.cJ hB;have hl:=hR.1;obtain⟨v0,v1,rfl⟩:=Zl hl;obtain⟨mk,rfl,hM⟩:=ey.Tw (hR.2 0 v0 _ rfl rfl);obtain⟨pl,xs,rfl,hL,hP⟩:=aZ.eE (hR.2 1 v1 _ rfl rfl);exact⟨b',mk,pl,xs,e,hT,hM,hL,hP⟩
theorem qG{K:ax}{H:Hp}{v:V}{p:Pt}(h:aZ K H v (Cc p)):∃(t l0 l4 l5:Addr) (ks Dz DA:List V) (g:V),v=.ref t/\bu K H t [.ref l0,g,.int (p.boxes:Int),.int (p.height:Int),.ref l4,.ref l5]/\bt K H l0 ks/\aL K H ks (eO p.takes)/\aZ K H g (.tuple (xx p.gives))/\bt K H l4 Dz/\aL K H Dz (p.rows.map jm)/\bt K H l5 DA/\aL K H DA (p.spans.map Pc):=by
 obtain⟨t,fs,e,hT,hR⟩:=aZ.cJ h;have hfl:=hR.1;obtain⟨f0,f1,f2,f3,f4,f5,rfl⟩:=ex6 hfl;obtain⟨l0,ks,z0,Jw,hk⟩:=aZ.eE (hR.2 0 f0 _ rfl rfl);have rg:=hR.2 1 f1 _ rfl rfl;have z2:=aZ.aW (hR.2 2 f2 _ rfl rfl);have z3:=aZ.aW (hR.2 3 f3 _ rfl rfl);obtain⟨l4,Dz,z4,Ny,Nz⟩:=aZ.eE (hR.2 4 f4 _ rfl rfl);obtain⟨l5,DA,z5,Pd,Kl⟩:=aZ.eE (hR.2 5 f5 _ rfl rfl);subst z0;subst z2;subst z3;subst z4;subst z5;exact⟨t,l0,l4,l5,ks,Dz,DA,f1,e,hT,Jw,hk,rg,Ny,Nz,Pd,Kl⟩
theorem sK{n:Nat}(h:n<=1000):n < sizeLine:=aaI h (by decide)
def Pt.wt(p:Pt)(tk:List Kd):Pt:={p with takes:=tk}
def aC(ls:List Addr)(H HX:Hp):Prop:=∀c o,c∉ls->H c=some o->HX c=some o
structure Zo(K:ax)(H:Hp)(mk pl:Addr)(ys:List V)(ls:List Addr)(ms:cV)(ps:List Pt):Prop where
 ln:ls.length=ps.length
 nd:ls.Nodup
 pls:H pl=some (.lst ys)
 np:pl∉ls
 my:∀HX,aC ls H HX->ey K HX mk ms
 pt:∀HX,aC ls H HX->∀(j:Nat) (p:Pt) (l:Addr),ps[j]?=some p->ls[j]?=some l->∃(t:Addr) (g r s:V) (ks:List V),ys[j]?=some (.ref t)/\bu K HX t [.ref l,g,.int (p.boxes:Int),.int (p.height:Int),r,s]/\H l=some (.lst ks)/\aL K HX ks (eO p.takes)/\∀vs tk,HX l=some (.lst vs)->aL K HX vs (eO tk)->aZ K HX (.ref t) (Cc (p.wt tk))
theorem aC.refl{ls:List Addr}{H:Hp}:aC ls H H:=λ_ _ _ h=>h
theorem aL.of{K:ax}{H:Hp}{α:Type}{f:α->PyData}{ys:List V}{ps:List α}(hl:ys.length=ps.length)(h:∀(j:Nat) (p:α),ps[j]?=some p->∃v,ys[j]?=some v/\aZ K H v (f p)):aL K H ys (ps.map f):=by
 refine⟨by rw[hl,aah],λi x d h1 h2=>?_⟩;rw[aar]at h2
 cases e:ps[i]? with
 | none=>rw[e]at h2;cases h2
 | some p =>
  rw[e]at h2;cases h2;obtain⟨v,e1,e2⟩:=h i p e;rw[h1]at e1;cases e1;exact e2
theorem pz{K:ax}{H:Hp}{xs:List V}{ps:List Pt}{j:Nat}{p:Pt}(hP:aL K H xs (ps.map Cc))(hp:ps[j]?=some p):∃v,xs[j]?=some v/\aZ K H v (Cc p):=by
 obtain⟨v,h1,h2⟩:=aL.at hP (i:=j) (d:=Cc p) (by rw[aar,hp];rfl);exact⟨v,h1,h2⟩
theorem sy{n m:Nat}(h:m < n):D6 n (m:Int)=some m:=by
 unfold D6;rw[if_pos (by omega),if_pos (by omega),Int.toNat_natCast]
theorem Hn{t u:TS}{D:Ends}{σ:St}{H:Hp}(h:∀R:St->Hp->Prop,(∀σ' H',u D σ' H'->R σ' H')->t {D with nx:=R} σ H):NZ t u D σ H:=h _ λ_ _ x=>x
inductive Ez(ms:cV):Str->List V->List Kd->Prop
 | begin {c:Nat} (hc:c < ms.length):Ez ms "begin" [.int c] [.raw c (2 ^ (fields ms c).length - 1)]
 | get {c f:Nat}:Ez ms "get" [.int c,.int f] [.whole c]
 | fill {c f:Nat} {k:Kd} (hc:c < ms.length) (hf:(fields ms c)[f]?=some k):Ez ms "fill" [.int c,.int f] [.raw c 0,k]
 | put {c f:Nat} {k:Kd} (hc:c < ms.length) (hf:(fields ms c)[f]?=some k):Ez ms "put" [.int c,.int f] [.whole c,k]
inductive xB(K:ax)(H:Hp)(mk pl:Addr)(part:Nat):Str->List V->List Kd->Prop
 | always {sign:Str} {xs:List V} {ks:List Kd} (h:fO bw sign=some (.tuple (eO ks))):xB K H mk pl part sign xs ks
 | call {q:Nat} {ys rest vs:List V} {t l:Addr} {ks:List Kd} (h1:bt K H pl ys) (h2:ys[q]?=some (.ref t)) (h3:bu K H t (.ref l::rest)) (h4:bt K H l vs) (h5:aL K H vs (eO ks)):xB K H mk pl part "call" [.int q] ks
 | give {ys rest:List V} {t:Addr} {v0 v:V} {k:Kd} (h1:bt K H pl ys) (h2:ys[part]?=some (.ref t)) (h3:bu K H t (v0::v::rest)) (h4:aZ K H v (.tuple (xx k))):xB K H mk pl part "give" [] [k]
 | ofR {ms:cV} {sign:Str} {xs:List V} {ks:List Kd} (hM:ey K H mk ms) (hw:Wf ms) (hf:Jv ms) (h:Ez ms sign xs ks):xB K H mk pl part sign xs ks
def cc(sign:Str):Int:=match fO pq sign with | some (.int i)=>i | _=>1
theorem Li{kds:List (Str×PyData)}{k:Str}{d:PyData}(h:fO kds k=some d):∃kv∈kds,kv.2=d:=by
 unfold fO at h;obtain⟨kv,h1,h2⟩:=Option.map_eq_some_iff.mp h;exact⟨kv,List.mem_of_find?_eq_some h1,h2⟩
theorem Lj{sign:Str}{d:PyData}(h:fO pq sign=some d):∃i,d=.int i:=by
 obtain⟨kv,h1,rfl⟩:=Li h;simp[pq]at h1;rcases h1 with e | e | e | e | e | e | e | e | e | e<;>exact⟨_,by rw[e]⟩
inductive Vl where
 | none | num (w:Int) | rcd (n:Nat)
def NA:Vl->PyData
 | .none=>.none
 | .num w=>.tuple [.str "number",.int w]
 | .rcd n=>.tuple [.str "record",.int (n:Int)]
structure Rk where
 c:Nat
 begun:Bool
 mask:Nat
 fs:List Vl
def Pe(ms:cV)(r:Rk):Kd->Bool
 | .whole c=>r.begun&&decide (c∈bc ms r.c)
 | .raw c m=>decide (r.c=c)&&decide (r.mask&&&m=m)
 | .any=>true
 | .num=>false
def Lk(ms:cV)(rcs:List Rk)(k:Kd):Vl->Bool
 | .none=>false
 | .num _=>decide (k=.num)
 | .rcd n=>match rcs[n]? with
  | some r=>Pe ms r k
  | none=>false
def hasB(ms:cV)(rcs:List Rk)(v:Vl):Kd->Bool
 | .any=>true
 | .num=>Lk ms rcs .num v
 | .whole c=>Lk ms rcs (.whole c) v
 | .raw c m=>Lk ms rcs (.raw c m) v
theorem AR{ms:cV}{rcs:List Rk}{x:Vl}{k:Kd}(h:k≠.any):hasB ms rcs x k=Lk ms rcs k x:=by
 cases k with
 | any=>exact absurd rfl h
 | num=>rfl
 | whole c=>rfl
 | raw c m=>rfl
theorem sA{ms:cV}{rcs:List Rk}{n:Nat}{r:Rk}{k:Kd}(h:rcs[n]?=some r):Lk ms rcs k (.rcd n)=Pe ms r k:=by
 show(match rcs[n]? with | some r=>Pe ms r k | none=>false)=_;rw[h]
theorem EA{K:ax}{H:Hp}{v:V}{w:Int}(h:aZ K H v (NA (.num w))):∃t,v=.ref t/\bu K H t [.str "number",.int w]:=by
 obtain⟨t,fs,e,hT,hR⟩:=aZ.cJ h;have hfl:=hR.1
 match fs,hfl,hT,hR with
 | [f0,f1],_,hT,hR =>
  have z0:f0=.str "number":=by have:=hR.2 0 f0 _ rfl rfl;cases this;rfl
  have z1:=aZ.aW (hR.2 1 f1 _ rfl rfl);subst z0;subst z1;exact⟨t,e,hT⟩
theorem EC{K:ax}{H:Hp}{v:V}{n:Nat}(h:aZ K H v (NA (.rcd n))):∃t,v=.ref t/\bu K H t [.str "record",.int (n:Int)]:=by
 obtain⟨t,fs,e,hT,hR⟩:=aZ.cJ h;have hfl:=hR.1
 match fs,hfl,hT,hR with
 | [f0,f1],_,hT,hR =>
  have z0:f0=.str "record":=by have:=hR.2 0 f0 _ rfl rfl;cases this;rfl
  have z1:=aZ.aW (hR.2 1 f1 _ rfl rfl);subst z0;subst z1;exact⟨t,e,hT⟩
theorem Gv{K:ax}{H:Hp}{v:V}(h:aZ K H v (NA .none)):v=.non:=by
 have h:aZ K H v .none:=h;cases h;rfl
theorem Zp:¬ (V.str "record"=V.str "number"):=by decide +kernel
theorem Zq:¬ (V.str "number"=V.str "record"):=by decide +kernel
def Tx:Kd->Str
 | .any=>"any" | .num=>"number" | .whole _=>"whole" | .raw _ _=>"raw"
theorem uo(k:Kd):pF (RV k) 0=some (.str (Tx k)):=by cases k<;>rfl
theorem Pf{k:Kd}(h:k≠.any):¬ (V.str (Tx k)=V.str "any"):=by
 cases k with
 | any=>exact absurd rfl h
 | num=>exact nNA
 | whole c=>exact nWA
 | raw c m=>exact nRA
theorem AU{k:Kd}:(V.str (Tx k)=V.str "number")↔k=.num:=by
 cases k with
 | any=>exact⟨λh=>absurd h nAN,λh=>by cases h⟩
 | num=>exact⟨λ_=>rfl,λ_=>rfl⟩
 | whole c=>exact⟨λh=>absurd h nWN,λh=>by cases h⟩
 | raw c m=>exact⟨λh=>absurd h nRN,λh=>by cases h⟩
def jn(n:Int):Int:=(n + 2147483648) % 4294967296 - 2147483648
def lu(n:Int):Prop:=-2147483648<=n/\n<=2147483647
def rk(sign:Str)(a b:Int):Int :=
 if sign="add" then jn (a + b)else if sign="sub" then jn (a - b)else if sign="mul" then jn (a * b)
 else if sign="less" then(if a < b then 1 else 0)else if sign="same" then(if a=b then 1 else 0)else if sign="div" then jn (a.fdiv b)else a.fmod b
def parts(sign:Str):Prop:=sign="div"∨sign="rem"
instance (sign:Str):Decidable (parts sign):=by unfold parts;exact inferInstance
theorem Gw(n:Int):-2147483648<=jn n/\jn n<=2147483647/\(n - jn n) % 4294967296=0:=by
 unfold jn;omega
theorem dv:¬ parts "add"/\¬ parts "sub"/\¬ parts "mul"/\¬ parts "less"/\¬ parts "same":=by decide +kernel
theorem Ll(a b:Int):rk "add" a b=jn (a + b):=by unfold rk;rw[if_pos rfl]
theorem Lm(a b:Int):rk "sub" a b=jn (a - b):=by unfold rk;rw[if_neg (by decide +kernel),if_pos rfl]
theorem Ln(a b:Int):rk "mul" a b=jn (a * b):=by unfold rk;rw[if_neg (by decide +kernel),if_neg (by decide +kernel),if_pos rfl]
theorem Pg(a b:Int):rk "less" a b=if a < b then 1 else 0:=by unfold rk;rw[if_neg (by decide +kernel),if_neg (by decide +kernel),if_neg (by decide +kernel),if_pos rfl]
theorem Ph(a b:Int):rk "same" a b=if a=b then 1 else 0:=by unfold rk;rw[if_neg (by decide +kernel),if_neg (by decide +kernel),if_neg (by decide +kernel),if_neg (by decide +kernel),if_pos rfl]
theorem Tz(a b:Int):rk "div" a b=jn (a.fdiv b):=by unfold rk;rw[if_neg (by decide +kernel),if_neg (by decide +kernel),if_neg (by decide +kernel),if_neg (by decide +kernel),if_neg (by decide +kernel),if_pos rfl]
theorem TB(a b:Int):rk "rem" a b=a.fmod b:=by unfold rk;rw[if_neg (by decide +kernel),if_neg (by decide +kernel),if_neg (by decide +kernel),if_neg (by decide +kernel),if_neg (by decide +kernel),if_neg (by decide +kernel)]
def iy:Vl->Int
 | .none=>0
 | .num w=>w
 | .rcd n=>(n:Int)
def AV(o:HO):Prop:=(∃xs,o=.lst xs)∨∃C dx fs,o=.ins C dx fs
def bq(H:Hp)(F:List Addr):Prop:=∀c∈F,∃o,H c=some o/\AV o
theorem bu.keep{K:ax}{H H':Hp}{F:List Addr}{t:Addr}{xs:List V}(k:aC F H H')(m:bq H F)(h:bu K H t xs):bu K H' t xs:=by
 rcases h with(h | ⟨u,h⟩) | h
 ·refine .inl (.inl (k _ _ (λhf=>?_) h));obtain⟨o,e,z⟩:=m t hf;rw[h]at e;cases e;rcases z with⟨xs,z⟩ | ⟨C,dx,fs,z⟩<;>cases z
 ·refine .inl (.inr ⟨u,k _ _ (λhf=>?_) h⟩);obtain⟨o,e,z⟩:=m t hf;rw[h]at e;cases e;rcases z with⟨xs,z⟩ | ⟨C,dx,fs,z⟩<;>cases z
 ·exact .inr h
theorem Pj{K:ax}{H H':Hp}{F:List Addr}{v:V}{x:Vl}(k:aC F H H')(m:bq H F)(h:aZ K H v (NA x)):aZ K H' v (NA x):=by
 cases x with
 | none=>rw[Gv h];exact .non
 | num w =>
  obtain⟨t,rfl,ht⟩:=EA h;exact .rV (bu.keep k m ht) (.cons (.str _) (.cons (.int _) .nil))
 | rcd n =>
  obtain⟨t,rfl,ht⟩:=EC h;exact .rV (bu.keep k m ht) (.cons (.str _) (.cons (.int _) .nil))
def yI(K:ax)(H:Hp)(wt:Bool)(v:V)(x:Vl):Prop:=if wt=true then aZ K H v (NA x)else v=.int (iy x)
theorem yI.same{K:ax}{H H':Hp}{wt:Bool}{v:V}{x:Vl}(e:aF H H')(h:yI K H wt v x):yI K H' wt v x:=by
 cases wt with
 | true=>exact aZ.same e (show aZ K H v (NA x)from h)
 | false=>exact h
theorem yI.keep{K:ax}{H H':Hp}{F:List Addr}{wt:Bool}{v:V}{x:Vl}(k:aC F H H')(m:bq H F)(h:yI K H wt v x):yI K H' wt v x:=by
 cases wt with
 | true=>exact Pj k m (show aZ K H v (NA x)from h)
 | false=>exact h
def iM(K:ax)(H:Hp)(wt:Bool)(ys:List V)(xs:List Vl):Prop:=ys.length=xs.length/\∀(j:Nat) y x,ys[j]?=some y->xs[j]?=some x->yI K H wt y x
theorem iM.nil{K:ax}{H:Hp}{wt:Bool}:iM K H wt [] []:=⟨rfl,λj y x h=>by simp at h⟩
theorem iM.same{K:ax}{H H':Hp}{wt:Bool}{ys:List V}{xs:List Vl}(e:aF H H')(h:iM K H wt ys xs):iM K H' wt ys xs:=⟨h.1,λj y x h1 h2=>(h.2 j y x h1 h2).same e⟩
theorem iM.keep{K:ax}{H H':Hp}{F:List Addr}{wt:Bool}{ys:List V}{xs:List Vl}(k:aC F H H')(m:bq H F)(h:iM K H wt ys xs):iM K H' wt ys xs:=⟨h.1,λj y x h1 h2=>(h.2 j y x h1 h2).keep k m⟩
theorem iM.snoc{K:ax}{H:Hp}{wt:Bool}{ys:List V}{xs:List Vl}{y:V}{x:Vl}(h:iM K H wt ys xs)(hy:yI K H wt y x):iM K H wt (ys++[y]) (xs++[x]):=by
 refine⟨by simp[h.1],λj z u hz hu=>?_⟩;by_cases hj:j < ys.length
 ·rw[aac hj]at hz;rw[aac (by rw[← h.1];exact hj)]at hu;exact h.2 j z u hz hu
 ·have hl:j=ys.length:=by
   have:=(bU hz).1;simp at this;omega
  subst hl;rw[aaj (aaf _),aa3]at hz;rw[h.1,aaj (aaf _),aa3]at hu;cases hz;cases hu;exact hy
theorem iM.take{K:ax}{H:Hp}{wt:Bool}{ys:List V}{xs:List Vl}(h:iM K H wt ys xs)(n:Nat):iM K H wt (ys.take n) (xs.take n):=by
 refine⟨by rw[aaC,aaC,h.1],λj y k hy hk=>?_⟩;have hj:j < (ys.take n).length:=(bU hy).1;rw[aaC]at hj;rw[abk (by omega)]at hy hk;exact h.2 _ y k hy hk
theorem iM.drop{K:ax}{H:Hp}{wt:Bool}{ys:List V}{xs:List Vl}(h:iM K H wt ys xs)(n:Nat):iM K H wt (ys.drop n) (xs.drop n):=by
 refine⟨by rw[aaY,aaY,h.1],λj y k hy hk=>?_⟩;rw[abb]at hy hk;exact h.2 _ y k hy hk
theorem iM.set{K:ax}{H:Hp}{wt:Bool}{ys:List V}{xs:List Vl}{y:V}{x:Vl}(h:iM K H wt ys xs)(hy:yI K H wt y x)(i:Nat):iM K H wt (ys.set i y) (xs.set i x):=by
 refine⟨by rw[aaL,aaL,h.1],λj z u hz hu=>?_⟩;rw[abE]at hz hu;by_cases hj:i=j
 ·subst hj;rw[aaq rfl]at hz hu;split at hz
  ·split at hu
   ·cases hz;cases hu;exact hy
   ·cases hu
  ·cases hz
 ·rw[aan hj]at hz hu;exact h.2 j z u hz hu
theorem iM.at{K:ax}{H:Hp}{wt:Bool}{ys:List V}{xs:List Vl}(h:iM K H wt ys xs){i:Nat}{x:Vl}(hx:xs[i]?=some x):∃y,ys[i]?=some y/\yI K H wt y x:=by
 have hi:i < ys.length:=by rw[h.1];exact(bU hx).1
 exact⟨ys[i],dh hi,h.2 i _ x (dh hi) hx⟩
theorem iM.append{K:ax}{H:Hp}{wt:Bool}{ys zs:List V}{xs us:List Vl}(h:iM K H wt ys xs)(h':iM K H wt zs us):iM K H wt (ys++zs) (xs++us):=by
 refine⟨by simp[h.1,h'.1],λj z u hz hu=>?_⟩;by_cases hj:j < ys.length
 ·rw[aac hj]at hz;rw[aac (by rw[← h.1];exact hj)]at hu;exact h.2 j z u hz hu
 ·rw[aaj (by omega)]at hz;rw[aaj (by rw[← h.1];omega),← h.1]at hu;exact h'.2 _ z u hz hu
theorem iM.rep{K:ax}{H:Hp}{wt:Bool}{v:V}{x:Vl}(h:yI K H wt v x)(n:Nat):iM K H wt (List.replicate n v) (List.replicate n x):=by
 refine⟨by simp,λj y z hy hz=>?_⟩;rw[List.eq_of_mem_replicate (List.mem_of_getElem? hy),List.eq_of_mem_replicate (List.mem_of_getElem? hz)];exact h
def Cf{α:Type}(P:V->α->Prop)(ys:List V)(xs:List α):Prop:=ys.length=xs.length/\∀(j:Nat) y x,ys[j]?=some y->xs[j]?=some x->P y x
theorem Cf.nil{α:Type}{P:V->α->Prop}:Cf P [] []:=⟨rfl,λj y x h=>by simp at h⟩
theorem Cf.snoc{α:Type}{P:V->α->Prop}{ys:List V}{xs:List α}{y:V}{x:α}(h:Cf P ys xs)(hy:P y x):Cf P (ys++[y]) (xs++[x]):=by
 refine⟨by simp[h.1],λj z u hz hu=>?_⟩;by_cases hj:j < ys.length
 ·rw[aac hj]at hz;rw[aac (by rw[← h.1];exact hj)]at hu;exact h.2 j z u hz hu
 ·have hl:j=ys.length:=by
   have:=(bU hz).1;simp at this;omega
  subst hl;rw[aaj (aaf _),aa3]at hz;rw[h.1,aaj (aaf _),aa3]at hu;cases hz;cases hu;exact hy
theorem RW{α:Type}{l:List α}(h:0 < l.length):∃lo x,l=lo++[x]:=by
 rcases acY l with rfl | ⟨lo,x,rfl⟩
 ·simp at h
 ·exact⟨lo,x,by simp⟩
theorem Lo{α:Type}{l:List α}(h:1 < l.length):∃lo x y,l=lo++[x,y]:=by
 obtain⟨lo,y,rfl⟩:=RW (Nat.lt_trans Nat.zero_lt_one h);obtain⟨lo,x,rfl⟩:=RW (l:=lo) (by simp at h;omega);exact⟨lo,x,y,by simp⟩
theorem Cf.imp{α:Type}{P P':V->α->Prop}{ys:List V}{xs:List α}(h:Cf P ys xs)(f:∀y x,P y x->P' y x):Cf P' ys xs:=⟨h.1,λj y x h1 h2=>f y x (h.2 j y x h1 h2)⟩
theorem Cf.at{α:Type}{P:V->α->Prop}{ys:List V}{xs:List α}(h:Cf P ys xs){i:Nat}{x:α}(hx:xs[i]?=some x):∃y,ys[i]?=some y/\P y x:=by
 have hi:i < ys.length:=by rw[h.1];exact(bU hx).1
 exact⟨ys[i],dh hi,h.2 i _ x (dh hi) hx⟩
theorem Cf.set{α:Type}{P:V->α->Prop}{ys:List V}{xs:List α}{y:V}{x:α}(h:Cf P ys xs)(hy:P y x)(i:Nat):Cf P (ys.set i y) (xs.set i x):=by
 refine⟨by rw[aaL,aaL,h.1],λj z u hz hu=>?_⟩;rw[abE]at hz hu;by_cases hj:i=j
 ·subst hj;rw[aaq rfl]at hz hu;split at hz
  ·split at hu
   ·cases hz;cases hu;exact hy
   ·cases hu
  ·cases hz
 ·rw[aan hj]at hz hu;exact h.2 j z u hz hu
def ED(K:ax)(H:Hp)(wt:Bool)(v:V)(r:Rk):Prop:=∃(t ft:Addr) (ys:List V),v=.ref t/\bu K H t (if wt=true then [.int (r.c:Int),.bl r.begun,.int (r.mask:Int),.ref ft]else [.int (r.c:Int),.ref ft])/\bu K H ft ys/\iM K H wt ys r.fs
theorem ED.same{K:ax}{H H':Hp}{wt:Bool}{v:V}{r:Rk}(e:aF H H')(h:ED K H wt v r):ED K H' wt v r:=by
 obtain⟨t,ft,ys,h1,h2,h3,h4⟩:=h;exact⟨t,ft,ys,h1,e.tup h2,e.tup h3,h4.same e⟩
theorem ED.keep{K:ax}{H H':Hp}{F:List Addr}{wt:Bool}{v:V}{r:Rk}(k:aC F H H')(m:bq H F)(h:ED K H wt v r):ED K H' wt v r:=by
 obtain⟨t,ft,ys,h1,h2,h3,h4⟩:=h;exact⟨t,ft,ys,h1,bu.keep k m h2,bu.keep k m h3,h4.keep k m⟩
def xC(K:ax)(H:Hp)(wt:Bool)(l:Addr)(rs:List Rk):Prop:=∃ys,H l=some (.lst ys)/\Cf (ED K H wt) ys rs
theorem xC.same{K:ax}{H H':Hp}{wt:Bool}{l:Addr}{rs:List Rk}(e:aF H H')(h:xC K H wt l rs):xC K H' wt l rs:=by
 obtain⟨ys,h1,h2⟩:=h;exact⟨ys,e _ _ h1,h2.imp λy x h=>h.same e⟩
theorem xC.keep{K:ax}{H H':Hp}{F:List Addr}{wt:Bool}{l:Addr}{rs:List Rk}(k:aC F H H')(m:bq H F)(n:l∉F)(h:xC K H wt l rs):xC K H' wt l rs:=by
 obtain⟨ys,h1,h2⟩:=h;exact⟨ys,k _ _ n h1,h2.imp λy x h=>h.keep k m⟩
structure Fm where
 fa:Addr
 bl:Addr
 sl:Addr
 part:Nat
 at':Nat
 bx:List Vl
 st:List Vl
def BH(part at':Int)(bl sl:Addr):List (Str×V):=[("part",.int part),("at",.int at'),("boxes",.ref bl),("stack",.ref sl)]
structure gW(K:ax)(H:Hp)(CF:Addr)(wt:Bool)(f:Fm):Prop where
 ob:∃dx,H f.fa=some (.ins CF dx (BH f.part f.at' f.bl f.sl))
 bo:∃ys,H f.bl=some (.lst ys)/\iM K H wt ys f.bx
 sk:∃ys,H f.sl=some (.lst ys)/\iM K H wt ys f.st
 ne:f.bl≠f.sl
def gC(f:Fm):List Addr:=[f.fa,f.bl,f.sl]
theorem gW.rK{K:ax}{H:Hp}{CF:Addr}{wt:Bool}{f:Fm}(h:gW K H CF wt f):bq H (gC f):=by
 intro c hc;simp only[gC,List.mem_cons,List.not_mem_nil,or_false]at hc;rcases hc with rfl | rfl | rfl
 ·obtain⟨dx,e⟩:=h.ob;exact⟨_,e,.inr ⟨_,_,_,rfl⟩⟩
 ·obtain⟨ys,e,_⟩:=h.bo;exact⟨_,e,.inl ⟨_,rfl⟩⟩
 ·obtain⟨ys,e,_⟩:=h.sk;exact⟨_,e,.inl ⟨_,rfl⟩⟩
theorem gW.same{K:ax}{H H':Hp}{CF:Addr}{wt:Bool}{f:Fm}(e:aF H H')(h:gW K H CF wt f):gW K H' CF wt f:=by
 obtain⟨⟨dx,h1⟩,⟨ys,h2,h3⟩,⟨zs,h4,h5⟩,ne⟩:=h;exact⟨⟨dx,e _ _ h1⟩,⟨ys,e _ _ h2,h3.same e⟩,⟨zs,e _ _ h4,h5.same e⟩,ne⟩
theorem NB{f:Str}{v:V}{r:List (Str×V)}:List.lookup f ((f,v)::r)=some v:=by simp
theorem uq{f g:Str}{v:V}{r:List (Str×V)}(h:¬ g=f):List.lookup g ((f,v)::r)=List.lookup g r:=by
 have hb:(g == f)=false:=by simpa using h
 simp[List.lookup,hb]
theorem Zr{f:Str}{v w:V}{r:List (Str×V)}:bz f w ((f,v)::r)=(f,w)::r:=by
 show(if f=f then _ else _)=_;rw[aaq rfl]
theorem qH{f g:Str}{v w:V}{r:List (Str×V)}(h:¬ f=g):bz g w ((f,v)::r)=(f,v)::bz g w r:=by
 show(if f=g then _ else _)=_;rw[aan h]
theorem wO{p a:Int}{b s:Addr}:(BH p a b s).lookup ("part" : Str)=some (.int p):=NB
theorem uZ{p a:Int}{b s:Addr}:(BH p a b s).lookup ("at" : Str)=some (.int a):=by
 unfold BH;rw[uq (by decide +kernel),NB]
theorem Cg{p a:Int}{b s:Addr}:(BH p a b s).lookup ("boxes" : Str)=some (.ref b):=by
 unfold BH;rw[uq (by decide +kernel),uq (by decide +kernel),NB]
theorem fY{p a:Int}{b s:Addr}:(BH p a b s).lookup ("stack" : Str)=some (.ref s):=by
 unfold BH;rw[uq (by decide +kernel),uq (by decide +kernel),uq (by decide +kernel),NB]
theorem jo{p a a':Int}{b s:Addr}:bz "at" (.int a') (BH p a b s)=BH p a' b s:=by
 unfold BH;rw[qH (by decide +kernel),Zr]
theorem TC{p a:Int}{b s:Addr}:bz "stack" (.ref s) (bz "boxes" (.ref b) (bz "at" (.int a) (bz "part" (.int p) [])))=BH p a b s:=by
 have e1:bz "part" (.int p) []=([("part",.int p)]:List (Str×V)):=rfl;have e2:bz "at" (.int a) ([("part",.int p)]:List (Str×V))=([("part",.int p),("at",.int a)]:List (Str×V)):=by rw[qH (by decide +kernel)];rfl
 have e3:bz "boxes" (.ref b) ([("part",.int p),("at",.int a)]:List (Str×V))=([("part",.int p),("at",.int a),("boxes",.ref b)]:List (Str×V)):=by rw[qH (by decide +kernel),qH (by decide +kernel)];rfl
 rw[e1,e2,e3,qH (by decide +kernel),qH (by decide +kernel),qH (by decide +kernel)];rfl
theorem gW.keep{K:ax}{H H':Hp}{CF:Addr}{wt:Bool}{f:Fm}{F:List Addr}(k:aC F H H')(m:bq H F)(d:∀c∈gC f,c∉F)(h:gW K H CF wt f):gW K H' CF wt f:=by
 obtain⟨⟨dx,h1⟩,⟨ys,h2,h3⟩,⟨zs,h4,h5⟩,ne⟩:=h;exact⟨⟨dx,k _ _ (d _ (by simp[gC])) h1⟩,⟨ys,k _ _ (d _ (by simp[gC])) h2,h3.keep k m⟩,⟨zs,k _ _ (d _ (by simp[gC])) h4,h5.keep k m⟩,ne⟩
def atV:Str ⊕ Int->V
 | .inl s=>.str s
 | .inr i=>.int i
def atD:Str ⊕ Int->PyData
 | .inl s=>.str s
 | .inr i=>.int i
def EE(l:List (Str ⊕ Int)):PyData:=if l=[]then .none else .tuple (l.map atD)
def jI(K:ax)(H:Hp)(ev:V)(l:List (Str ⊕ Int)):Prop:=(l=[]/\ev=.non)∨(l≠[]/\∃t,ev=.ref t/\bu K H t (l.map atV))
theorem jI.same{K:ax}{H H':Hp}{ev:V}{l:List (Str ⊕ Int)}(e:aF H H')(h:jI K H ev l):jI K H' ev l:=by
 rcases h with h | ⟨n,t,h1,h2⟩
 ·exact .inl h
 ·exact .inr ⟨n,t,h1,e.tup h2⟩
theorem jI.keep{K:ax}{H H':Hp}{F:List Addr}{ev:V}{l:List (Str ⊕ Int)}(k:aC F H H')(m:bq H F)(h:jI K H ev l):jI K H' ev l:=by
 rcases h with h | ⟨n,t,h1,h2⟩
 ·exact .inl h
 ·exact .inr ⟨n,t,h1,bu.keep k m h2⟩
theorem EF{K:ax}{H:Hp}:∀l:List (Str ⊕ Int),aL K H (l.map atV) (l.map atD)
 | []=>.nil
 | .inl s::r=>.cons (.str s) (EF r)
 | .inr i::r=>.cons (.int i) (EF r)
structure Mc where
 ma:Addr
 b:Addr
 lv:Addr
 rc:Addr
 sd:Addr
 ms:cV
 ps:List Pt
 bT:List Fm
 recs:List Rk
 said:List Int
 left:Int
 fin:List (Str ⊕ Int)
def foot(m:Mc):List Addr:=m.ma::m.lv::m.rc::m.sd::m.bT.flatMap gC
def rL(b lv rc sd:Addr)(left:Int)(ev:V):List (Str×V):=[("book",.ref b),("live",.ref lv),("records",.ref rc),("said",.ref sd),("left",.int left),("end",ev)]
theorem bq.sub{H:Hp}{F G:List Addr}(h:bq H F)(s:∀c∈G,c∈F):bq H G:=λc hc=>h c (s c hc)
theorem aC.sub{F G:List Addr}{H H':Hp}(k:aC F H H')(s:∀c∈F,c∈G):aC G H H':=λc o n e=>k c o (λz=>n (s c z)) e
theorem aC.trans{F:List Addr}{H H1 H2:Hp}(k:aC F H H1)(k':aC F H1 H2):aC F H H2:=λc o n e=>k' c o n (k c o n e)
def WD(K:ax)(F:List Addr)(H:Hp)(b:Addr)(ms:cV)(ps:List Pt):Prop:=∃(mk pl:Addr) (xs:List V),∀HX,aC F H HX->bu K HX b [.ref mk,.ref pl]/\ey K HX mk ms/\bt K HX pl xs/\aL K HX xs (ps.map Cc)
theorem WD.to{K:ax}{F G:List Addr}{H H':Hp}{b:Addr}{ms:cV}{ps:List Pt}(h:WD K F H b ms ps)(k:aC F H H')(s:∀c∈G,c∈F):WD K G H' b ms ps:=by
 obtain⟨mk,pl,xs,h⟩:=h;exact⟨mk,pl,xs,λHX kx=>h HX (aC.trans k (aC.sub kx s))⟩
structure bQ(K:ax)(H:Hp)(CF C:Addr)(wt:Bool)(m:Mc):Prop where
 ob:∃dx ev,H m.ma=some (.ins C dx (rL m.b m.lv m.rc m.sd m.left ev))/\jI K H ev m.fin
 bk:WD K (foot m) H m.b m.ms m.ps
 lv:H m.lv=some (.lst (m.bT.map λf=>.ref f.fa))
 rc:xC K H wt m.rc m.recs
 sd:H m.sd=some (.lst (m.said.map V.int))
 fr:∀f∈m.bT,gW K H CF wt f
 nd:(foot m).Nodup
theorem jJ{b lv rc sd:Addr}{l:Int}{e:V}:(rL b lv rc sd l e).lookup ("book" : Str)=some (.ref b):=NB
theorem sC{b lv rc sd:Addr}{l:Int}{e:V}:(rL b lv rc sd l e).lookup ("live" : Str)=some (.ref lv):=by
 unfold rL;rw[uq (by decide +kernel),NB]
theorem fZ{b lv rc sd:Addr}{l:Int}{e:V}:(rL b lv rc sd l e).lookup ("records" : Str)=some (.ref rc):=by
 unfold rL;rw[uq (by decide +kernel),uq (by decide +kernel),NB]
theorem Gx{b lv rc sd:Addr}{l:Int}{e:V}:(rL b lv rc sd l e).lookup ("said" : Str)=some (.ref sd):=by
 unfold rL;rw[uq (by decide +kernel),uq (by decide +kernel),uq (by decide +kernel),NB]
theorem AW{b lv rc sd:Addr}{l:Int}{e:V}:(rL b lv rc sd l e).lookup ("left" : Str)=some (.int l):=by
 unfold rL;rw[uq (by decide +kernel),uq (by decide +kernel),uq (by decide +kernel),uq (by decide +kernel),NB]
theorem EG{b lv rc sd:Addr}{l:Int}{e:V}:(rL b lv rc sd l e).lookup ("end" : Str)=some e:=by
 unfold rL;rw[uq (by decide +kernel),uq (by decide +kernel),uq (by decide +kernel),uq (by decide +kernel),uq (by decide +kernel),NB]
theorem ur{b lv rc sd:Addr}{l:Int}{e e':V}:bz "end" e' (rL b lv rc sd l e)=rL b lv rc sd l e':=by
 unfold rL;rw[qH (by decide +kernel),qH (by decide +kernel),qH (by decide +kernel),qH (by decide +kernel),qH (by decide +kernel),Zr]
theorem EH{b lv rc sd:Addr}{l l':Int}{e:V}:bz "left" (.int l') (rL b lv rc sd l e)=rL b lv rc sd l' e:=by
 unfold rL;rw[qH (by decide +kernel),qH (by decide +kernel),qH (by decide +kernel),qH (by decide +kernel),Zr]
theorem mc_no{b lv rc sd:Addr}{l:Int}{e:V}{m:Str}(h:¬ m∈(["book","live","records","said","left","end"]:List Str)):(rL b lv rc sd l e).lookup m=none:=by
 simp only[List.mem_cons,List.not_mem_nil,or_false,not_or]at h;unfold rL;rw[uq h.1,uq h.2.1,uq h.2.2.1,uq h.2.2.2.1,uq h.2.2.2.2.1,uq h.2.2.2.2.2];rfl
theorem bQ.rK{K:ax}{H:Hp}{CF C:Addr}{wt:Bool}{m:Mc}(h:bQ K H CF C wt m):bq H (foot m):=by
 intro c hc;simp only[foot,List.mem_cons,List.mem_flatMap]at hc;rcases hc with rfl | rfl | rfl | rfl | ⟨f,hf,hc⟩
 ·obtain⟨dx,ev,e,_⟩:=h.ob;exact⟨_,e,.inr ⟨_,_,_,rfl⟩⟩
 ·exact⟨_,h.lv,.inl ⟨_,rfl⟩⟩
 ·obtain⟨ys,e,_⟩:=h.rc;exact⟨_,e,.inl ⟨_,rfl⟩⟩
 ·exact⟨_,h.sd,.inl ⟨_,rfl⟩⟩
 ·exact(h.fr f hf).rK c hc
theorem aY{H:Hp}{a:Addr}{o:HO}:aC [a] H (upd H a o):=λc p n e=>by
 rw[uN (λz=>n (by rw[z];exact aaN.mpr rfl))];exact e
theorem cC{F:List Addr}{H H':Hp}(s:aF H H'):aC F H H':=λc o _ e=>s c o e
theorem bQ.same{K:ax}{H H':Hp}{CF C:Addr}{wt:Bool}{m:Mc}(e:aF H H')(h:bQ K H CF C wt m):bQ K H' CF C wt m:=by
 obtain⟨⟨dx,ev,h1,h2⟩,bk,lv,rc,sd,fr,nd⟩:=h;exact⟨⟨dx,ev,e _ _ h1,h2.same e⟩,bk.to (cC e) (λc hc=>hc),e _ _ lv,rc.same e,e _ _ sd,λf hf=>(fr f hf).same e,nd⟩
theorem bQ.own{K:ax}{H H':Hp}{CF C dx:Addr}{wt:Bool}{m:Mc}{l:Int}{ev:V}{fin:List (Str ⊕ Int)}(h:bQ K H CF C wt m)(k:aC [m.ma] H H')(e:H' m.ma=some (.ins C dx (rL m.b m.lv m.rc m.sd l ev)))(he:jI K H' ev fin):bQ K H' CF C wt {m with left:=l,fin:=fin}:=by
 have nd:=h.nd;simp only[foot,List.nodup_cons,List.mem_cons,not_or]at nd;have sub:∀c∈[m.ma],c∈foot m:=λc hc=>by rw[bN hc];exact List.mem_cons_self
 have mu:=h.rK.sub sub;refine⟨⟨dx,ev,e,he⟩,h.bk.to (k.sub sub) (λc hc=>hc),k _ _ ?_ h.lv,h.rc.keep k mu ?_,k _ _ ?_ h.sd,λf hf=>(h.fr f hf).keep k mu ?_,h.nd⟩
 ·exact λz=>nd.1.1 (bN z).symm
 ·exact λz=>nd.1.2.1 (bN z).symm
 ·exact λz=>nd.1.2.2.1 (bN z).symm
 ·intro c hc z;rw[bN z]at hc;exact nd.1.2.2.2 (aa9.mpr ⟨f,hf,hc⟩)
theorem bQ.says{K:ax}{H H':Hp}{CF C:Addr}{wt:Bool}{m:Mc}{sd:List Int}(h:bQ K H CF C wt m)(k:aC [m.sd] H H')(e:H' m.sd=some (.lst (sd.map V.int))):bQ K H' CF C wt {m with said:=sd}:=by
 have nd:=h.nd;simp only[foot,List.nodup_cons,List.mem_cons,not_or]at nd;have sub:∀c∈[m.sd],c∈foot m:=λc hc=>by rw[bN hc];simp[foot]
 have mu:=h.rK.sub sub;obtain⟨dx,ev,h1,h2⟩:=h.ob;refine⟨⟨dx,ev,k _ _ ?_ h1,h2.keep k mu⟩,h.bk.to (k.sub sub) (λc hc=>hc),k _ _ ?_ h.lv,h.rc.keep k mu ?_,e,λf hf=>(h.fr f hf).keep k mu ?_,h.nd⟩
 ·exact λz=>nd.1.2.2.1 (bN z)
 ·exact λz=>nd.2.1.2.1 (bN z)
 ·exact λz=>nd.2.2.1.1 (bN z)
 ·intro c hc z;rw[bN z]at hc;exact nd.2.2.2.1 (aa9.mpr ⟨f,hf,hc⟩)
theorem jq{m:Mc}{fs:List Fm}{f:Fm}(hf:m.bT=fs++[f]):foot m=m.ma::m.lv::m.rc::m.sd::(fs.flatMap gC++gC f):=by
 unfold foot;rw[hf];simp
theorem bQ.top{K:ax}{H H':Hp}{CF C:Addr}{wt:Bool}{m:Mc}{fs:List Fm}{f f':Fm}(h:bQ K H CF C wt m)(hf:m.bT=fs++[f])(a1:f'.fa=f.fa)(a2:f'.bl=f.bl)(a3:f'.sl=f.sl)(k:aC (gC f) H H')(hF:gW K H' CF wt f'):bQ K H' CF C wt {m with bT:=fs++[f']}:=by
 have nd:=h.nd;rw[jq hf]at nd
 have ef:foot {m with bT:=fs++[f']}=foot m:=by
  rw[jq (m:={m with bT:=fs++[f']}) rfl,jq hf];show m.ma::m.lv::m.rc::m.sd::(fs.flatMap gC++gC f')=_;unfold gC;rw[a1,a2,a3]
 have sub:∀c∈gC f,c∈foot m:=λc hc=>by rw[jq hf];simp[hc]
 have mu:=h.rK.sub sub;simp only[List.nodup_cons,List.mem_cons,List.mem_append,not_or]at nd;obtain⟨dx,ev,h1,h2⟩:=h.ob;refine⟨⟨dx,ev,k _ _ (λz=>nd.1.2.2.2.2 z) h1,h2.keep k mu⟩,h.bk.to (k.sub sub) (λc hc=>by rw[← ef];exact hc),k _ _ (λz=>nd.2.1.2.2.2 z) ?_,h.rc.keep k mu (λz=>nd.2.2.1.2.2 z),k _ _ (λz=>nd.2.2.2.1.2 z) h.sd,λg hg=>?_,by rw[ef];exact h.nd⟩
 ·have:=h.lv;rw[hf]at this;show H m.lv=some (.lst ((fs++[f']).map λf=>.ref f.fa));rw[this,List.map_append,List.map_append];simp[a1]
 ·rcases aaQ.mp hg with z | z
  ·refine(h.fr g (by rw[hf];exact abi _ z)).keep k mu (λc hc hz=>?_);have nn:=nd.2.2.2.2;rw[abD]at nn;exact nn.2.2 c (aa9.mpr ⟨g,z,hc⟩) c hz rfl
  ·rw[bN z];exact hF
theorem gW.fs{K:ax}{H:Hp}{CF:Addr}{wt:Bool}{f:Fm}(h:gW K H CF wt f):f.fa≠f.bl/\f.fa≠f.sl:=by
 obtain⟨⟨dx,h1⟩,⟨ys,h2,_⟩,⟨zs,h4,_⟩,_⟩:=h;exact⟨Rm h1 h2 (by intro z;cases z),Rm h1 h4 (by intro z;cases z)⟩
theorem gW.iz{K:ax}{H H1:Hp}{CF:Addr}{wt:Bool}{f:Fm}{ys:List V}{st:List Vl}(h:gW K H CF wt f)(s:aF H H1)(hy:iM K H1 wt ys st):gW K (upd H1 f.sl (.lst ys)) CF wt {f with st:=st}/\aC (gC f) H (upd H1 f.sl (.lst ys)):=by
 obtain⟨n1,n2⟩:=h.fs;have h1:=h.same s;have kx:aC [f.sl] H1 (upd H1 f.sl (.lst ys)):=aY;have mu:bq H1 [f.sl]:=h1.rK.sub (λc hc=>by rw[bN hc];simp[gC]);obtain⟨⟨dx,e1⟩,⟨bs,e2,e3⟩,⟨zs,e4,e5⟩,ne⟩:=h1;refine⟨⟨⟨dx,(uN n2).trans e1⟩,⟨bs,(uN ne).trans e2,e3.keep kx mu⟩,⟨ys,uS,hy.keep kx mu⟩,ne⟩,λc o hc e=>?_⟩;rw[uN (λz=>hc (by rw[z];simp[gC]))];exact s c o e
theorem gW.WE{K:ax}{H H1:Hp}{CF:Addr}{wt:Bool}{f:Fm}{ys:List V}{bx:List Vl}(h:gW K H CF wt f)(s:aF H H1)(hy:iM K H1 wt ys bx):gW K (upd H1 f.bl (.lst ys)) CF wt {f with bx:=bx}/\aC (gC f) H (upd H1 f.bl (.lst ys)):=by
 obtain⟨n1,n2⟩:=h.fs;have h1:=h.same s;have kx:aC [f.bl] H1 (upd H1 f.bl (.lst ys)):=aY;have mu:bq H1 [f.bl]:=h1.rK.sub (λc hc=>by rw[bN hc];simp[gC]);obtain⟨⟨dx,e1⟩,⟨bs,e2,e3⟩,⟨zs,e4,e5⟩,ne⟩:=h1;refine⟨⟨⟨dx,(uN n1).trans e1⟩,⟨ys,uS,hy.keep kx mu⟩,⟨zs,(uN ne.symm).trans e4,e5.keep kx mu⟩,ne⟩,λc o hc e=>?_⟩;rw[uN (λz=>hc (by rw[z];simp[gC]))];exact s c o e
theorem gW.setAt{K:ax}{H:Hp}{CF dx:Addr}{wt:Bool}{f:Fm}{a:Nat}(h:gW K H CF wt f):gW K (upd H f.fa (.ins CF dx (BH f.part a f.bl f.sl))) CF wt {f with at':=a}/\aC (gC f) H (upd H f.fa (.ins CF dx (BH f.part a f.bl f.sl))):=by
 obtain⟨n1,n2⟩:=h.fs;have kx:aC [f.fa] H (upd H f.fa (.ins CF dx (BH f.part a f.bl f.sl))):=aY;have mu:bq H [f.fa]:=h.rK.sub (λc hc=>by rw[bN hc];simp[gC]);obtain⟨⟨dx',e1⟩,⟨bs,e2,e3⟩,⟨zs,e4,e5⟩,ne⟩:=h;refine⟨⟨⟨dx,uS⟩,⟨bs,(uN n1.symm).trans e2,e3.keep kx mu⟩,⟨zs,(uN n2.symm).trans e4,e5.keep kx mu⟩,ne⟩,λc o hc e=>?_⟩;rw[uN (λz=>hc (by rw[z];simp[gC]))];exact e
theorem bQ.last{K:ax}{H:Hp}{CF C:Addr}{wt:Bool}{m:Mc}{fs:List Fm}{f:Fm}(h:bQ K H CF C wt m)(hf:m.bT=fs++[f]):gW K H CF wt f:=h.fr f (by rw[hf];simp)
theorem jK{m:Mc}{fs:List Fm}{f:Fm}(hf:m.bT=fs++[f]):∀c∈gC f,c∈foot m:=λc hc=>by rw[jq hf];simp[hc]
theorem eP{m:Mc}{fs:List Fm}{f f':Fm}(hf:m.bT=fs++[f])(a1:f'.fa=f.fa)(a2:f'.bl=f.bl)(a3:f'.sl=f.sl):foot {m with bT:=fs++[f']}=foot m:=by
 rw[jq (m:={m with bT:=fs++[f']}) rfl,jq hf];show m.ma::m.lv::m.rc::m.sd::(fs.flatMap gC++gC f')=_;unfold gC;rw[a1,a2,a3]
structure PF where
 part:Nat
 at':Nat
 bx:List Vl
 st:List Vl
def Fm.pf(f:Fm):PF:=⟨f.part,f.at',f.bx,f.st⟩
structure PM where
 ms:cV
 ps:List Pt
 bT:List PF
 recs:List Rk
 said:List Int
 left:Int
 fin:List (Str ⊕ Int)
def Mc.pm(m:Mc):PM:=⟨m.ms,m.ps,m.bT.map Fm.pf,m.recs,m.said,m.left,m.fin⟩
inductive Jx:Rw->PF->List Int->PF->List Int->Prop
 | push {w:Int} {f:PF} {sd:List Int}:Jx (.push w) f sd {f with st:=f.st++[.num w]} sd
 | load {b:Nat} {f:PF} {sd:List Int} {x:Vl}:f.bx[b]?=some x->Jx (.load b) f sd {f with st:=f.st++[x]} sd
 | store {b:Nat} {f:PF} {sd:List Int} {st:List Vl} {x:Vl}:f.st=st++[x]->b < f.bx.length->Jx (.store b) f sd {f with bx:=f.bx.set b x,st:=st} sd
 | dup {f:PF} {sd:List Int} {st:List Vl} {x:Vl}:f.st=st++[x]->Jx (.bare "dup") f sd {f with st:=f.st++[x]} sd
 | swap {f:PF} {sd:List Int} {st:List Vl} {x y:Vl}:f.st=st++[x,y]->Jx (.bare "swap") f sd {f with st:=st++[y,x]} sd
 | drop {f:PF} {sd:List Int} {st:List Vl} {x:Vl}:f.st=st++[x]->Jx (.bare "drop") f sd {f with st:=st} sd
 | say {f:PF} {sd:List Int} {st:List Vl} {x:Vl}:f.st=st++[x]->x≠.none->Jx (.bare "say") f sd {f with st:=st} (sd++[iy x])
theorem ij{α:Type}{l:List α}{x:α}:(l++[x])[(l++[x]).length - 1]?=some x:=by simp
theorem iM.lastOf{K:ax}{H:Hp}{wt:Bool}{ys:List V}{st:List Vl}{x:Vl}(h:iM K H wt ys (st++[x])):∃zs y,ys=zs++[y]/\iM K H wt zs st/\yI K H wt y x:=by
 have hl:=h.1;rw[List.length_append,List.length_singleton]at hl;obtain⟨y,hy,hv⟩:=h.at (i:=st.length) (x:=x) (by simp);refine⟨ys.take st.length,y,?_,?_,hv⟩
 ·have e:=aaW st.length ys
  have d:ys.drop st.length=[y]:=by
   rw[List.drop_eq_getElem?_toList_append,hy,List.drop_of_length_le (by omega)];rfl
  rw[d]at e;exact e.symm
 ·have:=h.take st.length;rw[List.take_left' rfl]at this;exact this
theorem dN{l:List V}{y:V}:pF (l++[y]) (-1)=some y:=by
 unfold pF D6;rw[if_neg (by omega),if_pos (by simp;omega)];have:((-1:Int) + (((l++[y]).length:Nat):Int)).toNat=l.length:=by simp;omega
 show((l++[y])[((-1:Int) + (((l++[y]).length:Nat):Int)).toNat]?)=some y;rw[this];simp
theorem xD{H H':Hp}{a:Addr}(s:aF H H')(hn:H a=none)(o:HO):aF H (upd H' a o):=λc p e=>by
 rw[uN (nN e hn)];exact s c p e
theorem gW.putSt{K:ax}{H H':Hp}{CF:Addr}{wt:Bool}{f:Fm}{ys:List V}{st:List Vl}(h:gW K H CF wt f)(k:aC [f.sl] H H')(e:H' f.sl=some (.lst ys))(hy:iM K H' wt ys st):gW K H' CF wt {f with st:=st}/\aC (gC f) H H':=by
 obtain⟨n1,n2⟩:=h.fs;have mu:bq H [f.sl]:=h.rK.sub (λc hc=>by rw[bN hc];simp[gC]);obtain⟨⟨dx,e1⟩,⟨bs,e2,e3⟩,⟨zs,e4,e5⟩,ne⟩:=h;exact⟨⟨⟨dx,k _ _ (λz=>n2 (bN z)) e1⟩,⟨bs,k _ _ (λz=>ne (bN z)) e2,e3.keep k mu⟩,⟨ys,e,hy⟩,ne⟩,k.sub (λc hc=>by rw[bN hc];simp[gC])⟩
theorem iM.Lo{K:ax}{H:Hp}{wt:Bool}{ys:List V}{st:List Vl}{x y:Vl}(h:iM K H wt ys (st++[x,y])):∃zs a b,ys=zs++[a,b]/\iM K H wt zs st/\yI K H wt a x/\yI K H wt b y:=by
 have e:st++[x,y]=(st++[x])++[y]:=by simp
 rw[e]at h;obtain⟨zs,b,rfl,hz,hb⟩:=h.lastOf;obtain⟨zs,a,rfl,hz,ha⟩:=hz.lastOf;exact⟨zs,a,b,by simp,hz,ha,hb⟩
theorem XZ{α:Type}{zs:List α}{a b:α}:(zs++[a,b]).drop ((zs++[a,b]).length - 2)=[a,b]/\(zs++[a,b]).take ((zs++[a,b]).length - 2)=zs:=by
 have e:(zs++[a,b]).length - 2=zs.length:=by simp
 rw[e];exact⟨List.drop_left' rfl,List.take_left' rfl⟩
theorem qI{p a:Int}{b s:Addr}:(BH p a b s).length < 1000:=by show 4 < 1000;decide
theorem AX{b lv rc sd:Addr}{l:Int}{e:V}:(rL b lv rc sd l e).length < 1000:=by show 6 < 1000;decide
theorem EI{K:ax}{H:Hp}{v:V}{k:Kd}(h:aZ K H v (.tuple (xx k))):KAt K H v k:=by
 obtain⟨t,xs,rfl,hT,hR⟩:=aZ.cJ h;refine⟨t,rfl,?_⟩
 have e:xs=RV k:=by
  have hl:=hR.1;have at':∀(i:Nat) (x:V) (d:PyData),xs[i]?=some x->(xx k)[i]?=some d->aZ K H x d:=hR.2
  cases k with
  | any =>
   obtain⟨x0,rfl⟩:=XY hl;have z:=at' 0 x0 _ rfl rfl;cases z;rfl
  | num =>
   obtain⟨x0,rfl⟩:=XY hl;have z:=at' 0 x0 _ rfl rfl;cases z;rfl
  | whole c =>
   obtain⟨x0,x1,rfl⟩:=Zl hl;have z:=at' 0 x0 _ rfl rfl;have z1:=aZ.aW (at' 1 x1 _ rfl rfl);cases z;rw[z1];rfl
  | raw c m =>
   obtain⟨x0,x1,x2,rfl⟩:=Zm hl;have z:=at' 0 x0 _ rfl rfl;have z1:=aZ.aW (at' 1 x1 _ rfl rfl);have z2:=aZ.aW (at' 2 x2 _ rfl rfl);cases z;rw[z1,z2];rfl
 rw[← e];exact hT
theorem Pb.Tw{K:ax}{H:Hp}{ys:List V}{ks:List Kd}(h:aL K H ys (eO ks)):Pb K H ys ks:=by
 refine⟨by rw[h.1,aah],λj y k hy hk=>?_⟩;exact EI (h.2 j y _ hy (by rw[aar,hk];rfl))
theorem Ci{xs:List V}{n:Nat}(h:n<=xs.length):km xs (some (n:Int)) none=xs.drop n:=by
 unfold km;rw[HT.xc,HT.rP];have:min n xs.length=n:=by omega
 rw[this,List.take_of_length_le (by simp)]
theorem Pk{K:ax}{H:Hp}{ss:List Str}{xs:List V}(h:aL K H xs (ss.map PyData.str)):xs=ss.map V.str:=by
 have hl:=h.1;rw[aah]at hl;apply acB;intro i;by_cases hi:i < xs.length
 ·have z:=h.2 i xs[i] (.str (ss[i]'(by omega))) (dh hi) (by rw[aar,dh (by omega)];rfl)
  have e:xs[i]=.str (ss[i]'(by omega)):=by
   generalize xs[i]=y at z ⊢;cases z;rfl
  rw[dh hi,e,aar,dh (by omega)];rfl
 ·rw[List.getElem?_eq_none (by omega),List.getElem?_eq_none (by simp;omega)]
theorem uu{K:ax}{d:Addr}{l:List Str}(c:∀H:Hp,aZ K H (.ref d) (.tuple (l.map PyData.str)))(H:Hp):bu K H d (l.map V.str):=by
 obtain⟨a,xs,e,h1,h2⟩:=aZ.cJ (c H);cases e;have z:=Pk (ss:=l) h2;rw[← z];exact h1
def NC:List Str:=["jump","zero","kin"]
def qJ:List Str:=["make","fill","begin","get","put"]
def yJ:List Str:=["add","sub","mul","div","rem","less","same"]
def Cj(s:Str):Prop:=s="add"∨s="sub"∨s="mul"∨s="less"∨s="same"∨parts s
def ND(p:PM)(fs:List PF)(f:PF)(t:Nat):PM :=
 if f.at' < t then {p with bT:=fs++[{f with at':=t}]}
 else if 0 < p.left then {p with bT:=fs++[{f with at':=t}],left:=p.left - 1}
 else {p with bT:=fs++[f],fin:=[.inl "weary"]}
def sD:List Str:=["push","load","store","dup","swap","drop","say"]
theorem Jx.sign{r:Rw}{f f':PF}{sd sd':List Int}(h:Jx r f sd f' sd'):kG r∈sD:=by
 cases h with
 | push=>exact(by decide +kernel:("push" : Str)∈sD)
 | load _=>exact(by decide +kernel:("load" : Str)∈sD)
 | store _ _=>exact(by decide +kernel:("store" : Str)∈sD)
 | dup _=>exact(by decide +kernel:("dup" : Str)∈sD)
 | swap _=>exact(by decide +kernel:("swap" : Str)∈sD)
 | drop _=>exact(by decide +kernel:("drop" : Str)∈sD)
 | say _ _=>exact(by decide +kernel:("say" : Str)∈sD)
theorem Cj.mem{s:Str}(h:Cj s):s∈yJ:=by
 rcases h with rfl | rfl | rfl | rfl | rfl | rfl | rfl<;>decide +kernel
theorem rw_inv{K:ax}{H:Hp}{v:V}{r:Rw}(h:aZ K H v (jm r)):∃t,v=.ref t/\bu K H t (Le r):=by
 obtain⟨rt,rx,rfl,hRT,hRR⟩:=aZ.cJ h
 have hrx:rx=Le r:=by
  match rx,hRR with
  | [],hRR=>have:=hRR.1;simp at this
  | y::ys,hRR =>
   have z:=hRR.2 0 y _ rfl rfl;cases z
   have el:ys=(Hm r).map V.int:=by
    have hl:=hRR.1;simp at hl;apply List.ext_getElem?;intro n;by_cases hn:n < ys.length
    ·have zz:=hRR.2 (n + 1) ys[n] (.int ((Hm r)[n]'(by omega))) (by rw[aa7];exact dh hn) (by rw[aa7,aar,dh (by omega)];rfl);rw[dh hn,aZ.aW zz,aar,dh (by omega)];rfl
    ·rw[List.getElem?_eq_none (by omega),List.getElem?_eq_none (by simp;omega)]
   rw[el];rfl
 subst hrx;exact⟨rt,rfl,hRT⟩
theorem big{n:Nat}(h:n<=1000000):n < sizeLine:=aaI h (by decide)
theorem bq.same{H H':Hp}{F:List Addr}(m:bq H F)(s:aF H H'):bq H' F:=λc hc=>by
 obtain⟨o,e,z⟩:=m c hc;exact⟨o,s _ _ e,z⟩
theorem cf{m:Mc}:m.ma∈foot m/\m.lv∈foot m/\m.rc∈foot m/\m.sd∈foot m:=by simp[foot]
theorem bQ.Pl{K:ax}{H H':Hp}{CF C:Addr}{wt:Bool}{m:Mc}{ys:List V}{rs:List Rk}(h:bQ K H CF C wt m)(k:aC [m.rc] H H')(e:H' m.rc=some (.lst ys))(hr:Cf (ED K H' wt) ys rs):bQ K H' CF C wt {m with recs:=rs}:=by
 have nd:=h.nd;simp only[foot,List.nodup_cons,List.mem_cons,not_or]at nd;have sub:∀c∈[m.rc],c∈foot m:=λc hc=>by rw[bN hc];exact cf.2.2.1
 have mu:=h.rK.sub sub;obtain⟨dx,ev,h1,h2⟩:=h.ob;refine⟨⟨dx,ev,k _ _ ?_ h1,h2.keep k mu⟩,h.bk.to (k.sub sub) (λc hc=>hc),k _ _ ?_ h.lv,⟨ys,e,hr⟩,k _ _ ?_ h.sd,λf hf=>(h.fr f hf).keep k mu ?_,h.nd⟩
 ·exact λz=>nd.1.2.1 (bN z)
 ·exact λz=>nd.2.1.1 (bN z)
 ·exact λz=>nd.2.2.1.1 (bN z).symm
 ·intro c hc z;rw[bN z]at hc;exact nd.2.2.1.2 (aa9.mpr ⟨f,hf,hc⟩)
theorem pA{H H':Hp}{x dx C:Addr}(nx:H x=none)(ndx:H dx=none)(ne:dx≠x)(k:aC [x] (upd (upd H dx (.own x)) x (.ins C dx [])) H'):aF H (upd (upd H dx (.own x)) x (.ins C dx []))/\aF H H':=by
 have y:aF H (upd (upd H dx (.own x)) x (.ins C dx [])):=(sN ndx _).trans (sN ((uN ne.symm).trans nx) _);exact⟨y,λc o e=>k c o (λz=>nN e nx (bN z)) (y c o e)⟩
theorem Ho(m n:Nat):Builtin.bitOr (m:Int) (n:Int)=((m ||| n:Nat):Int):=by
 have b:∀k:Nat,decide (0<=Builtin.bitNot (k:Int))=false:=λk=>decide_eq_false (by unfold Builtin.bitNot;omega)
 have d:∀x:Int,Builtin.bitNot (Builtin.bitNot x)=x:=λx=>by unfold Builtin.bitNot;omega
 unfold Builtin.bitOr Builtin.bitAnd;rw[b,b];show Builtin.bitNot (Builtin.bitNot (((Builtin.bitNot (Builtin.bitNot (m:Int))).toNat ||| (Builtin.bitNot (Builtin.bitNot (n:Int))).toNat:Nat):Int))=_;rw[d,d,d,Int.toNat_natCast,Int.toNat_natCast]
inductive p7(ms:cV)(recs:List Rk):Rw->PF->PF->Nat->Bool->Prop
 | jump {f:PF} {t:Nat}:p7 ms recs (.jump t) f f t true
 | zero {f:PF} {t:Nat} {st:List Vl} {x:Vl}:f.st=st++[x]->x≠.none->p7 ms recs (.zero t) f {f with st:=st} t (decide (iy x=0))
 | kin {f:PF} {c t n:Nat} {st:List Vl} {r:Rk}:f.st=st++[.rcd n]->recs[n]?=some r->r.c < ms.length->p7 ms recs (.kin c t) f f t (decide (c∈bc ms r.c))
def Gy(p:PM)(fs:List PF)(g:PF)(t:Nat)(b:Bool):PM:=if b=true then ND p fs g t else {p with bT:=fs++[{g with at':=g.at' + 1}]}
def Gz(p:PM)(fs:List PF)(x:Vl):PM:=match fs.reverse with
 | []=>{p with bT:=[],fin:=[.inl "gave",.inr (iy x)]}
 | g::r=>{p with bT:=r.reverse++[{g with st:=g.st++[x],at':=g.at' + 1}]}
inductive Lp(ms:cV):Rw->PF->List Rk->PF->List Rk->Prop
 | make {c:Nat} {f:PF} {rs:List Rk}:c < ms.length->Lp ms (.make c) f rs {f with st:=f.st++[.rcd rs.length]} (rs++[⟨c,false,0,List.replicate (fields ms c).length .none⟩])
 | beg {c n:Nat} {f:PF} {rs:List Rk} {st:List Vl} {r:Rk}:f.st=st++[.rcd n]->rs[n]?=some r->Lp ms (.beg c) f rs f (rs.set n {r with begun:=true})
 | get {c fl n:Nat} {f:PF} {rs:List Rk} {st:List Vl} {r:Rk} {x:Vl}:f.st=st++[.rcd n]->rs[n]?=some r->r.fs[fl]?=some x->Lp ms (.get c fl) f rs {f with st:=st++[x]} rs
 | fill {c fl n:Nat} {f:PF} {rs:List Rk} {st:List Vl} {r:Rk} {x:Vl}:f.st=st++[.rcd n,x]->rs[n]?=some r->fl < r.fs.length->r.fs.length<=100->Lp ms (.fill c fl) f rs {f with st:=st++[.rcd n]} (rs.set n {r with mask:=r.mask ||| 2 ^ fl,fs:=r.fs.set fl x})
 | put {c fl n:Nat} {f:PF} {rs:List Rk} {st:List Vl} {r:Rk} {x:Vl}:f.st=st++[.rcd n,x]->rs[n]?=some r->fl < r.fs.length->r.fs.length<=100->Lp ms (.put c fl) f rs {f with st:=st} (rs.set n {r with mask:=r.mask ||| 2 ^ fl,fs:=r.fs.set fl x})
inductive uv(p:PM)(fs:List PF)(f:PF):Rw->PM->Prop
 | str {r:Rw} {g:PF} {sd:List Int}:Jx r f p.said g sd->uv p fs f r {p with bT:=fs++[{g with at':=g.at' + 1}],said:=sd}
 | rcd {r:Rw} {g:PF} {rs:List Rk}:Lp p.ms r f p.recs g rs->uv p fs f r {p with bT:=fs++[{g with at':=g.at' + 1}],recs:=rs}
 | go {r:Rw} {g:PF} {t:Nat} {b:Bool}:p7 p.ms p.recs r f g t b->uv p fs f r (Gy p fs g t b)
 | rek {s:Str} {st:List Vl} {a b:Int}:f.st=st++[.num a,.num b]->Cj s->lu a->lu b->(parts s->b≠0)->uv p fs f (.bare s) {p with bT:=fs++[{f with st:=st++[.num (rk s a b)],at':=f.at' + 1}]}
 | give {st:List Vl} {x:Vl}:f.st=st++[x]->(fs=[]->x≠.none)->uv p fs f (.bare "give") (Gz p fs x)
structure GA(p:PM):Prop where
 wf:Wf p.ms
 few:Jv p.ms
 fr:p.bT.length<=12
 sd:p.said.length<=900000
 rl:p.recs.length<=900000
 st:∀f∈p.bT,f.st.length<=1000/\∃q,p.ps[f.part]?=some q
theorem Lp.sign{ms:cV}{r:Rw}{f g:PF}{rs rs':List Rk}(h:Lp ms r f rs g rs'):kG r∈qJ:=by
 cases h with
 | make _=>exact(by decide +kernel:("make" : Str)∈qJ)
 | beg _ _=>exact(by decide +kernel:("begin" : Str)∈qJ)
 | get _ _ _=>exact(by decide +kernel:("get" : Str)∈qJ)
 | fill _ _ _ _=>exact(by decide +kernel:("fill" : Str)∈qJ)
 | put _ _ _ _=>exact(by decide +kernel:("put" : Str)∈qJ)
theorem p7.sign{ms:cV}{rs:List Rk}{r:Rw}{f g:PF}{t:Nat}{b:Bool}(h:p7 ms rs r f g t b):kG r∈NC:=by
 cases h with
 | jump=>exact(by decide +kernel:("jump" : Str)∈NC)
 | zero _ _=>exact(by decide +kernel:("zero" : Str)∈NC)
 | kin _ _ _=>exact(by decide +kernel:("kin" : Str)∈NC)
def RX(K:ax)(ms:cV)(ps:List Pt)(part:Nat)(r:Rw)(ks:List Kd):Prop:=∀(H:Hp) (mk pl:Addr) (xs:List V),ey K H mk ms->bt K H pl xs->aL K H xs (ps.map Cc)->xB K H mk pl part (kG r) ((Hm r).map V.int) ks
def eA(ms:cV)(recs:List Rk)(h:Nat)(st:List Vl)(ks:List Kd)(sign:Str):Option Str :=
 if st.length < ks.length then some "empty"
 else if ((st.drop (st.length - ks.length)).zip ks).all (λx=>hasB ms recs x.1 x.2)=true then
  (if (h:Int) < ((st.length - ks.length:Nat):Int) + cc sign then some "high" else none)
 else some "kind"
def WG:Option Str->V
 | none=>.non
 | some s=>.str s
structure TH(K:ax)(p:PM)(f:PF)(r:Rw)(ks:List Kd):Prop where
 few:ks.length<=1000
 rc:∀r∈p.recs,r.c < p.ms.length
 st:∀n,.rcd n∈f.st->n < p.recs.length
 ask:RX K p.ms p.ps f.part r ks
def sE(K:ax)(wt:Bool)(p p':PM):Prop:=(p.fin≠[]/\p'=p)∨(p.fin=[]/\GA p/\∃(fs:List PF) (f:PF) (r:Rw) (pt:Pt) (ks:List Kd),p.bT=fs++[f]/\p.ps[f.part]?=some pt/\pt.rows[f.at']?=some r/\TH K p f r ks /\
 ((∃w,wt=true/\eA p.ms p.recs pt.height f.st ks (kG r)=some w/\p'={p with fin:=[.inl "look",.inr f.part,.inr f.at',.inl w]})∨((wt=true->eA p.ms p.recs pt.height f.st ks (kG r)=none)/\uv p fs f r p')))
inductive sF(K:ax)(wt:Bool):Nat->PM->PM->Prop
 | done {p:PM}:p.fin≠[]->sF K wt 0 p p
 | next {n:Nat} {p p1 p2:PM}:p.fin=[]->sE K wt p p1->sF K wt n p1 p2->sF K wt (n + 1) p p2
def j3(ms:cV)(ps:List Pt)(j:Nat)(p:Pt)(ws:List Int)(bud:Int):PM:=⟨ms,ps,[⟨j,0,ws.map Vl.num++List.replicate (p.boxes - ws.length) .none,[]⟩],[],[],bud,[]⟩
def After(K:ax)(CF C:Addr)(wt:Bool)(H:Hp)(mm:Mc)(p':PM)(Q:Hp->Prop):Prop:=∀(m':Mc) (H':Hp),m'.pm=p'->(m'.ma=mm.ma/\m'.b=mm.b)->bQ K H' CF C wt m'->(∀c∈foot m',c∈foot mm∨H c=none)->aC (foot mm) H H'->Q H'
theorem qL{m:Mc}{fs:List Fm}{f:Fm}:({m with bT:=fs++[f]}:Mc).pm={m.pm with bT:=fs.map Fm.pf++[f.pf]}:=by
 unfold Mc.pm;simp
theorem bQ.cut{K:ax}{H H':Hp}{CF C:Addr}{wt:Bool}{m:Mc}{fs gs:List Fm}(h:bQ K H CF C wt m)(hf:m.bT=fs++gs)(k:aC [m.lv] H H')(e:H' m.lv=some (.lst (fs.map λf=>.ref f.fa))):bQ K H' CF C wt {m with bT:=fs}/\∀c∈foot {m with bT:=fs},c∈foot m:=by
 have nd:=h.nd;have ef:foot m=m.ma::m.lv::m.rc::m.sd::(fs.flatMap gC++gs.flatMap gC):=by unfold foot;rw[hf];simp
 have ef2:foot {m with bT:=fs}=m.ma::m.lv::m.rc::m.sd::fs.flatMap gC:=rfl;rw[ef]at nd;simp only[List.nodup_cons,List.mem_cons,List.mem_append,not_or]at nd;have sub:∀c∈[m.lv],c∈foot m:=λc hc=>by rw[bN hc];exact cf.2.1
 have Pm:∀c∈foot {m with bT:=fs},c∈foot m:=λc hc=>by
  rw[ef2]at hc;rw[ef];simp only[List.mem_cons]at hc;simp only[List.mem_cons,List.mem_append];rcases hc with hc | hc | hc | hc | hc
  ·exact .inl hc
  ·exact .inr (.inl hc)
  ·exact .inr (.inr (.inl hc))
  ·exact .inr (.inr (.inr (.inl hc)))
  ·exact .inr (.inr (.inr (.inr (.inl hc))))
 have mu:=h.rK.sub sub;obtain⟨dx,ev,h1,h2⟩:=h.ob;refine⟨⟨⟨dx,ev,k _ _ (λz=>nd.1.1 (bN z)) h1,h2.keep k mu⟩,h.bk.to (k.sub sub) Pm,e,h.rc.keep k mu (λz=>nd.2.1.1 (bN z).symm),k _ _ (λz=>nd.2.1.2.1 (bN z).symm) h.sd,λg hg=>(h.fr g (by rw[hf];exact abi _ hg)).keep k mu (λc hc hz=>?_),?_⟩,Pm⟩
 ·rw[bN hz]at hc;exact nd.2.1.2.2.1 (aa9.mpr ⟨g,hg,hc⟩)
 ·have nn:=nd.2.2.2.2;rw[List.nodup_append]at nn;rw[ef2];simp only[List.nodup_cons,List.mem_cons,not_or];exact⟨⟨nd.1.1,nd.1.2.1,nd.1.2.2.1,nd.1.2.2.2.1⟩,⟨nd.2.1.1,nd.2.1.2.1,nd.2.1.2.2.1⟩,⟨nd.2.2.1.1,nd.2.2.1.2.1⟩,nd.2.2.2.1.1,nn.1⟩
def zv(p:PM):PyData:=.tuple [EE p.fin,.list (p.said.map PyData.int),.int p.left]
section
variable {K:ax} {H0:Hp} {A0:Addr->Prop} {G:Addr->Prop} {al:List (List Addr)} {H:Hp} {st:aQ} {wt:Bool}
theorem Pn(I:DI K H0 A0 G al H st){ev:V}{l:List (Str ⊕ Int)}(h:jI K H ev l):aS K (Fb G al st) H ev (EE l):=by
 rcases h with⟨h1,h2⟩ | ⟨n,t,h1,h2⟩
 ·subst h1;subst h2;exact .non
 ·subst h1;unfold EE;rw[if_neg n];exact aZ.rV (I.OH h2) (EF l)
end
theorem Ck{K:ax}{P:Addr->Prop}{H H':Hp}{t l:Addr}{ev:V}{p:PM}(hP:∀c,P c->∃o,H c=some o/\ua o)(s:aF H H')(nl:H l=none)(gt:bu K H' t [ev,.ref l,.int p.left])(g:H' l=some (.lst (p.said.map V.int)))(hE:jI K H' ev p.fin):aS K P H' (.ref t) (zv p):=by
 have I:DI K H' (λ_=>True) P [] H' []:=⟨rfl,List.nodup_nil,(λa ha=>nomatch ha),(λk fp c h=>by simp at h),.refl,(λa ha=>nomatch ha),(λa ha=>nomatch ha),λc z=>let ⟨o,e,m⟩:=hP c z;⟨o,s _ _ e,m⟩⟩
 have nf:¬ Fb P [] [] l:=λz=>by
  rcases z with z | ⟨k,fp,ce,e,_⟩
  ·obtain⟨o,e,_⟩:=hP l z;rw[nl]at e;cases e
  ·simp at e
 have r:aS K (Fb P [] []) H' (.ref t) (zv p):=aZ.rV (I.OH gt) (.cons (Pn I hE) (.cons (aS.lst nf g B6) (.cons (.int _) .nil)));exact r.sub (λc z=>.inl z)
def mS:List Str:=["add","sub","mul","div","rem","less","same"]
def mw(ms:cV)(ps:List Pt)(p:Pt):Rw->List Kd
 | .push _=>[]
 | .load _=>[]
 | .jump _=>[]
 | .make _=>[]
 | .store _=>[.any]
 | .zero _=>[.num]
 | .kin _ _=>[.whole 0]
 | .beg c=>[.raw c (2 ^ (fields ms c).length - 1)]
 | .get c _=>[.whole c]
 | .fill c f=>[.raw c 0,((fields ms c)[f]?).getD .any]
 | .put c f=>[.whole c,((fields ms c)[f]?).getD .any]
 | .call q=>((ps[q]?).map Pt.takes).getD []
 | .bare s=>if s∈(["dup","drop"]:List Str)then [.any]else if s="swap" then [.any,.any]else if s∈mS then [.num,.num]else if s∈(["toss","say"]:List Str)then [.num]else [p.gives]
theorem Lq:∀s∈uY,s≠"give"->fO bw s=some (.tuple (eO (if s∈(["dup","drop"]:List Str)then [.any]else if s="swap" then [.any,.any]else if s∈mS then [.num,.num]else if s∈(["toss","say"]:List Str)then [.num]else []))):=by
 intro s hs hg;simp only[uY,List.mem_cons,List.not_mem_nil,or_false]at hs;rcases hs with rfl | rfl | rfl | rfl | rfl | rfl | rfl | rfl | rfl | rfl | rfl | rfl | rfl
 all_goals first | rfl | exact absurd rfl hg
theorem Po{K:ax}{H:Hp}{mk pl:Addr}{ms:cV}{zs:List Nat}{ps:List Pt}{xs:List V}{j:Nat}{p:Pt}{r:Rw}(hM:ey K H mk ms)(hg:Good ms zs)(hL:bt K H pl xs)(hP:aL K H xs (ps.map Cc))(hp:ps[j]?=some p)(hr:r.Ok zs ps.length p.boxes p.rows.length):xB K H mk pl j (kG r) ((Hm r).map V.int) (mw ms ps p r):=by
 have cl:∀c,c < zs.length->c < ms.length:=λc h=>by rw[hg.len];exact h
 have fl:∀c f z,zs[c]?=some z->f < z->c < ms.length/\(fields ms c)[f]?=some (((fields ms c)[f]?).getD .any):=λc f z hz hf=>by
  have hc:=cl c (bU hz).1;obtain⟨z',h1,h2⟩:=hg.Ew c hc;rw[hz]at h1;cases h1;refine⟨hc,?_⟩;rw[dh (by omega)];rfl
 cases r with
 | push w=>exact .always (by show fO bw "push"=some (.tuple (eO []));rfl)
 | load w=>exact .always (by show fO bw "load"=some (.tuple (eO []));rfl)
 | store w=>exact .always (by show fO bw "store"=some (.tuple (eO [.any]));rfl)
 | jump w=>exact .always (by show fO bw "jump"=some (.tuple (eO []));rfl)
 | zero w=>exact .always (by show fO bw "zero"=some (.tuple (eO [.num]));rfl)
 | kin c w=>exact .always (by show fO bw "kin"=some (.tuple (eO [.whole 0]));rfl)
 | make c=>exact .always (by show fO bw "make"=some (.tuple (eO []));rfl)
 | beg c=>exact .ofR hM hg.wf hg.Hl (.begin (cl c hr))
 | get c f=>exact .ofR hM hg.wf hg.Hl .get
 | fill c f =>
  obtain⟨z,h1,h2⟩:∃z,zs[c]?=some z/\f < z:=hr;obtain⟨h3,h4⟩:=fl c f z h1 h2;exact .ofR hM hg.wf hg.Hl (.fill h3 h4)
 | put c f =>
  obtain⟨z,h1,h2⟩:∃z,zs[c]?=some z/\f < z:=hr;obtain⟨h3,h4⟩:=fl c f z h1 h2;exact .ofR hM hg.wf hg.Hl (.put h3 h4)
 | call q =>
  have hq:q < ps.length:=hr;obtain⟨v,hv,hvr⟩:=pz hP (dh hq);obtain⟨t,l0,l4,l5,ks,Dz,DA,f1,rfl,hTt,Jw,hk,rg,Ny,Nz,Pd,Kl⟩:=qG hvr
  have e:mw ms ps p (.call q)=ps[q].takes:=by
   show((ps[q]?).map Pt.takes).getD []=_;rw[dh hq];rfl
  rw[e];exact .call hL hv hTt Jw hk
 | bare s =>
  by_cases hgv:s="give"
  ·subst hgv;obtain⟨v,hv,hvr⟩:=pz hP hp;obtain⟨t,l0,l4,l5,ks,Dz,DA,f1,rfl,hTt,Jw,hk,rg,Ny,Nz,Pd,Kl⟩:=qG hvr
   have e:mw ms ps p (.bare "give")=[p.gives]:=by
    show(if ("give" : Str)∈(["dup","drop"]:List Str)then [Kd.any]else if ("give" : Str)="swap" then [Kd.any,.any]else if ("give" : Str)∈mS then [Kd.num,.num]else if ("give" : Str)∈(["toss","say"]:List Str)then [Kd.num]else [p.gives])=[p.gives];rw[aan (by decide +kernel),aan (by decide +kernel),aan (by decide +kernel),aan (by decide +kernel)]
   rw[e];exact .give hL hv hTt rg
  ·have z:=Lq s hr hgv;refine .always ?_;show fO bw s=some (.tuple (eO (if s∈(["dup","drop"]:List Str)then [.any]else if s="swap" then [.any,.any]else if s∈mS then [.num,.num]else if s∈(["toss","say"]:List Str)then [.num]else [p.gives])))
   have hin:s∈(["dup","drop"]:List Str)∨s="swap"∨s∈mS∨s∈(["toss","say"]:List Str):=by
    have all:∀s∈uY,s≠"give"->s∈(["dup","drop"]:List Str)∨s="swap"∨s∈mS∨s∈(["toss","say"]:List Str):=by decide +kernel
    exact all s hr hgv
   rw[z];by_cases a1:s∈(["dup","drop"]:List Str)
   ·rw[aaq a1,aaq a1]
   ·rw[aan a1,aan a1];by_cases a2:s="swap"
    ·rw[aaq a2,aaq a2]
    ·rw[aan a2,aan a2];by_cases a3:s∈mS
     ·rw[aaq a3,aaq a3]
     ·rw[aan a3,aan a3]
      have a4:s∈(["toss","say"]:List Str):=by
       rcases hin with h | h | h | h
       ·exact absurd h a1
       ·exact absurd h a2
       ·exact absurd h a3
       ·exact h
      rw[aaq a4,aaq a4]
structure Zs(ms:cV)(n:Nat)(r:Rk):Prop where
 c:r.c < ms.length
 fs:r.fs.length=(fields ms r.c).length
 hi:r.mask < 2 ^ r.fs.length
 no:∀f x,r.fs[f]?=some x->r.mask.testBit f=false->x=.none
 all:r.begun=true->∀f,f < r.fs.length->r.mask.testBit f=true
 vs:∀k,.rcd k∈r.fs->k < n
structure Zt(p:PM):Prop where
 rc:∀r∈p.recs,Zs p.ms p.recs.length r
 st:∀f∈p.bT,(∀k,.rcd k∈f.st->k < p.recs.length)/\(∀k,.rcd k∈f.bx->k < p.recs.length)
theorem pB{ms:cV}{ps:List Pt}{p:Pt}{s:Str}:mw ms ps p (.bare s)=if s∈(["dup","drop"]:List Str)then [.any]else if s="swap" then [.any,.any]else if s∈mS then [.num,.num]else if s∈(["toss","say"]:List Str)then [.num]else [p.gives]:=rfl
structure Zu(rs rs':List Rk):Prop where
 le:rs.length<=rs'.length
 at':∀(i:Nat) r,rs[i]?=some r->∃r',rs'[i]?=some r'/\r'.c=r.c/\(r.begun=true->r'.begun=true)/\r.mask&&&r'.mask=r.mask/\r'.fs.length=r.fs.length
theorem sE.of{K:ax}{p p':PM}{fs:List PF}{f:PF}{r:Rw}{pt:Pt}{zs:List Nat}(wt:Bool)(hg:Good p.ms zs)(h0:p.fin=[])(fine:GA p)(ef:p.bT=fs++[f])(hpt:p.ps[f.part]?=some pt)(hr:pt.rows[f.at']?=some r)(hok:r.Ok zs p.ps.length pt.boxes pt.rows.length)(hk:(mw p.ms p.ps pt r).length<=1000)(hrc:∀r∈p.recs,r.c < p.ms.length)(hst:∀n,.rcd n∈f.st->n < p.recs.length)
  (hw:eA p.ms p.recs pt.height f.st (mw p.ms p.ps pt r) (kG r)=none) (h:uv p fs f r p'):sE K wt p p' :=
 .inr ⟨h0,fine,fs,f,r,pt,_,ef,hpt,hr,⟨hk,hrc,hst,λH mk pl xs hM hL hP=>Po hM hg hL hP hpt hok⟩,.inr ⟨λ_=>hw,h⟩⟩
theorem cN{ms:cV}{recs:List Rk}{h:Nat}{lo tk:List Vl}{ks:List Kd}{s:Str}(hl:tk.length=ks.length)(hh:(lo.length:Int) + cc s<=h)(ha:(tk.zip ks).all (λx=>hasB ms recs x.1 x.2)=true):eA ms recs h (lo++tk) ks s=none:=by
 unfold eA;have e:(lo++tk).length=lo.length + ks.length:=by rw[List.length_append,hl]
 rw[aan (by omega),show(lo++tk).length - ks.length=lo.length by omega,List.drop_left,aaq ha,aan (by omega)]
structure WS where
 sk:List Int
 bx:List Int
 sd:List Int
def cL(l:List Int):List PyData:=l.map PyData.int
def WS.cells(s:WS):aQ:=[.live (cL s.sk),.live (cL s.bx),.live (cL s.sd)]
def we(sg:Str)(x y:Int):Int:=jn (if sg="add" then x + y else if sg="sub" then x - y else x * y)
inductive cn:Rw->WS->WS->Prop where
 | load {b:Nat} {s:WS} {x:Int} (h:s.bx[b]?=some x):cn (.load b) s {s with sk:=s.sk++[x]}
 | push {w:Int} {s:WS}:cn (.push w) s {s with sk:=s.sk++[w]}
 | make {c:Nat} {s:WS}:cn (.make c) s {s with sk:=s.sk++[(c:Int)]}
 | store {b:Nat} {sk bx sd:List Int} {x:Int} (h:b < bx.length):cn (.store b) ⟨sk++[x],bx,sd⟩ ⟨sk,bx.set b x,sd⟩
 | say {sk bx sd:List Int} {x:Int}:cn (.bare "say") ⟨sk++[x],bx,sd⟩ ⟨sk,bx,sd++[x]⟩
 | drop {sk bx sd:List Int} {x:Int}:cn (.bare "drop") ⟨sk++[x],bx,sd⟩ ⟨sk,bx,sd⟩
 | two {sk bx sd:List Int} {x y:Int} {sg:Str} (h:sg∈(["add","sub","mul"]:List Str)) (hx:-2147483648<=x/\x<=2147483647) (hy:-2147483648<=y/\y<=2147483647):cn (.bare sg) ⟨sk++[x,y],bx,sd⟩ ⟨sk++[we sg x y],bx,sd⟩
 | jump {t:Nat} {s:WS}:cn (.jump t) s s
 | zero {t:Nat} {s:WS}:cn (.zero t) s s
 | kin {c t:Nat} {s:WS}:cn (.kin c t) s s
 | beg {c:Nat} {s:WS}:cn (.beg c) s s
theorem gX(l:List Int):(cL l).length=l.length:=aah ..
theorem fI(l:List Int)(x:Int):cL (l++[x])=cL l++[.int x]:=by unfold cL;rw[List.map_append];rfl
theorem fk(l:List Int)(x:Int):(cL (l++[x]))[(cL (l++[x])).length - 1]?=some (.int x):=by
 rw[fI,aaG];exact O7
theorem gY(l:List Int)(x:Int):(cL (l++[x])).dropLast=cL l:=by rw[fI,aaZ]
theorem Hq(l:List Int)(k:Nat)(x:Int):(cL l).set k (.int x)=cL (l.set k x):=by unfold cL;rw[List.map_set]
theorem xE{x:Str}{l:List Str}{A B:Prop}(h:x∈l)(a:A):if inD (.str x) (l.map PyData.str)=true then A else B:=RQ (λ_=>a) (λz=>absurd h z)
theorem cW{x:Str}{l:List Str}{A B:Prop}(h:x∉l)(b:B):if inD (.str x) (l.map PyData.str)=true then A else B:=RQ (λz=>absurd z h) (λ_=>b)
theorem AY{c A B:Prop}[Decidable c](h:c)(a:A):if decide c=true then A else B:=eF (λ_=>a) (λz=>absurd h z)
theorem kH{c A B:Prop}[Decidable c](h:¬ c)(b:B):if decide c=true then A else B:=eF (λz=>absurd z h) (λ_=>b)
inductive Rr where
 | pl (r:Rw) | jmp (t:Nat) | zer (t:Nat) | ovr | kn (c:Nat) (o:Int)
def Vt:Rr->PyData
 | .pl r=>jm r
 | .jmp t=>.tuple [.str "jump",.int (t:Int)]
 | .zer t=>.tuple [.str "zero",.int (t:Int)]
 | .ovr=>.tuple [.str "over",.int 0]
 | .kn c o=>.tuple [.str "kin",.int (c:Int),.int o]
inductive Bk where
 | ini (c1 c2:Nat) | say (b:Nat) | two (b:Nat) (by':Int) (sg:Str) | zer (b t:Nat) | jmp (t:Nat) | gv (b:Nat) | ovr | kn (b c:Nat) (o:Int)
def kI:Bk->List Rr
 | .ini c1 c2=>[.pl (.make c1),.pl (.beg c1),.pl (.store 3),.pl (.make c2),.pl (.beg c2),.pl (.store 4)]
 | .say b=>[.pl (.load b),.pl (.bare "say")]
 | .two b w sg=>[.pl (.load b),.pl (.push w),.pl (.bare sg),.pl (.store b)]
 | .zer b t=>[.pl (.load b),.zer t]
 | .jmp t=>[.jmp t]
 | .gv b=>[.pl (.load b),.pl (.bare "give")]
 | .ovr=>[.ovr,.pl (.bare "drop")]
 | .kn b c o=>[.pl (.load b),.kn c o,.pl (.bare "drop")]
def NF(k:Bk):List PyData:=(kI k).map Vt
def Bk.Ok(n:Nat):Bk->Prop
 | .ini _ _=>False
 | .say b=>b < 3
 | .two b w sg=>b < 3/\lu w/\sg∈(["add","sub","mul"]:List Str)
 | .zer b t=>b < 3/\t < n
 | .jmp t=>t < n
 | .gv b=>b < 3
 | .ovr=>True
 | .kn b c _=>(b=3∨b=4)/\c < 3
structure Out where
 fin:List (Str ⊕ Int)
 sd:List Int
 left:Int
def outD(o:Out):PyData:=.tuple [EE o.fin,.list (cL o.sd),.int o.left]
inductive zw(ms:cV)(at':Nat):Rw->WS->WS->Nat->Prop where
 | jump {t:Nat} {s:WS}:zw ms at' (.jump t) s s t
 | zero {t:Nat} {sk bx sd:List Int} {x:Int}:zw ms at' (.zero t) ⟨sk++[x],bx,sd⟩ ⟨sk,bx,sd⟩ (if x=0 then t else at' + 1)
 | kin {c t x:Nat} {sk bx sd:List Int}:x < ms.length->zw ms at' (.kin c t) ⟨sk++[(x:Int)],bx,sd⟩ ⟨sk++[(x:Int)],bx,sd⟩ (if c∈bc ms x then t else at' + 1)
 | els {r:Rw} {s:WS}:kG r∉(["jump","zero","kin","give"]:List Str)->zw ms at' r s s (at' + 1)
def p8(rows:List Rw)(ms:cV):Nat->Nat->WS->Int->Out->Prop
 | 0,_,_,_,_=>False
 | n + 1,at',s,bud,o=>(rows[at']?=some (.bare "give")/\∃sk x,s.sk=sk++[x]/\o=⟨[.inl "gave",.inr x],s.sd,bud⟩) ∨
  ∃r s1 s2 goal,rows[at']?=some r/\zw ms at' r s s1 goal/\cn r s1 s2/\s1.sk.length<=1000/\s1.sd.length<=100000 /\
   ((at' < goal/\p8 rows ms n goal s2 bud o)∨(goal<=at'/\0 < bud/\p8 rows ms n goal s2 (bud - 1) o)∨(goal<=at'/\bud=0/\o=⟨[.inl "weary"],s2.sd,0⟩))
inductive S4 where
 | e | n | nn | r
def X0:S4->List Vl->Prop
 | .e,st=>st=[]
 | .n,st=>∃w,lu w/\st=[.num w]
 | .nn,st=>∃w v,lu w/\lu v/\st=[.num w,.num v]
 | .r,st=>∃k,k < 2/\st=[.rcd k]
inductive uw(T:Nat->Option S4)(at':Nat):Rw->S4->Prop where
 | ldn {b:Nat}:b < 3->T (at' + 1)=some .n->uw T at' (.load b) .e
 | ldr {b:Nat}:b=3∨b=4->T (at' + 1)=some .r->uw T at' (.load b) .e
 | push {w:Int}:lu w->T (at' + 1)=some .nn->uw T at' (.push w) .n
 | two {sg:Str}:sg∈(["add","sub","mul"]:List Str)->T (at' + 1)=some .n->uw T at' (.bare sg) .nn
 | store {b:Nat}:b < 3->T (at' + 1)=some .e->uw T at' (.store b) .n
 | say:T (at' + 1)=some .e->uw T at' (.bare "say") .n
 | zero {t:Nat}:T t=some .e->T (at' + 1)=some .e->uw T at' (.zero t) .n
 | jump {t:Nat}:T t=some .e->uw T at' (.jump t) .e
 | give:uw T at' (.bare "give") .n
 | drop:T (at' + 1)=some .e->uw T at' (.bare "drop") .r
 | kin {c t:Nat}:c < 3->T t=some .r->T (at' + 1)=some .r->uw T at' (.kin c t) .r
structure GC(rows:List Rw)(T:Nat->Option S4):Prop where
 len:rows.length<=200
 row:∀a s,T a=some s->∃r,rows[a]?=some r/\uw T a r s
def fq(e:Nat):cV:=[(none,[]),(some 0,[]),(some e,[])]
theorem good3{e:Nat}(h:e < 2):Good (fq e) [0,0,0]:=by
 refine⟨⟨(by show 0 < 3;decide),(by show 3<=8;decide),λm hm=>by cases hm;rfl,λi m hm hi=>?_⟩,rfl,λm hm=>by cases hm;rfl,rfl,by decide,λi m hi hm=>?_,λi m hm k hk=>?_⟩
 ·match i,hm with
  | 1,hm=>cases hm;exact⟨0,rfl,by decide⟩
  | 2,hm=>cases hm;exact⟨e,rfl,h⟩
  | n + 3,hm=>simp[fq]at hm
 ·match i,hm with
  | 1,hm=>cases hm;exact⟨0,0,rfl,by decide,rfl,rfl⟩
  | 2,hm =>
   cases hm;refine⟨e,0,rfl,h,?_,rfl⟩;rcases (by omega:e=0∨e=1)with rfl | rfl<;>rfl
  | n + 3,hm=>simp[fq]at hm
 ·match i,hm with
  | 0,hm=>cases hm;cases hk
  | 1,hm=>cases hm;cases hk
  | 2,hm=>cases hm;cases hk
  | n + 3,hm=>simp[fq]at hm
section
variable {K:ax} {rows:List Rw} {T:Nat->Option S4} {e c1 c2:Nat}
def sG(c1 c2:Nat):List Rk:=[⟨c1,true,0,[]⟩,⟨c2,true,0,[]⟩]
def cy(rows:List Rw):Pt:=⟨[.num,.num,.num],.num,5,2,rows,[]⟩
def yK(a b c:Int):List Vl:=[.num a,.num b,.num c,.rcd 0,.rcd 1]
def sH(rows:List Rw)(e c1 c2 at':Nat)(a b c:Int)(st:List Vl)(sd:List Int)(bud:Int):PM:=⟨fq e,[cy rows],[⟨0,at',yK a b c,st⟩],sG c1 c2,sd,bud,[]⟩
def vW(c1 c2:Nat):Vl->Int
 | .none=>0
 | .num w=>w
 | .rcd k=>if k=0 then(c1:Int)else(c2:Int)
def Hr(c1 c2:Nat)(a b c:Int)(st:List Vl)(sd:List Int):WS:=⟨st.map (vW c1 c2),[a,b,c,(c1:Int),(c2:Int)],sd⟩
structure Pp(K:ax)(rows:List Rw)(T:Nat->Option S4)(e c1 c2 at':Nat)(a b c:Int)(st:List Vl)(sd:List Int)(r:Rw)(goal:Nat)(s':S4)(a' b' c':Int)(st':List Vl)(sd':List Int):Prop where
 g:T goal=some s'
 sh:X0 s' st'
 w:lu a'/\lu b'/\lu c'
 sdl:sd'.length<=sd.length + 1
 walk:∃s1,zw (fq e) at' r (Hr c1 c2 a b c st sd) s1 goal/\cn r s1 (Hr c1 c2 a' b' c' st' sd')/\s1.sk.length<=st.length/\s1.sd=sd
 row:∀bud,uv (sH rows e c1 c2 at' a b c st sd bud) [] ⟨0,at',yK a b c,st⟩ r (ND {sH rows e c1 c2 at' a b c st sd bud with said:=sd'} [] ⟨0,at',yK a' b' c',st'⟩ goal)
 look:eA (fq e) (sG c1 c2) 2 st (mw (fq e) [cy rows] (cy rows) r) (kG r)=none
 ok:r.Ok [0,0,0] 1 5 rows.length
 few:(mw (fq e) [cy rows] (cy rows) r).length<=1000
theorem gc{p:PM}{fs:List PF}{f:PF}:ND p fs f (f.at' + 1)={p with bT:=fs++[{f with at':=f.at' + 1}]}:=by
 unfold ND;rw[if_pos (Nat.lt_succ_self _)]
theorem GD{ms:cV}{ps:List Pt}{p:Pt}:mw ms ps p (.bare "say")=[.num]:=by rw[pB,aan (by decide +kernel),aan (by decide +kernel),aan (by decide +kernel),aaq (by decide +kernel)]
theorem Cm{ms:cV}{ps:List Pt}{p:Pt}:mw ms ps p (.bare "drop")=[.any]:=by rw[pB,aaq (by decide +kernel)]
theorem Cn{ms:cV}{ps:List Pt}{p:Pt}:mw ms ps p (.bare "give")=[p.gives]:=by rw[pB,aan (by decide +kernel),aan (by decide +kernel),aan (by decide +kernel),aan (by decide +kernel)]
theorem mT{P:Str->Prop}(h1:P "add")(h2:P "sub")(h3:P "mul"):∀sg∈(["add","sub","mul"]:List Str),P sg:=λsg h=>by
 rcases aam.mp h with rfl | h
 ·exact h1
 rcases aam.mp h with rfl | h
 ·exact h2
 rw[bN h];exact h3
theorem GF{ms:cV}{ps:List Pt}{p:Pt}:∀sg∈(["add","sub","mul"]:List Str),mw ms ps p (.bare sg)=[.num,.num]:=by
 refine mT ?_ ?_ ?_<;>rw[pB,aan (by decide +kernel),aan (by decide +kernel),aaq (by decide +kernel)]
theorem TJ(x y:Int):∀sg∈(["add","sub","mul"]:List Str),we sg x y=rk sg x y:=by
 refine mT ?_ ?_ ?_
 ·rw[Ll];unfold we;rw[if_pos rfl]
 ·rw[Lm];unfold we;rw[if_neg (by decide +kernel),if_pos rfl]
 ·rw[Ln];unfold we;rw[if_neg (by decide +kernel),if_neg (by decide +kernel)]
theorem TK(x y:Int)(sg:Str):lu (we sg x y):=⟨(Gw _).1,(Gw _).2.1⟩
theorem Pq(hC:GC rows T){a:Nat}{s:S4}(h:T a=some s):a < rows.length:=by
 obtain⟨r,hr,_⟩:=hC.row a s h;exact(bU hr).1
theorem WH:∀sg∈(["add","sub","mul"]:List Str),sg∉(["jump","zero","kin","give"]:List Str)/\Cj sg/\¬ parts sg/\cc sg=1/\sg∈uY:=by
 refine mT ?_ ?_ ?_<;>exact⟨by decide +kernel,by unfold Cj;decide +kernel,by decide +kernel,by decide +kernel,by decide +kernel⟩
theorem Lr(hC:GC rows T)(h1:c1 < 3)(h2:c2 < 3)(he:e < 2){at':Nat}{s:S4}{st:List Vl}{a b c:Int}{sd:List Int}{r:Rw}(hr:uw T at' r s)(hs:X0 s st)(ha:lu a)(hb:lu b)(hc:lu c):
  (r=.bare "give"/\∃w,lu w/\st=[.num w])∨∃goal s' a' b' c' st' sd',Pp K rows T e c1 c2 at' a b c st sd r goal s' a' b' c' st' sd':=by
 cases hr with
 | @ldn bb Zv hT =>
  have hs:st=[]:=hs;subst hs;have lk:eA (fq e) (sG c1 c2) 2 [] (mw (fq e) [cy rows] (cy rows) (.load bb)) (kG (.load bb))=none:=cN (lo:=[]) (tk:=[]) rfl (by show(0:Int) + cc "load"<=2;decide +kernel) rfl
  have go:∀x,(yK a b c)[bb]?=some (.num x)->[a,b,c,(c1:Int),(c2:Int)][bb]?=some x->lu x->∃goal s' a' b' c' st' sd',Pp K rows T e c1 c2 at' a b c [] sd (.load bb) goal s' a' b' c' st' sd':=λx e1 e2 hx=>by
   refine⟨at' + 1,.n,a,b,c,[.num x],sd,hT,⟨x,hx,rfl⟩,⟨ha,hb,hc⟩,by omega,⟨_,.els (by show("load" : Str)∉_;decide +kernel),cn.load e2,aaf _,rfl⟩,λbud=>?_,lk,(by show bb < 5;omega),(by show 0<=1000;decide)⟩;rw[gc (f:=⟨0,at',yK a b c,[.num x]⟩)];exact .str (.load e1)
  right
  rcases (by omega:bb=0∨bb=1∨bb=2)with rfl | rfl | rfl
  ·exact go a rfl rfl ha
  ·exact go b rfl rfl hb
  ·exact go c rfl rfl hc
 | @ldr bb Zv hT =>
  have hs:st=[]:=hs;subst hs;have lk:eA (fq e) (sG c1 c2) 2 [] (mw (fq e) [cy rows] (cy rows) (.load bb)) (kG (.load bb))=none:=cN (lo:=[]) (tk:=[]) rfl (by show(0:Int) + cc "load"<=2;decide +kernel) rfl
  have go:∀k,k < 2->(yK a b c)[bb]?=some (.rcd k)->[a,b,c,(c1:Int),(c2:Int)][bb]?=some (vW c1 c2 (.rcd k))->∃goal s' a' b' c' st' sd',Pp K rows T e c1 c2 at' a b c [] sd (.load bb) goal s' a' b' c' st' sd':=λk hk e1 e2=>by
   refine⟨at' + 1,.r,a,b,c,[.rcd k],sd,hT,⟨k,hk,rfl⟩,⟨ha,hb,hc⟩,by omega,⟨_,.els (by show("load" : Str)∉_;decide +kernel),cn.load e2,aaf _,rfl⟩,λbud=>?_,lk,(by show bb < 5;omega),(by show 0<=1000;decide)⟩;rw[gc (f:=⟨0,at',yK a b c,[.rcd k]⟩)];exact .str (.load e1)
  right
  rcases Zv with rfl | rfl
  ·exact go 0 (by decide) rfl rfl
  ·exact go 1 (by decide) rfl rfl
 | @push w hw hT =>
  obtain⟨x,hx,rfl⟩:=hs;refine .inr ⟨at' + 1,.nn,a,b,c,[.num x,.num w],sd,hT,⟨x,w,hx,hw,rfl⟩,⟨ha,hb,hc⟩,by omega,⟨_,.els (by show("push" : Str)∉_;decide +kernel),cn.push,aaf _,rfl⟩,λbud=>?_,cN (lo:=[.num x]) (tk:=[]) rfl (by show(1:Int) + cc "push"<=2;decide +kernel) rfl,⟨hw.1,by have:=hw.2;omega⟩,(by show 0<=1000;decide)⟩;rw[gc (f:=⟨0,at',yK a b c,[.num x,.num w]⟩)];exact .str .push
 | @two sg hsg hT =>
  obtain⟨x,y,hx,hy,rfl⟩:=hs;obtain⟨n1,n2,n3,n4,n5⟩:=WH sg hsg;refine .inr ⟨at' + 1,.n,a,b,c,[.num (we sg x y)],sd,hT,⟨_,TK x y sg,rfl⟩,⟨ha,hb,hc⟩,by omega,⟨_,.els n1,cn.two (sk:=[]) hsg hx hy,aaf _,rfl⟩,λbud=>?_,?_,n5,?_⟩
  ·rw[gc (f:=⟨0,at',yK a b c,[.num (we sg x y)]⟩),TJ x y sg hsg];exact .rek (st:=[]) rfl n2 hx hy (λz=>absurd z n3)
  ·rw[GF sg hsg];exact cN (lo:=[]) (tk:=[.num x,.num y]) rfl (by show(0:Int) + cc sg<=2;rw[n4];decide) rfl
  ·rw[GF sg hsg];decide
 | @store bb Zv hT =>
  obtain⟨x,hx,rfl⟩:=hs;have lk:eA (fq e) (sG c1 c2) 2 [.num x] (mw (fq e) [cy rows] (cy rows) (.store bb)) (kG (.store bb))=none:=cN (lo:=[]) (tk:=[.num x]) rfl (by show(0:Int) + cc "store"<=2;decide +kernel) rfl
  have go:∀a' b' c',(yK a b c).set bb (.num x)=yK a' b' c'->[a,b,c,(c1:Int),(c2:Int)].set bb x=[a',b',c',(c1:Int),(c2:Int)]->lu a'/\lu b'/\lu c'->∃goal s' a' b' c' st' sd',Pp K rows T e c1 c2 at' a b c [.num x] sd (.store bb) goal s' a' b' c' st' sd':=λa' b' c' e1 e2 hx=>by
   refine⟨at' + 1,.e,a',b',c',[],sd,hT,rfl,hx,by omega,⟨_,.els (by show("store" : Str)∉_;decide +kernel),?_,aaf _,rfl⟩,λbud=>?_,lk,(by show bb < 5;omega),(by show 1<=1000;decide)⟩
   ·have:=cn.store (b:=bb) (sk:=[]) (bx:=[a,b,c,(c1:Int),(c2:Int)]) (sd:=sd) (x:=x) (by show bb < 5;omega);rw[e2]at this;exact this
   ·have:=uv.str (p:=sH rows e c1 c2 at' a b c [.num x] sd bud) (fs:=[]) (Jx.store (b:=bb) (f:=⟨0,at',yK a b c,[.num x]⟩) (sd:=sd) (st:=[]) (x:=.num x) rfl (by show bb < 5;omega));dsimp only at this;rw[e1]at this;rw[gc (f:=⟨0,at',yK a' b' c',[]⟩)];exact this
  right
  rcases (by omega:bb=0∨bb=1∨bb=2)with rfl | rfl | rfl
  ·exact go x b c rfl rfl ⟨hx,hb,hc⟩
  ·exact go a x c rfl rfl ⟨ha,hx,hc⟩
  ·exact go a b x rfl rfl ⟨ha,hb,hx⟩
 | say hT =>
  obtain⟨x,hx,rfl⟩:=hs;refine .inr ⟨at' + 1,.e,a,b,c,[],sd++[x],hT,rfl,⟨ha,hb,hc⟩,by simp,⟨_,.els (by show("say" : Str)∉_;decide +kernel),cn.say (sk:=[]),Nat.le_refl _,rfl⟩,λbud=>?_,?_,(by show("say" : Str)∈uY;decide +kernel),?_⟩
  ·rw[gc (f:=⟨0,at',yK a b c,[]⟩)];exact .str (.say (st:=[]) (x:=.num x) rfl (λz=>nomatch z))
  ·rw[GD];exact cN (lo:=[]) (tk:=[.num x]) rfl (by show(0:Int) + cc "say"<=2;decide +kernel) rfl
  ·rw[GD];decide
 | @zero t hTt hT =>
  obtain⟨x,hx,rfl⟩:=hs;have lt:=Pq hC hTt;refine .inr ⟨if x=0 then t else at' + 1,.e,a,b,c,[],sd,by split<;>assumption,rfl,⟨ha,hb,hc⟩,by omega,⟨_,.zero (sk:=[]),cn.zero,aba _,rfl⟩,λbud=>?_,cN (lo:=[]) (tk:=[.num x]) rfl (by show(0:Int) + cc "zero"<=2;decide +kernel) rfl,lt,(by show 1<=1000;decide)⟩
  have:=uv.go (p:=sH rows e c1 c2 at' a b c [.num x] sd bud) (fs:=[]) (p7.zero (ms:=fq e) (recs:=sG c1 c2) (f:=⟨0,at',yK a b c,[.num x]⟩) (t:=t) (st:=[]) (x:=.num x) rfl (λz=>nomatch z));unfold Gy at this;by_cases z:x=0
  ·rw[aaq (by exact aaM z)]at this;rw[aaq z];exact this
  ·rw[if_neg (by rw[show iy (.num x)=x from rfl,decide_eq_false z];simp)]at this;rw[if_neg z,gc (f:=⟨0,at',yK a b c,[]⟩)];exact this
 | @jump t hTt =>
  have hs:st=[]:=hs;subst hs;have lt:=Pq hC hTt;exact .inr ⟨t,.e,a,b,c,[],sd,hTt,rfl,⟨ha,hb,hc⟩,by omega,⟨_,.jump,cn.jump,aba _,rfl⟩,λbud=>.go .jump,cN (lo:=[]) (tk:=[]) rfl (by show(0:Int) + cc "jump"<=2;decide +kernel) rfl,lt,(by show 0<=1000;decide)⟩
 | give =>
  exact .inl ⟨rfl,hs⟩
 | drop hT =>
  obtain⟨k,hk,rfl⟩:=hs;refine .inr ⟨at' + 1,.e,a,b,c,[],sd,hT,rfl,⟨ha,hb,hc⟩,by omega,⟨_,.els (by show("drop" : Str)∉_;decide +kernel),cn.drop (sk:=[]),aaf _,rfl⟩,λbud=>?_,?_,(by show("drop" : Str)∈uY;decide +kernel),?_⟩
  ·rw[gc (f:=⟨0,at',yK a b c,[]⟩)];exact .str (.drop (st:=[]) rfl)
  ·rw[Cm];exact cN (lo:=[]) (tk:=[.rcd k]) rfl (by show(0:Int) + cc "drop"<=2;decide +kernel) rfl
  ·rw[Cm];decide
 | @kin d t hd hTt hT =>
  obtain⟨k,hk,rfl⟩:=hs;have lt:=Pq hC hTt
  obtain⟨q,hq,Zw,hqv,hqb⟩:∃q,(sG c1 c2)[k]?=some q/\q.c < 3/\vW c1 c2 (.rcd k)=(q.c:Int)/\q.begun=true:=by
   rcases (by omega:k=0∨k=1)with rfl | rfl
   ·exact⟨_,rfl,h1,rfl,rfl⟩
   ·exact⟨_,rfl,h2,rfl,rfl⟩
  refine .inr ⟨if d∈bc (fq e) q.c then t else at' + 1,.r,a,b,c,[.rcd k],sd,by split<;>assumption,⟨k,hk,rfl⟩,⟨ha,hb,hc⟩,by omega,⟨Hr c1 c2 a b c [.rcd k] sd,?_,cn.kin,aaf _,rfl⟩,λbud=>?_,?_,⟨hd,lt⟩,(by show 1<=1000;decide)⟩
  ·unfold Hr;rw[show [Vl.rcd k].map (vW c1 c2)=[]++[(q.c:Int)]by rw[← hqv];rfl];exact .kin Zw
  ·have:=uv.go (p:=sH rows e c1 c2 at' a b c [.rcd k] sd bud) (fs:=[]) (p7.kin (ms:=fq e) (recs:=sG c1 c2) (f:=⟨0,at',yK a b c,[.rcd k]⟩) (c:=d) (t:=t) (st:=[]) rfl hq Zw);unfold Gy at this;by_cases z:d∈bc (fq e) q.c
   ·rw[aaq (by exact aaM z)]at this;rw[aaq z];exact this
   ·rw[if_neg (by rw[decide_eq_false z];simp)]at this;rw[if_neg z,gc (f:=⟨0,at',yK a b c,[.rcd k]⟩)];exact this
  ·refine cN (lo:=[]) (tk:=[.rcd k]) rfl (by show(0:Int) + cc "kin"<=2;decide +kernel) ?_;show(hasB (fq e) (sG c1 c2) (.rcd k) (.whole 0)&&true)=true;rw[AR (by simp),sA hq];show(q.begun&&decide (0∈bc (fq e) q.c))&&true=true;rw[hqb,decide_eq_true (B9 (good3 he).wf q.c Zw)];rfl
theorem Pr{s:S4}{st:List Vl}(h:X0 s st):st.length<=2/\∀k,.rcd k∈st->k < 2:=by
 cases s with
 | e=>have h:st=[]:=h;subst h;exact⟨by decide,(λk hk=>nomatch hk)⟩
 | n=>obtain⟨w,_,rfl⟩:=h;exact⟨by show 1<=2;decide,(λk hk=>by simp at hk)⟩
 | nn=>obtain⟨w,v,_,_,rfl⟩:=h;exact⟨by show 2<=2;decide,(λk hk=>by simp at hk)⟩
 | r=>obtain⟨w,hw,rfl⟩:=h;exact⟨by show 1<=2;decide,(λk hk=>by simp at hk;omega)⟩
def WI(l:List (Str ⊕ Int)):Prop:=l=[.inl "weary"]∨∃w:Int,l=[.inl "gave",.inr w]
theorem WJ(hC:GC rows T)(h1:c1 < 3)(h2:c2 < 3)(he:e < 2):∀(n at':Nat) (s:S4) (st:List Vl) (a b c:Int) (sd:List Int) (bud:Int),T at'=some s->X0 s st->lu a->lu b->lu c->0<=bud->bud.toNat * 201 + (200 - at') < n->sd.length + n<=100000 ->
  ∃o,p8 rows (fq e) n at' (Hr c1 c2 a b c st sd) bud o/\(o.sd.length<=100000/\WI o.fin)/\∀wt,∃m p2,sF K wt m (sH rows e c1 c2 at' a b c st sd bud) p2/\p2.fin=o.fin/\p2.said=o.sd/\p2.left=o.left:=by
 intro n
 induction n with
 | zero=>intro at' s st a b c sd bud _ _ _ _ _ _ h;omega
 | succ n ih =>
  intro at' s st a b c sd bud hT hs ha hb hc hbud hn hl;obtain⟨r,hr,hRT⟩:=hC.row at' s hT;have lt:=Pq hC hT;have afm:=hC.len;obtain⟨s2,sk⟩:=Pr hs
  have fine:GA (sH rows e c1 c2 at' a b c st sd bud):=⟨(good3 he).wf,(good3 he).Hl,(by show 1<=12;decide),(by show sd.length<=900000;omega),(by show 2<=900000;decide),λf hf=>by
   have hf:f∈[(⟨0,at',yK a b c,st⟩:PF)]:=hf;rw[bN hf];exact⟨by show st.length<=1000;omega,cy rows,rfl⟩⟩
  have rcs:∀r∈(sH rows e c1 c2 at' a b c st sd bud).recs,r.c < (sH rows e c1 c2 at' a b c st sd bud).ms.length:=λr hr=>by
   have hr:r∈[(⟨c1,true,0,[]⟩:Rk),⟨c2,true,0,[]⟩]:=hr;rcases aam.mp hr with rfl | hr
   ·exact h1
   ·rw[bN hr];exact h2
  rcases Lr (K:=K) (sd:=sd) hC h1 h2 he hRT hs ha hb hc with⟨rfl,w,hw,rfl⟩ | ⟨goal,s',a',b',c',st',sd',B⟩
  ·refine⟨⟨[.inl "gave",.inr w],sd,bud⟩,.inl ⟨hr,[],w,rfl,rfl⟩,⟨by show sd.length<=100000;omega,.inr ⟨w,rfl⟩⟩,λwt=>⟨1,_,.next rfl (sE.of wt (good3 he) rfl fine (fs:=[]) rfl rfl hr (by show("give" : Str)∈uY;decide +kernel) (by rw[Cn];show 1<=1000;decide) rcs sk ?_ (.give (st:=[]) (x:=.num w) rfl (λ_ z=>nomatch z))) (.done (by simp[Gz])),rfl,rfl,rfl⟩⟩;rw[Cn];exact cN (lo:=[]) (tk:=[.num w]) rfl (by show(0:Int) + cc "give"<=2;decide +kernel) rfl
  ·obtain⟨s1,g1,g2,g3,g4⟩:=B.walk;have step:∀wt,sE K wt (sH rows e c1 c2 at' a b c st sd bud) (ND {sH rows e c1 c2 at' a b c st sd bud with said:=sd'} [] ⟨0,at',yK a' b' c',st'⟩ goal):=λwt=>sE.of wt (good3 he) rfl fine (fs:=[]) rfl rfl hr B.ok B.few rcs sk B.look (B.row bud)
   have l1:s1.sk.length<=1000:=by omega
   have l2:s1.sd.length<=100000:=by rw[g4];omega
   have l3:=B.sdl;unfold ND at step;by_cases z:at' < goal
   ·obtain⟨o,w1,w2,w3⟩:=ih goal s' st' a' b' c' sd' bud B.g B.sh B.w.1 B.w.2.1 B.w.2.2 hbud (by omega) (by omega);refine⟨o,.inr ⟨r,s1,_,goal,hr,g1,g2,l1,l2,.inl ⟨z,w1⟩⟩,w2,λwt=>?_⟩;obtain⟨m,p2,q1,q2⟩:=w3 wt;have aG:=step wt;rw[aaq z]at aG;exact⟨m + 1,p2,.next rfl aG q1,q2⟩
   ·by_cases y:0 < bud
    ·obtain⟨o,w1,w2,w3⟩:=ih goal s' st' a' b' c' sd' (bud - 1) B.g B.sh B.w.1 B.w.2.1 B.w.2.2 (by omega) (by omega) (by omega);refine⟨o,.inr ⟨r,s1,_,goal,hr,g1,g2,l1,l2,.inr (.inl ⟨by omega,y,w1⟩)⟩,w2,λwt=>?_⟩;obtain⟨m,p2,q1,q2⟩:=w3 wt;have aG:=step wt;rw[aan z,aaq (show 0 < (sH rows e c1 c2 at' a b c st sd bud).left from y)]at aG;exact⟨m + 1,p2,.next rfl aG q1,q2⟩
    ·have e0:bud=0:=by omega
     refine⟨⟨[.inl "weary"],sd',0⟩,.inr ⟨r,s1,_,goal,hr,g1,g2,l1,l2,.inr (.inr ⟨by omega,e0,rfl⟩)⟩,⟨by show sd'.length<=100000;omega,.inl rfl⟩,λwt=>?_⟩;have aG:=step wt;rw[if_neg z,if_neg (show ¬ 0 < (sH rows e c1 c2 at' a b c st sd bud).left from y)]at aG;exact⟨1,_,.next rfl aG (.done (by simp)),rfl,rfl,e0⟩
theorem AZ{c:Nat}(h:c < 3)(he:e < 2):fields (fq e) c=[]:=by
 rcases (by omega:c=0∨c=1∨c=2)with rfl | rfl | rfl<;>rcases (by omega:e=0∨e=1)with rfl | rfl<;>rfl
def zx(c1 c2:Nat):List Rw:=[.make c1,.beg c1,.store 3,.make c2,.beg c2,.store 4]
theorem TL{rest:List Rw}(hrows:rows=zx c1 c2++rest)(h1:c1 < 3)(h2:c2 < 3)(he:e < 2){a b c bud:Int}{wt:Bool}{n:Nat}{p2:PM}(hR:sF K wt n (sH rows e c1 c2 6 a b c [] [] bud) p2):sF K wt (n + 6) (j3 (fq e) [cy rows] 0 (cy rows) [a,b,c] bud) p2:=by
 have hok:=good3 he;have st:∀(i:Nat) (bx:List Vl) (sk:List Vl) (rc:List Rk) (r:Rw) (p':PM),rows[i]?=some r->sk.length<=2->rc.length<=2->(∀r∈rc,r.c < 3)->(∀k,.rcd k∈sk->k < rc.length)->r.Ok [0,0,0] 1 5 rows.length->(mw (fq e) [cy rows] (cy rows) r).length<=1000->eA (fq e) rc 2 sk (mw (fq e) [cy rows] (cy rows) r) (kG r)=none ->
   uv ⟨fq e,[cy rows],[⟨0,i,bx,sk⟩],rc,[],bud,[]⟩ [] ⟨0,i,bx,sk⟩ r p'->sE K wt ⟨fq e,[cy rows],[⟨0,i,bx,sk⟩],rc,[],bud,[]⟩ p':=λi bx sk rc r p' e1 e2 e3 e4 e5 e6 e7 e8 e9 =>
  sE.of wt hok rfl ⟨hok.wf,hok.Hl,(by show 1<=12;decide),(by show 0<=900000;decide),(by show rc.length<=900000;omega),λf hf=>by
   have hf:f∈[(⟨0,i,bx,sk⟩:PF)]:=hf;rw[bN hf];exact⟨by show sk.length<=1000;omega,cy rows,rfl⟩⟩ (fs:=[]) rfl rfl e1 e6 e7 e4 e5 e8 e9
 have row:∀i r,(zx c1 c2)[i]?=some r->rows[i]?=some r:=λi r h=>by rw[hrows,aac (bU h).1];exact h
 have f1:=AZ h1 he;have f2:=AZ h2 he
 have raw:∀(rc:List Rk) (k d:Nat) (q:Rk),d < 3->rc[k]?=some q->q.c=d->eA (fq e) rc 2 [.rcd k] (mw (fq e) [cy rows] (cy rows) (.beg d)) (kG (.beg d))=none:=λrc k d q hd hq hc=>by
  refine cN (lo:=[]) (tk:=[.rcd k]) rfl (by show(0:Int) + cc "begin"<=2;decide +kernel) ?_;show(hasB (fq e) rc (.rcd k) (.raw d (2 ^ (fields (fq e) d).length - 1))&&true)=true;rw[AR (by simp),sA hq,AZ hd he];show(decide (q.c=d)&&decide (q.mask&&&0=0))&&true=true;rw[decide_eq_true hc,Nat.and_zero];rfl
 have m1:=Lp.make (ms:=fq e) (c:=c1) (f:=⟨0,0,[.num a,.num b,.num c,.none,.none],[]⟩) (rs:=[]) h1;rw[f1]at m1;have m2:=Lp.make (ms:=fq e) (c:=c2) (f:=⟨0,3,[.num a,.num b,.num c,.rcd 0,.none],[]⟩) (rs:=[⟨c1,true,0,[]⟩]) h2;rw[f2]at m2;refine .next rfl (st 0 [.num a,.num b,.num c,.none,.none] [] [] (.make c1) _ (row 0 _ rfl) (Nat.le_of_ble_eq_true rfl) (Nat.le_of_ble_eq_true rfl) (λr hr=>nomatch hr) (λk hk=>nomatch hk) h1 (by show 0<=1000;decide) (cN (lo:=[]) (tk:=[]) rfl (by show(0:Int) + cc "make"<=2;decide +kernel) rfl) (.rcd m1)) ?_;refine .next rfl (st 1 [.num a,.num b,.num c,.none,.none] [.rcd 0] [⟨c1,false,0,[]⟩] (.beg c1) _ (row 1 _ rfl) (Nat.le_of_ble_eq_true rfl) (Nat.le_of_ble_eq_true rfl) (λr hr=>by rw[bN hr];exact h1) (λk hk=>by simp at hk;subst hk;exact Nat.lt_succ_self 0) h1 (by show 1<=1000;decide) (raw _ 0 c1 _ h1 rfl rfl) (.rcd (.beg (st:=[]) rfl rfl))) ?_;refine .next rfl (st 2 [.num a,.num b,.num c,.none,.none] [.rcd 0] [⟨c1,true,0,[]⟩] (.store 3) _ (row 2 _ rfl) (Nat.le_of_ble_eq_true rfl) (Nat.le_of_ble_eq_true rfl) (λr hr=>by rw[bN hr];exact h1) (λk hk=>by simp at hk;subst hk;exact Nat.lt_succ_self 0) (by show 3 < 5;decide) (by show 1<=1000;decide) (cN (lo:=[]) (tk:=[.rcd 0]) rfl (by show(0:Int) + cc "store"<=2;decide +kernel) rfl) (.str (.store (st:=[]) rfl (by show 3 < 5;decide)))) ?_;refine .next rfl (st 3 [.num a,.num b,.num c,.rcd 0,.none] [] [⟨c1,true,0,[]⟩] (.make c2) _ (row 3 _ rfl) (Nat.le_of_ble_eq_true rfl) (Nat.le_of_ble_eq_true rfl) (λr hr=>by rw[bN hr];exact h1) (λk hk=>nomatch hk) h2 (by show 0<=1000;decide) (cN (lo:=[]) (tk:=[]) rfl (by show(0:Int) + cc "make"<=2;decide +kernel) rfl) (.rcd m2)) ?_
 have two:∀(q:Rk),q.c=c2->∀r∈[(⟨c1,true,0,[]⟩:Rk),q],r.c < 3:=λq hq r hr=>by
  rcases aam.mp hr with rfl | hr
  ·exact h1
  ·rw[bN hr,hq];exact h2
 refine .next rfl (st 4 [.num a,.num b,.num c,.rcd 0,.none] [.rcd 1] [⟨c1,true,0,[]⟩,⟨c2,false,0,[]⟩] (.beg c2) _ (row 4 _ rfl) (Nat.le_of_ble_eq_true rfl) (Nat.le_of_ble_eq_true rfl) (two _ rfl) (λk hk=>by simp at hk;subst hk;exact Nat.lt_succ_self 1) h2 (by show 1<=1000;decide) (raw _ 1 c2 _ h2 rfl rfl) (.rcd (.beg (st:=[]) rfl rfl))) ?_;refine .next rfl (st 5 [.num a,.num b,.num c,.rcd 0,.none] [.rcd 1] [⟨c1,true,0,[]⟩,⟨c2,true,0,[]⟩] (.store 4) _ (row 5 _ rfl) (Nat.le_of_ble_eq_true rfl) (Nat.le_of_ble_eq_true rfl) (two _ rfl) (λk hk=>by simp at hk;subst hk;exact Nat.lt_succ_self 1) (by show 4 < 5;decide) (by show 1<=1000;decide) (cN (lo:=[]) (tk:=[.rcd 1]) rfl (by show(0:Int) + cc "store"<=2;decide +kernel) rfl) (.str (.store (st:=[]) rfl (by show 4 < 5;decide)))) ?_;exact hR
theorem Hs{rest:List Rw}(hrows:rows=zx c1 c2++rest){a b c bud:Int}{n:Nat}{o:Out}(h:p8 rows (fq e) n 6 (Hr c1 c2 a b c [] []) bud o):p8 rows (fq e) (n + 6) 0 ⟨[],[a,b,c,0,0],[]⟩ bud o:=by
 have row:∀i r,(zx c1 c2)[i]?=some r->rows[i]?=some r:=λi r h=>by rw[hrows,aac (bU h).1];exact h
 have st:∀(n i:Nat) (r:Rw) (s s2:WS),(zx c1 c2)[i]?=some r->kG r∉(["jump","zero","kin","give"]:List Str)->cn r s s2->s.sk.length<=1000->s.sd.length<=100000->p8 rows (fq e) n (i + 1) s2 bud o->p8 rows (fq e) (n + 1) i s bud o:=λn i r s s2 e1 e2 e3 e4 e5 e6=>.inr ⟨r,s,s2,i + 1,row i r e1,.els e2,e3,e4,e5,.inl ⟨ach _,e6⟩⟩
 refine st _ 0 _ _ ⟨[(c1:Int)],[a,b,c,0,0],[]⟩ rfl (by show("make" : Str)∉_;decide +kernel) cn.make (aaw rfl) (aaw rfl) ?_;refine st _ 1 _ _ ⟨[(c1:Int)],[a,b,c,0,0],[]⟩ rfl (by show("begin" : Str)∉_;decide +kernel) cn.beg (by show 1<=1000;decide) (by show 0<=100000;decide) ?_;refine st _ 2 _ _ ⟨[],[a,b,c,(c1:Int),0],[]⟩ rfl (by show("store" : Str)∉_;decide +kernel) (cn.store (b:=3) (sk:=[]) (bx:=[a,b,c,0,0]) (by show 3 < 5;decide)) (by show 1<=1000;decide) (by show 0<=100000;decide) ?_;refine st _ 3 _ _ ⟨[(c2:Int)],[a,b,c,(c1:Int),0],[]⟩ rfl (by show("make" : Str)∉_;decide +kernel) cn.make (aaw rfl) (aaw rfl) ?_;refine st _ 4 _ _ ⟨[(c2:Int)],[a,b,c,(c1:Int),0],[]⟩ rfl (by show("begin" : Str)∉_;decide +kernel) cn.beg (by show 1<=1000;decide) (by show 0<=100000;decide) ?_;refine st _ 5 _ _ ⟨[],[a,b,c,(c1:Int),(c2:Int)],[]⟩ rfl (by show("store" : Str)∉_;decide +kernel) (cn.store (b:=4) (sk:=[]) (bx:=[a,b,c,(c1:Int),0]) (by show 4 < 5;decide)) (by show 1<=1000;decide) (by show 0<=100000;decide) ?_;exact h
end
def bf:Nat->List Bk->List Nat
 | _,[]=>[]
 | m,b::r=>m::bf (m + (kI b).length) r
def aI:Nat->List Bk->List Nat
 | _,[]=>[]
 | m,b::r=>(match b with | .ovr=>[m + 1] | _=>[])++aI (m + (kI b).length) r
def dZ(bs:List Bk):Nat:=(bs.flatMap kI).length
theorem Co:dZ []=0:=rfl
theorem cA(b:Bk)(r:List Bk):dZ (b::r)=(kI b).length + dZ r:=by unfold dZ;rw[List.flatMap_cons,List.length_append]
theorem sI(l r:List Bk):dZ (l++r)=dZ l + dZ r:=by unfold dZ;rw[List.flatMap_append,List.length_append]
theorem sJ:∀(l:List Bk) (m:Nat) (b:Bk),bf m (l++[b])=bf m l++[m + dZ l]
 | [],m,b=>rfl
 | x::l,m,b=>by
  show m::bf _ (l++[b])=m::(bf _ l++_);rw[sJ l,cA,acy]
theorem va:∀(l:List Bk) (m:Nat) (b:Bk),aI m (l++[b])=aI m l++aI (m + dZ l) [b]
 | [],m,b=>rfl
 | x::l,m,b=>by
  show(match x with | .ovr=>[m + 1] | _=>[])++aI _ (l++[b])=((match x with | .ovr=>[m + 1] | _=>[])++aI _ l)++_;rw[va l,cA,acy,abC]
theorem mU:∀(l:List Bk) (m:Nat),(bf m l).length=l.length
 | [],m=>rfl
 | x::l,m=>abv (· + 1) (mU l _)
theorem xF:∀(l:List Bk) (m i:Nat),i < l.length->∃pre b post,l=pre++b::post/\pre.length=i/\(bf m l)[i]?=some (m + dZ pre)
 | [],m,i,h=>absurd h (Nat.not_lt_zero _)
 | x::l,m,0,h=>⟨[],x,l,rfl,rfl,rfl⟩
 | x::l,m,i + 1,h=>by
  obtain⟨pre,b,post,e1,e2,e3⟩:=xF l (m + (kI x).length) i (Nat.lt_of_succ_lt_succ h);refine⟨x::pre,b,post,by rw[e1];rfl,by rw[← e2];rfl,?_⟩;show(bf (m + (kI x).length) l)[i]?=_;rw[e3,cA,acy]
theorem xG:∀(l:List Bk) (m d:Nat),d∈aI m l->∃pre post,l=pre++.ovr::post/\d=m + dZ pre + 1
 | [],m,d,h=>nomatch h
 | x::l,m,d,h=>by
  rcases aaQ.mp h with h | h
  ·cases x with
   | ovr=>exact⟨[],l,rfl,bN h⟩
   | _=>cases h
  ·obtain⟨pre,post,e1,e2⟩:=xG l _ d h;exact⟨x::pre,post,by rw[e1];rfl,by rw[e2,cA];omega⟩
def xH(ts ds:List Nat)(p:Nat):Rr->Rw
 | .pl r=>r
 | .jmp t=>.jump (ts[1 + t]?.getD 0)
 | .zer t=>.zero (ts[1 + t]?.getD 0)
 | .ovr=>.jump (p + 2)
 | .kn c o=>.kin c (ds[(o % (ds.length:Int)).toNat]?.getD 0)
def ba(ts ds:List Nat):Nat->List Rr->List Rw
 | _,[]=>[]
 | p,x::r=>xH ts ds p x::ba ts ds (p + 1) r
theorem pC(ts ds:List Nat):∀(l:List Rr) (p:Nat),(ba ts ds p l).length=l.length
 | [],p=>rfl
 | x::l,p=>abv (· + 1) (pC ts ds l _)
theorem ux(ts ds:List Nat):∀(l r:List Rr) (p:Nat),ba ts ds p (l++r)=ba ts ds p l++ba ts ds (p + l.length) r
 | [],r,p=>rfl
 | x::l,r,p=>by
  show xH ts ds p x::ba ts ds (p + 1) (l++r)=xH ts ds p x::(ba ts ds (p + 1) l++_);rw[ux ts ds l,aaT,show p + 1 + l.length=p + (l.length + 1)by omega]
theorem xI(ts ds:List Nat):∀(l:List Rr) (p i:Nat),(ba ts ds p l)[i]?=(l[i]?).map (xH ts ds (p + i))
 | [],p,i=>by simp[ba]
 | x::l,p,0=>rfl
 | x::l,p,i + 1=>by
  show(ba ts ds (p + 1) l)[i]?=(l[i]?).map _;rw[xI ts ds l,show p + 1 + i=p + (i + 1)by omega]
def tyB:Bk->List (Option S4)
 | .ini _ _=>[none,none,none,none,none,none]
 | .say _=>[some .e,some .n]
 | .two _ _ _=>[some .e,some .n,some .nn,some .n]
 | .zer _ _=>[some .e,some .n]
 | .jmp _=>[some .e]
 | .gv _=>[some .e,some .n]
 | .ovr=>[some .e,some .r]
 | .kn _ _ _=>[some .e,some .r,some .r]
theorem Pu(b:Bk):(tyB b).length=(kI b).length:=by cases b<;>rfl
theorem A1:∀l:List Bk,(l.flatMap tyB).length=dZ l
 | []=>rfl
 | b::l=>by rw[abr,aaG,Pu,A1 l,cA]
theorem Cp{β:Type}(g:Bk->List β):∀(l:List Bk) (p:Nat) (y:β),(l.flatMap g)[p]?=some y->∃pre b post j,l=pre++b::post/\p=(pre.flatMap g).length + j/\(g b)[j]?=some y
 | [],p,y,h=>by simp at h
 | b::l,p,y,h=>by
  rw[abr]at h;by_cases hp:p < (g b).length
  ·rw[List.getElem?_append_left hp]at h;exact⟨[],b,l,p,rfl,by simp,h⟩
  ·rw[aaj (by omega)]at h;obtain⟨pre,b',post,j,e1,e2,e3⟩:=Cp g l _ y h;exact⟨b::pre,b',post,j,by rw[e1];rfl,by rw[abr,aaG];omega,e3⟩
theorem Ls{β:Type}(g:Bk->List β){pre post:List Bk}{b:Bk}{j:Nat}{y:β}(h:(g b)[j]?=some y):((pre++b::post).flatMap g)[(pre.flatMap g).length + j]?=some y:=by
 rw[List.flatMap_append,aaj (acM _ _),Nat.add_sub_cancel_left,abr,aac (bU h).1];exact h
structure sL(bs:List Bk)(c1 c2:Nat):Prop where
 h1:c1 < 3
 h2:c2 < 3
 sh:∃mid:List Bk,∃b,b < 3/\bs=.ini c1 c2::.ovr::(mid++[.ovr,.gv b])/\mid.length<=21/\∀k∈mid,k.Ok (mid.length + 2)
def Jy(bs:List Bk):Nat->Option S4:=λp=>((bs.flatMap tyB)[p]?).bind id
def codeOf(bs:List Bk):List Rw:=ba (bf 0 bs) (aI 0 bs) 0 (bs.flatMap kI)
theorem TM(b:Bk)(n:Nat)(h:b.Ok n):(kI b).length<=4:=by cases b<;>first | exact h.elim | exact aaw rfl
theorem GH:∀(l:List Bk) (n:Nat),(∀k∈l,k.Ok n)->dZ l<=4 * l.length
 | [],n,_=>aaf _
 | b::l,n,h=>by
  have:=TM b n (h b aaz);have:=GH l n (λk hk=>h k (aaF _ hk));rw[cA,aaT];omega
theorem sL.code{bs:List Bk}{c1 c2:Nat}(h:sL bs c1 c2):GC (codeOf bs) (Jy bs)/\Jy bs 6=some .e/\(∃rest,codeOf bs=zx c1 c2++rest)/\(codeOf bs).length<=100:=by
 obtain⟨mid,gb,hgb,ebs,hm,hok⟩:=h.sh;have hlen:(codeOf bs).length=dZ bs:=pC _ _ _ _
 have acH:dZ bs<=100:=by
  have:=GH mid _ hok;rw[ebs,cA,cA,sI,cA,cA];show 6 + (2 + (dZ mid + (2 + (2 + 0))))<=100;omega
 have okb:∀{pre post:List Bk} {b:Bk},bs=pre++b::post->pre≠[]->b.Ok (mid.length + 2)/\(post=[]->b=.gv gb):=λ{pre post b} e hne=>by
  cases pre with
  | nil=>exact absurd rfl hne
  | cons x pre =>
   rw[ebs]at e;have e2:=(List.cons.inj e).2;have hb:b∈Bk.ovr::(mid++[.ovr,.gv gb]):=by rw[e2];simp
   refine⟨?_,λhp=>?_⟩
   ·rcases aam.mp hb with rfl | hb
    ·trivial
    rcases aaQ.mp hb with hb | hb
    ·exact hok b hb
    ·rcases aam.mp hb with rfl | hb
     ·trivial
     ·rw[bN hb];exact hgb
   ·subst hp;have e2:Bk.ovr::(mid++[.ovr,.gv gb])=pre++[b]:=e2;have:=congrArg List.getLast? e2;rw[show Bk.ovr::(mid++[.ovr,.gv gb])=(Bk.ovr::(mid++[.ovr]))++[.gv gb]by simp,List.getLast?_concat,List.getLast?_concat]at this;exact(Option.some.inj this).symm
 have first:∀{b:Bk} {n:Nat},b.Ok n->(tyB b)[0]?=some (some .e):=λ{b n} hb=>by cases b<;>first | exact hb.elim | rfl
 have atT:∀{pre post:List Bk} {b:Bk} {j:Nat} {s:S4},bs=pre++b::post->(tyB b)[j]?=some (some s)->Jy bs (dZ pre + j)=some s:=λ{pre post b j s} e hj=>by
  unfold Jy;have:=Ls tyB (pre:=pre) (post:=post) hj;rw[A1]at this;rw[e,this];rfl
 have next:∀{pre post:List Bk} {b:Bk},bs=pre++b::post->pre≠[]->b≠.gv gb->Jy bs (dZ pre + (kI b).length)=some .e:=λ{pre post b} e hne hb=>by
  cases post with
  | nil=>exact absurd ((okb e hne).2 rfl) hb
  | cons x post =>
   have e2:bs=(pre++[b])++x::post:=by rw[e];simp
   have:=atT e2 (first (okb e2 (by simp)).1);rw[sI,cA,Co]at this;exact this
 have tgt:∀{t:Nat},t < mid.length + 2->Jy bs ((bf 0 bs)[1 + t]?.getD 0)=some .e:=λ{t} ht=>by
  obtain⟨pre,b,post,e1,e2,e3⟩:=xF bs 0 (1 + t) (by rw[ebs];simp;omega);rw[e3,Nat.zero_add];show Jy bs (dZ pre + 0)=some .e;exact atT e1 (first (okb e1 (by intro z;subst z;simp at e2;omega)).1)
 have dne:aI 0 bs≠[]:=by
  rw[ebs];show []++([7]++aI _ _)≠[];simp
 have drp:∀o:Int,Jy bs ((aI 0 bs)[(o % ((aI 0 bs).length:Int)).toNat]?.getD 0)=some .r:=λo=>by
  have hpos:0 < (aI 0 bs).length:=List.length_pos_iff.mpr dne;have a0:=aa6 o (show((aI 0 bs).length:Int)≠0 by omega);have a1:=aa5 o (show(0:Int) < ((aI 0 bs).length:Int)by omega);have hi:(o % ((aI 0 bs).length:Int)).toNat < (aI 0 bs).length:=by omega
  rw[dh hi];obtain⟨pre,post,e1,e2⟩:=xG bs 0 _ (acL hi);show Jy bs ((aI 0 bs)[(o % ((aI 0 bs).length:Int)).toNat])=some .r;rw[e2,acq];exact atT e1 rfl
 refine⟨⟨by omega,λa s hT=>?_⟩,?_,?_,by omega⟩
 ·unfold Jy at hT
  cases hy:(bs.flatMap tyB)[a]? with
  | none=>rw[hy]at hT;cases hT
  | some y =>
   rw[hy]at hT;have hT:y=some s:=hT;subst hT;obtain⟨pre,b,post,j,e1,e2,e3⟩:=Cp tyB bs a _ hy;rw[A1]at e2
   have hne:pre≠[]:=λz=>by
    subst z;rw[ebs]at e1;have:=(List.cons.inj e1).1;subst this;have hj:=(bU e3).1;have hj:j < 6:=hj;rcases (by omega:j=0∨j=1∨j=2∨j=3∨j=4∨j=5)with rfl | rfl | rfl | rfl | rfl | rfl<;>cases e3
   have hb:=(okb e1 hne).1
   have rowAt:∀{x:Rr},(kI b)[j]?=some x->(codeOf bs)[a]?=some (xH (bf 0 bs) (aI 0 bs) a x):=λ{x} hx=>by
    unfold codeOf;have:=Ls kI (pre:=pre) (post:=post) hx;rw[← e1]at this;rw[xI,e2,show dZ pre=(pre.flatMap kI).length from rfl,this,Nat.zero_add];rfl
   have inn:∀{s':S4},(tyB b)[j + 1]?=some (some s')->Jy bs (a + 1)=some s':=λ{s'} h=>by rw[e2,acy];exact atT e1 h
   have nxt:b≠.gv gb->a + 1=dZ pre + (kI b).length->Jy bs (a + 1)=some .e:=λh1 h2=>by rw[h2];exact next e1 hne h1
   have hj:=(bU e3).1
   cases b with
   | ini x y=>exact hb.elim
   | say x =>
    have hj:j < 2:=hj;rcases (by omega:j=0∨j=1)with rfl | rfl<;>cases e3
    ·exact⟨_,rowAt rfl,.ldn hb (inn rfl)⟩
    ·exact⟨_,rowAt rfl,.say (nxt (by simp) (by rw[e2];rfl))⟩
   | two x w sg =>
    have hj:j < 4:=hj;rcases (by omega:j=0∨j=1∨j=2∨j=3)with rfl | rfl | rfl | rfl<;>cases e3
    ·exact⟨_,rowAt rfl,.ldn hb.1 (inn rfl)⟩
    ·exact⟨_,rowAt rfl,.push hb.2.1 (inn rfl)⟩
    ·exact⟨_,rowAt rfl,.two hb.2.2 (inn rfl)⟩
    ·exact⟨_,rowAt rfl,.store hb.1 (nxt (by simp) (by rw[e2];rfl))⟩
   | zer x t =>
    have hj:j < 2:=hj;rcases (by omega:j=0∨j=1)with rfl | rfl<;>cases e3
    ·exact⟨_,rowAt rfl,.ldn hb.1 (inn rfl)⟩
    ·exact⟨_,rowAt rfl,.zero (tgt hb.2) (nxt (by simp) (by rw[e2];rfl))⟩
   | jmp t =>
    have hj:j < 1:=hj;have hj:j=0:=by omega
    subst hj;cases e3;exact⟨_,rowAt rfl,.jump (tgt hb)⟩
   | gv x =>
    have hj:j < 2:=hj;rcases (by omega:j=0∨j=1)with rfl | rfl<;>cases e3
    ·exact⟨_,rowAt rfl,.ldn hb (inn rfl)⟩
    ·exact⟨_,rowAt rfl,.give⟩
   | ovr =>
    have hj:j < 2:=hj;rcases (by omega:j=0∨j=1)with rfl | rfl<;>cases e3
    ·refine⟨_,rowAt rfl,.jump ?_⟩;rw[e2];exact next e1 hne (by simp)
    ·exact⟨_,rowAt rfl,.drop (nxt (by simp) (by rw[e2];rfl))⟩
   | kn x c o =>
    have hj:j < 3:=hj;rcases (by omega:j=0∨j=1∨j=2)with rfl | rfl | rfl<;>cases e3
    ·exact⟨_,rowAt rfl,.ldr hb.1 (inn rfl)⟩
    ·exact⟨_,rowAt rfl,.kin hb.2 (drp o) (inn rfl)⟩
    ·exact⟨_,rowAt rfl,.drop (nxt (by simp) (by rw[e2];rfl))⟩
 ·have e1:bs=[Bk.ini c1 c2]++Bk.ovr::(mid++[.ovr,.gv gb]):=ebs;exact atT (pre:=[Bk.ini c1 c2]) (j:=0) e1 rfl
 ·refine⟨ba (bf 0 bs) (aI 0 bs) 6 ((Bk.ovr::(mid++[.ovr,.gv gb])).flatMap kI),?_⟩;unfold codeOf;generalize bf 0 bs=ts;generalize aI 0 bs=ds;rw[ebs,List.flatMap_cons,ux];rfl
theorem Lu{K:ax}{bs:List Bk}{c1 c2 e:Nat}(h:sL bs c1 c2)(he:e < 2){a b c bud:Int}(ha:lu a)(hb:lu b)(hc:lu c)(h0:0<=bud)(hbud:bud<=20):∃n o,p8 (codeOf bs) (fq e) n 0 ⟨[],[a,b,c]++[0,0],[]⟩ bud o/\Sh 3 (outD o)/\∀wt,∃m p2,sF K wt m (j3 (fq e) [cy (codeOf bs)] 0 (cy (codeOf bs)) [a,b,c] bud) p2/\p2.said.length<=900000/\zv p2=outD o:=by
 obtain⟨hC,h6,⟨rest,hr⟩,hl⟩:=h.code;obtain⟨o,w1,w2,w3⟩:=WJ (K:=K) (e:=e) hC h.h1 h.h2 he 9000 6 .e [] a b c [] bud h6 rfl ha hb hc h0 (by omega) (by show 0 + 9000<=100000;decide)
 have sf:Sh 2 (EE o.fin):=by
  unfold EE;rcases w2.2 with e | ⟨w,e⟩
  ·rw[e,if_neg (by simp)];exact AF (cM K6 uf)
  ·rw[e,if_neg (by simp)];exact AF (cM K6 (cM Em uf))
 have w2:=w2.1;refine⟨9006,o,Hs hr w1,AF (cM sf (cM (sq (En λ_ _=>Em)) (cM Em uf))),λwt=>?_⟩;obtain⟨m,p2,q1,q2,q3,q4⟩:=w3 wt;refine⟨m + 6,p2,TL hr h.h1 h.h2 he q1,by rw[q3];omega,?_⟩;unfold zv outD cL;rw[q2,q3,q4]
theorem TN(ns:List Int)(k:Nat):∃cs:List Int,cutD (ns.map PyData.int) (some (k:Int)) (some ((k:Int) + 21))=cs.map PyData.int/\cs.length<=21:=by
 unfold cutD;rw[show(k:Int) + 21=((k + 21:Nat):Int)by omega,HT.rP,HT.rP,← List.map_drop,← List.map_take];exact⟨_,rfl,by rw[List.length_take];omega⟩
theorem GI(b:Bk):∃(sg:Str) (ns tl:List PyData),NF b=.tuple (.str sg::ns)::tl/\∀m,aI m [b]=if sg="over" then [m + 1]else []:=by
 cases b with
 | ini c1 c2=>exact⟨"make",_,_,rfl,λm=>by rw[aan (by decide +kernel)];rfl⟩
 | ovr=>exact⟨"over",_,_,rfl,λm=>by rw[aaq rfl];rfl⟩
 | jmp t=>exact⟨"jump",_,_,rfl,λm=>by rw[aan (by decide +kernel)];rfl⟩
 | _=>exact⟨"load",_,_,rfl,λm=>by rw[aan (by decide +kernel)];rfl⟩
theorem Pw(b:Bk):(NF b).length=(kI b).length:=aah ..
def iZ(l:List Nat):List PyData:=l.map λ(n:Nat)=>PyData.int (n:Int)
theorem zy(l:List Nat)(x:Nat):iZ l++[.int (x:Int)]=iZ (l++[x]):=by unfold iZ;rw[List.map_append];rfl
theorem uy(l:List Nat):(iZ l).length=l.length:=aah ..
theorem xJ:∀(l:List Bk) (m:Nat),(aI m l).length<=l.length
 | [],m=>aaf _
 | x::l,m=>by
  obtain⟨sg,ns,tl,_,e⟩:=GI x;have h:=xJ l (m + (kI x).length);have e2:aI m (x::l)=aI m [x]++aI (m + (kI x).length) l:=by cases x<;>rfl
  rw[e2,e,aaG,aaT];split
  ·rw[List.length_singleton];omega
  ·rw[List.length_nil];omega
def Zx(n:Nat):Rr->Prop
 | .pl r=>kG r∉(["jump","zero"]:List Str)/\¬ kG r="over"/\¬ kG r="kin"/\PyData.canLay0 (.str (kG r))=true
 | .jmp t=>1 + t < n
 | .zer t=>1 + t < n
 | .ovr=>True
 | .kn _ _=>True
theorem sL.raw{bs:List Bk}{c1 c2:Nat}(h:sL bs c1 c2):(∀b∈bs,∀x∈kI b,Zx bs.length x)/\aI 0 bs≠[]:=by
 obtain⟨mid,gb,hgb,ebs,hm,hok⟩:=h.sh;have hn:bs.length=mid.length + 4:=by rw[ebs];simp
 refine⟨λb hb x hx=>?_,by rw[ebs];show []++([7]++aI _ _)≠[];simp⟩;have sm:∀s:Str,s∈(["make","begin","store","load","say","push","give","drop","add","sub","mul"]:List Str)->s∉(["jump","zero"]:List Str)/\¬ s="over"/\¬ s="kin"/\PyData.canLay0 (.str s)=true:=by decide +kernel
 have hc:b.Ok (mid.length + 2)∨b=.ini c1 c2:=by
  rw[ebs]at hb;rcases aam.mp hb with rfl | hb
  ·exact .inr rfl
  rcases aam.mp hb with rfl | hb
  ·exact .inl trivial
  rcases aaQ.mp hb with hb | hb
  ·exact .inl (hok b hb)
  ·rcases aam.mp hb with rfl | hb
   ·exact .inl trivial
   ·rw[bN hb];exact .inl hgb
 rcases hc with hc | rfl
 ·cases b with
  | ini a b=>exact hc.elim
  | say a =>
   rcases aam.mp hx with rfl | hx
   ·exact sm "load" (by decide +kernel)
   ·rw[bN hx];exact sm "say" (by decide +kernel)
  | two a w sg =>
   rcases aam.mp hx with rfl | hx
   ·exact sm "load" (by decide +kernel)
   rcases aam.mp hx with rfl | hx
   ·exact sm "push" (by decide +kernel)
   rcases aam.mp hx with rfl | hx
   ·refine sm sg ?_;have:=hc.2.2;simp only[List.mem_cons]at this ⊢;rcases this with z | z | z | z<;>simp[z]
   ·rw[bN hx];exact sm "store" (by decide +kernel)
  | zer a t =>
   rcases aam.mp hx with rfl | hx
   ·exact sm "load" (by decide +kernel)
   ·rw[bN hx];have:=hc.2;show 1 + t < bs.length;omega
  | jmp t =>
   rw[bN hx];have:t < mid.length + 2:=hc;show 1 + t < bs.length;omega
  | gv a =>
   rcases aam.mp hx with rfl | hx
   ·exact sm "load" (by decide +kernel)
   ·rw[bN hx];exact sm "give" (by decide +kernel)
  | ovr =>
   rcases aam.mp hx with rfl | hx
   ·trivial
   ·rw[bN hx];exact sm "drop" (by decide +kernel)
  | kn a c o =>
   rcases aam.mp hx with rfl | hx
   ·exact sm "load" (by decide +kernel)
   rcases aam.mp hx with rfl | hx
   ·trivial
   ·rw[bN hx];exact sm "drop" (by decide +kernel)
 ·simp only[kI,List.mem_cons,List.not_mem_nil,or_false]at hx;rcases hx with rfl | rfl | rfl | rfl | rfl | rfl
  ·exact sm "make" (by decide +kernel)
  ·exact sm "begin" (by decide +kernel)
  ·exact sm "store" (by decide +kernel)
  ·exact sm "make" (by decide +kernel)
  ·exact sm "begin" (by decide +kernel)
  ·exact sm "store" (by decide +kernel)
theorem fJ{α:Type}{l:List α}{i:Nat}{x:α}(h:l[i]?=some x):l.take (i + 1)=l.take i++[x]:=by rw[List.take_add_one,h];rfl
theorem Ht(bs:List Bk)(i:Nat):dZ (bs.take i)<=dZ bs:=by
 have:=sI (bs.take i) (bs.drop i);rw[aaW]at this;omega
theorem Px(b:Bk):(kI b).length<=6:=by cases b<;>exact aaw rfl
theorem Hu(l:List Int)(x:Int):pF (cL (l++[x])) (-1)=some (.int x):=by
 rw[fI];exact J2 _ _
theorem Cq(ns:List Int)(lo hi:Option Int):∃ms:List Int,cutD (ns.map PyData.int) lo hi=ms.map PyData.int/\ms.length<=ns.length:=by
 unfold cutD;rw[← List.map_drop,← List.map_take];exact⟨_,rfl,by rw[List.length_take,List.length_drop];omega⟩
theorem GJ{bs:List Bk}{c1 c2:Nat}(h:sL bs c1 c2):∀r∈codeOf bs,r.Sg:=λr hr=>by
 obtain⟨i,hi⟩:=List.getElem?_of_mem hr;unfold codeOf at hi;rw[xI]at hi
 cases hx:(bs.flatMap kI)[i]? with
 | none=>rw[hx]at hi;cases hi
 | some x =>
  rw[hx]at hi;cases hi;obtain⟨b,hb,hxb⟩:=aa9.mp (aat hx);have:=h.raw.1 b hb x hxb
  cases x with
  | pl r=>exact this.2.2.2
  | jmp t=>exact(by decide +kernel:PyData.canLay0 (.str "jump")=true)
  | zer t=>exact(by decide +kernel:PyData.canLay0 (.str "zero")=true)
  | ovr=>exact(by decide +kernel:PyData.canLay0 (.str "jump")=true)
  | kn c o=>exact(by decide +kernel:PyData.canLay0 (.str "kin")=true)
theorem GK{bs:List Bk}{c1 c2 e:Nat}(h:sL bs c1 c2):Sh 5 (Dy (fq e) [cy (codeOf bs)]) :=
 AF (cM (sq (En λm _=>⟨(Lg m).1,(Lg m).2⟩)) (cM (sq (En λp hp=>by
  rw[bN hp];exact⟨(Lf _ (GJ h)).1,(Lf _ (GJ h)).2⟩)) uf))
def Lw:Nat->List PyData->Ce
 | 0,l=>.live l
 | _ + 1,l=>.froz l
def qM:As:=λds Q=>∃(rows:List Rw) (e:Nat),ds=[.list (rows.map jm),.list ((fq e).map λm=>AN m.1)]/\rows.length<=1000/\Q (Dy (fq e) [cy rows])
def jL(K:ax):Sp:=OX K qM
theorem jM:se qM:=by
 rintro ds Q Q' f ⟨rows,e,z2,hl,q⟩;exact⟨rows,e,z2,hl,by intros;apply f;apply q<;>assumption⟩
theorem jN{K:ax}:Ei K (jL K) qM:=uW
theorem Zy(ns:List Int):km (ns.map V.int) none (some 8)=(ns.take 8).map V.int:=by
 unfold km;rw[HT.xc,show(some (8:Int))=some ((8:Nat):Int)from rfl,HT.rP,List.drop_zero,List.length_map,Nat.sub_zero,← List.map_take];exact congrArg (List.map V.int) (List.take_eq_take_iff.mpr (by omega))
def iA(K:ax):Sp:=λvs H Q _=>∃(a:Addr) (ns:List Int) (k:Int),vs=[.ref a,.int k]/\bt K H a (ns.map V.int)/\0<=k/\k<=1000/\∀(v:Int) (H':Hp),aF H H'->Q (.int v) H'
def xK:As:=λds Q=>∃(ns:List Int) (k:Int),ds=[.list (ns.map PyData.int),.int k]/\0<=k/\k<=1000/\∀v:Int,Q (.int v)
theorem bR:se xK:=by
 rintro ds Q Q' f ⟨ns,k,e,h0,h1,q⟩;exact⟨ns,k,e,h0,h1,λv=>f _ (q v)⟩
theorem bS{K:ax}:Ei K (iA K) xK:=by
 rintro vs H Q P ds hP hv ⟨ns,k,rfl,h0,h1,q⟩;obtain⟨v,u,rfl,r1,r2⟩:=Y9 hv;obtain⟨a,ys,rfl,g1,_,g2⟩:=aS.eE r1;rw[wL g2]at g1;rw[aS.aW r2];exact⟨a,ns,k,rfl,g1,h0,h1,λv H' s=>q v _ H' s (.int _)⟩
def iB(_K:ax):Sp:=λvs H Q _=>∃c:Int,vs=[.int c]/\∀(n:Int) (H':Hp),aF H H'->lu n->Q (.int n) H'
def xM:As:=λds Q=>∃(c:Int),ds=[.int c]/\∀n:Int,lu n->Q (.int n)
theorem vb:se xM:=by
 rintro ds Q Q' f ⟨c,e,q⟩;exact⟨c,e,λn h=>f _ (q n h)⟩
theorem vc{K:ax}:Ei K (iB K) xM:=by
 rintro vs H Q P ds hP hv ⟨c,rfl,q⟩;obtain⟨v,rfl⟩:=XY hv.1;rw[aS.aW (hv.2 0 v _ rfl rfl)];exact⟨c,rfl,λn H' s hn=>q n hn _ H' s (.int _)⟩
def mV:As:=λds Q=>∃(c o:Int) (n:Nat),ds=[.int c,.int o,.int (n:Int)]/\0 < n/\n<=100/\∀k:Bk,k.Ok n->Q (.list (NF k))
def i4(K:ax):Sp:=OX K mV
theorem A2:se mV:=by
 rintro ds Q Q' f ⟨c,o,n,z3,h0,h1,q⟩;exact⟨c,o,n,z3,h0,h1,by intros;apply f;apply q<;>assumption⟩
theorem A3{K:ax}:Ei K (i4 K) mV:=uW
def lA:As:=λds Q=>∃(ns:List Int) (k:Nat),ds=[.list (ns.map PyData.int),.int (k:Int)]/\k<=900/\∀bs c1 c2,sL bs c1 c2->Q (.list (bs.map λb=>.list (NF b)))
def ik(K:ax):Sp:=OX K lA
theorem yL:se lA:=by
 rintro ds Q Q' f ⟨ns,k,z2,hk,q⟩;exact⟨ns,k,z2,hk,by intros;apply f;apply q<;>assumption⟩
theorem yM{K:ax}:Ei K (ik K) lA:=uW
def qN:As:=λds Q=>∃(ns:List Int) (k:Nat),ds=[.list (ns.map PyData.int),.int (k:Int)]/\k<=900/\∀bs c1 c2,sL bs c1 c2->Q (.list ((codeOf bs).map jm))
def jO(K:ax):Sp:=OX K qN
theorem vd:se qN:=by
 rintro ds Q Q' f ⟨ns,k,z2,hk,q⟩;exact⟨ns,k,z2,hk,by intros;apply f;apply q<;>assumption⟩
theorem ve{K:ax}:Ei K (jO K) qN:=uW
def j4:As:=λds Q=>∃(n:Int),ds=[.int n]/\Q (.int (jn n))
def gf(K:ax):Sp:=OX K j4
theorem jr:se j4:=by
 rintro ds Q Q' f ⟨n,z1,q⟩;exact⟨n,z1,by intros;apply f;apply q<;>assumption⟩
theorem jt{K:ax}:Ei K (gf K) j4:=uW
def uz:As:=λds Q=>∃(sg:Str) (x y:Int),ds=[.str sg,.int x,.int y]/\sg∈(["add","sub","mul"]:List Str)/\(-2147483648<=x/\x<=2147483647)/\(-2147483648<=y/\y<=2147483647)/\Q (.int (we sg x y))
def lB(K:ax):Sp:=OX K uz
theorem EJ:se uz:=by
 rintro ds Q Q' f ⟨sg,x,y,z3,hm,hx,hy,q⟩;exact⟨sg,x,y,z3,hm,hx,hy,by intros;apply f;apply q<;>assumption⟩
theorem EK{K:ax}:Ei K (lB K) uz:=uW
def qP:RU:=λxs st Q=>∃(r:Rw) (s s':WS),xs=[.dat (jm r),.ref 0,.ref 1,.ref 2]/\st=s.cells/\cn r s s'/\s.sk.length<=1000/\s.sd.length<=100000/\Q .none s'.cells
def jP(K:ax):Sp:=spC K qP
theorem Cr:K7 qP:=by
 rintro xs st Q Q' f ⟨r,s,s',z3,z4,hd,h1,h2,q⟩;exact⟨r,s,s',z3,z4,hd,h1,h2,by intros;apply f;apply q<;>assumption⟩
theorem Cs{K:ax}:O9 K (jP K) qP:=Tp
def mW:As:=λds Q=>∃(ms:cV) (c d:Nat),ds=[.list (ms.map λm=>AN m.1),.int (c:Int),.int (d:Int)]/\Wf ms/\c < ms.length/\Q (.bool (decide (d∈bc ms c)))
def i5(K:ax):Sp:=OX K mW
theorem A4:se mW:=by
 rintro ds Q Q' f ⟨ms,c,d,z3,hw,hc,q⟩;exact⟨ms,c,d,z3,hw,hc,by intros;apply f;apply q<;>assumption⟩
theorem A5{K:ax}:Ei K (i5 K) mW:=uW
def lC:As:=λds Q=>∃(rows:List Rw) (ms:cV) (ws:List Int) (bud:Int) (n:Nat) (o:Out),ds=[.list (rows.map jm),.list (ms.map λm=>AN m.1),.list (cL ws),.int bud]/\Wf ms/\ws.length<=100/\p8 rows ms n 0 ⟨[],ws++[0,0],[]⟩ bud o/\Q (outD o)
def ip(K:ax):Sp:=OX K lC
theorem yN:se lC:=by
 rintro ds Q Q' f ⟨rows,ms,ws,bud,n,o,z6,hw,hws,hW,q⟩;exact⟨rows,ms,ws,bud,n,o,z6,hw,hws,hW,by intros;apply f;apply q<;>assumption⟩
theorem yO{K:ax}:Ei K (ip K) lC:=uW
def i6(K:ax)(wt:Bool):Sp:=λvs H Q _=>∃(x v:V) (y:Vl),vs=[x,v]/\yI K H wt v y/\y≠.none/\Q (.int (iy y)) H
def lD(K:ax)(ab:Addr)(C:Addr)(wt:Bool):Sp:=λvs H Q _=>∃(mm:Mc) (fs:List Fm) (f:Fm) (st:List Vl) (x:Vl),vs=[.ref mm.ma,.ref f.fa]/\bQ K H ab C wt mm/\mm.bT=fs++[f]/\f.st=st++[x]/\(fs=[]->x≠.none)/\(∀g∈fs,g.st.length<=1000)/\mm.bT.length<=12 /\
 After K ab C wt H mm (Gz mm.pm (fs.map Fm.pf) x) (Q .non)
def sM(K:ax)(ab:Addr)(C:Addr)(wt:Bool):Sp:=λvs H Q _=>∃(mm:Mc),vs=[.ref mm.ma]/\bQ K H ab C wt mm /\
 (0 < mm.left->∀H',bQ K H' ab C wt {mm with left:=mm.left - 1}->aC [mm.ma] H H'->Q (.bl true) H')/\(mm.left<=0->∀H',bQ K H' ab C wt {mm with fin:=[.inl "weary"]}->aC [mm.ma] H H'->Q (.bl false) H')
def sO(K:ax)(ab:Addr)(C:Addr)(wt:Bool):Sp:=λvs H Q _=>∃(mm:Mc) (fs:List Fm) (f:Fm) (t:Nat),vs=[.ref mm.ma,.ref f.fa,.int (t:Int)]/\bQ K H ab C wt mm/\mm.bT=fs++[f] /\
 After K ab C wt H mm (ND mm.pm (fs.map Fm.pf) f.pf t) (Q .non)
def i7(K:ax):Sp:=λvs H Q _=>∃(a:Addr) (ms:cV) (c:Nat),vs=[.ref a,.int c]/\ey K H a ms/\Wf ms/\c < ms.length/\∀(r:Addr) (H':Hp),aF H H'->H r=none->H' r=some (.lst (mn (bc ms c)))->Q (.ref r) H'
def jQ(K:ax):Sp:=λvs H Q _=>∃(a:Addr) (ms:cV) (c o:Nat),vs=[.ref a,.int c,.int o]/\ey K H a ms/\Wf ms/\c < ms.length/\∀(H':Hp),aF H H'->Q (.bl (decide (o∈bc ms c))) H'
def wQ(K:ax)(ab:Addr)(C:Addr)(wt:Bool):Sp:=λvs H Q _=>∃(mm:Mc) (fs:List Fm) (f:Fm) (g:PF) (r:Rw) (rt:Addr) (t:Nat) (b:Bool),vs=[.ref mm.ma,.ref f.sl,.ref rt]/\bQ K H ab C wt mm/\mm.bT=fs++[f]/\bu K H rt (Le r)/\Wf mm.ms/\p7 mm.ms mm.recs r f.pf g t b /\
 ∀(f':Fm) (H':Hp),f'.pf=g->f'.fa=f.fa->f'.bl=f.bl->f'.sl=f.sl->bQ K H' ab C wt {mm with bT:=fs++[f']}->aC (gC f) H H'->Q (.bl b) H'
def jR(K:ax)(ab:Addr)(C:Addr)(wt:Bool):Sp:=λvs H Q _=>∃(mm:Mc) (fs:List Fm) (f:Fm) (g:PF) (r:Rw) (rt:Addr) (t:Nat) (b:Bool),vs=[.ref mm.ma,.ref f.fa,.ref rt]/\bQ K H ab C wt mm/\mm.bT=fs++[f]/\bu K H rt (Le r)/\Wf mm.ms/\p7 mm.ms mm.recs r f.pf g t b /\
 After K ab C wt H mm (Gy mm.pm (fs.map Fm.pf) g t b) (Q .non)
def iD(K:ax)(wt:Bool):Sp:=λvs H Q _=>∃(x v:V) (r:Rk),vs=[x,v]/\ED K H wt v r/\∀(v':V) (H':Hp),aF H H'->ED K H' wt v' {r with begun:=true}->Q v' H'
def eh(K:ax):Sp:=λvs H Q _=>∃(a:Addr) (ms:cV) (c:Nat),vs=[.ref a,.int c]/\ey K H a ms/\Wf ms/\Jv ms/\c < ms.length /\
 ∀(r:Addr) (ks:List V) (H':Hp),aF H H'->H r=none->H' r=some (.lst ks)->aL K H ks (eO (fields ms c))->Q (.ref r) H'
def eQ(K:ax)(ab:Addr)(C:Addr)(wt:Bool):Sp:=λvs H Q _=>∃(mm:Mc) (c:Nat),vs=[.ref mm.ma,.int (c:Int)]/\bQ K H ab C wt mm/\Wf mm.ms/\Jv mm.ms/\c < mm.ms.length /\
 ∀(v:V) (H':Hp),aF H H'->ED K H' wt v ⟨c,false,0,List.replicate (fields mm.ms c).length .none⟩->Q v H'
def Zz:Vl->Str
 | .rcd _=>"record"
 | _=>"number"
def fK(K:ax)(wt:Bool):Sp:=λvs H Q _=>∃(x:V) (y:Vl),y≠.none/\vs=[x,.str (Zz y),.int (iy y)]/\∀v H',aF H H'->yI K H' wt v y->Q v H'
theorem Hv{xs:List V}{i:Nat}{v:V}(h:i < xs.length):xs.take i++[v]++xs.drop (i + 1)=xs.set i v:=by
 rw[List.set_eq_take_append_cons_drop,aaq h,abC];rfl
theorem Lx{xs:List V}{n:Nat}:km xs none (some (n:Int))=xs.take n:=Tu
def jS(K:ax):Sp:=λvs H Q _=>∃(t:Addr) (xs:List V) (i:Nat) (v:V),vs=[.ref t,.int (i:Int),v]/\bu K H t xs/\i < xs.length/\xs.length<=100/\∀(r:Addr) (H':Hp),aF H H'->bu K H' r (xs.set i v)->Q (.ref r) H'
def eR(K:ax)(wt:Bool):Sp:=λvs H Q _=>∃(x v u:V) (r:Rk) (f:Nat) (y:Vl),vs=[x,v,.int (f:Int),u]/\ED K H wt v r/\yI K H wt u y/\f < r.fs.length/\r.fs.length<=100/\∀(v':V) (H':Hp),aF H H'->ED K H' wt v' {r with mask:=r.mask ||| 2 ^ f,fs:=r.fs.set f y}->Q v' H'
def en(K:ax)(ab:Addr)(C:Addr)(wt:Bool):Sp:=λvs H Q _=>∃(mm:Mc) (fs:List Fm) (f:Fm) (g:PF) (r:Rw) (rt:Addr) (rs:List Rk),vs=[.ref mm.ma,.ref f.sl,.ref rt]/\bQ K H ab C wt mm/\mm.bT=fs++[f]/\bu K H rt (Le r)/\Wf mm.ms/\Jv mm.ms/\Lp mm.ms r f.pf mm.recs g rs/\f.st.length<=1000/\mm.recs.length<=900000 /\
 ∀(f':Fm) (H':Hp),f'.pf=g->f'.fa=f.fa->f'.bl=f.bl->f'.sl=f.sl->bQ K H' ab C wt {mm with bT:=fs++[f'],recs:=rs}->aC (foot mm) H H'->Q .non H'
def lE(_K:ax):Sp:=λvs H Q _=>∃n:Int,vs=[.int n]/\Q (.int (jn n)) H
def qQ(_K:ax):Sp:=λvs H Q _=>∃(sign:Str) (a b:Int),vs=[.str sign,.int a,.int b]/\parts sign/\lu a/\lu b/\b≠0/\Q (.int (rk sign a b)) H
def mX(_K:ax):Sp:=λvs H Q _=>∃(sign:Str) (a b:Int),vs=[.str sign,.int a,.int b]/\(sign="add"∨sign="sub"∨sign="mul"∨sign="less"∨sign="same"∨parts sign)/\lu a/\lu b/\(parts sign->b≠0)/\Q (.int (rk sign a b)) H
theorem Py{α:Type}{xs:List α}{i:Nat}(h:i < xs.length):(xs.take (xs.length - i))[(xs.take (xs.length - i)).length - 1]?=some (xs[xs.length - i - 1]'(by omega)):=by
 rw[aaC,show min (xs.length - i) xs.length - 1=xs.length - i - 1 by omega,abk (by omega)];exact dh (by omega)
theorem Pz{α:Type}{xs:List α}{i:Nat}(h:i < xs.length):(xs.take (xs.length - i)).dropLast=xs.take (xs.length - (i + 1)):=by
 rw[acn,List.take_take,aaC]
 congr 1
 omega
theorem TQ{α:Type}{xs:List α}{i:Nat}(h:i < xs.length):(xs.drop (xs.length - i)).reverse++[xs[xs.length - i - 1]'(by omega)]=(xs.drop (xs.length - (i + 1))).reverse:=by
 have e:xs.drop (xs.length - (i + 1))=xs[xs.length - i - 1]'(by omega)::xs.drop (xs.length - i):=by
  rw[show xs.length - (i + 1)=xs.length - i - 1 by omega,List.drop_eq_getElem_cons (by omega)]
  congr 2
  omega
 rw[e,acz]
def sP(K:ax):Sp:=λvs H Q _=>∃(sl:Addr) (xs:List V) (n:Nat),vs=[.ref sl,.int (n:Int)]/\H sl=some (.lst xs)/\n<=xs.length/\n<=100 /\
 ∀(l:Addr) (H':Hp),H l=none->H' l=some (.lst (xs.drop (xs.length - n)))->H' sl=some (.lst (xs.take (xs.length - n)))->(∀c o,c≠sl->H c=some o->H' c=some o)->Q (.ref l) H'
def eX(K:ax)(ab:Addr)(C:Addr)(wt:Bool):Sp:=λvs H Q _=>∃(mm:Mc) (fs:List Fm) (f:Fm) (s:Str) (st:List Vl) (a b:Int),vs=[.ref mm.ma,.ref f.fa,.str s]/\bQ K H ab C wt mm/\mm.bT=fs++[f]/\f.st=st++[.num a,.num b]/\(s="add"∨s="sub"∨s="mul"∨s="less"∨s="same"∨parts s)/\lu a/\lu b/\(parts s->b≠0)/\f.st.length<=1000 /\
 ∀(H':Hp),bQ K H' ab C wt {mm with bT:=fs++[{f with st:=st++[.num (rk s a b)],at':=f.at' + 1}]}->aC (foot mm) H H'->Q .non H'
def gh(K:ax)(ab:Addr)(C:Addr)(wt:Bool):Sp:=λvs H Q _=>∃(mm:Mc) (fs:List Fm) (f:Fm) (g:PF) (r:Rw) (rt:Addr) (sd:List Int),vs=[.ref mm.ma,.ref f.fa,.ref rt]/\bQ K H ab C wt mm/\mm.bT=fs++[f]/\bu K H rt (Le r)/\Jx r f.pf mm.said g sd/\f.st.length<=1000/\mm.said.length<=900000 /\
 ∀(f':Fm) (H':Hp),f'.pf=g->f'.fa=f.fa->f'.bl=f.bl->f'.sl=f.sl->bQ K H' ab C wt {mm with bT:=fs++[f'],said:=sd}->aC (foot mm) H H'->Q .non H'
def pD(K:ax)(ab:Addr)(C:Addr)(wt:Bool):Sp:=λvs H Q _=>∃(mm:Mc) (fs:List Fm) (f:Fm) (r:Rw) (rt:Addr) (p':PM),vs=[.ref mm.ma,.ref f.fa,.ref rt]/\bQ K H ab C wt mm/\mm.bT=fs++[f]/\bu K H rt (Le r)/\GA mm.pm/\uv mm.pm (fs.map Fm.pf) f.pf r p' /\
 After K ab C wt H mm p' (Q .non)
def ky(K:ax)(ab:Addr)(C:Addr)(wt:Bool):Sp:=λvs H Q _=>∃(mm:Mc) (fs:List Fm) (f:Fm) (r:Rw) (rt:Addr) (p:Pt) (ks:List Kd),vs=[.ref mm.ma,.ref f.fa,.ref rt]/\bQ K H ab C wt mm/\mm.bT=fs++[f]/\bu K H rt (Le r)/\mm.ps[f.part]?=some p/\Wf mm.ms/\f.st.length<=1000/\ks.length<=1000/\(∀r∈mm.recs,r.c < mm.ms.length)/\(∀n,.rcd n∈f.st->n < mm.recs.length)/\RX K mm.ms mm.ps f.part r ks /\
 ∀(H':Hp),aF H H'->Q (WG (if wt=true then eA mm.ms mm.recs p.height f.st ks (kG r)else none)) H'
def lF(K:ax):Sp:=λvs H Q _=>∃(a:Addr) (ms:cV) (c:Nat),vs=[.ref a,.int c]/\ey K H a ms/\Wf ms/\Jv ms/\c < ms.length /\
 ∀(H':Hp),aF H H'->Q (.int (2 ^ (fields ms c).length - 1)) H'
def eH(K:ax):Sp:=λvs H Q _=>∃(mk rw:Addr) (ms:cV) (sign:Str) (xs:List V) (ks:List Kd),vs=[.ref mk,.ref rw]/\ey K H mk ms/\Wf ms/\Jv ms/\bu K H rw (.str sign::xs)/\Ez ms sign xs ks /\
 ∀(r:Addr) (ys:List V) (H':Hp),aF H H'->H r=none->H' r=some (.lst ys)->aL K H' ys (eO ks)->Q (.ref r) H'
theorem PB:fO bw "call"=none:=by decide +kernel
theorem PC:fO bw "give"=none:=by decide +kernel
theorem TR{ms:cV}{sign:Str}{xs:List V}{ks:List Kd}(h:Ez ms sign xs ks):fO bw sign=none/\¬ (V.str sign=V.str "call")/\¬ (V.str sign=V.str "give"):=by
 cases h<;>exact⟨by decide +kernel,by decide +kernel,by decide +kernel⟩
def xN(K:ax):Sp:=λvs H Q _=>∃(b mk pl rw:Addr) (part:Nat) (sign:Str) (xs:List V) (ks:List Kd),vs=[.ref b,.int part,.ref rw]/\bu K H b [.ref mk,.ref pl]/\bu K H rw (.str sign::xs)/\xB K H mk pl part sign xs ks /\
 ∀(r:Addr) (ys:List V) (H':Hp),aF H H'->H r=none->H' r=some (.lst ys)->aL K H' ys (eO ks)->Q (.ref r) H'
def fv(K:ax):Sp:=λvs H Q _=>∃(a:Addr) (ms:cV) (v:V) (t:Addr) (r:Rk) (k:Kd),vs=[.ref a,v,.ref t]/\ey K H a ms/\Wf ms/\ED K H true v r/\r.c < ms.length/\bu K H t (RV k)/\k≠.any/\k≠.num/\∀(H':Hp),aF H H'->Q (.bl (Pe ms r k)) H'
def mY(K:ax):Sp:=λvs H Q _=>∃(a:Addr) (ms:cV) (hp:Addr) (rs:List V) (rcs:List Rk) (v:V) (x:Vl) (t:Addr) (k:Kd),vs=[.ref a,.ref hp,v,.ref t]/\ey K H a ms/\Wf ms/\bt K H hp rs/\Cf (ED K H true) rs rcs/\(∀r∈rcs,r.c < ms.length)/\aZ K H v (NA x)/\(∀n,x=.rcd n->n < rcs.length)/\bu K H t (RV k) /\
 ∀(H':Hp),aF H H'->Q (.bl (hasB ms rcs x k)) H'
def uA(K:ax):Sp:=λvs H Q _=>∃(rw:Addr) (sign:Str) (xs:List V),vs=[.ref rw]/\bu K H rw (.str sign::xs)/\Q (.int (cc sign)) H
def wR(K:ax)(ab:Addr)(C:Addr)(wt:Bool):Sp:=λvs H Q _=>∃(mm:Mc) (p':PM),vs=[.ref mm.ma]/\bQ K H ab C wt mm/\sE K wt mm.pm p' /\
 After K ab C wt H mm p' (Q .non)
def wU(K:ax)(ab:Addr)(C:Addr)(wt:Bool):Sp:=λvs H Q _=>∃(mm:Mc),vs=[.ref mm.ma]/\bQ K H ab C wt mm/\mm.said.length<=900000 /\
 ∀(t l:Addr) (ev:V) (H':Hp),aF H H'->H l=none->H' l=some (.lst (mm.said.map V.int))->bu K H' t [ev,.ref l,.int mm.left]->jI K H' ev mm.fin->Q (.ref t) H'
def iE(K:ax)(ab:Addr)(C:Addr)(wt:Bool):Sp:=λvs H Q _=>∃(mm:Mc) (n:Nat) (p2:PM),vs=[.ref mm.ma]/\bQ K H ab C wt mm/\sF K wt n mm.pm p2/\p2.said.length<=900000 /\
 ∀(t l:Addr) (ev:V) (H':Hp),aC (foot mm) H H'->(l∉foot mm->H l=none)->bu K H' t [ev,.ref l,.int p2.left]->H' l=some (.lst (p2.said.map V.int))->jI K H' ev p2.fin->Q (.ref t) H'
def lG:Kd->Bool
 | .num=>true
 | _=>false
theorem Ly(k:Kd):PyData.eqv (.tuple (xx k)) (.tuple [.str "number"])=lG k:=by
 cases k with
 | any=>decide +kernel
 | num=>decide +kernel
 | whole c=>rfl
 | raw c m=>rfl
def qR(K:ax):Sp:=λvs H Q _=>∃(tl:Addr) (g:V) (ys:List V) (ks:List Kd) (gk:Kd),vs=[.ref tl,g]/\bt K H tl ys/\aL K H ys (eO ks)/\aZ K H g (.tuple (xx gk))/\ks.length<=100 /\
 ∀(H':Hp),aF H H'->Q (.bl ((ks++[gk]).all lG)) H'
def j5(K:ax):Sp:=λvs H Q _=>∃(pl il:Addr) (xs zs:List V) (ps:List Pt) (j:Nat) (p:Pt),vs=[.ref pl,.int (j:Int),.ref il]/\bt K H pl xs/\aL K H xs (ps.map Cc)/\ps[j]?=some p/\(p.takes++[p.gives]).all lG=true/\p.takes.length<=100/\bt K H il zs/\zs.length=p.takes.length /\
 ∀(H':Hp),aF H H'->Q .non H'
def Hw(D:List Addr)(H H' HX:Hp):Prop:=∀c o,c∉D->H' c=some o->(∀z,H c=some z->¬ AV z)->HX c=some o
theorem bu.zA{K:ax}{H HX:Hp}{t:Addr}{xs:List V}(e:∀c o,H c=some o->¬ AV o->HX c=some o)(h:bu K H t xs):bu K HX t xs:=by
 rcases h with(h | ⟨u,h⟩) | h
 ·exact .inl (.inl (e _ _ h (by rintro(⟨xs,z⟩ | ⟨C,dx,fs,z⟩)<;>cases z)))
 ·exact .inl (.inr ⟨u,e _ _ h (by rintro(⟨xs,z⟩ | ⟨C,dx,fs,z⟩)<;>cases z)⟩)
 ·exact .inr h
theorem aL.zA{K:ax}{H HX:Hp}{α:Type}{f:α->PyData}{g:α->List V}{xs:List V}{ks:List α}(inv:∀v k,aZ K H v (f k)->∃t:Addr,v=.ref t/\bu K H t (g k))(mk:∀(t:Addr) k,bu K HX t (g k)->aZ K HX (.ref t) (f k))(e:∀c o,H c=some o->¬ AV o->HX c=some o)(h:aL K H xs (ks.map f)):aL K HX xs (ks.map f):=by
 refine aL.of (by rw[h.1,aah]) λj k hk=>?_
 obtain⟨v,hv,hr⟩:=aL.at h (i:=j) (d:=f k) (by rw[aar,hk];rfl);obtain⟨t,rfl,ht⟩:=inv v k hr;exact⟨_,hv,mk t k (bu.zA e ht)⟩
theorem TU{K:ax}{H:Hp}(v:V)(s:Nat×Nat×Nat)(h:aZ K H v (Pc s)):∃t:Addr,v=.ref t/\bu K H t (Zn s):=by
 obtain⟨t,xs,rfl,hT,hR⟩:=aZ.cJ h;have hl:=hR.1;obtain⟨x0,x1,x2,rfl⟩:=Zm hl;have z0:=aZ.aW (hR.2 0 x0 _ rfl rfl);have z1:=aZ.aW (hR.2 1 x1 _ rfl rfl);have z2:=aZ.aW (hR.2 2 x2 _ rfl rfl);subst z0;subst z1;subst z2;exact⟨t,rfl,hT⟩
theorem zB{K:ax}{H HX:Hp}{xs:List V}{ks:List Kd}(e:∀c o,H c=some o->¬ AV o->HX c=some o)(h:aL K H xs (eO ks)):aL K HX xs (eO ks) :=
 aL.zA (g:=RV) (λ_ _ z=>EI z) (λ_ _ z=>zu z) e h
theorem Hx{K:ax}{H HX:Hp}{xs:List V}{ks:List Rw}(e:∀c o,H c=some o->¬ AV o->HX c=some o)(h:aL K H xs (ks.map jm)):aL K HX xs (ks.map jm) :=
 aL.zA (g:=Le) (λ_ _ z=>rw_inv z) (λ_ _ z=>WA z) e h
theorem Hy{K:ax}{H HX:Hp}{xs:List V}{ks:List (Nat×Nat×Nat)}(e:∀c o,H c=some o->¬ AV o->HX c=some o)(h:aL K H xs (ks.map Pc)):aL K HX xs (ks.map Pc) :=
 aL.zA (g:=Zn) TU (λ_ _ z=>WB z) e h
theorem Hw.sub{D G:List Addr}{H H1 H2 HX:Hp}(k:Hw D H H2 HX)(s:∀c o,c∉G->H1 c=some o->H2 c=some o)(g:∀c∈D,c∈G∨H1 c=none):Hw G H H1 HX:=λc o n e m =>
 k c o (λz=>(g c z).elim n (λy=>by rw[y]at e;cases e)) (s c o n e) m
def uB(K:ax):Sp:=λvs H Q _=>∃(b:Addr) (ms:cV) (ps:List Pt),vs=[.ref b]/\aZ K H (.ref b) (Dy ms ps)/\ms.length<=8/\ps.length<=8 /\
 ∀(r:Addr) (H':Hp),aF H H'->(∃(mk pl:Addr) (xs:List V),∀HX,Hw [] H H' HX->bu K HX r [.ref mk,.ref pl]/\ey K HX mk ms/\bt K HX pl xs/\aL K HX xs (ps.map Cc))->Q (.ref r) H'
def j6(_K:ax)(C:Addr):Sp:=λvs H Q _=>∃(x dx bl:Addr) (p:Int),vs=[.ref x,.int p,.ref bl]/\H x=some (.ins C dx []) /\
 ∀(sl:Addr) (H':Hp),H sl=none->H' x=some (.ins C dx (BH p 0 bl sl))->H' sl=some (.lst [])->(∀c o,c≠x->H c=some o->H' c=some o)->Q .non H'
theorem A6{α:Type}(a:α)(n:Nat):(List.replicate n [a]).flatten=List.replicate n a:=by
 induction n with
 | zero=>rfl
 | succ n ih=>rw[aa2,abh,ih,aa2];rfl
def qS(K:ax)(ab:Addr):Sp:=λvs H Q _=>∃(pl vl:Addr) (ps:List Pt) (xs ys:List V) (j:Nat) (p:Pt) (n:V),vs=[.ref pl,.int (j:Int),.ref vl,n]/\bt K H pl xs/\aL K H xs (ps.map Cc)/\ps[j]?=some p/\bt K H vl ys/\ys.length<=p.boxes/\p.boxes<=8 /\
 ∀(fa bl sl:Addr) (H':Hp),H fa=none->H bl=none->H sl=none->bl≠sl->(∃dx,H' fa=some (.ins ab dx (BH (j:Int) 0 bl sl)))->H' bl=some (.lst (ys++List.replicate (p.boxes - ys.length) n))->H' sl=some (.lst [])->aF H H'->Q (.ref fa) H'
def ju(K:ax)(wt:Bool):Sp:=λvs H Q _=>∃(x:V),vs=[x]/\∀v,yI K H wt v .none->Q v H
theorem bQ.push{K:ax}{H H1:Hp}{CF C:Addr}{wt:Bool}{m:Mc}{f:Fm}(h:bQ K H CF C wt m)(s:aF H H1)(hF:gW K H1 CF wt f)(fr:∀c∈gC f,H c=none)(nf:(gC f).Nodup):bQ K (upd H1 m.lv (.lst ((m.bT++[f]).map λf=>.ref f.fa))) CF C wt {m with bT:=m.bT++[f]}/\aC (foot m) H (upd H1 m.lv (.lst ((m.bT++[f]).map λf=>.ref f.fa))):=by
 have M1:=h.same s;have mu0:=h.rK;have nd:=M1.nd;have kx:aC [m.lv] H1 (upd H1 m.lv (.lst ((m.bT++[f]).map λf=>.ref f.fa))):=aY;have sub:∀c∈[m.lv],c∈foot m:=λc hc=>by rw[bN hc];simp[foot]
 have mu:=M1.rK.sub sub;have kA:aC (foot m) H (upd H1 m.lv (.lst ((m.bT++[f]).map λf=>.ref f.fa))):=(cC s).trans (kx.sub sub);have ef:foot {m with bT:=m.bT++[f]}=foot m++gC f:=by simp[foot]
 have dis:∀c∈gC f,c∉foot m:=λc hc hz=>by
  obtain⟨o,e,_⟩:=mu0 c hz;rw[fr c hc]at e;cases e
 have WK:=nd;simp only[foot,List.nodup_cons,List.mem_cons,not_or]at WK;obtain⟨dx,ev,h1,h2⟩:=M1.ob;refine⟨⟨⟨dx,ev,kx _ _ (λz=>WK.1.1 (bN z)) h1,h2.keep kx mu⟩,?_,uS,M1.rc.keep kx mu (λz=>WK.2.1.1 (bN z).symm),kx _ _ (λz=>WK.2.1.2.1 (bN z).symm) M1.sd,λg hg=>?_,?_⟩,kA⟩
 ·obtain⟨mk,pl,xs,hb⟩:=h.bk;refine⟨mk,pl,xs,λHX kX=>hb HX λc o n e=>kX c o ?_ (kA c o n e)⟩;rw[ef,aaQ,not_or];exact⟨n,λhz=>by rw[fr c hz]at e;cases e⟩
 ·rcases aaQ.mp hg with z | z
  ·refine(M1.fr g z).keep kx mu (λc hc hz=>?_);rw[bN hz]at hc;exact WK.2.1.2.2 (aa9.mpr ⟨g,z,hc⟩)
  ·rw[bN z];refine hF.keep kx mu (λc hc hz=>dis c hc (sub c hz))
 ·rw[ef,abD];exact⟨nd,nf,λc hc d hd e=>dis d hd (by rw[← e];exact hc)⟩
def i8(K:ax)(ab:Addr)(C:Addr)(wt:Bool):Sp:=λvs H Q _=>∃(mm:Mc) (vl:Addr) (ys:List V) (us:List Vl) (j:Nat) (p:Pt),vs=[.ref mm.ma,.int (j:Int),.ref vl]/\bQ K H ab C wt mm/\mm.ps[j]?=some p/\bt K H vl ys/\iM K H wt ys us/\us.length<=p.boxes/\p.boxes<=8/\mm.bT.length<=100 /\
 ∀(f:Fm) (H':Hp),bQ K H' ab C wt {mm with bT:=mm.bT++[f]}->f.part=j->f.at'=0->f.bx=us++List.replicate (p.boxes - us.length) .none->f.st=[]->(∀c∈gC f,H c=none)->aC (foot mm) H H'->Q .non H'
theorem TV{b lv rc sd:Addr}{l:Int}{e:V}:bz "end" e (bz "left" (.int l) (bz "said" (.ref sd) (bz "records" (.ref rc) (bz "live" (.ref lv) (bz "book" (.ref b) [])))))=rL b lv rc sd l e:=by
 have e1:bz "book" (.ref b) []=([("book",.ref b)]:List (Str×V)):=rfl;have e2:bz "live" (.ref lv) ([("book",.ref b)]:List (Str×V))=([("book",.ref b),("live",.ref lv)]:List (Str×V)):=by rw[qH (by decide +kernel)];rfl
 have e3:bz "records" (.ref rc) ([("book",.ref b),("live",.ref lv)]:List (Str×V))=([("book",.ref b),("live",.ref lv),("records",.ref rc)]:List (Str×V)):=by rw[qH (by decide +kernel),qH (by decide +kernel)];rfl
 have e4:bz "said" (.ref sd) ([("book",.ref b),("live",.ref lv),("records",.ref rc)]:List (Str×V))=([("book",.ref b),("live",.ref lv),("records",.ref rc),("said",.ref sd)]:List (Str×V)):=by rw[qH (by decide +kernel),qH (by decide +kernel),qH (by decide +kernel)];rfl
 have e5:bz "left" (.int l) ([("book",.ref b),("live",.ref lv),("records",.ref rc),("said",.ref sd)]:List (Str×V))=([("book",.ref b),("live",.ref lv),("records",.ref rc),("said",.ref sd),("left",.int l)]:List (Str×V)):=by rw[qH (by decide +kernel),qH (by decide +kernel),qH (by decide +kernel),qH (by decide +kernel)];rfl
 rw[e1,e2,e3,e4,e5,qH (by decide +kernel),qH (by decide +kernel),qH (by decide +kernel),qH (by decide +kernel),qH (by decide +kernel)];rfl
theorem mZ{f:Str}{v:V}{l:List (Str×V)}{n:Nat}(h:l.length<=n):(bz f v l).length<=n + 1:=aaO (fC _ _ _) (by omega)
theorem TX{H2 H3:Hp}{x l:Addr}{o o':HO}(k:aC [x] H2 H3)(hx:H3 x=some o)(hl:H3 l=none):aC [x] H2 (upd (upd H3 l (.lst [])) x o')/\upd (upd H3 l (.lst [])) x o' x=some o'/\upd (upd H3 l (.lst [])) x o' l=some (.lst [])/\H2 l=none/\l≠x/\(∀c p,c≠x->H3 c=some p->upd (upd H3 l (.lst [])) x o' c=some p):=by
 have ne:=nN hx hl
 have k':∀c p,c≠x->H3 c=some p->upd (upd H3 l (.lst [])) x o' c=some p:=λc p n e=>by
  rw[uN n,uN (nN e hl)];exact e
 refine⟨λc p n e=>k' c p (λz=>n (by rw[z];exact aaN.mpr rfl)) (k c p n e),uS,(uN ne.symm).trans uS,?_,ne.symm,k'⟩
 cases e:H2 l with
 | none=>rfl
 | some p=>rw[k l p (λz=>ne (bN z).symm) e]at hl;cases hl
def eS(K:ax)(ab:Addr)(C:Addr)(wt:Bool):Sp:=λvs H Q _=>∃(x dx b il:Addr) (j:Nat) (bud:Int) (ms:cV) (ps:List Pt) (p:Pt) (ws:List Int),vs=[.ref x,.ref b,.int (j:Int),.ref il,.int bud]/\H x=some (.ins C dx [])/\aZ K H (.ref b) (Dy ms ps)/\ms.length<=8/\ps.length<=8/\ps[j]?=some p/\(p.takes++[p.gives]).all lG=true/\bt K H il (ws.map V.int)/\ws.length=p.takes.length/\ws.length<=p.boxes/\p.boxes<=8 /\
 ∀(bb lv rc sd:Addr) (f:Fm) (H':Hp),f.part=j->f.at'=0->f.bx=ws.map Vl.num++List.replicate (p.boxes - ws.length) .none->f.st=[]->bQ K H' ab C wt ⟨x,bb,lv,rc,sd,ms,ps,[f],[],[],bud,[]⟩->(∀c∈foot ⟨x,bb,lv,rc,sd,ms,ps,[f],[],[],bud,[]⟩,c≠x->H c=none)->aC [x] H H'->(∀G,bq H G->WD K (foot ⟨x,bb,lv,rc,sd,ms,ps,[f],[],[],bud,[]⟩++G) H' bb ms ps)->(∀HX,(∀c o,c∉foot ⟨x,bb,lv,rc,sd,ms,ps,[f],[],[],bud,[]⟩->(∀z,H c=some z->¬ AV z)->H' c=some o->HX c=some o)->aZ K HX (.ref bb) (Dy ms ps))->Q .non H'
def A7(K:ax):Sp:=λvs H Q _=>∃(b il:Addr) (j n:Nat) (bud:Int) (ms:cV) (ps:List Pt) (p:Pt) (ws:List Int) (p2:PM),vs=[.ref b,.int (j:Int),.ref il,.int bud]/\aZ K H (.ref b) (Dy ms ps)/\ms.length<=8/\ps.length<=8/\ps[j]?=some p/\(p.takes++[p.gives]).all lG=true/\bt K H il (ws.map V.int)/\ws.length=p.takes.length/\ws.length<=p.boxes/\p.boxes<=8/\sF K false n (j3 ms ps j p ws bud) p2/\p2.said.length<=900000 /\
 ∀(t l:Addr) (ev:V) (H':Hp),aF H H'->H l=none->bu K H' t [ev,.ref l,.int p2.left]->H' l=some (.lst (p2.said.map V.int))->jI K H' ev p2.fin->Q (.ref t) H'
def RY(K:ax):As:=λds Q=>∃(j n:Nat) (bud:Int) (ms:cV) (ps:List Pt) (p:Pt) (ws:List Int) (p2:PM),ds=[Dy ms ps,.int (j:Int),.list (ws.map PyData.int),.int bud]/\ms.length<=8/\ps.length<=8/\ps[j]?=some p/\(p.takes++[p.gives]).all lG=true/\ws.length=p.takes.length/\ws.length<=p.boxes/\p.boxes<=8/\sF K false n (j3 ms ps j p ws bud) p2/\p2.said.length<=900000/\Q (zv p2)
theorem TY{K:ax}:se (RY K):=by
 rintro ds Q Q' f ⟨j,n,bud,ms,ps,p,ws,p2,e,h1,h2,h3,h4,h5,h6,h7,h8,h9,q⟩;exact⟨j,n,bud,ms,ps,p,ws,p2,e,h1,h2,h3,h4,h5,h6,h7,h8,h9,f _ q⟩
theorem TZ{K:ax}:Ei K (A7 K) (RY K):=by
 rintro vs H Q P ds hP hv ⟨j,n,bud,ms,ps,p,ws,p2,rfl,h1,h2,h3,h4,h5,h6,h7,h8,h9,q⟩;obtain⟨v0,v1,v2,v3,rfl⟩:=ex4 hv.1;have r0:=hv.2 0 v0 _ rfl rfl;obtain⟨b,bs,rfl,_,_,_⟩:=aS.cJ (show aS K P H v0 (.tuple _)from r0);have r1:=aS.aW (hv.2 1 v1 _ rfl rfl);obtain⟨il,is,rfl,hI,_,ZA⟩:=aS.eE (hv.2 2 v2 _ rfl rfl);have r3:=aS.aW (hv.2 3 v3 _ rfl rfl);subst r1;subst r3;have ei:is=ws.map V.int:=wL ZA;subst ei;refine⟨b,il,j,n,bud,ms,ps,p,ws,p2,rfl,r0.now,h1,h2,h3,h4,hI,h5,h6,h7,h8,h9,λt l ev H' s nl gt g hE=>q _ H' s ?_⟩;refine Ck hP s nl gt g hE
def gm(K:ax):Sp:=λvs H Q _=>∃(b il:Addr) (j n:Nat) (bud:Int) (ms:cV) (ps:List Pt) (p:Pt) (ws:List Int) (p2:PM),vs=[.ref b,.int (j:Int),.ref il,.int bud]/\aZ K H (.ref b) (Dy ms ps)/\ms.length<=8/\ps.length<=8/\ps[j]?=some p/\(p.takes++[p.gives]).all lG=true/\bt K H il (ws.map V.int)/\ws.length=p.takes.length/\ws.length<=p.boxes/\p.boxes<=8/\sF K true n (j3 ms ps j p ws bud) p2/\p2.said.length<=900000 /\
 ∀(t l:Addr) (ev:V) (H':Hp),aF H H'->H l=none->bu K H' t [ev,.ref l,.int p2.left]->H' l=some (.lst (p2.said.map V.int))->jI K H' ev p2.fin->Q (.ref t) H'
def p9(K:ax):As:=λds Q=>∃(j n:Nat) (bud:Int) (ms:cV) (ps:List Pt) (p:Pt) (ws:List Int) (p2:PM),ds=[Dy ms ps,.int (j:Int),.list (ws.map PyData.int),.int bud]/\ms.length<=8/\ps.length<=8/\ps[j]?=some p/\(p.takes++[p.gives]).all lG=true/\ws.length=p.takes.length/\ws.length<=p.boxes/\p.boxes<=8/\sF K true n (j3 ms ps j p ws bud) p2/\p2.said.length<=900000/\Q (zv p2)
theorem xO{K:ax}:se (p9 K):=by
 rintro ds Q Q' f ⟨j,n,bud,ms,ps,p,ws,p2,e,h1,h2,h3,h4,h5,h6,h7,h8,h9,q⟩;exact⟨j,n,bud,ms,ps,p,ws,p2,e,h1,h2,h3,h4,h5,h6,h7,h8,h9,f _ q⟩
theorem xP{K:ax}:Ei K (gm K) (p9 K):=by
 rintro vs H Q P ds hP hv ⟨j,n,bud,ms,ps,p,ws,p2,rfl,h1,h2,h3,h4,h5,h6,h7,h8,h9,q⟩;obtain⟨v0,v1,v2,v3,rfl⟩:=ex4 hv.1;have r0:=hv.2 0 v0 _ rfl rfl;obtain⟨b,bs,rfl,_,_,_⟩:=aS.cJ (show aS K P H v0 (.tuple _)from r0);have r1:=aS.aW (hv.2 1 v1 _ rfl rfl);obtain⟨il,is,rfl,hI,_,ZA⟩:=aS.eE (hv.2 2 v2 _ rfl rfl);have r3:=aS.aW (hv.2 3 v3 _ rfl rfl);subst r1;subst r3;have ei:is=ws.map V.int:=wL ZA;subst ei;refine⟨b,il,j,n,bud,ms,ps,p,ws,p2,rfl,r0.now,h1,h2,h3,h4,hI,h5,h6,h7,h8,h9,λt l ev H' s nl gt g hE=>q _ H' s ?_⟩;refine Ck hP s nl gt g hE
def A8(K:ax):Sp:=λvs H Q _=>∃(a:Addr) (ns:List Int),vs=[.ref a]/\bt K H a (ns.map V.int)/\ns.length<=63/\∀H',Q (.bl true) H'
section
variable {P:Program} {w:World} {K:ax} {mg:Str->Option Value} {base:Heap}
theorem sQ:aA ["_law_rows","_law_elders","_law_number"] ["_law_rows","_law_elders"] (dS qv):=by walk_at "sc"
theorem A9{f:Addr}{fd:FuncData}(F:er K "_law_book" "_law_book" qv f fd)(cq:mg "list"=none){ab:Addr}(aj:ah K ab):bp P w K mg base aM 1 f fd ["_law_rows","_law_elders"] (jL K):=by
 refine F.ok sQ (λvs H Q E h=>?_) (λcdv A outer s H vs Q E hr h=>?_)
 ·obtain⟨PP,ds,hP,hv,rows,e,rfl,hl,q⟩:=h;exact hv.1
 obtain⟨PP,ds,hP,hv,rows,e,rfl,hl,q⟩:=h;refine fT hP hv ?_;show Dx _ _ _ [some _,some _,none] [];clear hP hv;refine aD (bh (i:=2) sQ.nd rfl (aai rfl) (aU (ae aK aq))) (λR kk=>?_);walk_at "vc";refine kk _ _ ?_;clear kk R;refine fS (cR (aU (ae (Wx 1 ["_law_elder"] [] ⟨rfl,rfl,rfl,rfl,rfl,rfl,rfl,rfl⟩ (ud (ai 1)) (λ_ _ _ _=>(dW (i:=0) (show List.Nodup (["_law_elder"]:List Str)by decide +kernel) rfl (aai rfl))) (KP (i:=0)) (Wt (by decide)) (λ_ _ _ _=>⟨KS,(aU (ae (ai 0) (ae (bO aq) aq)))⟩)) (ae (bO (ae (aU (ae (bO (ae (ai 2) (ae (ai 2) (ae (ai 2) aq)))) (ae (ai 2) (ae av (ae av (ae (wK rfl cq (ae (ai 0) aq)) (ae (bO aq) aq))))))) aq)) aq)))) ?_;walk_at "vc";refine RM (λi ys=>ys=((fq e).map Tr).take i) (by rw[aah];show 3<=1000000;decide) rfl ?_ ?_
 ·rintro i ys d hd rfl;obtain⟨m,hm,rfl⟩:=AD hd;walk_at "vc";refine⟨rfl,rfl,iJ ⟨rfl,?_⟩⟩
  have h2:m.2=[]:=by
   have hm:=List.mem_of_getElem? hm;simp only[fq,List.mem_cons,List.not_mem_nil,or_false]at hm;rcases hm with rfl | rfl | rfl<;>rfl
  rw[fJ (x:=Tr m) (by rw[List.getElem?_map,hm];rfl)];unfold Tr;rw[h2];rfl
 ·rintro ys rfl;walk_at "vc";exact q
theorem i9:aA ["_law_script","_law_k","_law_far","_law_cell_here"] ["_law_script","_law_k"] (dS qw):=by walk_at "sc"
theorem Ba{f:Addr}{fd:FuncData}(F:er K "_law_cell" "_law_cell" qw f fd)(bX:mg "len"=none){ab:Addr}(aj:ah K ab):bp P w K mg base aM 1 f fd ["_law_script","_law_k"] (iA K):=by
 refine F.ok i9 (λvs H Q E h=>?_) (λcdv A outer s H vs Q E hr h=>?_)
 ·obtain⟨a,ns,k,rfl,hS,h0,h1,q⟩:=h;rfl
 obtain⟨a,ns,k,rfl,hS,h0,h1,q⟩:=h;refine⟨_,(qK (bg (tR FK (pv 1) (bP bD rfl bX gJ (pK (pv 0) pN)) (aH _)) (qO (aE (az bj (pv 0) (pv 1) (λ_ _=>rfl)))) aX)
   (qK (bI (i:=2) i9.nd rfl (aai rfl) (aT zY pI (aT gF (pv 1) pI)))
   (qK (zX aaR rfl (kJ (mI Ab (pv 0) rR (rS pI))) (dW (i:=3) i9.nd rfl (aai rfl)) (qO (bI (i:=2) i9.nd rfl (aai rfl) (aT gF (aT zY (pv 2) pI) (aT gI (pv 3) pI)))))
   (qO (aE (aT gI (aT Ot (pv 2) (pv 2)) pI)))))),?_⟩
 refine⟨_,rfl,_,rfl,a,_,rfl,.inl hS,_,_,rfl,rfl,_,rfl,?_⟩;refine BQ (λc=>?_) (λc=>?_)
 ·have c':k < (((ns.map V.int).length:Nat):Int):=aa1 c;rw[aah]at c';have hk:k.toNat < ns.length:=by omega
  have ek:((k.toNat:Nat):Int)=k:=by omega
  refine⟨_,rfl,_,rfl,a,_,_,_,rfl,rfl,hS,(?_:pF (ns.map V.int) k=some (.int ns[k.toNat])),q _ _ (aF.refl _)⟩;have z:pF (ns.map V.int) ((k.toNat:Nat):Int)=some (.int ns[k.toNat]):=aN (by rw[aar,dh hk];rfl);rw[ek]at z;exact z
 ·walk_at "rd";refine⟨a,_,rfl,hS,λp hp=>?_⟩;refine⟨p,rfl,⟨_,bt.of uS⟩,?_⟩;have sm:aF H (upd H p (.lst (km (ns.map V.int) none (some 8)))):=λb o e=>by rw[uN (nN e hp)];exact e
  rw[Zy]at sm ⊢;refine BL (xs:=(ns.take 8).map V.int) (λi σ H2=>∃(far:Int) (v:Option V),σ=[some (.ref a),some (.int k),some (.int far),v]/\H2=upd H p (.lst ((ns.take 8).map V.int))/\0<=far/\far < 2000000000 * (32:Int) ^ i) ?_ ?_ ?_ ?_
  ·exact⟨_,none,rfl,rfl,by omega,by simp;omega⟩
  ·rintro i σ H2 hi ⟨far,v,rfl,rfl,_⟩;exact bt.of uS
  ·rintro i y σ H2 hi ⟨far,v,rfl,rfl,f0,f1⟩
   obtain⟨z,rfl⟩:∃z,y=V.int z:=by
    rw[aar]at hi
    cases e:(ns.take 8)[i]? with
    | none=>rw[e]at hi;cases hi
    | some z=>rw[e]at hi;exact⟨z,(aaE hi).symm⟩
   have hp1:(1:Int)<=32 ^ i:=by
    have:=Int.pow_pos (n:=32) (m:=i) (by decide);omega
   have hm0:=aa6 z (show(1000033:Int)≠0 by decide);have hm1:=aa5 z (show(0:Int) < 1000033 by decide);walk_at "rd";rw[Int.pow_succ];omega
  ·rintro σ H2 ⟨far,v,rfl,rfl,f0,f1⟩;have hl:((ns.take 8).map V.int).length<=8:=by simp;omega
   have Jz:(32:Int) ^ ((ns.take 8).map V.int).length<=32 ^ 8:=by
    have:=Nat.pow_le_pow_right (n:=32) (by decide) hl
    exact_mod_cast this
   have e8:(32:Int) ^ 8=1099511627776:=by decide
   rw[e8]at Jz;refine⟨_,rfl,_,rfl,_,_,rfl,rfl,⟨⟨by omega,by omega⟩,by omega,by omega⟩,_,_,rfl,rfl,(by show(0:Int) < 998244353;decide),q _ _ sm⟩
theorem sR:aA ["_law_cell_here","_law_edge"] ["_law_cell_here"] (dS qx):=by walk_at "sc"
theorem Bb{f:Addr}{fd:FuncData}(F:er K "_law_word" "_law_word" qx f fd)(Ct:mg "max"=none)(Cu:mg "min"=none){ab:Addr}(aj:ah K ab):bp P w K mg base aM 1 f fd ["_law_cell_here"] (iB K):=by
 refine F.ok sR (λvs H Q E h=>?_) (λcdv A outer s H vs Q E hr h=>?_)
 ·obtain⟨c,rfl,q⟩:=h;rfl
 obtain⟨c,rfl,q⟩:=h;refine⟨_,(qK (bg (tR bK (aT gI (pv 0) pI) pI (aH _)) (qO (aE (aT gH (aT gI (aT ph (pv 0) pI) pI) pI))) aX)
   (qK (bg (tR bK (aT gI (pv 0) pI) pI (aH _)) (qO (aE (aT gH (aT gI (aT zY (aT ph (pv 0) pI) pI) pI) pI))) aX)
   (qK (bg (tR bK (aT gI (pv 0) pI) pI (aH _)) (qK (bI (i:=1) sR.nd rfl (aai rfl) (aT gH (aT gF (aT DM pI (aT gI (aT ph (pv 0) pI) pI)) (aT gI (aT ph (pv 0) pI) pI)) pI))
   (qO (aE (bP (GV rfl) rfl Ct SF (pK (bP (GW rfl) rfl Cu SG (pK (az bj (dD (pK (pv 1) (pK (aT gH pI (pv 1)) pN))) (aT gI (aT ph (pv 0) pI) pI) (λ_ _=>rfl)) (pK pI pN))) (pK (aT gH pI pI) pN)))))) aX)
   (qO (aE (aT gH (aT gI (aT ph (pv 0) pI) pI) pI)))))),?_⟩
 have d4:(0:Int) < 4/\(4:Int) < 1073741824:=by decide
 refine⟨_,rfl,_,_,rfl,rfl,(by show(0:Int) < 4;decide),rfl,_,rfl,?_⟩;refine BQ (λ_=>?_) (λ_=>?_)
 ·refine⟨_,rfl,_,_,rfl,rfl,d4,_,_,rfl,rfl,(by show(0:Int) < 9;decide),_,_,rfl,rfl,q _ _ (aF.refl _) ?_⟩;show -2147483648<=c / 4 % 9 - 4/\c / 4 % 9 - 4<=2147483647;omega
 refine⟨_,rfl,_,_,rfl,rfl,(by show(0:Int) < 4;decide),rfl,_,rfl,?_⟩;refine BQ (λ_=>?_) (λ_=>?_)
 ·refine⟨_,rfl,_,_,rfl,rfl,d4,_,_,rfl,rfl,.inr ⟨by decide,by decide⟩,_,_,rfl,rfl,(by show(0:Int) < 4294967296;decide),_,_,rfl,rfl,q _ _ (aF.refl _) ?_⟩;show -2147483648<=c / 4 * 2654435761 % 4294967296 - 2147483648/\c / 4 * 2654435761 % 4294967296 - 2147483648<=2147483647;omega
 refine⟨_,rfl,_,_,rfl,rfl,(by show(0:Int) < 4;decide),rfl,_,rfl,?_⟩;refine BQ (λ_=>?_) (λ_=>?_)
 ·refine⟨_,rfl,_,_,rfl,rfl,d4,_,_,rfl,rfl,(by show(0:Int) < 32;decide),_,_,rfl,rfl,⟨by show 0<=c / 4 % 32;omega,by show c / 4 % 32<=1000000;omega,by decide⟩,?_⟩;refine⟨_,rfl,_,_,rfl,rfl,(by show(0:Int) < 128/\(128:Int) < 1073741824;decide),_,_,rfl,rfl,(by show(0:Int) < 3;decide),_,_,rfl,rfl,_,_,rfl,rfl,?_⟩;obtain⟨e,he⟩:∃e:Int,e=1 * 2 ^ (c / 4 % 32).toNat + c / 128 % 3 - 1:=⟨_,rfl⟩;refine⟨_,rfl,_,rfl,_,_,rfl,rfl,GQ,λl hl=>?_⟩;have s1:=sN hl (.lst [.int (1 * 2 ^ (c / 4 % 32).toNat + c / 128 % 3 - 1),.int (0 - (1 * 2 ^ (c / 4 % 32).toNat + c / 128 % 3 - 1))]);refine⟨_,rfl,_,_,rfl,rfl,(by show(0:Int) < 384/\(384:Int) < 1073741824;decide),_,_,rfl,rfl,(by show(0:Int) < 2;decide),?_⟩
  obtain⟨x,hx⟩:∃x:Int,pF [V.int e,V.int (0 - e)] (c / 384 % 2)=some (V.int x):=by
   rcases (by omega:c / 384 % 2=0∨c / 384 % 2=1)with z | z<;>rw[z]
   ·exact⟨_,aN (j:=0) rfl⟩
   ·exact⟨_,aN (j:=1) rfl⟩
  rw[he]at hx;refine⟨l,_,_,_,rfl,rfl,bt.of uS,hx,?_⟩;refine⟨_,_,rfl,_,_,rfl,rfl,_,_,rfl,q _ _ s1 ?_⟩;show -2147483648<=(if (0 - 2147483648:Int) > (if (2147483647:Int) < x then 2147483647 else x)then(0 - 2147483648:Int)else if (2147483647:Int) < x then 2147483647 else x)/\(if (0 - 2147483648:Int) > (if (2147483647:Int) < x then 2147483647 else x)then(0 - 2147483648:Int)else if (2147483647:Int) < x then 2147483647 else x)<=2147483647;split<;>split<;>omega
 ·refine⟨_,rfl,_,_,rfl,rfl,d4,_,_,rfl,rfl,(by show(0:Int) < 4294967296;decide),_,_,rfl,rfl,q _ _ (aF.refl _) ?_⟩;show -2147483648<=c / 4 % 4294967296 - 2147483648/\c / 4 % 4294967296 - 2147483648<=2147483647;omega
theorem eT:aA ["_law_cell_here","_law_other","_law_many","_law_box","_law_goal","_law_by","_law_sign"] ["_law_cell_here","_law_other","_law_many"] (dS mN):=by walk_at "sc"
theorem yP{f:Addr}{fd:FuncData}(F:er K "_law_block" "_law_block" mN f fd){ab:Addr}(aj:ah K ab)(m4:cT P w K mg base aM "_law_word" 1 ["_law_cell_here"] (iB K)):bp P w K mg base aM 2 f fd ["_law_cell_here","_law_other","_law_many"] (i4 K):=by
 refine F.ok eT (λvs H Q E h=>?_) (λcdv A outer s H vs Q E hr h=>?_)
 ·obtain⟨PP,ds,hP,hv,c,o,n,rfl,h0,h1,q⟩:=h;exact hv.1
 obtain⟨PP,ds,hP,hv,c,o,n,rfl,h0,h1,q⟩:=h;refine fT hP hv ?_;show Dx _ _ _ [some _,some _,some _,none,none,none,none] [];clear hP hv;refine aD (bh (i:=3) eT.nd rfl (aai rfl) (bZ (ie (ai 0) av) av)) (λR kk=>?_);walk_at "vc";obtain⟨b,eb,hb⟩:=mM (c / 16) (n:=3) (by decide);rw[eb];refine⟨pZ (by decide) (by decide),by decide,kk _ _ ?_⟩;clear kk R;refine aD (bh (i:=4) eT.nd rfl (aai rfl) (bZ (ai 1) (ai 2))) (λR kk=>?_);walk_at "vc";obtain⟨t,et,ht⟩:=mM o (n:=(n:Int)) (by omega);rw[et];refine⟨by omega,kk _ _ ?_⟩;clear kk R;refine aD (da (eN (hr.units) (bZ (ai 0) av) av) (aP (cR (bO (ae (aU (ae aK (ae (ai 3) aq))) (ae (aU (ae aK aq)) aq))))) cu) (λR kk=>?_);walk_at "vc";refine⟨by decide,eF (λ_=>q (.say b) (by show b < 3;omega)) (λ_=>kk _ _ ?_)⟩;clear kk R;refine aD (da (B0 (bZ (ai 0) av) (aU (ae av (ae av (ae av aq)))) rfl) (bW (bh (i:=5) eT.nd rfl (aai rfl) (iY (bO (ae av (ae (br m4 vc vb (hr.mono (by decide)) rfl (ae (ai 1) aq)) aq))) (bZ (ie (ai 0) av) av) (λ_ _=>rfl)))
   (bW (bh (i:=6) eT.nd rfl (aai rfl) (iY (bO (ae aK (ae aK (ae aK aq)))) (bZ (ie (ai 0) av) av) (λ_ _=>rfl)))
   (aP (cR (bO (ae (aU (ae aK (ae (ai 3) aq))) (ae (aU (ae aK (ae (ai 5) aq))) (ae (aU (ae (ai 6) aq)) (ae (aU (ae aK (ae (ai 3) aq))) aq))))))))) cu) (λR kk=>?_)
 walk_at "vc"
 have at2:∀(x y:PyData) (k:Int),∃z,pF [x,y] (k % 2)=some z/\(z=x∨z=y):=λx y k=>by
  rcases (by omega:k % 2=0∨k % 2=1)with z | z<;>rw[z]
  ·exact⟨_,aN (j:=0) rfl,.inl rfl⟩
  ·exact⟨_,aN (j:=1) rfl,.inr rfl⟩
 have at3:∀(x y u:PyData) (k:Int),∃z,pF [x,y,u] (k % 3)=some z/\(z=x∨z=y∨z=u):=λx y u k=>by
  rcases (by omega:k % 3=0∨k % 3=1∨k % 3=2)with z | z | z<;>rw[z]
  ·exact⟨_,aN (j:=0) rfl,.inl rfl⟩
  ·exact⟨_,aN (j:=1) rfl,.inr (.inl rfl)⟩
  ·exact⟨_,aN (j:=2) rfl,.inr (.inr rfl)⟩
 refine⟨by decide,⟨rfl,rfl⟩,RS (λ_=>?_) (λ_=>kk _ _ ?_)⟩
 ·refine⟨o,rfl,λx hx=>?_⟩;obtain⟨y,e1,hy⟩:=at2 (.int 1) (.int x) (c / 8);obtain⟨g,e2,hg⟩:=at3 (.str "sub") (.str "add") (.str "mul") (c / 48);refine⟨pZ (by decide) (by decide),by decide,y,e1,pZ (by decide) (by decide),by decide,g,e2,?_⟩
  obtain⟨w',rfl,hw⟩:∃w':Int,y=.int w'/\lu w':=by
   rcases hy with rfl | rfl
   ·exact⟨1,rfl,by decide,by decide⟩
   ·exact⟨x,rfl,hx⟩
  obtain⟨sg,rfl,hs⟩:∃sg:Str,g=.str sg/\sg∈(["add","sub","mul"]:List Str):=by
   rcases hg with rfl | rfl | rfl
   ·exact⟨_,rfl,by decide +kernel⟩
   ·exact⟨_,rfl,by decide +kernel⟩
   ·exact⟨_,rfl,by decide +kernel⟩
  exact q (.two b w' sg) ⟨by omega,hw,hs⟩
 clear kk R;refine aD (da (B0 (bZ (ai 0) av) (aU (ae av (ae av aq))) rfl) (aP (cR (bO (ae (aU (ae aK (ae (ai 3) aq))) (ae (aU (ae aK (ae (ai 4) aq))) aq))))) cu) (λR kk=>?_);walk_at "vc";refine⟨by decide,⟨rfl,rfl⟩,RS (λ_=>q (.zer b t) ⟨by omega,by omega⟩) (λ_=>kk _ _ ?_)⟩;clear kk R;refine aD (da (eN (hr.units) (bZ (ai 0) av) av) (aP (cR (bO (ae (aU (ae aK (ae (ai 4) aq))) aq)))) cu) (λR kk=>?_);walk_at "vc";refine⟨by decide,eF (λ_=>q (.jmp t) (by show t < n;omega)) (λ_=>kk _ _ ?_)⟩;clear kk R;refine aD (da (FT.dt (Ar (eN (hr.units) (bZ (ai 0) av) av) (wJ (eN (hr.units) (bZ (ie (ai 0) av) av) av)))) (aP (cR (bO (ae (aU (ae aK (ae (ai 3) aq))) (ae (aU (ae aK aq)) aq))))) cu) (λR kk=>?_);walk_at "vc"
 have nx:R [some (.dat (.int c)),some (.dat (.int o)),some (.dat (.int (n:Int))),some (.dat (.int (b:Int))),some (.dat (.int (t:Int))),none,none] []:=by
  refine kk _ _ ?_;clear kk R;refine aD (da (eN (hr.units) (bZ (ai 0) av) av) (aP (cR (bO (ae (aU (ae aK (ae av aq))) (ae (aU (ae aK aq)) aq))))) cu) (λR kk=>?_);walk_at "vc";refine⟨by decide,eF (λ_=>q .ovr trivial) (λ_=>kk _ _ ?_)⟩;clear kk R;refine fS (cR (bO (ae (aU (ae aK (ae (dF av (bZ (ie (ai 0) av) av)) aq))) (ae (aU (ae aK (ae (bZ (ie (ai 0) av) av) (ae (ai 1) aq)))) (ae (aU (ae aK aq)) aq))))) ?_;walk_at "vc";obtain⟨k2,e2,h2⟩:=mM (c / 10) (n:=2) (by decide);obtain⟨k3,e3,h3⟩:=mM (c / 20) (n:=3) (by decide);rw[e2,e3,show(3:Int) + (k2:Int)=((3 + k2:Nat):Int)by omega];exact⟨pZ (by decide) (by decide),by decide,pZ (by decide) (by decide),by decide,q (.kn (3 + k2) k3 o) ⟨by omega,by omega⟩⟩
 exact⟨by decide,eF (λ_=>⟨pZ (by decide) (by decide),by decide,eF (λ_=>q (.gv b) (by show b < 3;omega)) (λ_=>nx)⟩) (λ_=>dj nx)⟩
theorem dO:aA ["_law_script","_law_at","_law_cells","_law_records","_law_blocks_here","_law_k"] ["_law_script","_law_at"] (dS kT):=by walk_at "sc"
theorem xQ{f:Addr}{fd:FuncData}(F:er K "_law_blocks" "_law_blocks" kT f fd)(bX:mg "len"=none)(ja:mg "range"=none){ab:Addr}(aj:ah K ab)(Bd:cT P w K mg base aM "_law_block" 2 ["_law_cell_here","_law_other","_law_many"] (i4 K))(bM:cT P w K mg base aM "_law_cell" 1 ["_law_script","_law_k"] (iA K)):bp P w K mg base aM 3 f fd ["_law_script","_law_at"] (ik K):=by
 refine F.ok dO (λvs H Q E h=>?_) (λcdv A outer s H vs Q E hr h=>?_)
 ·obtain⟨PP,ds,hP,hv,ns,k,rfl,hk,q⟩:=h;exact hv.1
 obtain⟨PP,ds,hP,hv,ns,k,rfl,hk,q⟩:=h;refine fT hP hv ?_;show Dx _ _ _ [some _,some _,none,none,none,none] [];clear hP hv;refine aD (bh (i:=2) dO.nd rfl (aai rfl) (KA (ai 0) (wI (ai 1)) (wI (dF (ai 1) av)))) (λR kk=>?_);walk_at "vc";obtain⟨cs,ecs,hcs⟩:=TN ns k;rw[ecs];refine kk _ _ ?_;clear kk R;refine aD (bh (i:=3) dO.nd rfl (aai rfl) (bO (ae (bZ (ie (br bM bS bR (hr.mono (by decide)) rfl (ae (ai 0) (ae (ai 1) aq))) av) av) (ae (bZ (ie (br bM bS bR (hr.mono (by decide)) rfl (ae (ai 0) (ae (ai 1) aq))) av) av) aq)))) (λR kk=>?_);walk_at "vc";refine⟨ns,k,rfl,by omega,by omega,λv1=>⟨pZ (by decide) (by decide),by decide,ns,k,rfl,by omega,by omega,λv2=>⟨pZ (by decide) (by decide),by decide,?_⟩⟩⟩;obtain⟨c1,e1,h1⟩:=mM (v1 / 7) (n:=3) (by decide);obtain⟨c2,e2,h2⟩:=mM (v2 / 21) (n:=3) (by decide);rw[e1,e2];refine kk _ _ ?_;clear kk R;refine aD (bh (i:=4) dO.nd rfl (aai rfl) (jG (ae (bO (ae (aU (ae aK (ae (bG (n:=0) (ai 3)) aq))) (ae (aU (ae aK (ae (bG (n:=0) (ai 3)) aq))) (ae (aU (ae aK (ae av aq))) aq)))) aq))) (λR kk=>?_);walk_at "vc";refine kk _ _ ?_;clear kk R;refine aD (Az (dF (bG (n:=0) (ai 4)) (bO (ae (aU (ae aK (ae (bG (n:=1) (ai 3)) aq))) (ae (aU (ae aK (ae (bG (n:=1) (ai 3)) aq))) (ae (aU (ae aK (ae av aq))) aq))))) (Aw (ai 4) av)) (λR kk=>?_);walk_at "vc";refine⟨by decide,0,rfl,kk _ _ ?_⟩;clear kk R;refine aD (cU (ck (ai 4) (ae (bO (ae (aU (ae aK (ae av aq))) (ae (aU (ae aK aq)) aq))) aq))) (λR kk=>?_);walk_at "vc";refine⟨rfl,by decide,kk _ _ ?_⟩;clear kk R;refine aD (ue aaR rfl (zq rfl ja (ae (uc rfl bX (ae (ai 2) aq)) aq)) (kS (i:=5) dO.nd rfl (aai rfl)) (aP (cU (ck (ai 4) (ae (br Bd A3 A2 (hr.mono (by decide)) rfl (ae (iY (ai 2) (ai 5) (λ_ _=>rfl)) (ae (dF (ie (br bM bS bR (hr.mono (by decide)) rfl (ae (ai 0) (ae (dF (dF (ai 1) (ai 5)) av) aq))) av) (ai 5)) (ae (dF (uc rfl bX (ae (ai 2) aq)) av) aq)))) aq))))) (λR kk=>?_);walk_at "vc";rw[aah,aa0];refine⟨⟨by omega,by omega⟩,?_⟩;refine pk (λi env st=>∃(mid:List Bk) (o5:Option DV),env=[some (.dat (.list (ns.map PyData.int))),some (.dat (.int (k:Int))),some (.dat (.list (cs.map PyData.int))),some (.dat (.list [.int (c1:Int),.int (c2:Int)])),some (.ref 0),o5]/\st=[.live ((Bk.ini c1 c2::Bk.ovr::mid).map λb=>.list (NF b))]/\mid.length=i/\∀x∈mid,x.Ok (cs.length + 2)) ⟨[],_,rfl,rfl,rfl,(λx hx=>nomatch hx)⟩ (λ_ _ _ _=>trivial) ?_ ?_
 ·rintro i env st d hd ⟨mid,o5,rfl,rfl,hl,hO⟩;obtain⟨hi,rfl⟩:=Au hd;obtain⟨c,hc⟩:∃c,cs[i]?=some c:=⟨_,dh hi⟩;rw[Int.zero_add];walk_at "vc";refine⟨rfl,_,jH hc,ns,_,rfl,by omega,by omega,λv=>⟨pZ (by decide) (by decide),?_⟩⟩;rw[List.length_map];refine⟨c,_,cs.length + 2,rfl,by omega,by omega,λb hb=>⟨?_,mid++[b],_,rfl,?_,by simp[hl],λx hx=>?_⟩⟩
  ·rw[aah];show mid.length + 2 < 1000000;omega
  ·rw[← List.cons_append,← List.cons_append,aaU];rfl
  ·rcases aaQ.mp hx with w | w
   ·exact hO x w
   ·rw[bN w];exact hb
 ·rintro env st ⟨mid,o5,rfl,rfl,hl,hO⟩;rw[si]at hl;refine kk _ _ ?_;clear kk R;refine aD (cU (ck (ai 4) (ae (bO (ae (aU (ae aK (ae av aq))) (ae (aU (ae aK aq)) aq))) aq))) (λR kk=>?_);walk_at "vc";refine⟨rfl,by rw[List.length_map];show mid.length + 2 < 1000000;omega,kk _ _ ?_⟩;clear kk R;refine aD (cU (ck (ai 4) (ae (bO (ae (aU (ae aK (ae (bZ (br bM bS bR (hr.mono (by decide)) rfl (ae (ai 0) (ae av aq))) av) aq))) (ae (aU (ae aK aq)) aq))) aq))) (λR kk=>?_);walk_at "vc";refine⟨rfl,ns,4,rfl,by decide,by decide,λv=>⟨by decide,?_⟩⟩;obtain⟨g,eg,hg⟩:=mM v (n:=3) (by decide);rw[eg];refine⟨by rw[List.length_append,List.length_map];show mid.length + 2 + 1 < 1000000;omega,kk _ _ ?_⟩;clear kk R;refine fS (cR (ai 4)) ?_;walk_at "vc";have:=q (Bk.ini c1 c2::Bk.ovr::(mid++[.ovr,.gv g])) c1 c2 ⟨by omega,by omega,mid,g,by omega,rfl,by omega,λx hx=>by rw[hl];exact hO x hx⟩;rw[show Bk.ini c1 c2::Bk.ovr::(mid++[Bk.ovr,Bk.gv g])=(Bk.ini c1 c2::Bk.ovr::mid)++[Bk.ovr]++[Bk.gv g]by simp,List.map_append,List.map_append]at this;exact this
theorem bE:aA ["_law_script","_law_at","_law_blocks_here","_law_starts","_law_droppers","_law_many","_law_block_here","_law_rows","_law_row"] ["_law_script","_law_at"] (dS qy):=by walk_at "sc"
theorem Be{f:Addr}{fd:FuncData}(F:er K "_law_code" "_law_code" qy f fd)(bX:mg "len"=none){ab:Addr}(aj:ah K ab)(yQ:cT P w K mg base aM "_law_blocks" 3 ["_law_script","_law_at"] (ik K)):bp P w K mg base aM 4 f fd ["_law_script","_law_at"] (jO K):=by
 refine F.ok bE (λvs H Q E h=>?_) (λcdv A outer s H vs Q E hr h=>?_)
 ·obtain⟨PP,ds,hP,hv,ns,k,rfl,hk,q⟩:=h;exact hv.1
 obtain⟨PP,ds,hP,hv,ns,k,rfl,hk,q⟩:=h;refine fT hP hv ?_;show Dx _ _ _ [some _,some _,none,none,none,none,none,none,none] [];clear hP hv;refine aD (bh (i:=2) bE.nd rfl (aai rfl) (br yQ yM yL (hr.mono (by decide)) rfl (ae (ai 0) (ae (ai 1) aq)))) (λR kk=>?_);walk_at "vc";refine⟨ns,k,rfl,hk,λbs c1 c2 hB=>kk _ _ ?_⟩;clear kk R;obtain⟨hC,h6,hrest,hl⟩:=hB.code
 have hbl:bs.length<=30:=by
  obtain⟨mid,gb,_,e,hm,_⟩:=hB.sh;rw[e];simp;omega
 refine aD (bh (i:=3) bE.nd rfl (aai rfl) (jG aq)) (λR kk=>?_);walk_at "vc";refine kk _ _ ?_;clear kk R;refine aD (bh (i:=4) bE.nd rfl (aai rfl) (jG aq)) (λR kk=>?_);walk_at "vc";refine kk _ _ ?_;clear kk R;refine aD (bh (i:=5) bE.nd rfl (aai rfl) av) (λR kk=>?_);walk_at "vc";refine kk _ _ ?_;clear kk R;refine aD (ue aaR rfl (ud (ai 2)) (kS (i:=6) bE.nd rfl (aai rfl)) (bW (cU (ck (ai 3) (ae (ai 5) aq)))
   (bW (da (eN (hr.units) (bG (n:=0) (bG (n:=0) (ai 6))) aK) (aP (cU (ck (ai 4) (ae (dF (ai 5) av) aq)))) cu)
   (aP (bh (i:=5) bE.nd rfl (aai rfl) (dF (ai 5) (uc rfl bX (ae (ai 6) aq)))))))) (λR kk=>?_)
 walk_at "vc";refine pk (λi env st=>∃(o6:Option DV),env=[some (.dat (.list (ns.map PyData.int))),some (.dat (.int (k:Int))),some (.dat (.list (bs.map λb=>.list (NF b)))),some (.ref 0),some (.ref 1),some (.dat (.int (dZ (bs.take i):Int))),o6,none,none]/\st=[.live (iZ (bf 0 (bs.take i))),.live (iZ (aI 0 (bs.take i)))]) ⟨_,rfl,rfl⟩ (λ_ _ _ _=>trivial) ?_ ?_
 ·rintro i env st d hd ⟨o6,rfl,rfl⟩;obtain⟨b,hb,rfl⟩:=AD hd;have hi:=(bU hb).1;obtain⟨sg,ns',tl,eb,ed⟩:=GI b;have lb:=Pw b;rw[eb]at lb ⊢;walk_at "vc";have l1:(iZ (bf 0 (List.take i bs))).length < 1000000:=by rw[uy,mU,aaC];omega
  have l2:(iZ (aI 0 (List.take i bs))).length < 1000000:=by
   have:=xJ (bs.take i) 0;rw[aaC]at this;rw[uy];omega
  have e1:iZ (bf 0 (List.take i bs))++[PyData.int (dZ (List.take i bs):Int)]=iZ (bf 0 (List.take (i + 1) bs)):=by
   rw[zy,fJ hb,sJ,acq]
  have e2:(dZ (List.take i bs):Int) + ((tl.length + 1:Nat):Int)=(dZ (List.take (i + 1) bs):Int):=by
   rw[fJ hb,sI,cA,Co];have:tl.length + 1=(kI b).length:=lb;omega
  have e3:=ed (dZ (bs.take i));have e4:aI 0 (List.take (i + 1) bs)=aI 0 (bs.take i)++aI (dZ (bs.take i)) [b]:=by rw[fJ hb,va,acq]
  rw[e1,e2,e4,e3];refine⟨rfl,l1,eF (λz=>⟨rfl,l2,_,rfl,?_⟩) (λz=>⟨_,rfl,?_⟩)⟩
  ·rw[aaq z,← zy];rfl
  ·rw[aan z,abd]
 ·rintro env st ⟨o6,rfl,rfl⟩;rw[aah,acN];refine kk _ _ ?_;clear kk R;refine aD (bh (i:=7) bE.nd rfl (aai rfl) (jG aq)) (λR kk=>?_);walk_at "vc";refine kk _ _ ?_;clear kk R;refine aD (ue aaR rfl (ud (ai 2)) (kS (i:=6) bE.nd rfl (aai rfl)) (aP (ue aaR rfl (ud (ai 6)) (kS (i:=8) bE.nd rfl (aai rfl)) (bW (da (B0 (bG (n:=0) (ai 8)) (aU (ae aK (ae aK aq))) rfl) (aP (bh (i:=8) bE.nd rfl (aai rfl) (aU (ae (bG (n:=0) (ai 8)) (ae (iY (ai 3) (dF av (bG (n:=1) (ai 8))) (λ_ _=>rfl)) aq))))) (aP (da (eN (hr.units) (bG (n:=0) (ai 8)) aK) (aP (bh (i:=8) bE.nd rfl (aai rfl) (aU (ae aK (ae (dF (uc rfl bX (ae (ai 7) aq)) av) aq))))) (aP (da (eN (hr.units) (bG (n:=0) (ai 8)) aK) (aP (bh (i:=8) bE.nd rfl (aai rfl) (aU (ae aK (ae (bG (n:=1) (ai 8)) (ae (iY (ai 4) (bZ (bG (n:=2) (ai 8)) (uc rfl bX (ae (ai 4) aq))) (λ_ _=>rfl)) aq)))))) cu)))))
   (aP (cU (ck (ai 7) (ae (ai 8) aq)))))))) (λR kk=>?_)
  walk_at "vc";refine pk (λi env st=>∃(o6 o8:Option DV),env=[some (.dat (.list (ns.map PyData.int))),some (.dat (.int (k:Int))),some (.dat (.list (bs.map λb=>.list (NF b)))),some (.ref 0),some (.ref 1),some (.dat (.int (dZ bs:Int))),o6,some (.ref 2),o8]/\st=[.live (iZ (bf 0 bs)),.live (iZ (aI 0 bs)),.live ((ba (bf 0 bs) (aI 0 bs) 0 ((bs.take i).flatMap kI)).map jm)]) ⟨_,_,rfl,rfl⟩ (λ_ _ _ _=>trivial) ?_ ?_
  ·rintro i env st d hd ⟨o6,o8,rfl,rfl⟩;obtain⟨b,hb,rfl⟩:=AD hd;have hi:=(bU hb).1;walk_at "vc";unfold NF;refine pk (λj env st=>∃(o8:Option DV),env=[some (.dat (.list (ns.map PyData.int))),some (.dat (.int (k:Int))),some (.dat (.list (bs.map λb=>.list (NF b)))),some (.ref 0),some (.ref 1),some (.dat (.int (dZ bs:Int))),some (.dat (.list (NF b))),some (.ref 2),o8]/\st=[.live (iZ (bf 0 bs)),.live (iZ (aI 0 bs)),.live ((ba (bf 0 bs) (aI 0 bs) 0 ((bs.take i).flatMap kI++(kI b).take j)).map jm)]) ⟨_,rfl,by rw[List.take_zero,List.append_nil]⟩ (λ_ _ _ _=>trivial) ?_ ?_
   ·rintro j env st d hd ⟨o8,rfl,rfl⟩;obtain⟨x,hx,rfl⟩:=AD hd;have hj:=(bU hx).1;have hO:=hB.raw.1 b (aat hb) x (aat hx)
    have fin:∀r,xH (bf 0 bs) (aI 0 bs) (((bs.take i).flatMap kI)++(kI b).take j).length x=r->(ba (bf 0 bs) (aI 0 bs) 0 ((bs.take i).flatMap kI++(kI b).take j)).map jm++[jm r]=(ba (bf 0 bs) (aI 0 bs) 0 ((bs.take i).flatMap kI++(kI b).take (j + 1))).map jm:=λr hr=>by
     rw[fJ hx,← abC,ux _ _ _ [x],aaU,← hr,acq];rfl
    have lc:(ba (bf 0 bs) (aI 0 bs) 0 ((bs.take i).flatMap kI++(kI b).take j)).length=((bs.take i).flatMap kI++(kI b).take j).length:=pC _ _ _ _
    have l3:((ba (bf 0 bs) (aI 0 bs) 0 ((bs.take i).flatMap kI++(kI b).take j)).map jm).length < 1000000:=by
     rw[aah,lc,aaG,aaC];have:=Ht bs i;have:(codeOf bs).length=dZ bs:=pC _ _ _ _;have:=Px b;show dZ (bs.take i) + min j (kI b).length < 1000000;omega
    have tg:∀t:Nat,1 + t < bs.length->∃p:Nat,(bf 0 bs)[1 + t]?=some p/\pF (iZ (bf 0 bs)) ((1:Int) + (t:Int))=some (.int (p:Int)):=λt ht=>by
     have h:=dh (l:=bf 0 bs) (i:=1 + t) (by rw[mU];exact ht);refine⟨_,h,?_⟩;rw[show(1:Int) + (t:Int)=((1 + t:Nat):Int)by omega];exact jH (f:=λ(n:Nat)=>PyData.int (n:Int)) h
    cases x with
    | pl r =>
     rw[show Vt (.pl r)=.tuple (.str (kG r)::(Hm r).map PyData.int)from rfl];walk_at "vc";refine⟨⟨rfl,rfl⟩,cW (l:=["jump","zero"]) hO.1 (kH hO.2.1 (kH hO.2.2.1 ⟨rfl,l3,_,rfl,?_⟩))⟩;rw[← fin r rfl];rfl
    | jmp t =>
     rw[show Vt (.jmp t)=.tuple [.str "jump",.int (t:Int)]from rfl];walk_at "vc";obtain⟨p,e1,e2⟩:=tg t hO;refine⟨⟨rfl,rfl⟩,xE (l:=["jump","zero"]) (by decide +kernel) ⟨_,e2,rfl,l3,_,rfl,?_⟩⟩;rw[← fin (.jump p) (by show Rw.jump ((bf 0 bs)[1 + t]?.getD 0)=_;rw[e1];rfl)];rfl
    | zer t =>
     rw[show Vt (.zer t)=.tuple [.str "zero",.int (t:Int)]from rfl];walk_at "vc";obtain⟨p,e1,e2⟩:=tg t hO;refine⟨⟨rfl,rfl⟩,xE (l:=["jump","zero"]) (by decide +kernel) ⟨_,e2,rfl,l3,_,rfl,?_⟩⟩;rw[← fin (.zero p) (by show Rw.zero ((bf 0 bs)[1 + t]?.getD 0)=_;rw[e1];rfl)];rfl
    | ovr =>
     rw[show Vt .ovr=.tuple [.str "over",.int 0]from rfl];walk_at "vc";refine⟨⟨rfl,rfl⟩,cW (l:=["jump","zero"]) (by decide +kernel) (AY rfl ⟨rfl,l3,_,rfl,?_⟩)⟩;rw[← fin _ rfl];unfold xH;rw[List.length_map,lc];rfl
    | kn c o =>
     rw[show Vt (.kn c o)=.tuple [.str "kin",.int (c:Int),.int o]from rfl];walk_at "vc";have dp:0 < (aI 0 bs).length:=List.length_pos_iff.mpr hB.raw.2;have a0:=aa6 o (show((aI 0 bs).length:Int)≠0 by omega);have a1:=aa5 o (show(0:Int) < ((aI 0 bs).length:Int)by omega);have h:=dh (l:=aI 0 bs) (i:=(o % ((aI 0 bs).length:Int)).toNat) (by omega)
     have h2:pF (iZ (aI 0 bs)) (o % ((aI 0 bs).length:Int))=some (.int (((aI 0 bs)[(o % ((aI 0 bs).length:Int)).toNat]'(by omega):Nat):Int)):=by
      have:=jH (f:=λ(n:Nat)=>PyData.int (n:Int)) h;rw[show(((o % ((aI 0 bs).length:Int)).toNat:Nat):Int)=o % ((aI 0 bs).length:Int)by omega]at this;exact this
     rw[uy];refine⟨⟨rfl,rfl⟩,cW (l:=["jump","zero"]) (by decide +kernel) (kH (by decide +kernel) (AY rfl ⟨by omega,_,h2,rfl,l3,_,rfl,?_⟩))⟩;rw[← fin (.kin c ((aI 0 bs)[(o % ((aI 0 bs).length:Int)).toNat]'(by omega))) (by show Rw.kin c ((aI 0 bs)[(o % ((aI 0 bs).length:Int)).toNat]?.getD 0)=_;rw[h];rfl)];rfl
   ·rintro env st ⟨o8,rfl,rfl⟩;refine⟨_,_,rfl,?_⟩;rw[aah,acN,fJ hb,List.flatMap_append,abr,List.flatMap_nil,abd]
  ·rintro env st ⟨o6,o8,rfl,rfl⟩;rw[aah,acN];refine kk _ _ ?_;clear kk R;refine fS (cR (ai 7)) ?_;walk_at "vc";exact q bs c1 c2 hB
theorem wg:aA ["_law_number"] ["_law_number"] (dS jZ):=by walk_at "sc"
theorem wj{f:Addr}{fd:FuncData}(F:er K "_law_wrapped" "_law_wrapped" jZ f fd){ab:Addr}(aj:ah K ab):bp P w K mg base aM 1 f fd ["_law_number"] (gf K):=by
 refine F.ok wg (λvs H Q E h=>?_) (λcdv A outer s H vs Q E hr h=>?_)
 ·obtain⟨PP,ds,hP,hv,n,rfl,q⟩:=h;exact hv.1
 obtain⟨PP,ds,hP,hv,n,rfl,q⟩:=h;refine fT hP hv ?_;show Dx _ _ _ [some _] [];clear hP hv;refine fS (cR (Eg (bZ (dF (ai 0) av) av) av)) ?_;walk_at "vc";exact⟨by decide,q⟩
theorem Cv:aA ["_law_sign","_law_one","_law_other"] ["_law_sign","_law_one","_law_other"] (dS ug):=by walk_at "sc"
theorem Cw{f:Addr}{fd:FuncData}(F:er K "_law_two" "_law_two" ug f fd){ab:Addr}(aj:ah K ab)(jv:cT P w K mg base aM "_law_wrapped" 1 ["_law_number"] (gf K)):bp P w K mg base aM 2 f fd ["_law_sign","_law_one","_law_other"] (lB K):=by
 refine F.ok Cv (λvs H Q E h=>?_) (λcdv A outer s H vs Q E hr h=>?_)
 ·obtain⟨PP,ds,hP,hv,sg,x,y,rfl,hm,hx,hy,q⟩:=h;exact hv.1
 obtain⟨PP,ds,hP,hv,sg,x,y,rfl,hm,hx,hy,q⟩:=h;refine fT hP hv ?_;show Dx _ _ _ [some _,some _,some _] [];clear hP hv;refine aD (da (eN (hr.units) (ai 0) aK) (aP (cR (br jv jt jr (hr.mono (by decide)) rfl (ae (dF (ai 1) (ai 2)) aq)))) cu) (λR kk=>?_);walk_at "vc";refine eF (λz=>?_) (λn1=>kk _ _ ?_)
 ·refine⟨_,rfl,?_⟩;rw[we,aaq z]at q;exact q
 clear kk R;refine aD (da (eN (hr.units) (ai 0) aK) (aP (cR (br jv jt jr (hr.mono (by decide)) rfl (ae (Eg (ai 1) (ai 2)) aq)))) cu) (λR kk=>?_);walk_at "vc";refine eF (λz=>?_) (λn2=>kk _ _ ?_)
 ·refine⟨_,rfl,?_⟩;rw[we,aan n1,aaq z]at q;exact q
 clear kk R;refine fS (cR (br jv jt jr (hr.mono (by decide)) rfl (ae (S1 (ai 1) (ai 2)) aq))) ?_;walk_at "vc";refine⟨.inl (.inl ⟨by omega,by omega⟩),_,rfl,?_⟩;rw[we,aan n1,aan n2]at q;exact q
theorem sS:aA ["_law_row","_law_stack","_law_boxes","_law_said","_law_other"] ["_law_row","_law_stack","_law_boxes","_law_said"] (dS qz):=by walk_at "sc"
theorem Bf{f:Addr}{fd:FuncData}(F:er K "_law_done" "_law_done" qz f fd){ab:Addr}(aj:ah K ab)(EL:cT P w K mg base aM "_law_two" 2 ["_law_sign","_law_one","_law_other"] (lB K)):bp P w K mg base aM 3 f fd ["_law_row","_law_stack","_law_boxes","_law_said"] (jP K):=by
 refine F.ok sS (λvs H Q E h=>?_) (λcdv A outer s H vs Q E hr h=>?_)
 ·obtain⟨GG,al0,st0,xs0,hI,hv,r,s,s',rfl,rfl,hd,h1,h2,q⟩:=h;exact hv.1
 obtain⟨GG,al0,st0,xs0,hI,hv,r,s,s',rfl,rfl,hd,h1,h2,q⟩:=h;refine Hi hI hv ?_;show Dx _ _ _ [some _,some _,some _,some _,none] _;clear hI hv;refine fS (da (eN (hr.units) (bG (n:=0) (ai 0)) aK) (aP (cU (ck (ai 1) (ae (iY (ai 2) (bG (n:=1) (ai 0)) (λ_ _=>rfl)) aq)))) (aP (da (B0 (bG (n:=0) (ai 0)) (aU (ae aK (ae aK aq))) rfl) (aP (cU (ck (ai 1) (ae (bG (n:=1) (ai 0)) aq)))) (aP (da (eN (hr.units) (bG (n:=0) (ai 0)) aK) (aP (Az (qu (ai 1)) (Aw (ai 2) (bG (n:=1) (ai 0))))) (aP (da (eN (hr.units) (bG (n:=0) (ai 0)) aK) (aP (cU (ck (ai 3) (ae (qu (ai 1)) aq)))) (aP (da (eN (hr.units) (bG (n:=0) (ai 0)) aK) (aP (cU (qu (ai 1)))) (aP (da (B0 (bG (n:=0) (ai 0)) (aU (ae aK (ae aK (ae aK aq)))) rfl) (bW (bh (i:=4) sS.nd rfl (aai rfl) (qu (ai 1)))
   (aP (cU (ck (ai 1) (ae (br EL EK EJ (hr.mono (by decide)) rfl (ae (bG (n:=0) (ai 0)) (ae (qu (ai 1)) (ae (ai 4) aq)))) aq))))) cu))))))))))) ?_
 cases hd with
 | @load b s x h =>
  rw[show jm (.load b)=.tuple [.str "load",.int (b:Int)]from rfl,WS.cells];walk_at "vc";refine AY rfl ⟨rfl,_,jH (f:=PyData.int) h,by rw[gX];omega,?_⟩;rw[WS.cells,WS.cells,fI]at q;exact q
 | @push w s =>
  rw[show jm (.push w)=.tuple [.str "push",.int w]from rfl,WS.cells];walk_at "vc";refine kH (by decide +kernel) ⟨⟨rfl,rfl⟩,xE (l:=["push","make"]) (by decide +kernel) ⟨rfl,by rw[gX];omega,?_⟩⟩;rw[WS.cells,WS.cells,fI]at q;exact q
 | @make c s =>
  rw[show jm (.make c)=.tuple [.str "make",.int (c:Int)]from rfl,WS.cells];walk_at "vc";refine kH (by decide +kernel) ⟨⟨rfl,rfl⟩,xE (l:=["push","make"]) (by decide +kernel) ⟨rfl,by rw[gX];omega,?_⟩⟩;rw[WS.cells,WS.cells,fI]at q;exact q
 | @store b sk bx sd x h =>
  rw[show jm (.store b)=.tuple [.str "store",.int (b:Int)]from rfl,WS.cells];walk_at "vc";refine kH (by decide +kernel) ⟨⟨rfl,rfl⟩,cW (l:=["push","make"]) (by decide +kernel) (AY rfl ⟨_,fk sk x,b,by rw[gX];exact sy h,?_⟩)⟩;rw[gY,Hq];exact q
 | @say sk bx sd x =>
  rw[show jm (.bare "say")=.tuple [.str "say"]from rfl,WS.cells];walk_at "vc";refine kH (by decide +kernel) ⟨⟨rfl,rfl⟩,cW (l:=["push","make"]) (by decide +kernel) (kH (by decide +kernel) (AY rfl ⟨rfl,_,fk sk x,by rw[gX];show sd.length < 1000000;have:sd.length<=100000:=h2;omega,?_⟩))⟩;rw[gY];rw[WS.cells,WS.cells,fI sd]at q;exact q
 | @drop sk bx sd x =>
  rw[show jm (.bare "drop")=.tuple [.str "drop"]from rfl,WS.cells];walk_at "vc";refine kH (by decide +kernel) ⟨⟨rfl,rfl⟩,cW (l:=["push","make"]) (by decide +kernel) (kH (by decide +kernel) (kH (by decide +kernel) (AY rfl ⟨_,fk sk x,?_⟩)))⟩;rw[gY];exact q
 | @two sk bx sd x y sg h hx hy =>
  rw[show jm (.bare sg)=.tuple [.str sg]from rfl,WS.cells,show sk++[x,y]=(sk++[x])++[y]by simp];walk_at "vc"
  have hn:∀s∈(["load","store","say","drop"]:List Str),¬ sg=s:=λs hs e=>by
   subst e;rcases aam.mp h with rfl | h
   ·exact absurd hs (by decide +kernel)
   rcases aam.mp h with rfl | h
   ·exact absurd hs (by decide +kernel)
   rw[bN h]at hs;exact absurd hs (by decide +kernel)
  have hm:sg∉(["push","make"]:List Str):=λhs=>by
   rcases aam.mp h with rfl | h
   ·exact absurd hs (by decide +kernel)
   rcases aam.mp h with rfl | h
   ·exact absurd hs (by decide +kernel)
   rw[bN h]at hs;exact absurd hs (by decide +kernel)
  refine kH (hn _ (by decide +kernel)) ⟨⟨rfl,rfl⟩,cW (l:=["push","make"]) hm (kH (hn _ (by decide +kernel)) (kH (hn _ (by decide +kernel)) (kH (hn _ (by decide +kernel)) ⟨⟨rfl,rfl⟩,xE (l:=["add","sub","mul"]) h ⟨_,fk (sk++[x]) y,rfl,?_⟩⟩)))⟩;rw[gY];refine⟨_,fk sk x,sg,x,y,rfl,h,hx,hy,?_⟩;rw[gY];refine⟨by rw[gX];have:(sk++[x,y]).length<=1000:=h1;rw[List.length_append]at this;omega,?_⟩;rw[WS.cells,WS.cells,fI,show sk++[x,y]=(sk++[x])++[y]by simp]at q;exact q
 | @jump t s =>
  rw[show jm (.jump t)=.tuple [.str "jump",.int (t:Int)]from rfl,WS.cells];walk_at "vc";exact kH (by decide +kernel) ⟨⟨rfl,rfl⟩,cW (l:=["push","make"]) (by decide +kernel) (kH (by decide +kernel) (kH (by decide +kernel) (kH (by decide +kernel) ⟨⟨rfl,rfl⟩,cW (l:=["add","sub","mul"]) (by decide +kernel) q⟩)))⟩
 | @zero t s =>
  rw[show jm (.zero t)=.tuple [.str "zero",.int (t:Int)]from rfl,WS.cells];walk_at "vc";exact kH (by decide +kernel) ⟨⟨rfl,rfl⟩,cW (l:=["push","make"]) (by decide +kernel) (kH (by decide +kernel) (kH (by decide +kernel) (kH (by decide +kernel) ⟨⟨rfl,rfl⟩,cW (l:=["add","sub","mul"]) (by decide +kernel) q⟩)))⟩
 | @kin c t s =>
  rw[show jm (.kin c t)=.tuple [.str "kin",.int (c:Int),.int (t:Int)]from rfl,WS.cells];walk_at "vc";exact kH (by decide +kernel) ⟨⟨rfl,rfl⟩,cW (l:=["push","make"]) (by decide +kernel) (kH (by decide +kernel) (kH (by decide +kernel) (kH (by decide +kernel) ⟨⟨rfl,rfl⟩,cW (l:=["add","sub","mul"]) (by decide +kernel) q⟩)))⟩
 | @beg c s =>
  rw[show jm (.beg c)=.tuple [.str "begin",.int (c:Int)]from rfl,WS.cells];walk_at "vc";exact kH (by decide +kernel) ⟨⟨rfl,rfl⟩,cW (l:=["push","make"]) (by decide +kernel) (kH (by decide +kernel) (kH (by decide +kernel) (kH (by decide +kernel) ⟨⟨rfl,rfl⟩,cW (l:=["add","sub","mul"]) (by decide +kernel) q⟩)))⟩
theorem qa:aA ["_law_elders","_law_c","_law_other"] ["_law_elders","_law_c","_law_other"] (dS mO):=by walk_at "sc"
theorem yR{f:Addr}{fd:FuncData}(F:er K "_law_under" "_law_under" mO f fd){ab:Addr}(aj:ah K ab):bp P w K mg base aM 1 f fd ["_law_elders","_law_c","_law_other"] (i5 K):=by
 refine F.ok qa (λvs H Q E h=>?_) (λcdv A outer s H vs Q E hr h=>?_)
 ·obtain⟨PP,ds,hP,hv,ms,c,d,rfl,hw,hc,q⟩:=h;exact hv.1
 obtain⟨PP,ds,hP,hv,ms,c,d,rfl,hw,hc,q⟩:=h;refine fT hP hv ?_;show Dx _ _ _ [some _,some _,some _] [];clear hP hv;refine aD (B5 aaR (FT.dt (Ar (OU (ai 1) Ao) (wJ (RJ (hr.units) (ai 1) (ai 2))))) (aP (bh (i:=1) qa.nd rfl (aai rfl) (iY (ai 0) (ai 1) (λ_ _=>rfl))))) (λR kk=>?_);walk_at "vc";refine Gm (λm env st=>∃o:Option Nat,env=[some (.dat (.list (ms.map λm=>AN m.1))),some (.dat (AN o)),some (.dat (.int (d:Int)))]/\st=[]/\(∀j,o=some j->j < ms.length/\m=j + 1)/\(d∈bc ms c↔d∈rest ms o)) ⟨c + 1,some c,rfl,rfl,λj e=>by cases e;exact⟨hc,rfl⟩,Iff.rfl⟩ ?_;rintro m env st ⟨o,rfl,rfl,ho,hi⟩
 cases o with
 | none =>
  rw[show AN none=.none from rfl];walk_at "vc";refine dj (kk _ _ ?_);clear kk R;refine fS (cR (Gb (ai 1) Ao)) ?_;rw[aaH (λz=>nomatch (hi.mp z))]at q;exact q
 | some j =>
  obtain⟨hj,rfl⟩:=ho j rfl;rw[show AN (some j)=.int (j:Int)from rfl];walk_at "vc";refine(aaq rfl).mpr (Gn (λne=>?_) (λe=>kk _ _ ?_))
  ·obtain⟨m,hm,e1,hlt⟩:=hw.el hj;refine⟨_,jH hm,?_⟩;have ej:∀i,m.1=some i->i < j:=hlt
   cases q2:m.1 with
   | none=>exact⟨0,by omega,none,rfl,rfl,(λ_ z=>nomatch z),hi.trans (by rw[show rest ms (some j)=bc ms j from rfl,dJ hw hj,e1,q2];exact⟨λz=>by rcases aam.mp z with y | y;exact absurd (by omega:(j:Int)=(d:Int)) ne;exact y,λz=>aaF _ z⟩)⟩
   | some i=>exact⟨i + 1,by have:=ej i q2;omega,some i,rfl,rfl,λk z=>by cases z;exact⟨by have:=ej i q2;omega,rfl⟩,hi.trans (by rw[show rest ms (some j)=bc ms j from rfl,dJ hw hj,e1,q2];exact⟨λz=>by rcases aam.mp z with y | y;exact absurd (by omega:(j:Int)=(d:Int)) ne;exact y,λz=>aaF _ z⟩)⟩
  ·clear kk R;refine fS (cR (Gb (ai 1) Ao)) ?_;have ed:d=j:=by omega
   subst ed;rw[aaM (hi.mpr (by rw[show rest ms (some d)=bc ms d from rfl,dJ hw hj];exact aaz))]at q;exact q
theorem bB:aA ["_law_rows","_law_elders","_law_inputs","_law_budget","_law_boxes","_law_stack","_law_said","_law_at","_law_row","_law_goal"] ["_law_rows","_law_elders","_law_inputs","_law_budget"] (dS kU):=by walk_at "sc"
theorem xR{f:Addr}{fd:FuncData}(F:er K "_law_walked" "_law_walked" kU f fd)(cq:mg "list"=none){ab:Addr}(aj:ah K ab)(Cy:cT P w K mg base aM "_law_done" 3 ["_law_row","_law_stack","_law_boxes","_law_said"] (jP K))(Bg:cT P w K mg base aM "_law_under" 1 ["_law_elders","_law_c","_law_other"] (i5 K)):bp P w K mg base aM 4 f fd ["_law_rows","_law_elders","_law_inputs","_law_budget"] (ip K):=by
 refine F.ok bB (λvs H Q E h=>?_) (λcdv A outer s H vs Q E hr h=>?_)
 ·obtain⟨PP,ds,hP,hv,rows,ms,ws,bud,n,o,rfl,hw,hws,hW,q⟩:=h;exact hv.1
 obtain⟨PP,ds,hP,hv,rows,ms,ws,bud,n,o,rfl,hw,hws,hW,q⟩:=h;refine fT hP hv ?_;show Dx _ _ _ [some _,some _,some _,some _,none,none,none,none,none,none] [];clear hP hv;refine aD (bh (i:=4) bB.nd rfl (aai rfl) (OP (wK rfl cq (ae (ai 2) aq)) (bO (ae av (ae av aq))))) (λR kk=>?_);walk_at "vc";rw[gX];refine⟨by omega,kk _ _ ?_⟩;clear kk R;refine aD (bh (i:=5) bB.nd rfl (aai rfl) (jG aq)) (λR kk=>?_);walk_at "vc";refine kk _ _ ?_;clear kk R;refine aD (bh (i:=6) bB.nd rfl (aai rfl) (jG aq)) (λR kk=>?_);walk_at "vc";refine kk _ _ ?_;clear kk R;refine aD (bh (i:=7) bB.nd rfl (aai rfl) av) (λR kk=>?_);walk_at "vc";refine kk _ _ ?_;clear kk R;refine aD (B5 aaR (RJ (hr.units) (bG (n:=0) (iY (ai 0) (ai 7) (λ_ _=>rfl))) aK) (bW (bh (i:=8) bB.nd rfl (aai rfl) (iY (ai 0) (ai 7) (λ_ _=>rfl)))
   (bW (bh (i:=9) bB.nd rfl (aai rfl) (dF (ai 7) av))
   (bW (da (FT.dt (KI (eN (hr.units) (bG (n:=0) (ai 8)) aK) (KH (FT.dt (Ar (eN (hr.units) (bG (n:=0) (ai 8)) aK) (wJ (eN (hr.units) (qu (ai 5)) av))))))) (aP (bh (i:=9) bB.nd rfl (aai rfl) (bG (n:=1) (ai 8)))) cu)
   (bW (da (FT.dt (Ar (eN (hr.units) (bG (n:=0) (ai 8)) aK) (wJ (Aq (br Bg A5 A4 (hr.mono (by decide)) rfl (ae (ai 1) (ae (iY (ai 5) (S6 av) (λ_ _=>rfl)) (ae (bG (n:=1) (ai 8)) aq)))))))) (aP (bh (i:=9) bB.nd rfl (aai rfl) (bG (n:=2) (ai 8)))) cu)
   (bW (cU (La (js:=[false,true,true,true]) Cy Cs Cr (hr.mono (by decide)) rfl (ae (ai 8) (ae (ai 5) (ae (ai 4) (ae (ai 6) aq))))))
   (bW (da (Wn (ai 9) (ai 7)) (bW (da (eN (hr.units) (ai 3) av) (aP (cR (aU (ae (aU (ae aK aq)) (ae (ai 6) (ae av aq)))))) cu)
   (aP (bh (i:=3) bB.nd rfl (aai rfl) (Eg (ai 3) av)))) cu)
   (aP (bh (i:=7) bB.nd rfl (aai rfl) (ai 9)))))))))) (λR kk=>?_)
 walk_at "vc";refine Gm (λm env st=>∃(a:Nat) (s:WS) (b:Int) (o8 o9:Option DV),env=[some (.dat (.list (rows.map jm))),some (.dat (.list (ms.map λm=>AN m.1))),some (.dat (.list (cL ws))),some (.dat (.int b)),some (.ref 0),some (.ref 1),some (.ref 2),some (.dat (.int (a:Int))),o8,o9]/\st=[.live (cL s.bx),.live (cL s.sk),.live (cL s.sd)]/\p8 rows ms m a s b o) ⟨n,0,⟨[],ws++[0,0],[]⟩,bud,_,_,rfl,by unfold cL;rw[List.map_append];rfl,hW⟩ ?_;rintro m env st ⟨a,s,b,o8,o9,rfl,rfl,hm⟩
 cases m with
 | zero=>exact hm.elim
 | succ m =>
 rcases hm with⟨hr,sk,x,es,eo⟩ | ⟨r,s1,s2,goal,hr,hg,hd,l1,l2,hn⟩
 ·walk_at "vc";refine⟨_,jH hr,?_⟩;rw[show jm (.bare "give")=.tuple [.str "give"]from rfl];walk_at "vc";refine dj (kk _ _ ?_);clear kk R;refine fS (cR (aU (ae (aU (ae aK (ae (qu (ai 5)) aq))) (ae (ai 6) (ae (ai 3) aq))))) ?_;walk_at "vc";rw[es];refine⟨_,fk sk x,?_⟩;rw[eo]at q;exact q
 ·have hng:¬ kG r="give":=by
   cases hg with
   | els h=>exact λz=>h (by rw[z];decide +kernel)
   | jump=>show ¬ ("jump" : Str)="give";decide +kernel
   | zero=>show ¬ ("zero" : Str)="give";decide +kernel
   | kin _=>show ¬ ("kin" : Str)="give";decide +kernel
  walk_at "vs";refine⟨_,jH hr,?_⟩;rw[show jm r=.tuple (.str (kG r)::(Hm r).map PyData.int)from rfl];walk_at "vs";refine Gn (λ_=>?_) (λz=>absurd z hng);refine wN (λR1 k1=>?_);walk_at "vs";refine⟨_,jH hr,k1 _ _ ?_⟩;clear k1 R1;refine wN (λR1 k1=>?_);walk_at "vs";refine k1 _ _ ?_;clear k1 R1;refine Lb (λR1 k1=>?_)
  have fin:R1 [some (.dat (.list (rows.map jm))),some (.dat (.list (ms.map λm=>AN m.1))),some (.dat (.list (cL ws))),some (.dat (.int b)),some (.ref 0),some (.ref 1),some (.ref 2),some (.dat (.int (a:Int))),some (.dat (jm r)),some (.dat (.int (goal:Int)))] [.live (cL s1.bx),.live (cL s1.sk),.live (cL s1.sd)]:=by
   refine k1 _ _ ?_;clear k1 R1;refine wN (λR1 k1=>?_);walk_at "vs";refine⟨by decide,by decide,rfl,r,s1,s2,rfl,rfl,hd,l1,l2,rfl,rfl,?_⟩;rw[WS.cells];walk_at "vs";refine k1 _ _ ?_;clear k1 R1;refine wN (λR1 k1=>?_);walk_at "vc";refine eF (λz=>eF (λy=>?_) (λy=>k1 _ _ ?_)) (λz=>k1 _ _ ?_)
   ·rcases hn with⟨h,_⟩ | ⟨_,h,_⟩ | ⟨_,_,h⟩
    ·omega
    ·omega
    ·rw[h]at q;exact q
   ·rcases hn with⟨h,_⟩ | ⟨_,_,h⟩ | ⟨_,h,_⟩
    ·omega
    ·walk_at "vc";exact⟨m,ach _,goal,s2,_,_,_,rfl,rfl,h⟩
    ·exact absurd h y
   ·rcases hn with⟨_,h⟩ | ⟨h,_⟩ | ⟨h,_⟩
    ·walk_at "vc";exact⟨m,ach _,goal,s2,_,_,_,rfl,rfl,h⟩
    ·omega
    ·omega
  clear k1
  cases hg with
  | @jump t =>
   rw[show jm (.jump goal)=.tuple [.str "jump",.int (goal:Int)]from rfl]at fin ⊢;walk_at "vc";exact AY rfl (iJ (kH (by decide +kernel) (dj fin)))
  | @zero t sk bx sd x =>
   rw[show jm (.zero t)=.tuple [.str "zero",.int (t:Int)]from rfl]at fin ⊢;walk_at "vc";refine kH (by decide +kernel) (AY rfl ⟨_,fk sk x,?_⟩);rw[gY];walk_at "vc";refine eF (λz=>kH (by decide +kernel) (dj ?_)) (λz=>kH (by decide +kernel) (dj ?_))
   ·rw[aaq z]at fin;exact fin
   ·rw[aan z]at fin;exact fin
  | @kin c t x sk bx sd hx =>
   rw[show jm (.kin c t)=.tuple [.str "kin",.int (c:Int),.int (t:Int)]from rfl]at fin ⊢;walk_at "vc";refine kH (by decide +kernel) (kH (by decide +kernel) (dj (AY rfl ⟨_,Hu sk x,ms,x,c,rfl,hw,hx,?_⟩)));refine eF (λz=>?_) (λz=>?_)
   ·rw[aaq z]at fin;exact fin
   ·rw[aan z]at fin;exact fin
  | els h =>
   rw[show jm r=.tuple (.str (kG r)::(Hm r).map PyData.int)from rfl]at fin ⊢;walk_at "vc";exact kH (λz=>h (by rw[z];decide +kernel)) (kH (λz=>h (by rw[z];decide +kernel)) (dj (kH (λz=>h (by rw[z];decide +kernel)) (dj fin))))
theorem yS:aA ["self","value"] ["self","value"] (dS kW):=by walk_at "sc"
theorem yT{f:Addr}{fd:FuncData}(F:er K "bare" "Plain.bare" kW f fd){ab:Addr}(aj:ah K ab){C:Addr}(ac:au K C):bp P w K mg base aM 1 f fd ["self","value"] (i6 K false):=by
 refine F.ok yS (λvs H Q E h=>?_) (λcdv A outer s H vs Q E hr h=>?_)
 ·obtain⟨x,v,y,rfl,hv,hy,q⟩:=h;rfl
 obtain⟨x,v,y,rfl,hv,hy,q⟩:=h;refine⟨_,(qO (aE (pv 1))),?_⟩;have e:v=.int (iy y):=hv;subst e;exact⟨_,rfl,q⟩
theorem wk:aA ["self","value"] ["self","value"] (dS ji):=by walk_at "sc"
theorem wm{f:Addr}{fd:FuncData}(F:er K "bare" "Watched.bare" ji f fd){ab:Addr}(aj:ah K ab){C:Addr}(ac:au K C):bp P w K mg base aM 1 f fd ["self","value"] (i6 K true):=by
 refine F.ok wk (λvs H Q E h=>?_) (λcdv A outer s H vs Q E hr h=>?_)
 ·obtain⟨x,v,y,rfl,hv,hy,q⟩:=h;rfl
 obtain⟨x,v,y,rfl,hv,hy,q⟩:=h;refine⟨_,(qO (aE (az aB (pv 1) pI (λ_ _=>rfl)))),?_⟩
 cases y with
 | none=>exact absurd rfl hy
 | num w =>
  obtain⟨t,rfl,ht⟩:=EA hv;exact⟨_,rfl,t,_,_,_,rfl,rfl,ht,aN (j:=1) rfl,q⟩
 | rcd n =>
  obtain⟨t,rfl,ht⟩:=EC hv;exact⟨_,rfl,t,_,_,_,rfl,rfl,ht,aN (j:=1) rfl,q⟩
theorem gZ:aA ["self","frame","value","beneath"] ["self","frame"] (dS iK):=by walk_at "sc"
theorem kz{f:Addr}{fd:FuncData}(F:er K "do_give" "Plain.do_give" iK f fd)(bX:mg "len"=none){ab:Addr}(aj:ah K ab){C:Addr}{wt:Bool}(ac:au K C)(eY:bH P w K mg base aM C "bare" 1 ["self","value"] (i6 K wt)):bp P w K mg base aM 2 f fd ["self","frame"] (lD K ab C wt):=by
 refine F.ok gZ (λvs H Q E h=>?_) (λcdv A outer s H vs Q E hr h=>?_)
 ·obtain⟨mm,fs,fr,st,x,rfl,hM,hf',hst,hn,qb,Vk,q⟩:=h;rfl
 obtain⟨mm,fs,fr,st,x,rfl,hM,hf',hst,hn,qb,Vk,q⟩:=h;refine⟨_,(qK (bI (i:=2) gZ.nd rfl (aai rfl) (iI aae aaJ aaK jg (aO (pv 1) rfl)))
   (qK (bC (iI aae aaJ aaK jg (aO (pv 0) rfl)))
   (qK (bg (tR bK (bP bD rfl bX gJ (pK (aO (pv 0) rfl) pN)) pI (aH _)) (qK (cP (pv 0) (cw (pK aV (pK (c9 (pv 0) eY bV (hr.mono (by decide)) (pK (pv 2) pN)) pN))) rfl)
   (qO FF)) aX)
   (qK (bI (i:=3) gZ.nd rfl (aai rfl) (az bj (aO (pv 0) rfl) (rO kL pI) (λ_ _=>rfl)))
   (qK (bC (kq aae aaA aaB cj (aO (pv 3) rfl) (pK (pv 2) pN)))
   (qO (cP (pv 3) (aT gF (aO (pv 3) rfl) pI) rfl))))))),?_⟩
 have hF:=hM.last hf';obtain⟨⟨fdx,f1⟩,⟨bys,f2,f3⟩,⟨sys,f4,f5⟩,fne⟩:=id hF;have ff:=jK hf';rw[hst]at f5;obtain⟨zs,y,rfl,hz,hv⟩:=f5.lastOf;refine⟨_,rfl,fr.fa,ab,fdx,_,_,rfl,f1,aj.cl,aj.ig,fY,.inl ⟨rfl,_,bt.of f4⟩,fr.sl,_,y,rfl,rfl,f4,ij,?_⟩;rw[List.dropLast_concat];obtain⟨a1,a2⟩:=hF.iz (aF.refl H) hz;have M1:=hM.top hf' (f':={fr with st:=st}) rfl rfl rfl a2 a1;have ef:=eP (f':={fr with st:=st}) hf' rfl rfl rfl;have kx:aC [fr.sl] H (upd H fr.sl (.lst zs)):=aY;have mu:bq H [fr.sl]:=hF.rK.sub (λc hc=>by rw[bN hc];simp[gC]);have yB:=hv.keep kx mu;have K1:=a2.sub ff;generalize upd H fr.sl (.lst zs)=H1 at M1 yB K1 ⊢;obtain⟨mdx,ev,m1,m2⟩:=M1.ob
 have L1:H1 mm.lv=some (.lst ((fs.map λf=>V.ref f.fa)++[.ref fr.fa])):=by
  have z:=M1.lv;rw[aaU]at z;exact z
 refine⟨_,rfl,mm.ma,C,mdx,_,_,rfl,m1,ac.cl,ac.um,sC,.inl ⟨rfl,_,bt.of L1⟩,mm.lv,_,_,rfl,rfl,L1,ij,?_⟩;rw[aaZ];obtain⟨M2,Pm⟩:=M1.cut (fs:=fs) (gs:=[{fr with st:=st}]) rfl (H':=upd H1 mm.lv (.lst (fs.map λf=>V.ref f.fa))) aY uS;have DB:aC [mm.lv] H1 (upd H1 mm.lv (.lst (fs.map λf=>V.ref f.fa))):=aY;have PD:bq H1 [mm.lv]:=M1.rK.sub (λc hc=>by rw[bN hc];exact cf.2.1);have ZC:=yB.keep DB PD;have K2:aC (foot mm) H (upd H1 mm.lv (.lst (fs.map λf=>V.ref f.fa))):=K1.trans (DB.sub (λc hc=>by rw[bN hc];exact cf.2.1));have Ua:∀c∈foot {mm with bT:=fs},c∈foot mm:=λc hc=>by have:=Pm c hc;rw[ef]at this;exact this
 generalize upd H1 mm.lv (.lst (fs.map λf=>V.ref f.fa))=H2 at M2 ZC K2 ⊢;obtain⟨ndx,nev,n1,n2⟩:=id M2.ob;refine⟨_,rfl,mm.ma,C,ndx,_,_,rfl,n1,ac.cl,ac.um,sC,mm.lv,_,rfl,.inl (bt.of M2.lv),rfl,_,rfl,?_⟩;rcases acY fs with rfl | ⟨gs,g,rfl⟩
 ·refine pG rfl ?_;refine⟨_,rfl,mm.ma,ndx,_,rfl,n1,mc_no (by decide +kernel),_,rfl,_,y,x,rfl,ZC,hn rfl,GQ,λt ht=>?_⟩;have u3:=sN ht (.tup [.str "gave",.int (iy x)]);have T3:bu K (upd H2 t (.tup [.str "gave",.int (iy x)])) t [.str "gave",.int (iy x)]:=bu.of uS;have M3:=M2.same u3;have K3:=K2.trans (cC u3);have n1':=u3 _ _ n1;generalize upd H2 t (.tup [.str "gave",.int (iy x)])=H3 at u3 T3 M3 K3 n1' ⊢;refine⟨_,rfl,mm.ma,C,ndx,_,rfl,n1',ac.cl,ac.xw,AX,?_⟩;rw[ur];have X1:bq H3 [mm.ma]:=M3.rK.sub (λc hc=>by rw[bN hc];exact cf.1);have ZD:aC [mm.ma] H3 (upd H3 mm.ma (.ins C ndx (rL mm.b mm.lv mm.rc mm.sd mm.left (.ref t)))):=aY;exact q {mm with bT:=[],fin:=[.inl "gave",.inr (iy x)]} _ rfl ⟨rfl,rfl⟩ (M3.own ZD uS (.inr ⟨(by simp),t,rfl,bu.keep ZD X1 T3⟩)) (λc hc=>.inl (Ua c hc)) (K3.trans (aC.sub ZD (λc hc=>by rw[bN hc];exact cf.1)))
 ·rw[List.concat_eq_append]at *;refine dk (λe=>?_) ?_
  ·have:=V.int.inj e;simp at this;omega
  dsimp only[iu]
  have L2':H2 mm.lv=some (.lst ((gs.map λf=>V.ref f.fa)++[.ref g.fa])):=by
   have z:=M2.lv;rw[aaU]at z;exact z
  refine⟨_,rfl,mm.ma,C,ndx,_,_,rfl,n1,ac.cl,ac.um,sC,_,rfl,mm.lv,_,_,_,rfl,rfl,bt.of L2',dN,?_⟩;have F2:=M2.last (fs:=gs) (f:=g) rfl;obtain⟨⟨gdx,g1⟩,_,⟨gys,g4,g5⟩,gne⟩:=id F2;have lg:gys.length<=1000:=by rw[g5.1];exact qb g (by simp)
  refine⟨_,rfl,g.fa,ab,gdx,_,_,rfl,g1,aj.cl,aj.ig,fY,.inl ⟨rfl,_,bt.of g4⟩,_,rfl,g.sl,_,y,rfl,rfl,g4,sK lg,?_⟩;obtain⟨b1,b2⟩:=F2.iz (aF.refl H2) (g5.snoc ZC);have M3:=M2.top (fs:=gs) (f:=g) (f':={g with st:=g.st++[x]}) rfl rfl rfl rfl b2 b1;have e3:=eP (m:={mm with bT:=gs++[g]}) (fs:=gs) (f:=g) (f':={g with st:=g.st++[x]}) rfl rfl rfl rfl;have fg:∀c∈gC g,c∈foot mm:=λc hc=>Ua c (jK (m:={mm with bT:=gs++[g]}) (fs:=gs) (f:=g) rfl c hc)
  have K3:=K2.trans (b2.sub fg);generalize upd H2 g.sl _=H3 at M3 K3 ⊢;have F3:=M3.last (fs:=gs) rfl;obtain⟨⟨hdx,i1⟩,_⟩:=id F3;refine⟨_,rfl,g.fa,ab,hdx,_,_,rfl,i1,aj.cl,aj.pJ,uZ,_,_,rfl,rfl,_,rfl,g.fa,ab,hdx,_,rfl,i1,aj.cl,aj.pJ,qI,?_⟩;rw[jo];obtain⟨c1,c2⟩:=F3.setAt (dx:=hdx) (a:=g.at' + 1);have M4:=M3.top (fs:=gs) (f:={g with st:=g.st++[x]}) (f':={g with st:=g.st++[x],at':=g.at' + 1}) rfl rfl rfl rfl c2 c1;have e4:=eP (m:={mm with bT:=gs++[{g with st:=g.st++[x]}]}) (fs:=gs) (f:={g with st:=g.st++[x]}) (f':={g with st:=g.st++[x],at':=g.at' + 1}) rfl rfl rfl rfl;refine q {mm with bT:=gs++[{g with st:=g.st++[x],at':=g.at' + 1}]} _ ?_ ⟨rfl,rfl⟩ M4 (λc hc=>.inl (Ua c (by rw[e4,e3]at hc;exact hc))) (K3.trans (c2.sub fg));unfold Gz Mc.pm;simp[Fm.pf]
theorem xS:aA ["self"] ["self"] (dS j0):=by walk_at "sc"
theorem m5{f:Addr}{fd:FuncData}(F:er K "spend" "Plain.spend" j0 f fd){ab:Addr}(aj:ah K ab){C:Addr}{wt:Bool}(ac:au K C):bp P w K mg base aM 1 f fd ["self"] (sM K ab C wt):=by
 refine F.ok xS (λvs H Q E h=>?_) (λcdv A outer s H vs Q E hr h=>?_)
 ·obtain⟨mm,rfl,hM,q1,q2⟩:=h;rfl
 obtain⟨mm,rfl,hM,q1,q2⟩:=h;refine⟨_,(qK (bg (tR JT (aO (pv 0) rfl) pI (aH _)) (qK (cP (pv 0) (cw (pK aV pN)) rfl)
   (qO (aE uR))) aX)
   (qK (cP (pv 0) (aT gH (aO (pv 0) rfl) pI) rfl)
   (qO (aE uR)))),?_⟩
 obtain⟨dx,ev,h1,h2⟩:=hM.ob;have mu:bq H [mm.ma]:=hM.rK.sub (λc hc=>by rw[bN hc];exact cf.1);refine⟨_,rfl,mm.ma,C,dx,_,_,rfl,h1,ac.cl,ac.xv,AW,_,_,rfl,rfl,_,rfl,BQ (λz=>?_) (λz=>?_)⟩
 ·have z':mm.left<=0:=aa1 z;refine⟨Nn,λt ht=>?_⟩;have s1:=sN ht (.tup [.str "weary"]);have g1:bu K (upd H t (.tup [.str "weary"])) t [.str "weary"]:=bu.of uS;have M1:=hM.same s1;have WL:=mu.same s1;have h1':=s1 _ _ h1;generalize upd H t _=H1 at s1 g1 M1 WL h1' ⊢;refine⟨_,rfl,mm.ma,C,dx,_,rfl,h1',ac.cl,ac.xw,AX,?_⟩;rw[ur];have kx:aC [mm.ma] H1 (upd H1 mm.ma (.ins C dx (rL mm.b mm.lv mm.rc mm.sd mm.left (.ref t)))):=aY;exact q2 z' _ (M1.own kx uS (.inr ⟨(λz=>nomatch z),t,rfl,bu.keep kx WL g1⟩)) ((cC s1).trans kx)
 ·have z':0 < mm.left:=by
   have:¬ mm.left<=0:=λe=>z (aaM e)
   omega
  dsimp only[iu];refine⟨_,rfl,mm.ma,C,dx,_,_,rfl,h1,ac.cl,ac.xv,AW,_,_,rfl,rfl,_,rfl,mm.ma,C,dx,_,rfl,h1,ac.cl,ac.xv,AX,?_⟩;rw[EH];have kx:aC [mm.ma] H (upd H mm.ma (.ins C dx (rL mm.b mm.lv mm.rc mm.sd (mm.left - 1) ev))):=aY;exact q1 z' _ (hM.own kx uS (h2.keep kx mu)) kx
theorem xT:aA ["self","frame","at"] ["self","frame","at"] (dS j1):=by walk_at "sc"
theorem m6{f:Addr}{fd:FuncData}(F:er K "go_on" "Plain.go_on" j1 f fd){ab:Addr}(aj:ah K ab){C:Addr}{wt:Bool}(ac:au K C)(Lz:bH P w K mg base aM C "spend" 1 ["self"] (sM K ab C wt)):bp P w K mg base aM 2 f fd ["self","frame","at"] (sO K ab C wt):=by
 refine F.ok xT (λvs H Q E h=>?_) (λcdv A outer s H vs Q E hr h=>?_)
 ·obtain⟨mm,fs,f',t,rfl,hM,hf,q⟩:=h;rfl
 obtain⟨mm,fs,f',t,rfl,hM,hf,q⟩:=h;refine⟨_,(qO (bg (PW.pt (pw_or (tR Rq (pv 2) (aO (pv 1) rfl) (aH _)) (pw_or1 (wY (An (pv 0) Lz bV (hr.mono (by decide))))))) (qO (cP (pv 1) (pv 2) rfl)) aX)),?_⟩;have hF:=hM.last hf;obtain⟨⟨fdx,f1⟩,_⟩:=id hF;obtain⟨mdx,ev,m1,m2⟩:=id hM.ob;have ff:=jK hf;have ep:(f'.pf).at'=f'.at':=rfl;have el:(mm.pm).left=mm.left:=rfl;refine⟨_,rfl,_,rfl,f'.fa,ab,fdx,_,_,rfl,f1,aj.cl,aj.pJ,uZ,_,_,rfl,rfl,_,rfl,BQ (λz=>?_) (λz=>?_)⟩
 ·have z':f'.at' < t:=by have:=aa1 z;omega
  refine iJ ?_;refine⟨_,rfl,_,rfl,f'.fa,ab,fdx,_,rfl,f1,aj.cl,aj.pJ,qI,?_⟩;rw[jo];obtain⟨c1,c2⟩:=hF.setAt (dx:=fdx) (a:=t);have M1:=hM.top hf (f':={f' with at':=t}) rfl rfl rfl c2 c1;refine q {mm with bT:=fs++[{f' with at':=t}]} _ ?_ ⟨rfl,rfl⟩ M1 (λc hc=>.inl (by rw[eP (f':={f' with at':=t}) hf rfl rfl rfl]at hc;exact hc)) (c2.sub ff);rw[qL];unfold ND;rw[if_pos (by rw[ep];exact z')];rfl
 ·have z':¬ f'.at' < t:=λe=>z (aaM (by omega))
  refine⟨_,rfl,mm.ma,mdx,_,rfl,m1,mc_no (by decide +kernel),mm,rfl,hM,λhl H1 M1 k1=>?_,λhl H1 M1 k1=>?_⟩
  ·have K1:aC (foot mm) H H1:=k1.sub (λc hc=>by rw[bN hc];exact cf.1);refine⟨_,rfl,iJ ?_⟩;have F1:=M1.last hf;obtain⟨⟨gdx,g1⟩,_⟩:=id F1;refine⟨_,rfl,_,rfl,f'.fa,ab,gdx,_,rfl,g1,aj.cl,aj.pJ,qI,?_⟩;rw[jo];obtain⟨c1,c2⟩:=F1.setAt (dx:=gdx) (a:=t);have M2:=M1.top hf (f':={f' with at':=t}) rfl rfl rfl c2 c1;refine q {mm with bT:=fs++[{f' with at':=t}],left:=mm.left - 1} _ ?_ ⟨rfl,rfl⟩ M2 (λc hc=>.inl (by have e:=eP (m:={mm with left:=mm.left - 1}) (f':={f' with at':=t}) hf rfl rfl rfl;rw[e]at hc;exact hc)) (K1.trans (c2.sub ff));show({mm with left:=mm.left - 1,bT:=fs++[{f' with at':=t}]}:Mc).pm=_;rw[qL (m:={mm with left:=mm.left - 1})];unfold ND;rw[if_neg (by rw[ep];exact z'),if_pos (by rw[el];exact hl)];rfl
  ·have K1:aC (foot mm) H H1:=k1.sub (λc hc=>by rw[bN hc];exact cf.1);refine⟨_,rfl,dj ?_⟩;refine q {mm with fin:=[.inl "weary"]} _ ?_ ⟨rfl,rfl⟩ M1 (λc hc=>.inl hc) K1;unfold ND;rw[if_neg (by rw[ep];exact z'),if_neg (by rw[el];omega)];show({mm with fin:=[.inl "weary"]}:Mc).pm=_;unfold Mc.pm;simp[hf]
theorem lH:aA ["makes","c","elders"] ["makes","c"] (dS mP):=by walk_at "sc"
theorem Bh{f:Addr}{fd:FuncData}(F:er K "elders_of" "elders_of" mP f fd){ab:Addr}(aj:ah K ab):bp P w K mg base aM 1 f fd ["makes","c"] (i7 K):=by
 refine F.ok lH (λvs H Q E h=>?_) (λcdv A outer s H vs Q E hr h=>?_)
 ·obtain⟨a,ms,c,rfl,hM,hw,hc,q⟩:=h;rfl
 obtain⟨a,ms,c,rfl,hM,hw,hc,q⟩:=h;refine⟨_,(qK (bI (i:=2) lH.nd rfl (aai rfl) (dD pN))
   (qK (w8 aaR (tR wG (pv 1) je (aH _)) (qK (bC (kq aae aaA aaB cj (pv 2) (pK (pv 1) pN)))
   (qO (bI (i:=1) lH.nd rfl (aai rfl) (az aB (az bj (pv 0) (pv 1) (λ_ _=>rfl)) pI (λ_ _=>rfl))))))
   (qO (aE (pv 2))))),?_⟩
 refine⟨Vh,λr hr'=>?_⟩;refine JP (λσ H2=>∃(cur:Option Nat) (pre:List Nat),σ=[some (.ref a),some (Tq cur),some (.ref r)]/\aF H H2/\H2 r=some (.lst (mn pre))/\(∀j,cur=some j->j < ms.length)/\pre++rest ms cur=bc ms c)
  (λ(σ:St) (_:Hp)=>match σ[1]? with | some (some (V.int j))=>j.toNat + 1 | _=>0) ⟨some c,[],rfl,λb o e=>by rw[uN (nN e hr')];exact e,uS,λj hj=>by cases hj;exact hc,rfl⟩ ?_ ?_
 ·rintro σ H2 ⟨cur,pre,rfl,sm,Vu,hj,he⟩
  cases cur with
  | none =>
   refine⟨_,rfl,rfl,_,rfl,dj ?_⟩;have e':pre=bc ms c:=by rw[← he];simp[rest]
   rw[e']at Vu;exact⟨_,rfl,q r H2 sm hr' Vu⟩
  | some j =>
   refine⟨_,rfl,rfl,_,rfl,iJ ?_⟩;have hjl:=hj j rfl
   have hlen:(mn pre).length < sizeLine:=by
    have h1:=(px hw c hc).1;have h2:(pre++rest ms (some j)).length=(bc ms c).length:=by rw[he]
    have h3:=hw.few;rw[aaG]at h2;rw[aah];exact sK (by omega)
   refine⟨_,rfl,.inl ⟨rfl,_,bt.of Vu⟩,_,rfl,r,_,_,rfl,rfl,Vu,hlen,?_⟩;have Ub:aF H (upd H2 r (.lst (mn pre++[.int (j:Int)]))):=λb o e=>by rw[uN (nN e hr')];exact sm b o e
   obtain⟨xs,hS,hI⟩:=hM.same Ub;obtain⟨m,hm,hel,hlt⟩:=hw.el hjl;have hxl:j < xs.length:=by rw[hI.1];exact hjl
   obtain⟨t,l,ks,hx,ht,_⟩:=hI.2 j _ m (dh hxl) hm;refine⟨_,rfl,_,rfl,a,xs,_,_,rfl,rfl,hS,aN (dh hxl),t,_,_,_,hx,rfl,ht,aN (j:=0) rfl,?_⟩;refine⟨⟨m.1,pre++[j],rfl,Ub,?_,λi hi=>?_,?_⟩,?_⟩
   ·rw[uS];show _=some (HO.lst (List.map _ (pre++[j])));rw[aaU];rfl
   ·have:=hlt i hi;omega
   ·rw[← he];show(pre++[j])++rest ms m.1=pre++bc ms j;rw[dJ hw hjl,hel];simp
   ·show(match (some (some (Tq m.1)):Option (Option V))with | some (some (V.int j))=>j.toNat + 1 | _=>0) < ((j:Int).toNat + 1)
    cases e:m.1 with
    | none=>show 0 < _;omega
    | some i =>
     have:=hlt i e;show(i:Int).toNat + 1 < _;omega
 ·rintro σ H2 Q1 Q2 f ⟨v,e1,e2,k,e3,q1⟩;exact⟨v,e1,e2,k,e3,f _ _ q1⟩
theorem Cz:aA ["makes","c","other"] ["makes","c","other"] (dS qA):=by walk_at "sc"
theorem CA{f:Addr}{fd:FuncData}(F:er K "is_under" "is_under" qA f fd){ab:Addr}(aj:ah K ab)(m7:cT P w K mg base aM "elders_of" 1 ["makes","c"] (i7 K)):bp P w K mg base aM 2 f fd ["makes","c","other"] (jQ K):=by
 refine F.ok Cz (λvs H Q E h=>?_) (λcdv A outer s H vs Q E hr h=>?_)
 ·obtain⟨a,ms,c,o,rfl,hM,hw,hc,q⟩:=h;rfl
 obtain⟨a,ms,c,o,rfl,hM,hw,hc,q⟩:=h;refine⟨_,(qO (aE (kM ko (pv 2) (cg m7 (hr.mono (by decide)) rfl (pK (pv 0) (pK (pv 1) pN))) rfl))),?_⟩;refine⟨_,rfl,_,rfl,_,rfl,a,ms,c,rfl,hM,hw,hc,λr H2 sm _ Vu=>?_⟩;refine⟨r,_,rfl,.inl (bt.of Vu),rfl,zt _,?_⟩;show Q (.bl (J5 (.int (o:Int)) (mn (bc ms c)))) H2;rw[Ca];exact q H2 sm
theorem qc:aA ["self","stack","row","record"] ["self","stack","row"] (dS kY):=by walk_at "sc"
theorem qd{f:Addr}{fd:FuncData}(F:er K "goes" "Plain.goes" kY f fd){ab:Addr}(aj:ah K ab){C:Addr}{wt:Bool}(ac:au K C)(qT:cT P w K mg base aM "is_under" 2 ["makes","c","other"] (jQ K))(eY:bH P w K mg base aM C "bare" 1 ["self","value"] (i6 K wt)):bp P w K mg base aM 3 f fd ["self","stack","row"] (wQ K ab C wt):=by
 refine F.ok qc (λvs H Q E h=>?_) (λcdv A outer s H vs Q E hr h=>?_)
 ·obtain⟨mm,fs,f',g,r,rt,t,b,rfl,hM,hf,hR,hw,hG,q⟩:=h;rfl
 obtain⟨mm,fs,f',g,r,rt,t,b,rfl,hM,hf,hR,hw,hG,q⟩:=h;refine⟨_,(qK (bg (tR bK (az aB (pv 2) pI (λ_ _=>rfl)) aV (aH _)) (qO (aE (kM bK (c9 (pv 0) eY bV (hr.mono (by decide)) (pK (iI aae aaJ aaK jg (pv 1)) pN)) pI (aH _)))) aX)
   (qK (bg (tR bK (az aB (pv 2) pI (λ_ _=>rfl)) aV (aH _)) (qK (bI (i:=3) qc.nd rfl (aai rfl) (az bj (aO (pv 0) rfl) (c9 (pv 0) eY bV (hr.mono (by decide)) (pK (az bj (pv 1) (rO kL pI) (λ_ _=>rfl)) pN)) (λ_ _=>rfl)))
   (qO (aE (cg qT (hr.mono (by decide)) rfl (pK (az aB (aO (pv 0) rfl) pI (λ_ _=>rfl)) (pK (az aB (pv 3) pI (λ_ _=>rfl)) (pK (az aB (pv 2) pI (λ_ _=>rfl)) pN))))))) aX)
   (qO (aE uR)))),?_⟩
 have hF:=hM.last hf;obtain⟨⟨fdx,f1⟩,⟨bys,f2,f3⟩,⟨sys,f4,f5⟩,fne⟩:=id hF;obtain⟨mdx,ev,m1,m2⟩:=id hM.ob;obtain⟨mk,pl,xs,hb⟩:=hM.bk;have M0:∀{H'},aF H H'->bQ K H' ab C wt {mm with bT:=fs++[f']}:=λs=>by rw[← hf];exact hM.same s
 refine⟨_,rfl,rt,_,_,_,rfl,rfl,hR,aN (j:=0) rfl,rfl,_,rfl,?_⟩
 cases hG with
 | jump =>
  refine dk (show ¬ V.str "jump"=V.str "zero" by decide +kernel) ?_;dsimp only[iu];refine⟨_,rfl,rt,_,_,_,rfl,rfl,hR,aN (j:=0) rfl,rfl,_,rfl,?_⟩;refine dk (show ¬ V.str "jump"=V.str "kin" by decide +kernel) ?_;dsimp only[iu];exact q f' H rfl rfl rfl rfl (M0 (aF.refl H)) aC.refl
 | zero hst hn =>
  rename_i st x;refine pG rfl ?_;have hst':f'.st=st++[x]:=hst;rw[hst']at f5;obtain⟨zs,y,rfl,hz,hv⟩:=f5.lastOf;refine⟨_,rfl,mm.ma,mdx,_,rfl,m1,mc_no (by decide +kernel),_,rfl,.inl ⟨rfl,_,bt.of f4⟩,f'.sl,_,y,rfl,rfl,f4,ij,?_⟩;rw[List.dropLast_concat];obtain⟨a1,a2⟩:=hF.iz (aF.refl H) hz;have M1:=hM.top hf (f':={f' with st:=st}) rfl rfl rfl a2 a1;have kx:aC [f'.sl] H (upd H f'.sl (.lst zs)):=aY;have mu:bq H [f'.sl]:=hF.rK.sub (λc hc=>by rw[bN hc];simp[gC]);have yB:=hv.keep kx mu;refine⟨_,y,x,rfl,yB,hn,rfl,?_⟩;rw[show decide (V.int (iy x)=V.int 0)=decide (iy x=0)from decide_eq_decide.mpr ⟨λe=>V.int.inj e,λe=>by rw[e]⟩];exact q {f' with st:=st} _ rfl rfl rfl rfl M1 a2
 | kin hst hr' hc =>
  rename_i c n st r;refine dk (show ¬ V.str "kin"=V.str "zero" by decide +kernel) ?_;dsimp only[iu];refine⟨_,rfl,rt,_,_,_,rfl,rfl,hR,aN (j:=0) rfl,rfl,_,rfl,?_⟩;refine pG rfl ?_;have hst':f'.st=st++[.rcd n]:=hst;rw[hst']at f5;obtain⟨zs,y,rfl,hz,hv⟩:=f5.lastOf;obtain⟨rys,g1,g2⟩:=hM.rc;obtain⟨rv,hrv,rt',ft,fys,rfl,hT,hFt,hV⟩:=g2.at hr'
  have ZE:∃rest,bu K H rt' (.int (r.c:Int)::rest):=by
   cases wt with
   | true=>exact⟨_,hT⟩
   | false=>exact⟨_,hT⟩
  obtain⟨rest,ZE⟩:=ZE;obtain⟨hB,hMk,_,_⟩:=hb H aC.refl;refine⟨_,rfl,mm.ma,C,mdx,_,_,rfl,m1,ac.cl,ac.cz,fZ,_,rfl,mm.ma,mdx,_,rfl,m1,mc_no (by decide +kernel),_,rfl,_,rfl,f'.sl,_,_,_,rfl,rfl,bt.of f4,dN,_,y,.rcd n,rfl,hv,(λz=>nomatch z),mm.rc,_,_,_,rfl,rfl,bt.of g1,aN hrv,?_⟩;exact⟨_,rfl,mm.ma,C,mdx,_,_,rfl,m1,ac.cl,ac.ll,jJ,mm.b,_,_,_,rfl,rfl,hB,aN (j:=0) rfl,_,rfl,rt',_,_,_,rfl,rfl,ZE,aN (j:=0) rfl,_,rfl,rt,_,_,_,rfl,rfl,hR,aN (j:=1) rfl,mk,mm.ms,r.c,c,rfl,hMk,hw,hc,λH' s=>q f' H' rfl rfl rfl rfl (M0 s) (cC s)⟩
theorem sU:aA ["self","frame","row"] ["self","frame","row"] (dS gL):=by walk_at "sc"
theorem jT{f:Addr}{fd:FuncData}(F:er K "do_going" "Plain.do_going" gL f fd){ab:Addr}(aj:ah K ab){C:Addr}{wt:Bool}(ac:au K C)(LA:bH P w K mg base aM C "go_on" 2 ["self","frame","at"] (sO K ab C wt))(PH:bH P w K mg base aM C "goes" 3 ["self","stack","row"] (wQ K ab C wt)):bp P w K mg base aM 4 f fd ["self","frame","row"] (jR K ab C wt):=by
 refine F.ok sU (λvs H Q E h=>?_) (λcdv A outer s H vs Q E hr h=>?_)
 ·obtain⟨mm,fs,f',g,r,rt,t,b,rfl,hM,hf,hR,hw,hG,q⟩:=h;rfl
 obtain⟨mm,fs,f',g,r,rt,t,b,rfl,hM,hf,hR,hw,hG,q⟩:=h;refine⟨_,(qO (bg (wY (c9 (pv 0) PH bV (hr.mono (by decide)) (pK (aO (pv 1) rfl) (pK (pv 2) pN)))) (qO (bC (c9 (pv 0) LA bV (hr.mono (by decide)) (pK (pv 1) (pK (az aB (pv 2) (rO kL pI) (λ_ _=>rfl)) pN))))) (qO (cP (pv 1) (aT gF (aO (pv 1) rfl) pI) rfl)))),?_⟩;have hF:=hM.last hf;obtain⟨⟨fdx,f1⟩,⟨bys,f2,f3⟩,⟨sys,f4,f5⟩,fne⟩:=id hF;obtain⟨mdx,ev,m1,m2⟩:=id hM.ob;have ff:=jK hf;have mu:=hM.rK
 have hlast:pF (Le r) (-1)=some (.int (t:Int)):=by
  cases hG with
  | jump=>exact dN (l:=[.str "jump"])
  | zero _ _=>exact dN (l:=[.str "zero"])
  | kin _ _ _=>exact dN (l:=[.str "kin",.int _])
 refine⟨_,rfl,mm.ma,mdx,_,rfl,m1,mc_no (by decide +kernel),_,rfl,f'.fa,ab,fdx,_,_,rfl,f1,aj.cl,aj.ig,fY,_,rfl,mm,fs,f',g,r,rt,t,b,rfl,hM,hf,hR,hw,hG,λf2' H1 e0 e1 e2 e3 M1 k1=>⟨_,rfl,?_⟩⟩;have K1:aC (foot mm) H H1:=k1.sub ff;have ef:=eP (f':=f2') hf e1 e2 e3;obtain⟨ndx,nev,n1,n2⟩:=id M1.ob;have pe:({mm with bT:=fs++[f2']}:Mc).pm={mm.pm with bT:=fs.map Fm.pf++[g]}:=by rw[qL,e0]
 cases b with
 | true =>
  refine iJ ?_;refine⟨_,rfl,mm.ma,ndx,_,rfl,n1,mc_no (by decide +kernel),_,rfl,_,rfl,_,rfl,rt,_,_,_,rfl,rfl,bu.keep k1 hF.rK hR,hlast,{mm with bT:=fs++[f2']},fs,f2',t,(by rw[e1];rfl),M1,rfl,λm' H' p1 p2 p3 p4 p5=>?_⟩;refine q m' H' ?_ p2 p3 (λc hc=>?_) (K1.trans (by rw[ef]at p5;exact p5))
  ·rw[p1,pe,e0];rfl
  ·rcases p4 c hc with z | z
   ·rw[ef]at z;exact .inl z
   ·by_cases hc':c∈foot mm
    ·exact .inl hc'
    ·refine .inr ?_
     cases hh:H c with
     | none=>rfl
     | some o=>rw[K1 c o hc' hh]at z;cases z
 | false =>
  refine dj ?_;have F1:=M1.last rfl;obtain⟨⟨gdx,g1⟩,_⟩:=id F1;refine⟨_,rfl,f2'.fa,ab,gdx,_,_,by rw[e1],g1,aj.cl,aj.pJ,uZ,_,_,rfl,rfl,_,rfl,f2'.fa,ab,gdx,_,by rw[e1],g1,aj.cl,aj.pJ,qI,?_⟩;rw[jo];obtain⟨c1,c2⟩:=F1.setAt (dx:=gdx) (a:=f2'.at' + 1);have M2:=M1.top (fs:=fs) (f:=f2') (f':={f2' with at':=f2'.at' + 1}) rfl rfl rfl rfl c2 c1;have ft:∀c∈gC f2',c∈foot mm:=λc hc=>ff c (by unfold gC at hc ⊢;rw[e1,e2,e3]at hc;exact hc)
  refine q {mm with bT:=fs++[{f2' with at':=f2'.at' + 1}]} _ ?_ ⟨rfl,rfl⟩ M2 (λc hc=>.inl ?_) (K1.trans (c2.sub ft))
  ·show({mm with bT:=fs++[{f2' with at':=f2'.at' + 1}]}:Mc).pm=_;rw[qL,← e0];rfl
  ·have:=eP (m:={mm with bT:=fs++[f2']}) (fs:=fs) (f:=f2') (f':={f2' with at':=f2'.at' + 1}) rfl rfl rfl rfl;rw[this,ef]at hc;exact hc
theorem sV:aA ["self","record"] ["self","record"] (dS gM):=by walk_at "sc"
theorem sW{f:Addr}{fd:FuncData}(F:er K "as_begun" "Plain.as_begun" gM f fd){ab:Addr}(aj:ah K ab){C:Addr}(ac:au K C):bp P w K mg base aM 1 f fd ["self","record"] (iD K false):=by
 refine F.ok sV (λvs H Q E h=>?_) (λcdv A outer s H vs Q E hr h=>?_)
 ·obtain⟨x,v,r,rfl,hv,q⟩:=h;rfl
 obtain⟨x,v,r,rfl,hv,q⟩:=h;refine⟨_,(qO (aE (pv 1))),?_⟩;exact⟨_,rfl,q v H (aF.refl H) hv⟩
theorem pL:aA ["self","record"] ["self","record"] (dS fe):=by walk_at "sc"
theorem pM{f:Addr}{fd:FuncData}(F:er K "as_begun" "Watched.as_begun" fe f fd){ab:Addr}(aj:ah K ab){C:Addr}(ac:au K C):bp P w K mg base aM 1 f fd ["self","record"] (iD K true):=by
 refine F.ok pL (λvs H Q E h=>?_) (λcdv A outer s H vs Q E hr h=>?_)
 ·obtain⟨x,v,r,rfl,hv,q⟩:=h;rfl
 obtain⟨x,v,r,rfl,hv,q⟩:=h;refine⟨_,(qO (aE (cw (pK (az aB (pv 1) pI (λ_ _=>rfl)) (pK uR (pK (az aB (pv 1) pI (λ_ _=>rfl)) (pK (az aB (pv 1) pI (λ_ _=>rfl)) pN))))))),?_⟩;obtain⟨t,ft,ys,rfl,h1,h2,h3⟩:=hv;have h1:bu K H t [.int (r.c:Int),.bl r.begun,.int (r.mask:Int),.ref ft]:=h1;refine⟨_,rfl,t,_,_,_,rfl,rfl,h1,aN (j:=0) rfl,_,rfl,t,_,_,_,rfl,rfl,h1,aN (j:=2) rfl,_,rfl,t,_,_,_,rfl,rfl,h1,aN (j:=3) rfl,XD,λu hu=>?_⟩;have s:=sN hu (.tup [.int (r.c:Int),.bl true,.int (r.mask:Int),.ref ft]);exact q _ _ s ⟨u,ft,ys,rfl,bu.of uS,s.tup h2,h3.same s⟩
theorem jb:aA ["makes","c","fields","elder"] ["makes","c"] (dS mQ):=by walk_at "sc"
theorem Bi{f:Addr}{fd:FuncData}(F:er K "fields_of" "fields_of" mQ f fd)(cq:mg "list"=none){ab:Addr}(aj:ah K ab)(m7:cT P w K mg base aM "elders_of" 1 ["makes","c"] (i7 K)):bp P w K mg base aM 2 f fd ["makes","c"] (eh K):=by
 refine F.ok jb (λvs H Q E h=>?_) (λcdv A outer s H vs Q E hr h=>?_)
 ·obtain⟨a,ms,c,rfl,hM,hw,hf,hc,q⟩:=h;rfl
 obtain⟨a,ms,c,rfl,hM,hw,hf,hc,q⟩:=h;refine⟨_,(qK (bI (i:=2) jb.nd rfl (aai rfl) (dD pN))
   (qK (zX aaR rfl (kJ (cg m7 (hr.mono (by decide)) rfl (pK (pv 0) (pK (pv 1) pN)))) (dW (i:=3) jb.nd rfl (aai rfl)) (qO (bI (i:=2) jb.nd rfl (aai rfl) (aT SA (dX bY rfl cq ic (pK (az aB (az bj (pv 0) (pv 3) (λ_ _=>rfl)) pI (λ_ _=>rfl)) pN)) (pv 2)))))
   (qO (aE (pv 2))))),?_⟩
 obtain⟨xs,hS,hI⟩:=id hM;have lx:=hI.1;refine⟨Vh,λr0 hr0=>?_⟩;have s0:=sN hr0 (.lst []);refine⟨_,rfl,_,rfl,a,ms,c,rfl,hM.same s0,hw,hc,λre H1 s1 _ he=>?_⟩;have sm1:=s0.trans s1;refine⟨re,rfl,⟨_,bt.of he⟩,?_⟩;refine BL (xs:=mn (bc ms c)) (λi σ H2=>∃(r:Addr) (ks:List V) (o3:Option V),σ=[some (.ref a),some (.int (c:Int)),some (.ref r),o3]/\aF H1 H2/\H r=none/\H2 r=some (.lst ks)/\aL K H ks (eO (dM ms ((bc ms c).take i)))/\ks.length<=50 * i) ?_ ?_ ?_ ?_
 ·exact⟨r0,[],none,rfl,aF.refl _,hr0,s1 _ _ uS,.nil,by simp⟩
 ·rintro i σ H2 hi ⟨r,ks,o3,rfl,s2,_⟩;exact bt.of (s2 _ _ he)
 ·rintro i y σ H2 hy ⟨r,ks,o3,rfl,s2,nr,g2,hR,h50⟩
  have hil:i < (bc ms c).length:=by
   have:=(bU hy).1;simpa using this
  have hy':y=.int (((bc ms c)[i]:Nat):Int):=by
   rw[aar,dh hil]at hy;exact(aaE hy).symm
  subst hy'
  have hel:(bc ms c)[i] < ms.length:=by
   have:=(px hw c hc).2 _ (acL hil);omega
  have hi8:i < 8:=by
   have:=(px hw c hc).1;have:=hw.few;omega
  generalize hj:(bc ms c)[i]=j at hel;have hjx:j < xs.length:=by omega
  obtain⟨t,l,kk,hx,e2,e3,e4⟩:=hI.2 j _ _ (dh hjx) (dh hel);have Ub:=sm1.trans s2;have own:ownOf ms j=(ms[j]).2:=by unfold ownOf;rw[dh hel]
  have l2:=e4.1
  have lk:kk.length<=50:=by
   rw[aah]at l2;have:=hf j _ (dh hel);omega
  refine⟨_,rfl,_,rfl,a,xs,_,_,rfl,rfl,Ub.seq hS,(?_:pF xs ((j:Nat):Int)=some (.ref t)),t,_,_,_,rfl,rfl,Ub.tup e2,aN (j:=1) rfl,l,kk,rfl,.inl (Ub.seq e3),λp0 hp0=>?_⟩
  ·rw[← hx];exact aN (dh hjx)
  have s3:=sN hp0 (.lst kk);refine⟨_,rfl,p0,r,kk,ks,rfl,rfl,uS,s3 _ _ g2,aaX (sK (by omega)),λp hp=>?_⟩;refine⟨p,kk++ks,_,rfl,s2.trans (s3.trans (sN hp _)),(Ub.trans s3).free hp,uS,?_,by rw[aaG];omega⟩
  have stp:dM ms ((bc ms c).take (i + 1))=ownOf ms j++dM ms ((bc ms c).take i):=by
   rw[lp,lp,List.take_succ_eq_append_getElem hil,hj];simp
  rw[stp,own,eO,aaU];exact aL.append e4 hR
 ·rintro σ H2 ⟨r,ks,o3,rfl,s2,nr,g2,hR,_⟩;have e:(bc ms c).take (mn (bc ms c)).length=bc ms c:=List.take_of_length_le (by simp);rw[e]at hR;exact⟨_,rfl,q r ks H2 (sm1.trans s2) nr g2 hR⟩
theorem pO:aA ["self","c"] ["self","c"] (dS fh):=by walk_at "sc"
theorem pP{f:Addr}{fd:FuncData}(F:er K "new_record" "Plain.new_record" fh f fd)(bX:mg "len"=none){ab:Addr}(aj:ah K ab){C:Addr}(ac:au K C)(dP:cT P w K mg base aM "fields_of" 2 ["makes","c"] (eh K)):bp P w K mg base aM 3 f fd ["self","c"] (eQ K ab C false):=by
 refine F.ok pO (λvs H Q E h=>?_) (λcdv A outer s H vs Q E hr h=>?_)
 ·obtain⟨mm,c,rfl,hM,hw,hfw,hc,q⟩:=h;rfl
 obtain⟨mm,c,rfl,hM,hw,hfw,hc,q⟩:=h;refine⟨_,(qO (aE (cw (pK (pv 1) (pK (aT FR (cw (pK pI pN)) (bP bD rfl bX gJ (pK (cg dP (hr.mono (by decide)) rfl (pK (az aB (aO (pv 0) rfl) pI (λ_ _=>rfl)) (pK (pv 1) pN))) pN))) pN))))),?_⟩;obtain⟨mdx,ev,m1,m2⟩:=hM.ob;obtain⟨mk,pl,xs,hb⟩:=hM.bk;refine⟨_,rfl,Nn,λt ht=>?_⟩;have s1:=sN ht (.tup [.int 0]);have g1:bu K (upd H t (.tup [.int 0])) t [.int 0]:=bu.of uS;generalize upd H t _=H1 at s1 g1 ⊢;obtain⟨hT,hMk,_,_⟩:=hb H1 (cC s1);refine⟨_,rfl,mm.ma,C,mdx,_,_,rfl,s1 _ _ m1,ac.cl,ac.ll,jJ,mm.b,_,_,_,rfl,rfl,hT,aN (j:=0) rfl,_,rfl,mk,mm.ms,c,rfl,hMk,hw,hfw,hc,λr ks H2 s2 nr g2 hK=>?_⟩;have lk:=hK.1;rw[aah]at lk;have ZF:=hfw.fields hw hc;refine⟨r,ks,rfl,.inl (bt.of g2),t,_,(ks.length:Nat),rfl,rfl,s2.tup g1,(λz=>nomatch z),by omega,by omega,(by show 1 * ((ks.length:Nat):Int).toNat<=sizeLine;rw[aa0,Nat.one_mul];exact aaX (big (by omega))),λp H3 s3 hp=>⟨GQ,λu hu=>?_⟩⟩;rw[A6,aa0,lk]at hp;have s4:=sN hu (.tup [.int (c:Int),.ref p]);exact q _ _ (s1.trans (s2.trans (s3.trans s4))) ⟨u,p,_,rfl,bu.of uS,s4.tup hp,iM.rep (show yI K _ false (.int 0) .none from rfl) _⟩
theorem mx:aA ["self","c"] ["self","c"] (dS dG):=by walk_at "sc"
theorem mB{f:Addr}{fd:FuncData}(F:er K "new_record" "Watched.new_record" dG f fd)(bX:mg "len"=none){ab:Addr}(aj:ah K ab){C:Addr}(ac:au K C)(dP:cT P w K mg base aM "fields_of" 2 ["makes","c"] (eh K)):bp P w K mg base aM 3 f fd ["self","c"] (eQ K ab C true):=by
 refine F.ok mx (λvs H Q E h=>?_) (λcdv A outer s H vs Q E hr h=>?_)
 ·obtain⟨mm,c,rfl,hM,hw,hfw,hc,q⟩:=h;rfl
 obtain⟨mm,c,rfl,hM,hw,hfw,hc,q⟩:=h;refine⟨_,(qO (aE (cw (pK (pv 1) (pK uR (pK pI (pK (aT FR (cw (pK je pN)) (bP bD rfl bX gJ (pK (cg dP (hr.mono (by decide)) rfl (pK (az aB (aO (pv 0) rfl) pI (λ_ _=>rfl)) (pK (pv 1) pN))) pN))) pN))))))),?_⟩;obtain⟨mdx,ev,m1,m2⟩:=hM.ob;obtain⟨mk,pl,xs,hb⟩:=hM.bk;refine⟨_,rfl,Nn,λt ht=>?_⟩;have s1:=sN ht (.tup [.non]);have g1:bu K (upd H t (.tup [.non])) t [.non]:=bu.of uS;generalize upd H t _=H1 at s1 g1 ⊢;obtain⟨hT,hMk,_,_⟩:=hb H1 (cC s1);refine⟨_,rfl,mm.ma,C,mdx,_,_,rfl,s1 _ _ m1,ac.cl,ac.ll,jJ,mm.b,_,_,_,rfl,rfl,hT,aN (j:=0) rfl,_,rfl,mk,mm.ms,c,rfl,hMk,hw,hfw,hc,λr ks H2 s2 nr g2 hK=>?_⟩;have lk:=hK.1;rw[aah]at lk;have ZF:=hfw.fields hw hc;refine⟨r,ks,rfl,.inl (bt.of g2),t,_,(ks.length:Nat),rfl,rfl,s2.tup g1,(λz=>nomatch z),by omega,by omega,(by show 1 * ((ks.length:Nat):Int).toNat<=sizeLine;rw[aa0,Nat.one_mul];exact aaX (big (by omega))),λp H3 s3 hp=>⟨XD,λu hu=>?_⟩⟩;rw[A6,aa0,lk]at hp;have s4:=sN hu (.tup [.int (c:Int),.bl false,.int 0,.ref p]);exact q _ _ (s1.trans (s2.trans (s3.trans s4))) ⟨u,p,_,rfl,bu.of uS,s4.tup hp,iM.rep (show yI K _ true .non .none from .non) _⟩
theorem wo:aA ["self","tag","number"] ["self","tag","number"] (dS jj):=by walk_at "sc"
theorem wq{f:Addr}{fd:FuncData}(F:er K "tagged" "Plain.tagged" jj f fd){ab:Addr}(aj:ah K ab){C:Addr}(ac:au K C):bp P w K mg base aM 1 f fd ["self","tag","number"] (fK K false):=by
 refine F.ok wo (λvs H Q E h=>?_) (λcdv A outer s H vs Q E hr h=>?_)
 ·obtain⟨x,y,hy,rfl,q⟩:=h;rfl
 obtain⟨x,y,hy,rfl,q⟩:=h;refine⟨_,(qO (aE (pv 2))),?_⟩;exact⟨_,rfl,q _ H (aF.refl _) rfl⟩
theorem sX:aA ["self","tag","number"] ["self","tag","number"] (dS gO):=by walk_at "sc"
theorem sY{f:Addr}{fd:FuncData}(F:er K "tagged" "Watched.tagged" gO f fd){ab:Addr}(aj:ah K ab){C:Addr}(ac:au K C):bp P w K mg base aM 1 f fd ["self","tag","number"] (fK K true):=by
 refine F.ok sX (λvs H Q E h=>?_) (λcdv A outer s H vs Q E hr h=>?_)
 ·obtain⟨x,y,hy,rfl,q⟩:=h;rfl
 obtain⟨x,y,hy,rfl,q⟩:=h;refine⟨_,(qO (aE (cw (pK (pv 1) (pK (pv 2) pN))))),?_⟩;refine⟨_,rfl,_,rfl,GQ,λt ht=>?_⟩;refine q _ _ (sN ht _) ?_;show aZ K _ (.ref t) (NA y)
 cases y with
 | none=>exact absurd rfl hy
 | num w=>exact .rV (bu.of uS) (.cons (.str _) (.cons (.int _) .nil))
 | rcd n=>exact .rV (bu.of uS) (.cons (.str _) (.cons (.int _) .nil))
theorem CB:aA ["some","spot","thing"] ["some","spot","thing"] (dS qB):=by walk_at "sc"
theorem CC{f:Addr}{fd:FuncData}(F:er K "replaced" "replaced" qB f fd){ab:Addr}(aj:ah K ab):bp P w K mg base aM 1 f fd ["some","spot","thing"] (jS K):=by
 refine F.ok CB (λvs H Q E h=>?_) (λcdv A outer s H vs Q E hr h=>?_)
 ·obtain⟨t,xs,i,v,rfl,hT,hi,fM,q⟩:=h;rfl
 obtain⟨t,xs,i,v,rfl,hT,hi,fM,q⟩:=h;refine⟨_,(qO (aE (aT Ai (aT Ai (mI Ah (pv 0) rR (rS (pv 1))) (cw (pK (pv 2) pN))) (mI Ah (pv 0) (rS (aT gF (pv 1) pI)) rR)))),?_⟩;refine⟨_,rfl,_,rfl,_,rfl,t,xs,rfl,hT,λa1 H1 s1 h1=>?_⟩;rw[Lx]at h1;refine⟨_,rfl,Nn,λu hu=>?_⟩;have w1:=sN hu (.tup [v]);have l1:(xs.take i).length<=100:=by rw[aaC];omega
 refine⟨a1,u,_,_,rfl,rfl,w1.tup h1,bu.of uS,Nat.le_of_lt (sK (by simp;omega)),λa2 H2 s2 h2=>?_⟩;have S2:=s1.trans (w1.trans s2);refine⟨_,rfl,_,rfl,_,_,rfl,rfl,_,rfl,t,xs,rfl,S2.tup hT,λa3 H3 s3 h3=>?_⟩;have e3:km xs (some ((i:Int) + 1)) none=xs.drop (i + 1):=Ci (xs:=xs) (n:=i + 1) (by omega);rw[e3]at h3;refine⟨a2,a3,_,_,rfl,rfl,s3.tup h2,h3,Nat.le_of_lt (sK (by simp;omega)),λr H4 s4 h4=>?_⟩;rw[Hv hi]at h4;exact q r H4 (S2.trans (s3.trans s4)) h4
theorem pQ:aA ["self","record","f","value"] ["self","record","f","value"] (dS fi):=by walk_at "sc"
theorem pR{f:Addr}{fd:FuncData}(F:er K "with_field" "Plain.with_field" fi f fd){ab:Addr}(aj:ah K ab){C:Addr}(ac:au K C)(qU:cT P w K mg base aM "replaced" 1 ["some","spot","thing"] (jS K)):bp P w K mg base aM 2 f fd ["self","record","f","value"] (eR K false):=by
 refine F.ok pQ (λvs H Q E h=>?_) (λcdv A outer s H vs Q E hr h=>?_)
 ·obtain⟨x,v,u,r,k,y,rfl,hv,hu,hk,fM,q⟩:=h;rfl
 obtain⟨x,v,u,r,k,y,rfl,hv,hu,hk,fM,q⟩:=h;refine⟨_,(qO (aE (cw (pK (az aB (pv 1) pI (λ_ _=>rfl)) (pK (cg qU (hr.mono (by decide)) rfl (pK (az aB (pv 1) pI (λ_ _=>rfl)) (pK (pv 2) (pK (pv 3) pN)))) pN))))),?_⟩;obtain⟨t,ft,ys,rfl,h1,h2,h3⟩:=hv;have h1:bu K H t [.int (r.c:Int),.ref ft]:=h1;have l:=h3.1;refine⟨_,rfl,t,_,_,_,rfl,rfl,h1,aN (j:=0) rfl,_,rfl,t,_,_,_,rfl,rfl,h1,aN (j:=1) rfl,_,rfl,_,rfl,ft,ys,k,u,rfl,h2,by omega,by omega,λa H1 s1 g1=>⟨GQ,λb hb=>?_⟩⟩;have s2:=sN hb (.tup [.int (r.c:Int),.ref a]);have S:=s1.trans s2;exact q _ _ S ⟨b,a,_,rfl,bu.of uS,s2.tup g1,(h3.same S).set (hu.same S) k⟩
theorem mC:aA ["self","record","f","value"] ["self","record","f","value"] (dS dH):=by walk_at "sc"
theorem mD{f:Addr}{fd:FuncData}(F:er K "with_field" "Watched.with_field" dH f fd){ab:Addr}(aj:ah K ab){C:Addr}(ac:au K C)(qU:cT P w K mg base aM "replaced" 1 ["some","spot","thing"] (jS K)):bp P w K mg base aM 2 f fd ["self","record","f","value"] (eR K true):=by
 refine F.ok mC (λvs H Q E h=>?_) (λcdv A outer s H vs Q E hr h=>?_)
 ·obtain⟨x,v,u,r,k,y,rfl,hv,hu,hk,fM,q⟩:=h;rfl
 obtain⟨x,v,u,r,k,y,rfl,hv,hu,hk,fM,q⟩:=h;refine⟨_,(qO (aE (cw (pK (az aB (pv 1) pI (λ_ _=>rfl)) (pK (az aB (pv 1) pI (λ_ _=>rfl)) (pK (aT VJ (az aB (pv 1) pI (λ_ _=>rfl)) (aT DM pI (pv 2))) (pK (cg qU (hr.mono (by decide)) rfl (pK (az aB (pv 1) pI (λ_ _=>rfl)) (pK (pv 2) (pK (pv 3) pN)))) pN))))))),?_⟩;obtain⟨t,ft,ys,rfl,h1,h2,h3⟩:=hv;have h1:bu K H t [.int (r.c:Int),.bl r.begun,.int (r.mask:Int),.ref ft]:=h1;have l:=h3.1;refine⟨_,rfl,t,_,_,_,rfl,rfl,h1,aN (j:=0) rfl,_,rfl,t,_,_,_,rfl,rfl,h1,aN (j:=1) rfl,_,rfl,t,_,_,_,rfl,rfl,h1,aN (j:=2) rfl,_,rfl,_,_,rfl,rfl,⟨by omega,by omega,by decide⟩,_,_,rfl,rfl,_,rfl,t,_,_,_,rfl,rfl,h1,aN (j:=3) rfl,_,rfl,_,rfl,ft,ys,k,u,rfl,h2,by omega,by omega,λa H1 s1 g1=>⟨XD,λb hb=>?_⟩⟩
 have eb:Builtin.bitOr (r.mask:Int) (1 * 2 ^ ((k:Nat):Int).toNat)=((r.mask ||| 2 ^ k:Nat):Int):=by
  rw[aa0,Int.one_mul,← Ho];rfl
 show Q (.ref b) (upd H1 b (.tup [.int (r.c:Int),.bl r.begun,.int (Builtin.bitOr (r.mask:Int) (1 * 2 ^ ((k:Nat):Int).toNat)),.ref a]));rw[eb];have s2:=sN hb (.tup [.int (r.c:Int),.bl r.begun,.int ((r.mask ||| 2 ^ k:Nat):Int),.ref a]);have S:=s1.trans s2;exact q _ _ S ⟨b,a,_,rfl,bu.of uS,s2.tup g1,(h3.same S).set (hu.same S) k⟩
theorem bF:aA ["self","stack","row","sign","number","record","value"] ["self","stack","row"] (dS dm):=by walk_at "sc"
theorem gn{f:Addr}{fd:FuncData}(F:er K "do_of_records" "Plain.do_of_records" dm f fd)(bX:mg "len"=none){ab:Addr}(aj:ah K ab){C:Addr}{wt:Bool}(ac:au K C)(CD:bH P w K mg base aM C "as_begun" 1 ["self","record"] (iD K wt))(eY:bH P w K mg base aM C "bare" 1 ["self","value"] (i6 K wt))(yU:bH P w K mg base aM C "new_record" 3 ["self","c"] (eQ K ab C wt))(g7:bH P w K mg base aM C "tagged" 1 ["self","tag","number"] (fK K wt))(yV:bH P w K mg base aM C "with_field" 2 ["self","record","f","value"] (eR K wt)):bp P w K mg base aM 4 f fd ["self","stack","row"] (en K ab C wt):=by
 refine F.ok bF (λvs H Q E h=>?_) (λcdv A outer s H vs Q E hr h=>?_)
 ·obtain⟨mm,fs,fr,g',r,rt,rs,rfl,hM,hf,hR,hw,hfw,hK,fM,Uc,q⟩:=h;rfl
 obtain⟨mm,fs,fr,g',r,rt,rs,rfl,hM,hf,hR,hw,hfw,hK,fM,Uc,q⟩:=h;refine⟨_,(qK (bI (i:=3) bF.nd rfl (aai rfl) (az aB (pv 2) pI (λ_ _=>rfl)))
   (qO (bg (tR bK (pv 3) aV (aH _)) (qK (bC (kq aae aaA aaB cj (pv 1) (pK (c9 (pv 0) g7 bV (hr.mono (by decide)) (pK aV (pK (bP bD rfl bX gJ (pK (aO (pv 0) rfl) pN)) pN))) pN)))
   (qO (bC (kq aae aaA aaB cj (aO (pv 0) rfl) (pK (c9 (pv 0) yU bV (hr.mono (by decide)) (pK (az aB (pv 2) pI (λ_ _=>rfl)) pN)) pN))))) (qO (bg (tR bK (pv 3) aV (aH _)) (qK (bI (i:=4) bF.nd rfl (aai rfl) (c9 (pv 0) eY bV (hr.mono (by decide)) (pK (az bj (pv 1) (rO kL pI) (λ_ _=>rfl)) pN)))
   (qO (zW (c9 (pv 0) CD bV (hr.mono (by decide)) (pK (az bj (aO (pv 0) rfl) (pv 4) (λ_ _=>rfl)) pN)) (zV (aO (pv 0) rfl) (pv 4) set_list)))) (qO (bg (tR bK (pv 3) aV (aH _)) (qK (bI (i:=5) bF.nd rfl (aai rfl) (az bj (aO (pv 0) rfl) (c9 (pv 0) eY bV (hr.mono (by decide)) (pK (iI aae aaJ aaK jg (pv 1)) pN)) (λ_ _=>rfl)))
   (qO (bC (kq aae aaA aaB cj (pv 1) (pK (az aB (az aB (pv 5) (rO kL pI) (λ_ _=>rfl)) (az aB (pv 2) pI (λ_ _=>rfl)) (λ_ _=>rfl)) pN))))) (qK (bI (i:=6) bF.nd rfl (aai rfl) (iI aae aaJ aaK jg (pv 1)))
   (qK (bI (i:=4) bF.nd rfl (aai rfl) (c9 (pv 0) eY bV (hr.mono (by decide)) (pK (az bj (pv 1) (rO kL pI) (λ_ _=>rfl)) pN)))
   (qK (zW (c9 (pv 0) yV bV (hr.mono (by decide)) (pK (az bj (aO (pv 0) rfl) (pv 4) (λ_ _=>rfl)) (pK (az aB (pv 2) pI (λ_ _=>rfl)) (pK (pv 6) pN)))) (zV (aO (pv 0) rfl) (pv 4) set_list))
   (qO (bg (tR bK (pv 3) aV (aH _)) (qO (bC (iI aae aaJ aaK jg (pv 1)))) aX)))))))))))),?_⟩
 have hF:=hM.last hf;obtain⟨⟨fdx,f1⟩,⟨bys,f2,f3⟩,⟨sys,f4,f5⟩,fne⟩:=id hF;have lst:=f5.1;have ff:=jK hf;obtain⟨mdx,ev,m1,m2⟩:=id hM.ob;obtain⟨rys,r1,r2⟩:=id hM.rc;have lr:=r2.1;refine⟨_,rfl,rt,_,_,_,rfl,rfl,hR,aN (j:=0) rfl,?_⟩;have muf:bq H [fr.sl]:=hF.rK.sub (λc hc=>by rw[bN hc];simp[gC])
 cases hK with
 | make hc =>
  rename_i c;refine⟨_,rfl,rfl,_,rfl,pG rfl ?_⟩;refine⟨_,rfl,.inl ⟨rfl,_,bt.of f4⟩,_,rfl,mm.ma,mdx,_,rfl,m1,mc_no (by decide +kernel),_,rfl,mm.ma,C,mdx,_,_,rfl,m1,ac.cl,ac.cz,fZ,mm.rc,_,rfl,.inl (bt.of r1),_,.rcd mm.recs.length,(λz=>nomatch z),(by rw[lr];rfl),λv H1 s1 hv=>?_⟩;obtain⟨a1,a2⟩:=hF.iz s1 ((f5.same s1).snoc hv);refine⟨fr.sl,sys,v,rfl,rfl,s1 _ _ f4,big (by omega),?_⟩;have M1:=hM.top hf (f':={fr with st:=fr.st++[.rcd mm.recs.length]}) rfl rfl rfl a2 a1;have K1:=a2.sub ff;have R1:=bu.keep (aY (o:=.lst (sys++[v]))) (muf.same s1) (s1.tup hR);generalize upd H1 fr.sl _=H2 at M1 K1 R1 ⊢;obtain⟨ndx,nev,n1,n2⟩:=id M1.ob;obtain⟨qys,q1,q2⟩:=id M1.rc;have lq:=q2.1;refine⟨_,rfl,mm.ma,C,ndx,_,_,rfl,n1,ac.cl,ac.cz,fZ,.inl ⟨rfl,_,bt.of q1⟩,_,rfl,mm.ma,ndx,_,rfl,n1,mc_no (by decide +kernel),_,rfl,rt,_,_,_,rfl,rfl,R1,aN (j:=1) rfl,{mm with bT:=fs++[{fr with st:=fr.st++[.rcd mm.recs.length]}]},c,rfl,M1,hw,hfw,hc,λu H3 s3 hu=>?_⟩;refine⟨mm.rc,_,_,rfl,rfl,s3 _ _ q1,big (by rw[lq];show mm.recs.length<=1000000;omega),?_⟩;have M3:=M1.same s3;have kx:aC [mm.rc] H3 (upd H3 mm.rc (.lst (qys++[u]))):=aY;have X1:bq H3 [mm.rc]:=M3.rK.sub (λc hc=>by rw[bN hc];exact cf.2.2.1);have M4:=M3.Pl kx uS (((q2.imp λy x h=>(h.same s3).keep kx X1)).snoc (hu.keep kx X1));exact q {fr with st:=fr.st++[.rcd mm.recs.length]} _ rfl rfl rfl rfl M4 ((K1.trans (cC s3)).trans (kx.sub λc hc=>by rw[bN hc];exact cf.2.2.1))
 | beg hst hr' =>
  rename_i c n st r;have hst:fr.st=_:=hst;have hn:n < rys.length:=by rw[lr];exact(bU hr').1
  obtain⟨rv,hrv,hRk⟩:=r2.at hr';refine⟨_,rfl,rfl,_,rfl,dk (show ¬ V.str "begin"=V.str "make" by decide +kernel) ?_⟩;refine⟨_,rfl,rfl,_,rfl,pG rfl ?_⟩;rw[hst]at f5;obtain⟨zs,y,rfl,hz,hv⟩:=f5.lastOf;refine⟨_,rfl,mm.ma,mdx,_,rfl,m1,mc_no (by decide +kernel),_,rfl,_,rfl,fr.sl,_,_,_,rfl,rfl,bt.of f4,dN,_,y,.rcd n,rfl,hv,(λz=>nomatch z),?_⟩;refine⟨_,rfl,mm.ma,mdx,_,rfl,m1,mc_no (by decide +kernel),_,rfl,mm.ma,C,mdx,_,_,rfl,m1,ac.cl,ac.cz,fZ,_,rfl,mm.rc,_,_,_,rfl,rfl,bt.of r1,aN hrv,_,rv,r,rfl,hRk,λu H1 s1 hu=>?_⟩;refine⟨_,rfl,mm.ma,C,mdx,_,_,rfl,s1 _ _ m1,ac.cl,ac.cz,fZ,_,rfl,mm.rc,rys,_,n,rfl,rfl,s1 _ _ r1,sy hn,?_⟩;have M1:=hM.same s1;have kx:aC [mm.rc] H1 (upd H1 mm.rc (.lst (rys.set n u))):=aY;have WL:bq H1 [mm.rc]:=M1.rK.sub (λc hc=>by rw[bN hc];exact cf.2.2.1);have M2:=M1.Pl kx uS (((r2.imp λy x h=>(h.same s1).keep kx WL)).set (hu.keep kx WL) n);exact q fr _ rfl rfl rfl rfl (by rw[← hf];exact M2) ((cC s1).trans (kx.sub λc hc=>by rw[bN hc];exact cf.2.2.1))
 | get hst hr' hx =>
  rename_i c fl n st r x;have hst:fr.st=_:=hst;have hn:n < rys.length:=by rw[lr];exact(bU hr').1
  refine⟨_,rfl,rfl,_,rfl,dk (show ¬ V.str "get"=V.str "make" by decide +kernel) ?_⟩;refine⟨_,rfl,rfl,_,rfl,dk (show ¬ V.str "get"=V.str "begin" by decide +kernel) ?_⟩;refine⟨_,rfl,rfl,_,rfl,pG rfl ?_⟩;rw[hst]at f5;obtain⟨zs,y,rfl,hz,hv⟩:=f5.lastOf;refine⟨_,rfl,mm.ma,C,mdx,_,_,rfl,m1,ac.cl,ac.cz,fZ,_,rfl,mm.ma,mdx,_,rfl,m1,mc_no (by decide +kernel),_,rfl,.inl ⟨rfl,_,bt.of f4⟩,fr.sl,_,y,rfl,rfl,f4,ij,?_⟩;rw[aaZ];obtain⟨a1,a2⟩:=hF.iz (aF.refl H) hz;have M1:=hM.top hf (f':={fr with st:=st}) rfl rfl rfl a2 a1;have kx:aC [fr.sl] H (upd H fr.sl (.lst zs)):=aY;have yB:=hv.keep kx muf;have R1:=bu.keep kx muf hR;have K1:=a2.sub ff;generalize upd H fr.sl _=H1 at M1 yB R1 K1 ⊢;obtain⟨qys,q1,q2⟩:=id M1.rc;obtain⟨rv,hrv,t,ft,fys,rfl,hT,hFt,hV⟩:=q2.at hr'
  have hT':∃l,bu K H1 t (l++[.ref ft]):=by
   cases wt with
   | true=>exact⟨[_,_,_],hT⟩
   | false=>exact⟨[_],hT⟩
  obtain⟨l,hT'⟩:=hT';obtain⟨u,hu,hux⟩:=hV.at hx;refine⟨_,y,.rcd n,rfl,yB,(λz=>nomatch z),mm.rc,_,_,_,rfl,rfl,bt.of q1,aN hrv,?_⟩;have F1:=M1.last rfl;obtain⟨_,_,⟨gzs,e4,e5⟩,_⟩:=id F1;have lz:=e5.1;refine⟨_,rfl,.inl ⟨rfl,_,bt.of e4⟩,_,rfl,_,rfl,t,_,_,_,rfl,rfl,hT',dN,_,rfl,rt,_,_,_,rfl,rfl,R1,aN (j:=2) rfl,ft,_,_,_,rfl,rfl,hFt,aN hu,fr.sl,gzs,u,rfl,rfl,e4,big (by rw[lz];rw[hst]at fM;simp at fM;show st.length<=1000000;omega),?_⟩;obtain⟨b1,b2⟩:=F1.iz (aF.refl H1) (e5.snoc hux);have M2:=M1.top (fs:=fs) (f:={fr with st:=st}) (f':={fr with st:=st++[x]}) rfl rfl rfl rfl b2 b1;exact q {fr with st:=st++[x]} _ rfl rfl rfl rfl M2 (K1.trans (b2.sub ff))
 | fill hst hr' hx h100' =>
  rename_i c fl n st r x;have hst:fr.st=_:=hst;refine⟨_,rfl,rfl,_,rfl,dk (show ¬ V.str "fill"=V.str "make" by decide +kernel) ?_⟩;refine⟨_,rfl,rfl,_,rfl,dk (show ¬ V.str "fill"=V.str "begin" by decide +kernel) ?_⟩;refine⟨_,rfl,rfl,_,rfl,dk (show ¬ V.str "fill"=V.str "get" by decide +kernel) ?_⟩;have e2:fr.st=(st++[.rcd n])++[x]:=by rw[hst];simp
  rw[e2]at f5;obtain⟨zs,y,rfl,hz,hv⟩:=f5.lastOf;obtain⟨zs',y',rfl,hz',hv'⟩:=hz.lastOf;refine⟨_,rfl,.inl ⟨rfl,_,bt.of f4⟩,fr.sl,_,y,rfl,rfl,f4,ij,?_⟩;rw[aaZ];obtain⟨a1,a2⟩:=hF.iz (aF.refl H) hz;have M1:=hM.top hf (f':={fr with st:=st++[.rcd n]}) rfl rfl rfl a2 a1;have kx:aC [fr.sl] H (upd H fr.sl (.lst (zs'++[y']))):=aY;have yB:=hv.keep kx muf;have hv1':=hv'.keep kx muf;have R1:=bu.keep kx muf hR;have K1:=a2.sub ff;have g1:=uS (H:=H) (a:=fr.sl) (o:=.lst (zs'++[y']));generalize upd H fr.sl _=H1 at M1 yB hv1' R1 K1 g1 ⊢;obtain⟨ndx,nev,n1,n2⟩:=id M1.ob;obtain⟨qys,q1,q2⟩:=id M1.rc;have lq:=q2.1;have hn:n < qys.length:=by rw[lq];exact(bU hr').1
  obtain⟨rv,hrv,hRk⟩:=q2.at hr';refine⟨_,rfl,mm.ma,ndx,_,rfl,n1,mc_no (by decide +kernel),_,rfl,_,rfl,fr.sl,_,_,_,rfl,rfl,bt.of g1,dN,_,y',.rcd n,rfl,hv1',(λz=>nomatch z),?_⟩;refine⟨_,rfl,mm.ma,ndx,_,rfl,n1,mc_no (by decide +kernel),_,rfl,mm.ma,C,ndx,_,_,rfl,n1,ac.cl,ac.cz,fZ,_,rfl,mm.rc,_,_,_,rfl,rfl,bt.of q1,aN hrv,_,rfl,rt,_,_,_,rfl,rfl,R1,aN (j:=2) rfl,_,rfl,_,rv,y,r,fl,x,rfl,hRk,yB,hx,h100',λu H2 s2 hu=>?_⟩;refine⟨_,rfl,mm.ma,C,ndx,_,_,rfl,s2 _ _ n1,ac.cl,ac.cz,fZ,_,rfl,mm.rc,qys,_,n,rfl,rfl,s2 _ _ q1,sy hn,?_⟩;have M2:=M1.same s2;have DB:aC [mm.rc] H2 (upd H2 mm.rc (.lst (qys.set n u))):=aY;have PD:bq H2 [mm.rc]:=M2.rK.sub (λc hc=>by rw[bN hc];exact cf.2.2.1);have M3:=M2.Pl DB uS (((q2.imp λy x h=>(h.same s2).keep DB PD)).set (hu.keep DB PD) n);refine⟨_,rfl,rfl,_,rfl,dk (show ¬ V.str "fill"=V.str "put" by decide +kernel) ?_⟩;exact q {fr with st:=st++[.rcd n]} _ rfl rfl rfl rfl M3 ((K1.trans (cC s2)).trans (DB.sub λc hc=>by rw[bN hc];exact cf.2.2.1))
 | put hst hr' hx h100' =>
  rename_i c fl n st r x;have hst:fr.st=_:=hst;refine⟨_,rfl,rfl,_,rfl,dk (show ¬ V.str "put"=V.str "make" by decide +kernel) ?_⟩;refine⟨_,rfl,rfl,_,rfl,dk (show ¬ V.str "put"=V.str "begin" by decide +kernel) ?_⟩;refine⟨_,rfl,rfl,_,rfl,dk (show ¬ V.str "put"=V.str "get" by decide +kernel) ?_⟩;have e2:fr.st=(st++[.rcd n])++[x]:=by rw[hst];simp
  rw[e2]at f5;obtain⟨zs,y,rfl,hz,hv⟩:=f5.lastOf;obtain⟨zs',y',rfl,hz',hv'⟩:=hz.lastOf;refine⟨_,rfl,.inl ⟨rfl,_,bt.of f4⟩,fr.sl,_,y,rfl,rfl,f4,ij,?_⟩;rw[aaZ];obtain⟨a1,a2⟩:=hF.iz (aF.refl H) hz;have M1:=hM.top hf (f':={fr with st:=st++[.rcd n]}) rfl rfl rfl a2 a1;have kx:aC [fr.sl] H (upd H fr.sl (.lst (zs'++[y']))):=aY;have yB:=hv.keep kx muf;have hv1':=hv'.keep kx muf;have R1:=bu.keep kx muf hR;have K1:=a2.sub ff;have g1:=uS (H:=H) (a:=fr.sl) (o:=.lst (zs'++[y']));generalize upd H fr.sl _=H1 at M1 yB hv1' R1 K1 g1 ⊢;obtain⟨ndx,nev,n1,n2⟩:=id M1.ob;obtain⟨qys,q1,q2⟩:=id M1.rc;have lq:=q2.1;have hn:n < qys.length:=by rw[lq];exact(bU hr').1
  obtain⟨rv,hrv,hRk⟩:=q2.at hr';refine⟨_,rfl,mm.ma,ndx,_,rfl,n1,mc_no (by decide +kernel),_,rfl,_,rfl,fr.sl,_,_,_,rfl,rfl,bt.of g1,dN,_,y',.rcd n,rfl,hv1',(λz=>nomatch z),?_⟩;refine⟨_,rfl,mm.ma,ndx,_,rfl,n1,mc_no (by decide +kernel),_,rfl,mm.ma,C,ndx,_,_,rfl,n1,ac.cl,ac.cz,fZ,_,rfl,mm.rc,_,_,_,rfl,rfl,bt.of q1,aN hrv,_,rfl,rt,_,_,_,rfl,rfl,R1,aN (j:=2) rfl,_,rfl,_,rv,y,r,fl,x,rfl,hRk,yB,hx,h100',λu H2 s2 hu=>?_⟩;refine⟨_,rfl,mm.ma,C,ndx,_,_,rfl,s2 _ _ n1,ac.cl,ac.cz,fZ,_,rfl,mm.rc,qys,_,n,rfl,rfl,s2 _ _ q1,sy hn,?_⟩;have M2:=M1.same s2;have DB:aC [mm.rc] H2 (upd H2 mm.rc (.lst (qys.set n u))):=aY;have PD:bq H2 [mm.rc]:=M2.rK.sub (λc hc=>by rw[bN hc];exact cf.2.2.1);have M3:=M2.Pl DB uS (((q2.imp λy x h=>(h.same s2).keep DB PD)).set (hu.keep DB PD) n);have K3:=(K1.trans (cC s2)).trans (DB.sub λc hc=>by rw[bN hc];exact cf.2.2.1);generalize upd H2 mm.rc _=H3 at M3 K3 ⊢;refine⟨_,rfl,rfl,_,rfl,pG rfl ?_⟩;have F3:=M3.last (fs:=fs) rfl;obtain⟨_,_,⟨gzs,e4,e5⟩,_⟩:=id F3;obtain⟨ws,w',rfl,hws,hww⟩:=e5.lastOf;refine⟨_,rfl,.inl ⟨rfl,_,bt.of e4⟩,fr.sl,_,w',rfl,rfl,e4,ij,?_⟩;rw[aaZ];obtain⟨b1,b2⟩:=F3.iz (aF.refl H3) hws;have M4:=M3.top (fs:=fs) (f:={fr with st:=st++[.rcd n]}) (f':={fr with st:=st}) rfl rfl rfl rfl b2 b1;exact q {fr with st:=st} _ rfl rfl rfl rfl M4 (K3.trans (b2.sub ff))
theorem EM:aA ["number"] ["number"] (dS uh):=by walk_at "sc"
theorem EN{f:Addr}{fd:FuncData}(F:er K "wrapped" "wrapped" uh f fd){Bj:Tok}(uC:mg "HALF"=some (.int 2147483648 Bj))(LB:RelV (.int 2147483648) (.int 2147483648 Bj)){Bl:Tok}(xU:mg "TURN"=some (.int 4294967296 Bl))(Ud:RelV (.int 4294967296) (.int 4294967296 Bl)){ab:Addr}(aj:ah K ab):bp P w K mg base aM 1 f fd ["number"] (lE K):=by
 refine F.ok EM (λvs H Q E h=>?_) (λcdv A outer s H vs Q E hr h=>?_)
 ·obtain⟨n,rfl,q⟩:=h;rfl
 obtain⟨n,rfl,q⟩:=h;refine⟨_,(qO (aE (aT gH (aT gI (aT gF (pv 0) (i3 rfl uC LB)) (i3 rfl xU Ud)) (i3 rfl uC LB)))),?_⟩;walk_at "rd";exact q
theorem EO:aA ["sign","one","other"] ["sign","one","other"] (dS ui):=by walk_at "sc"
theorem ER{f:Addr}{fd:FuncData}(F:er K "divided" "divided" ui f fd){ab:Addr}(aj:ah K ab)(kB:cT P w K mg base aM "wrapped" 1 ["number"] (lE K)):bp P w K mg base aM 2 f fd ["sign","one","other"] (qQ K):=by
 refine F.ok EO (λvs H Q E h=>?_) (λcdv A outer s H vs Q E hr h=>?_)
 ·obtain⟨sign,a,b,rfl,hp,ha,hb,z,q⟩:=h;rfl
 obtain⟨sign,a,b,rfl,hp,ha,hb,z,q⟩:=h;refine⟨_,(qK (bg (tR bK (pv 2) pI (aH _)) (qO mH) aX)
   (qK (bg (tR bK (pv 0) aV (aH _)) (qO (aE (cg kB (hr.mono (by decide)) rfl (pK (aT Kp (pv 1) (pv 2)) pN)))) aX)
   (qO (aE (aT N4 (pv 1) (pv 2)))))),?_⟩
 refine⟨_,rfl,rfl,_,rfl,?_⟩;refine dk (λy=>z (V.int.inj y)) ?_;have hb':BV a b:=⟨z,by unfold lu at hb;omega⟩;refine⟨_,rfl,rfl,_,rfl,?_⟩;rcases hp with rfl | rfl
 ·refine pG rfl ?_;rw[Tz]at q;exact⟨_,rfl,_,rfl,_,_,rfl,rfl,hb',_,rfl,q⟩
 ·refine dk (by decide +kernel) ?_;rw[TB]at q;exact⟨_,rfl,_,rfl,_,_,rfl,rfl,z,q⟩
theorem CG:aA ["sign","one","other"] ["sign","one","other"] (dS qC):=by walk_at "sc"
theorem CH{f:Addr}{fd:FuncData}(F:er K "reckoned" "reckoned" qC f fd){ab:Addr}(aj:ah K ab)(Hz:cT P w K mg base aM "divided" 2 ["sign","one","other"] (qQ K))(kB:cT P w K mg base aM "wrapped" 1 ["number"] (lE K)):bp P w K mg base aM 3 f fd ["sign","one","other"] (mX K):=by
 refine F.ok CG (λvs H Q E h=>?_) (λcdv A outer s H vs Q E hr h=>?_)
 ·obtain⟨sign,a,b,rfl,hp,ha,hb,hz,q0⟩:=h;rfl
 obtain⟨sign,a,b,rfl,hp,ha,hb,hz,q0⟩:=h;refine⟨_,(qK (bg (tR bK (pv 0) aV (aH _)) (qO (aE (cg kB (hr.mono (by decide)) rfl (pK (aT gF (pv 1) (pv 2)) pN)))) aX)
   (qK (bg (tR bK (pv 0) aV (aH _)) (qO (aE (cg kB (hr.mono (by decide)) rfl (pK (aT gH (pv 1) (pv 2)) pN)))) aX)
   (qK (bg (tR bK (pv 0) aV (aH _)) (qO (aE (cg kB (hr.mono (by decide)) rfl (pK (aT zY (pv 1) (pv 2)) pN)))) aX)
   (qK (bg (tR bK (pv 0) aV (aH _)) (qO (aE (BK (tR FK (pv 1) (pv 2) (aH _)) pI pI))) aX)
   (qK (bg (tR bK (pv 0) aV (aH _)) (qO (aE (BK (tR bK (pv 1) (pv 2) (aH _)) pI pI))) aX)
   (qO (aE (cg Hz (hr.mono (by decide)) rfl (pK (pv 0) (pK (pv 1) (pK (pv 2) pN))))))))))),?_⟩
 have q:(parts sign->b≠0)->Q (.int (rk sign a b)) H:=λ_=>q0
 have no:∀s1 s2:Str,s1≠s2->¬ (V.str s1=V.str s2):=λs1 s2 h z=>h (V.str.inj z)
 rcases hp with rfl | rfl | rfl | rfl | rfl | hp
 ·refine⟨_,rfl,rfl,_,rfl,pG rfl ?_⟩;have y:=q λz=>absurd z dv.1
  rw[Ll]at y;exact⟨_,rfl,_,rfl,_,_,rfl,rfl,_,rfl,y⟩
 ·refine⟨_,rfl,rfl,_,rfl,dk (by decide +kernel) ?_⟩;refine⟨_,rfl,rfl,_,rfl,pG rfl ?_⟩;have y:=q λz=>absurd z dv.2.1
  rw[Lm]at y;exact⟨_,rfl,_,rfl,_,_,rfl,rfl,_,rfl,y⟩
 ·refine⟨_,rfl,rfl,_,rfl,dk (by decide +kernel) ?_⟩;refine⟨_,rfl,rfl,_,rfl,dk (by decide +kernel) ?_⟩;refine⟨_,rfl,rfl,_,rfl,pG rfl ?_⟩;have hm:JR a b:=.inl ⟨by unfold lu at ha;omega,by unfold lu at ha;omega⟩;have y:=q λz=>absurd z dv.2.2.1
  rw[Ln]at y;exact⟨_,rfl,_,rfl,_,_,rfl,rfl,hm,_,rfl,y⟩
 ·refine⟨_,rfl,rfl,_,rfl,dk (by decide +kernel) ?_⟩;refine⟨_,rfl,rfl,_,rfl,dk (by decide +kernel) ?_⟩;refine⟨_,rfl,rfl,_,rfl,dk (by decide +kernel) ?_⟩;refine⟨_,rfl,rfl,_,rfl,pG rfl ?_⟩;refine⟨_,rfl,_,rfl,_,_,rfl,rfl,_,rfl,?_⟩;have z:=q λz=>absurd z dv.2.2.2.1
  have e:=Pg a b;rw[e]at z;by_cases y:a < b
  ·rw[aaq y]at z;exact pG y z
  ·rw[aan y]at z;exact dk y z
 ·refine⟨_,rfl,rfl,_,rfl,dk (by decide +kernel) ?_⟩;refine⟨_,rfl,rfl,_,rfl,dk (by decide +kernel) ?_⟩;refine⟨_,rfl,rfl,_,rfl,dk (by decide +kernel) ?_⟩;refine⟨_,rfl,rfl,_,rfl,dk (by decide +kernel) ?_⟩;refine⟨_,rfl,rfl,_,rfl,pG rfl ?_⟩;refine⟨_,rfl,_,rfl,rfl,_,rfl,?_⟩;have z:=q λz=>absurd z dv.2.2.2.2
  have e:=Ph a b;rw[e]at z;by_cases y:a=b
  ·rw[aaq y]at z;exact pG (abv V.int y) z
  ·rw[aan y]at z;exact dk (λw=>y (V.int.inj w)) z
 ·have h1:sign≠"add"/\sign≠"sub"/\sign≠"mul"/\sign≠"less"/\sign≠"same":=by rcases hp with rfl | rfl<;>decide +kernel
  refine⟨_,rfl,rfl,_,rfl,dk (no _ _ h1.1) ?_⟩;refine⟨_,rfl,rfl,_,rfl,dk (no _ _ h1.2.1) ?_⟩;refine⟨_,rfl,rfl,_,rfl,dk (no _ _ h1.2.2.1) ?_⟩;refine⟨_,rfl,rfl,_,rfl,dk (no _ _ h1.2.2.2.1) ?_⟩;refine⟨_,rfl,rfl,_,rfl,dk (no _ _ h1.2.2.2.2) ?_⟩;exact⟨_,rfl,_,rfl,_,rfl,sign,a,b,rfl,hp,ha,hb,hz hp,q0⟩
theorem CI:aA ["stack","many","values"] ["stack","many"] (dS AK):=by walk_at "sc"
theorem LC{f:Addr}{fd:FuncData}(F:er K "taken" "taken" AK f fd)(ja:mg "range"=none){ab:Addr}(aj:ah K ab):bp P w K mg base aM 1 f fd ["stack","many"] (sP K):=by
 refine F.ok CI (λvs H Q E h=>?_) (λcdv A outer s H vs Q E hr h=>?_)
 ·obtain⟨sl,xs,n,rfl,hS,hn,fM,q⟩:=h;rfl
 obtain⟨sl,xs,n,rfl,hS,hn,fM,q⟩:=h;refine⟨_,(qK (mK (i:=2) CI.nd rfl (aai rfl) 1 ["k","stack"] [0] ⟨rfl,rfl,rfl,rfl,rfl,rfl,rfl,rfl⟩ (zc rfl ja (pK (pv 1) pN)) (λ_ _ _ _=>⟨(dW (i:=0) (show List.Nodup (["k","stack"]:List Str)by decide +kernel) rfl (aai rfl)),kN,(show PE _ _ (VW K _ _ _)from (iI aae aaJ aaK jg (pv 1)))⟩))
   (qK (bC (iI aae PySem.F.slot_list_reverse PySem.F.type_list_reverse D9 (pv 2)))
   (qO (aE (pv 2))))),?_⟩
 refine⟨_,rfl,_,rfl,by omega,by omega,λD hD=>?_⟩;have nD:sl≠D:=nN hS hD;refine Kc (lo:=0) (n:=((n:Nat):Int).toNat) (λi ws H2=>H2 D=some (.lst ws)/\ws=(xs.drop (xs.length - i)).reverse/\H2 sl=some (.lst (xs.take (xs.length - i)))/\∀c o,c≠sl->H c=some o->H2 c=some o) (Nat.le_of_lt (sK (by omega))) ⟨uS,by simp,(uN nD).trans (by rw[hS];simp),λc o h1 e=>by rw[uN (nN e hD)];exact e⟩ ?_ ?_ ?_
 ·rintro i ws H2 ⟨e1,rfl,_⟩;refine⟨e1,?_⟩;rw[List.length_reverse,aaY];omega
 ·rintro i ws H2 hi ⟨e1,rfl,e3,e4⟩;have hix:i < xs.length:=by omega
  refine⟨rfl,_,rfl,.inl ⟨rfl,_,bt.of e3⟩,sl,_,_,rfl,rfl,e3,Py hix,(uN nD.symm).trans e1,uS,TQ hix,?_,λc o h1 e=>?_⟩
  ·rw[uN nD,uS,Pz hix]
  ·rw[uN (nN e hD),uN h1];exact e4 c o h1 e
 rintro ws H2 ⟨e1,rfl,e3,e4⟩;rw[aa0]at e1 e3;refine⟨_,rfl,.inl ⟨rfl,_,bt.of e1⟩,D,_,rfl,rfl,e1,?_⟩;refine⟨_,rfl,q D _ hD ?_ ((uN nD).trans e3) (λc o h1 e=>?_)⟩
 ·rw[uS,List.reverse_reverse]
 ·rw[uN (nN e hD)];exact e4 c o h1 e
theorem dn:aA ["self","frame","sign","pair","word"] ["self","frame","sign"] (dS dI):=by walk_at "sc"
theorem gE{f:Addr}{fd:FuncData}(F:er K "do_reckoning" "Plain.do_reckoning" dI f fd){ab:Addr}(aj:ah K ab){C:Addr}{wt:Bool}(ac:au K C)(ES:cT P w K mg base aM "reckoned" 3 ["sign","one","other"] (mX K))(Bm:cT P w K mg base aM "taken" 1 ["stack","many"] (sP K))(eY:bH P w K mg base aM C "bare" 1 ["self","value"] (i6 K wt))(g7:bH P w K mg base aM C "tagged" 1 ["self","tag","number"] (fK K wt)):bp P w K mg base aM 4 f fd ["self","frame","sign"] (eX K ab C wt):=by
 refine F.ok dn (λvs H Q E h=>?_) (λcdv A outer s H vs Q E hr h=>?_)
 ·obtain⟨mm,fs,fr,s',st,x,y,rfl,hM,hf,hst,hs,hx,hy,hz,fM,q⟩:=h;rfl
 obtain⟨mm,fs,fr,s',st,x,y,rfl,hM,hf,hst,hs,hx,hy,hz,fM,q⟩:=h;refine⟨_,(qK (mK (i:=3) dn.nd rfl (aai rfl) 1 ["value","self"] [0] ⟨rfl,rfl,rfl,rfl,rfl,rfl,rfl,rfl⟩ (kJ (cg Bm (hr.mono (by decide)) rfl (pK (aO (pv 1) rfl) (pK pI pN)))) (λ_ _ _ _=>⟨(dW (i:=0) (show List.Nodup (["value","self"]:List Str)by decide +kernel) rfl (aai rfl)),kN,(show PE _ _ (zd C _ _ [] _ _ _)from (c9 (pv 1) eY bV (hr.mono (by decide)) (pK (pv 0) pN)))⟩))
   (qK (OE (λ_=>(qO (bI (i:=4) dn.nd rfl (aai rfl) (cg ES (hr.mono (by decide)) rfl (pK (pv 2) (pK (az (r:=Of K) bj (pv 3) pI (λ_ _=>rfl)) (pK (az (r:=Of K) bj (pv 3) pI (λ_ _=>rfl)) pN))))))))
   (qK (bC (kq aae aaA aaB cj (aO (pv 1) rfl) (pK (c9 (pv 0) g7 bV (hr.mono (by decide)) (pK aV (pK (pv 4) pN))) pN)))
   (qO (cP (pv 1) (aT gF (aO (pv 1) rfl) pI) rfl))))),?_⟩
 have hF:=hM.last hf;obtain⟨⟨fdx,f1⟩,⟨bys,f2,f3⟩,⟨sys,f4,f5⟩,fne⟩:=id hF;have ff:=jK hf;obtain⟨mdx,ev,m1,m2⟩:=hM.ob;rw[hst]at f5 fM;obtain⟨zs,u,v,rfl,hzs,hu,hv⟩:=f5.Lo;refine⟨_,rfl,fr.fa,ab,fdx,_,_,rfl,f1,aj.cl,aj.ig,fY,?_⟩;refine⟨fr.sl,_,2,rfl,f4,by simp,by decide,λl H1 nl g1 g2 k1=>?_⟩;rw[XZ.1]at g1;rw[XZ.2]at g2;have kx:aC [fr.sl] H H1:=λc o hc e=>k1 c o (λz=>hc (by rw[z];exact List.mem_singleton.mpr rfl)) e
 have mu:bq H [fr.sl]:=hF.rK.sub (λc hc=>by rw[bN hc];simp[gC]);obtain⟨a1,a2⟩:=hF.putSt kx g2 (hzs.keep kx mu);have M1:=hM.top hf (f':={fr with st:=st}) rfl rfl rfl a2 a1;have ZG:=hu.keep kx mu;have yB:=hv.keep kx mu;obtain⟨ndx,nev,n1,n2⟩:=M1.ob;refine⟨l,rfl,⟨_,bt.of g1⟩,λD hD=>?_⟩;refine rY (xs:=[u,v]) (λi ys H3=>aF H1 H3/\H3 D=some (.lst ys)/\ys=(([x,y]:List Int).take i).map V.int) GQ ⟨sN hD _,uS,rfl⟩ ?_ ?_ ?_
 ·rintro i ys H3 hi ⟨s3,g3,rfl⟩;refine⟨g3,?_,s3.seq (bt.of g1)⟩;rw[aah,aaC];omega
 ·rintro i w ys H3 hx' ⟨s3,g3,rfl⟩
  obtain⟨n,hw,e⟩:∃n:Int,yI K H1 wt w (.num n)/\(([x,y]:List Int).take i).map V.int++[.int n]=(([x,y]:List Int).take (i + 1)).map V.int:=by
   match i,hx' with
   | 0,hx'=>cases hx';exact⟨x,ZG,rfl⟩
   | 1,hx'=>cases hx';exact⟨y,yB,rfl⟩
   | (k + 2),hx'=>simp at hx'
  exact⟨rfl,_,rfl,mm.ma,ndx,_,rfl,s3 _ _ n1,mc_no (by decide +kernel),_,rfl,_,w,.num n,rfl,hw.same s3,(by intro z;cases z),g3,xD s3 hD _,uS,e⟩
 rintro ys H3 ⟨s3,g3,rfl⟩;refine⟨_,rfl,_,rfl,D,_,_,_,rfl,rfl,bt.of g3,aN (j:=0) rfl,_,rfl,D,_,_,_,rfl,rfl,bt.of g3,aN (j:=1) rfl,s',x,y,rfl,hs,hx,hy,hz,?_⟩;have M3:=M1.same s3;have F3:=M3.last rfl;obtain⟨⟨gdx,e1⟩,⟨gys,e2,e3⟩,⟨gzs,e4,e5⟩,gne⟩:=id F3;obtain⟨pdx,pev,p1,p2⟩:=M3.ob;have lz:=e5.1;refine⟨_,rfl,fr.fa,ab,gdx,_,_,rfl,e1,aj.cl,aj.ig,fY,.inl ⟨rfl,_,bt.of e4⟩,_,rfl,mm.ma,pdx,_,rfl,p1,mc_no (by decide +kernel),_,rfl,_,.num (rk s' x y),(λz=>nomatch z),rfl,λw H4 s4 hw=>?_⟩;refine⟨fr.sl,gzs,w,rfl,rfl,s4 _ _ e4,sK (by show gzs.length<=1000;rw[lz];simp at fM;show st.length<=1000;omega),?_⟩;obtain⟨b1,b2⟩:=F3.iz s4 ((e5.same s4).snoc hw);have M4:=M3.top (fs:=fs) (f:={fr with st:=st}) (f':={fr with st:=st++[.num (rk s' x y)]}) rfl rfl rfl rfl b2 b1;have K4:aC (foot mm) H (upd H4 fr.sl (.lst (gzs++[w]))):=((a2.sub ff).trans (cC s3)).trans (b2.sub ff);generalize upd H4 fr.sl (.lst (gzs++[w]))=H5 at M4 K4 ⊢;have F4:=M4.last rfl;obtain⟨⟨hdx,i1⟩,_⟩:=id F4;refine⟨_,rfl,fr.fa,ab,hdx,_,_,rfl,i1,aj.cl,aj.pJ,uZ,_,_,rfl,rfl,_,rfl,fr.fa,ab,hdx,_,rfl,i1,aj.cl,aj.pJ,qI,?_⟩;rw[jo];obtain⟨c1,c2⟩:=F4.setAt (dx:=hdx) (a:=fr.at' + 1);have M5:=M4.top (fs:=fs) (f:={fr with st:=st++[.num (rk s' x y)]}) (f':={fr with st:=st++[.num (rk s' x y)],at':=fr.at' + 1}) rfl rfl rfl rfl c2 c1;exact q _ M5 (K4.trans (c2.sub ff))
theorem cD:aA ["self","frame","row","sign","stack","pair"] ["self","frame","row"] (dS eG):=by walk_at "sc"
theorem iF{f:Addr}{fd:FuncData}(F:er K "do_straight" "Plain.do_straight" eG f fd){ab:Addr}(aj:ah K ab){C:Addr}{wt:Bool}(ac:au K C)(Bm:cT P w K mg base aM "taken" 1 ["stack","many"] (sP K))(eY:bH P w K mg base aM C "bare" 1 ["self","value"] (i6 K wt))(g7:bH P w K mg base aM C "tagged" 1 ["self","tag","number"] (fK K wt)):bp P w K mg base aM 2 f fd ["self","frame","row"] (gh K ab C wt):=by
 refine F.ok cD (λvs H Q E h=>?_) (λcdv A outer s H vs Q E hr h=>?_)
 ·obtain⟨mm,fs,fr,g',r,rt,sd,rfl,hM,hf,hR,hK,fM,Uc,q⟩:=h;rfl
 obtain⟨mm,fs,fr,g',r,rt,sd,rfl,hM,hf,hR,hK,fM,Uc,q⟩:=h;refine⟨_,(qK (bI (i:=3) cD.nd rfl (aai rfl) (az aB (pv 2) pI (λ_ _=>rfl)))
   (qK (bI (i:=4) cD.nd rfl (aai rfl) (aO (pv 1) rfl))
   (qO (bg (tR bK (pv 3) aV (aH _)) (qO (bC (kq aae aaA aaB cj (pv 4) (pK (c9 (pv 0) g7 bV (hr.mono (by decide)) (pK aV (pK (az aB (pv 2) pI (λ_ _=>rfl)) pN))) pN)))) (qO (bg (tR bK (pv 3) aV (aH _)) (qO (bC (kq aae aaA aaB cj (pv 4) (pK (az bj (aO (pv 1) rfl) (az aB (pv 2) pI (λ_ _=>rfl)) (λ_ _=>rfl)) pN)))) (qO (bg (tR bK (pv 3) aV (aH _)) (qO (zW (iI aae aaJ aaK jg (pv 4)) (zV (aO (pv 1) rfl) (az aB (pv 2) pI (λ_ _=>rfl)) set_list))) (qO (bg (tR bK (pv 3) aV (aH _)) (qO (bC (kq aae aaA aaB cj (pv 4) (pK (az bj (pv 4) (rO kL pI) (λ_ _=>rfl)) pN)))) (qO (bg (tR bK (pv 3) aV (aH _)) (qK (bI (i:=5) cD.nd rfl (aai rfl) (cg Bm (hr.mono (by decide)) rfl (pK (pv 4) (pK pI pN))))
   (qO (bC (kq aae PySem.F.slot_list_extend PySem.F.type_list_extend G4 (pv 4) (pK (dD (pK (az bj (pv 5) pI (λ_ _=>rfl)) (pK (az bj (pv 5) pI (λ_ _=>rfl)) pN))) pN))))) (qO (bg (tR bK (pv 3) aV (aH _)) (qO (bC (iI aae aaJ aaK jg (pv 4)))) (qO (bC (kq aae aaA aaB cj (aO (pv 0) rfl) (pK (c9 (pv 0) eY bV (hr.mono (by decide)) (pK (iI aae aaJ aaK jg (pv 4)) pN)) pN)))))))))))))))))),?_⟩
 have hF:=hM.last hf;obtain⟨⟨fdx,f1⟩,⟨bys,f2,f3⟩,⟨sys,f4,f5⟩,fne⟩:=id hF;have lst:=f5.1;have ff:=jK hf;obtain⟨mdx,ev,m1,m2⟩:=hM.ob;refine⟨_,rfl,rt,_,_,_,rfl,rfl,hR,aN (j:=0) rfl,?_⟩;refine⟨_,rfl,fr.fa,ab,fdx,_,_,rfl,f1,aj.cl,aj.ig,fY,?_⟩
 cases hK with
 | push =>
  rename_i w;refine⟨_,rfl,rfl,_,rfl,pG rfl ?_⟩;refine⟨_,rfl,.inl ⟨rfl,_,bt.of f4⟩,_,rfl,mm.ma,mdx,_,rfl,m1,mc_no (by decide +kernel),_,rfl,rt,_,_,_,rfl,rfl,hR,aN (j:=1) rfl,_,.num w,(λz=>nomatch z),rfl,λv H1 s1 hv=>?_⟩;obtain⟨a1,a2⟩:=hF.iz s1 ((f5.same s1).snoc hv);exact⟨fr.sl,sys,v,rfl,rfl,s1 _ _ f4,big (by omega),q {fr with st:=fr.st++[.num w]} _ rfl rfl rfl rfl (hM.top hf rfl rfl rfl a2 a1) (a2.sub ff)⟩
 | load hx =>
  rename_i b x;refine⟨_,rfl,rfl,_,rfl,dk (show ¬ V.str "load"=V.str "push" by decide +kernel) ?_⟩;refine⟨_,rfl,rfl,_,rfl,pG rfl ?_⟩;obtain⟨y,hy,hv⟩:=f3.at hx;refine⟨_,rfl,.inl ⟨rfl,_,bt.of f4⟩,_,rfl,fr.fa,ab,fdx,_,_,rfl,f1,aj.cl,aj.AM,Cg,_,rfl,rt,_,_,_,rfl,rfl,hR,aN (j:=1) rfl,fr.bl,_,_,_,rfl,rfl,bt.of f2,aN hy,?_⟩;obtain⟨a1,a2⟩:=hF.iz (aF.refl H) (f5.snoc hv);exact⟨fr.sl,sys,y,rfl,rfl,f4,big (by omega),q {fr with st:=fr.st++[x]} _ rfl rfl rfl rfl (hM.top hf rfl rfl rfl a2 a1) (a2.sub ff)⟩
 | store hst hb =>
  rename_i b st x;have hst:fr.st=_:=hst;refine⟨_,rfl,rfl,_,rfl,dk (show ¬ V.str "store"=V.str "push" by decide +kernel) ?_⟩;refine⟨_,rfl,rfl,_,rfl,dk (show ¬ V.str "store"=V.str "load" by decide +kernel) ?_⟩;refine⟨_,rfl,rfl,_,rfl,pG rfl ?_⟩;rw[hst]at f5;obtain⟨zs,y,rfl,hz,hv⟩:=f5.lastOf;refine⟨_,rfl,.inl ⟨rfl,_,bt.of f4⟩,fr.sl,_,y,rfl,rfl,f4,ij,?_⟩;rw[List.dropLast_concat];obtain⟨a1,a2⟩:=hF.iz (aF.refl H) hz;have M1:=hM.top hf (f':={fr with st:=st}) rfl rfl rfl a2 a1;have F1:=M1.last rfl;obtain⟨⟨gdx,g1⟩,⟨gys,g2,g3⟩,⟨gzs,g4,g5⟩,gne⟩:=id F1;have kx:aC [fr.sl] H (upd H fr.sl (.lst zs)):=aY;have mu:bq H [fr.sl]:=hF.rK.sub (λc hc=>by rw[bN hc];simp[gC]);have yB:=hv.keep kx mu;have gR:=bu.keep kx mu hR;have a2':=a2.sub ff;generalize upd H fr.sl (.lst zs)=H1 at M1 F1 g1 g2 g3 g4 g5 yB gR a2' ⊢;have lb:=g3.1;refine⟨_,rfl,fr.fa,ab,gdx,_,_,rfl,g1,aj.cl,aj.AM,Cg,_,rfl,rt,_,_,_,rfl,rfl,gR,aN (j:=1) rfl,fr.bl,gys,_,b,rfl,rfl,g2,sy (by show b < gys.length;rw[lb];exact hb),?_⟩;obtain⟨b1,b2⟩:=F1.WE (aF.refl H1) (g3.set yB b);have M2:=M1.top (fs:=fs) (f:={fr with st:=st}) (f':={fr with bx:=fr.bx.set b x,st:=st}) rfl rfl rfl rfl b2 b1;exact q {fr with bx:=fr.bx.set b x,st:=st} _ rfl rfl rfl rfl M2 (a2'.trans (b2.sub ff))
 | dup hst =>
  rename_i st x;have hst:fr.st=_:=hst;refine⟨_,rfl,rfl,_,rfl,dk (by decide +kernel) ?_⟩;refine⟨_,rfl,rfl,_,rfl,dk (by decide +kernel) ?_⟩;refine⟨_,rfl,rfl,_,rfl,dk (by decide +kernel) ?_⟩;refine⟨_,rfl,rfl,_,rfl,pG rfl ?_⟩;have f5':=f5;rw[hst]at f5';obtain⟨zs,y,rfl,hz,hv⟩:=f5'.lastOf;refine⟨_,rfl,.inl ⟨rfl,_,bt.of f4⟩,_,rfl,_,rfl,fr.sl,_,_,_,rfl,rfl,bt.of f4,dN,?_⟩;obtain⟨a1,a2⟩:=hF.iz (aF.refl H) (f5.snoc hv);exact⟨fr.sl,_,y,rfl,rfl,f4,big (by omega),q {fr with st:=fr.st++[x]} _ rfl rfl rfl rfl (hM.top hf rfl rfl rfl a2 a1) (a2.sub ff)⟩
 | swap hst =>
  rename_i st x y;have hst:fr.st=_:=hst;refine⟨_,rfl,rfl,_,rfl,dk (by decide +kernel) ?_⟩;refine⟨_,rfl,rfl,_,rfl,dk (by decide +kernel) ?_⟩;refine⟨_,rfl,rfl,_,rfl,dk (by decide +kernel) ?_⟩;refine⟨_,rfl,rfl,_,rfl,dk (by decide +kernel) ?_⟩;refine⟨_,rfl,rfl,_,rfl,pG rfl ?_⟩;rw[hst]at f5;obtain⟨zs,u,v,rfl,hz,hu,hv⟩:=f5.Lo;refine⟨_,rfl,fr.sl,_,2,rfl,f4,by simp,by decide,λl H1 nl g1 g2 k1=>?_⟩;rw[XZ.1]at g1;rw[XZ.2]at g2;have kx:aC [fr.sl] H H1:=λc o hc e=>k1 c o (λz=>hc (by rw[z];exact List.mem_singleton.mpr rfl)) e
  have mu:bq H [fr.sl]:=hF.rK.sub (λc hc=>by rw[bN hc];simp[gC]);obtain⟨a1,a2⟩:=hF.putSt kx g2 (hz.keep kx mu);have M1:=hM.top hf (f':={fr with st:=st}) rfl rfl rfl a2 a1;have ZG:=hu.keep kx mu;have yB:=hv.keep kx mu;refine⟨_,rfl,.inl ⟨rfl,_,bt.of g2⟩,_,rfl,l,_,_,_,rfl,rfl,bt.of g1,aN (j:=1) rfl,_,rfl,l,_,_,_,rfl,rfl,bt.of g1,aN (j:=0) rfl,GQ,λl2 h2=>?_⟩;have s2:=sN h2 (.lst [v,u]);have lz:zs.length<=1000:=by rw[hst]at fM;have:=hz.1;simp at fM;omega
  refine⟨fr.sl,l2,zs,_,rfl,rfl,s2 _ _ g2,uS,Nat.le_of_lt (big (by simp;omega)),?_⟩;obtain⟨b1,b2⟩:=(M1.last rfl).iz s2 (((hz.keep kx mu).same s2).append (iM.snoc (iM.snoc iM.nil (yB.same s2)) (ZG.same s2)));have M2:=M1.top (fs:=fs) (f:={fr with st:=st}) (f':={fr with st:=st++[y,x]}) rfl rfl rfl rfl b2 b1;exact q {fr with st:=st++[y,x]} _ rfl rfl rfl rfl M2 ((a2.sub ff).trans (b2.sub ff))
 | drop hst =>
  rename_i st x;have hst:fr.st=_:=hst;refine⟨_,rfl,rfl,_,rfl,dk (by decide +kernel) ?_⟩;refine⟨_,rfl,rfl,_,rfl,dk (by decide +kernel) ?_⟩;refine⟨_,rfl,rfl,_,rfl,dk (by decide +kernel) ?_⟩;refine⟨_,rfl,rfl,_,rfl,dk (by decide +kernel) ?_⟩;refine⟨_,rfl,rfl,_,rfl,dk (by decide +kernel) ?_⟩;refine⟨_,rfl,rfl,_,rfl,pG rfl ?_⟩;rw[hst]at f5;obtain⟨zs,y,rfl,hz,hv⟩:=f5.lastOf;refine⟨_,rfl,.inl ⟨rfl,_,bt.of f4⟩,fr.sl,_,y,rfl,rfl,f4,ij,?_⟩;rw[aaZ];obtain⟨a1,a2⟩:=hF.iz (aF.refl H) hz;exact q {fr with st:=st} _ rfl rfl rfl rfl (hM.top hf rfl rfl rfl a2 a1) (a2.sub ff)
 | say hst hn =>
  rename_i st x;have hst:fr.st=_:=hst;refine⟨_,rfl,rfl,_,rfl,dk (by decide +kernel) ?_⟩;refine⟨_,rfl,rfl,_,rfl,dk (by decide +kernel) ?_⟩;refine⟨_,rfl,rfl,_,rfl,dk (by decide +kernel) ?_⟩;refine⟨_,rfl,rfl,_,rfl,dk (by decide +kernel) ?_⟩;refine⟨_,rfl,rfl,_,rfl,dk (by decide +kernel) ?_⟩;refine⟨_,rfl,rfl,_,rfl,dk (by decide +kernel) ?_⟩;rw[hst]at f5;obtain⟨zs,y,rfl,hz,hv⟩:=f5.lastOf;have kx:aC [fr.sl] H (upd H fr.sl (.lst zs)):=aY;have mu:bq H [fr.sl]:=hF.rK.sub (λc hc=>by rw[bN hc];simp[gC]);obtain⟨a1,a2⟩:=hF.iz (aF.refl H) hz;have M1:=hM.top hf (f':={fr with st:=st}) rfl rfl rfl a2 a1;have yB:=hv.keep kx mu;refine⟨_,rfl,mm.ma,C,mdx,_,_,rfl,m1,ac.cl,ac.Eu,Gx,.inl ⟨rfl,_,bt.of hM.sd⟩,_,rfl,mm.ma,mdx,_,rfl,m1,mc_no (by decide +kernel),_,rfl,.inl ⟨rfl,_,bt.of f4⟩,fr.sl,_,y,rfl,rfl,f4,ij,?_⟩;rw[List.dropLast_concat];refine⟨_,y,x,rfl,yB,hn,mm.sd,_,_,rfl,rfl,M1.sd,big (by rw[List.length_map];show mm.said.length<=1000000;omega),?_⟩;have M2:=M1.says (sd:=mm.said++[iy x]) (H':=upd (upd H fr.sl (.lst zs)) mm.sd (.lst (mm.said.map V.int++[.int (iy x)]))) aY (by rw[uS,List.map_append];rfl);refine q {fr with st:=st} _ rfl rfl rfl rfl M2 ((a2.sub ff).trans (aC.sub aY (λc hc=>by rw[bN hc];simp[foot])))
theorem mq:aA ["self","frame","row","sign"] ["self","frame","row"] (dS jk):=by walk_at "sc"
theorem mr{f:Addr}{fd:FuncData}(F:er K "do_row" "Plain.do_row" jk f fd){pE:Addr}(sZ:mg "GOING"=some (.ref pE))(PJ:∀H:Hp,aZ K H (.ref pE) B8)(X2:∃o,K.lookup pE=some o/\o.cls=.type "tuple"/\o.dict=none){cX:Addr}(gp:mg "OF_RECORDS"=some (.ref cX))(Bn:∀H:Hp,aZ K H (.ref cX) p6)(PK:∃o,K.lookup cX=some o/\o.cls=.type "tuple"/\o.dict=none){cE:Addr}(iG:mg "RECKONING"=some (.ref cE))(CJ:∀H:Hp,aZ K H (.ref cE) sv)(RZ:∃o,K.lookup cE=some o/\o.cls=.type "tuple"/\o.dict=none){ab:Addr}(aj:ah K ab){C:Addr}{wt:Bool}(ac:au K C)(ET:bH P w K mg base aM C "do_give" 2 ["self","frame"] (lD K ab C wt))(CK:bH P w K mg base aM C "do_going" 4 ["self","frame","row"] (jR K ab C wt))(uD:bH P w K mg base aM C "do_of_records" 4 ["self","stack","row"] (en K ab C wt))(wu:bH P w K mg base aM C "do_reckoning" 4 ["self","frame","sign"] (eX K ab C wt))(xV:bH P w K mg base aM C "do_straight" 2 ["self","frame","row"] (gh K ab C wt)):bp P w K mg base aM 5 f fd ["self","frame","row"] (pD K ab C wt):=by
 refine F.ok mq (λvs H Q E h=>?_) (λcdv A outer s H vs Q E hr h=>?_)
 ·obtain⟨mm,fs,fr,r,rt,p',rfl,hM,hf,hR,hfi,hD,q⟩:=h;rfl
 obtain⟨mm,fs,fr,r,rt,p',rfl,hM,hf,hR,hfi,hD,q⟩:=h;refine⟨_,(qK (bI (i:=3) mq.nd rfl (aai rfl) (az aB (pv 2) pI (λ_ _=>rfl)))
   (qO (bg (tR ko (pv 3) (i3 (v:=.ref pE) rfl sZ rfl) rfl) (qO (bC (c9 (pv 0) CK bV (hr.mono (by decide)) (pK (pv 1) (pK (pv 2) pN))))) (qO (bg (tR ko (pv 3) (i3 (v:=.ref cE) rfl iG rfl) rfl) (qO (bC (c9 (pv 0) wu bV (hr.mono (by decide)) (pK (pv 1) (pK (pv 3) pN))))) (qO (bg (tR bK (pv 3) aV (aH _)) (qO mH) (qO (bg (tR bK (pv 3) aV (aH _)) (qO (bC (c9 (pv 0) ET bV (hr.mono (by decide)) (pK (pv 1) pN)))) (qO (bg (tR bK (pv 3) aV (aH _)) (qO mH) (qO (bg (tR ko (pv 3) (i3 (v:=.ref cX) rfl gp rfl) rfl) (qK (bC (c9 (pv 0) uD bV (hr.mono (by decide)) (pK (aO (pv 1) rfl) (pK (pv 2) pN))))
   (qO (cP (pv 1) (aT gF (aO (pv 1) rfl) pI) rfl))) (qK (bC (c9 (pv 0) xV bV (hr.mono (by decide)) (pK (pv 1) (pK (pv 2) pN))))
   (qO (cP (pv 1) (aT gF (aO (pv 1) rfl) pI) rfl)))))))))))))))),?_⟩
 have hF:=hM.last hf;obtain⟨⟨fdx,f1⟩,⟨bys,f2,f3⟩,⟨sys,f4,f5⟩,fne⟩:=id hF;have ff:=jK hf;obtain⟨mdx,ev,m1,m2⟩:=id hM.ob;have hst:∀f∈mm.bT,f.st.length<=1000/\∃q,mm.ps[f.part]?=some q:=λf hf=>hfi.st f.pf (List.mem_map.mpr ⟨f,hf,rfl⟩)
 have qb:=(hst fr (by rw[hf];simp)).1;have hC:∀f∈mm.bT,∃q,mm.ps[f.part]?=some q:=λf hf=>(hst f hf).2
 have Vk:mm.bT.length<=12:=by have:=hfi.fr;unfold Mc.pm at this;simpa using this
 refine⟨_,rfl,rt,_,_,_,rfl,rfl,hR,aN (j:=0) rfl,?_⟩;have goT:bu K H pE (NC.map V.str):=uu PJ H;have reT:bu K H cE (yJ.map V.str):=uu CJ H;have rcT:bu K H cX (qJ.map V.str):=uu Bn H;refine⟨_,rfl,pE,NC.map V.str,rfl,.inr goT,rfl,fH _,_,rfl,?_⟩;rw[iw]
 cases hD with
 | str hS =>
  have hs:=hS.sign;rw[decide_eq_false ((by decide +kernel:∀s∈sD,¬ s∈NC) _ hs)];refine dj ?_;refine⟨_,rfl,cE,yJ.map V.str,rfl,.inr reT,rfl,fH _,_,rfl,?_⟩;rw[iw,decide_eq_false ((by decide +kernel:∀s∈sD,¬ s∈yJ) _ hs)];refine dj ?_;refine⟨_,rfl,rfl,_,rfl,dk (λz=>(by decide +kernel:∀s∈sD,¬ s="call") _ hs (V.str.inj z)) ?_⟩;refine⟨_,rfl,rfl,_,rfl,dk (λz=>(by decide +kernel:∀s∈sD,¬ s="give") _ hs (V.str.inj z)) ?_⟩;refine⟨_,rfl,rfl,_,rfl,dk (λz=>(by decide +kernel:∀s∈sD,¬ s="toss") _ hs (V.str.inj z)) ?_⟩;refine⟨_,rfl,cX,qJ.map V.str,rfl,.inr rcT,rfl,fH _,_,rfl,?_⟩;rw[iw,decide_eq_false ((by decide +kernel:∀s∈sD,¬ s∈qJ) _ hs)];refine dj ?_;rename_i g sd;refine⟨_,rfl,mm.ma,mdx,_,rfl,m1,mc_no (by decide +kernel),_,rfl,_,rfl,mm,fs,fr,g,r,rt,sd,rfl,hM,hf,hR,hS,qb,hfi.sd,λf' H1 e0 e1 e2 e3 M1 K1=>?_⟩;have F1:=M1.last (fs:=fs) (f:=f') rfl;obtain⟨⟨gdx,i1⟩,_⟩:=id F1;refine⟨_,rfl,f'.fa,ab,gdx,_,_,by rw[e1],i1,aj.cl,aj.pJ,uZ,_,_,rfl,rfl,_,rfl,f'.fa,ab,gdx,_,by rw[e1],i1,aj.cl,aj.pJ,qI,?_⟩;rw[jo];obtain⟨c1,c2⟩:=F1.setAt (dx:=gdx) (a:=f'.at' + 1);have M2:=M1.top (fs:=fs) (f:=f') (f':={f' with at':=f'.at' + 1}) rfl rfl rfl rfl c2 c1;have ft:∀c∈gC f',c∈foot mm:=λc hc=>ff c (by unfold gC at hc ⊢;rw[e1,e2,e3]at hc;exact hc)
  refine q {mm with bT:=fs++[{f' with at':=f'.at' + 1}],said:=sd} _ ?_ ⟨rfl,rfl⟩ M2 (λc hc=>.inl ?_) (K1.trans (c2.sub ft))
  ·rw[← e0];show({mm with said:=sd,bT:=fs++[{f' with at':=f'.at' + 1}]}:Mc).pm=_;rw[qL (m:={mm with said:=sd})];rfl
  ·have e:=eP (f':={f' with at':=f'.at' + 1}) hf e1 e2 e3;have e':foot {mm with bT:=fs++[{f' with at':=f'.at' + 1}],said:=sd}=foot {mm with bT:=fs++[{f' with at':=f'.at' + 1}]}:=rfl;rw[e',e]at hc;exact hc
 | rcd hS =>
  have hs:=hS.sign;rw[decide_eq_false ((by decide +kernel:∀s∈qJ,¬ s∈NC) _ hs)];refine dj ?_;refine⟨_,rfl,cE,yJ.map V.str,rfl,.inr reT,rfl,fH _,_,rfl,?_⟩;rw[iw,decide_eq_false ((by decide +kernel:∀s∈qJ,¬ s∈yJ) _ hs)];refine dj ?_;refine⟨_,rfl,rfl,_,rfl,dk (λz=>(by decide +kernel:∀s∈qJ,¬ s="call") _ hs (V.str.inj z)) ?_⟩;refine⟨_,rfl,rfl,_,rfl,dk (λz=>(by decide +kernel:∀s∈qJ,¬ s="give") _ hs (V.str.inj z)) ?_⟩;refine⟨_,rfl,rfl,_,rfl,dk (λz=>(by decide +kernel:∀s∈qJ,¬ s="toss") _ hs (V.str.inj z)) ?_⟩;refine⟨_,rfl,cX,qJ.map V.str,rfl,.inr rcT,rfl,fH _,_,rfl,?_⟩;rw[iw,decide_eq_true hs];refine iJ ?_;rename_i g rs;refine⟨_,rfl,mm.ma,mdx,_,rfl,m1,mc_no (by decide +kernel),_,rfl,fr.fa,ab,fdx,_,_,rfl,f1,aj.cl,aj.ig,fY,_,rfl,mm,fs,fr,g,r,rt,rs,rfl,hM,hf,hR,hfi.wf,hfi.few,hS,qb,hfi.rl,λf' H1 e0 e1 e2 e3 M1 K1=>?_⟩;have F1:=M1.last (fs:=fs) (f:=f') rfl;obtain⟨⟨gdx,i1⟩,_⟩:=id F1;refine⟨_,rfl,f'.fa,ab,gdx,_,_,by rw[e1],i1,aj.cl,aj.pJ,uZ,_,_,rfl,rfl,_,rfl,f'.fa,ab,gdx,_,by rw[e1],i1,aj.cl,aj.pJ,qI,?_⟩;rw[jo];obtain⟨c1,c2⟩:=F1.setAt (dx:=gdx) (a:=f'.at' + 1);have M2:=M1.top (fs:=fs) (f:=f') (f':={f' with at':=f'.at' + 1}) rfl rfl rfl rfl c2 c1;have ft:∀c∈gC f',c∈foot mm:=λc hc=>ff c (by unfold gC at hc ⊢;rw[e1,e2,e3]at hc;exact hc)
  refine q {mm with bT:=fs++[{f' with at':=f'.at' + 1}],recs:=rs} _ ?_ ⟨rfl,rfl⟩ M2 (λc hc=>.inl ?_) (K1.trans (c2.sub ft))
  ·rw[← e0];show({mm with recs:=rs,bT:=fs++[{f' with at':=f'.at' + 1}]}:Mc).pm=_;rw[qL (m:={mm with recs:=rs})];rfl
  ·have e:=eP (f':={f' with at':=f'.at' + 1}) hf e1 e2 e3;have e':foot {mm with bT:=fs++[{f' with at':=f'.at' + 1}],recs:=rs}=foot {mm with bT:=fs++[{f' with at':=f'.at' + 1}]}:=rfl;rw[e',e]at hc;exact hc
 | go hG =>
  rename_i g t b;rw[aaM hG.sign];refine iJ ?_;exact⟨_,rfl,mm.ma,mdx,_,rfl,m1,mc_no (by decide +kernel),_,rfl,_,rfl,mm,fs,fr,g,r,rt,t,b,rfl,hM,hf,hR,hfi.wf,hG,q⟩
 | rek hst hs ha hb hz =>
  rename_i s' st a b;have hm:=hs.mem;show if decide (s'∈NC)=true then _ else _
  rw[aaH ((by decide +kernel:∀s∈yJ,¬ s∈NC) _ hm)];refine dj ?_;refine⟨_,rfl,cE,yJ.map V.str,rfl,.inr reT,rfl,fH _,_,rfl,?_⟩;rw[iw];show if decide (s'∈yJ)=true then _ else _
  rw[aaM hm];refine iJ ?_;refine⟨_,rfl,mm.ma,mdx,_,rfl,m1,mc_no (by decide +kernel),_,rfl,_,rfl,mm,fs,fr,s',st,a,b,rfl,hM,hf,hst,hs,ha,hb,hz,qb,λH' M' K'=>q {mm with bT:=fs++[{fr with st:=st++[.num (rk s' a b)],at':=fr.at' + 1}]} H' ?_ ⟨rfl,rfl⟩ M' (λc hc=>.inl ?_) K'⟩
  ·rw[qL];rfl
  ·have e:=eP (f':={fr with st:=st++[.num (rk s' a b)],at':=fr.at' + 1}) hf rfl rfl rfl;rw[e]at hc;exact hc
 | give hst' hn =>
  rename_i st x;rw[aaH (by decide +kernel)];refine dj ?_;refine⟨_,rfl,cE,yJ.map V.str,rfl,.inr reT,rfl,fH _,_,rfl,?_⟩;rw[iw,aaH (by decide +kernel)];refine dj ?_;refine⟨_,rfl,rfl,_,rfl,dk (by decide +kernel) ?_⟩;refine⟨_,rfl,rfl,_,rfl,pG rfl ?_⟩;exact⟨_,rfl,mm.ma,mdx,_,rfl,m1,mc_no (by decide +kernel),_,rfl,mm,fs,fr,st,x,rfl,hM,hf,hst',(λe=>hn (by rw[e];rfl)),(λg hg=>(hst g (by rw[hf];exact abi _ hg)).1),Vk,q⟩
theorem wx:aA ["self","frame","row"] ["self","frame","row"] (dS jl):=by walk_at "sc"
theorem wy{f:Addr}{fd:FuncData}(F:er K "looked" "Plain.looked" jl f fd){ab:Addr}(aj:ah K ab){C:Addr}(ac:au K C):bp P w K mg base aM 6 f fd ["self","frame","row"] (ky K ab C false):=by
 refine F.ok wx (λvs H Q E h=>?_) (λcdv A outer s H vs Q E hr h=>?_)
 ·obtain⟨mm,fs,fr,r,rt,p,ks,rfl,hM,hf,hR,hp,hw,fM,LD,hrc,hnr,hA,q⟩:=h;rfl
 obtain⟨mm,fs,fr,r,rt,p,ks,rfl,hM,hf,hR,hp,hw,fM,LD,hrc,hnr,hA,q⟩:=h;refine⟨_,(qO (aE je)),?_⟩;exact q H (aF.refl _)
theorem Bo:aA ["makes","c"] ["makes","c"] (dS mR):=by walk_at "sc"
theorem Bp{f:Addr}{fd:FuncData}(F:er K "full_mask" "full_mask" mR f fd)(bX:mg "len"=none){ab:Addr}(aj:ah K ab)(dP:cT P w K mg base aM "fields_of" 2 ["makes","c"] (eh K)):bp P w K mg base aM 3 f fd ["makes","c"] (lF K):=by
 refine F.ok Bo (λvs H Q E h=>?_) (λcdv A outer s H vs Q E hr h=>?_)
 ·obtain⟨a,ms,c,rfl,hM,hw,hf,hc,q⟩:=h;rfl
 obtain⟨a,ms,c,rfl,hM,hw,hf,hc,q⟩:=h;refine⟨_,(qO (aE (aT gH (aT DM pI (bP bD rfl bX gJ (pK (cg dP (hr.mono (by decide)) rfl (pK (pv 0) (pK (pv 1) pN))) pN))) pI))),?_⟩;refine⟨_,rfl,_,rfl,a,ms,c,rfl,hM,hw,hf,hc,λr ks H2 s2 _ g2 hR=>?_⟩;have l1:=hR.1;rw[List.length_map]at l1;have aft:=hf.fields hw hc;refine⟨r,ks,rfl,.inl (bt.of g2),_,_,rfl,rfl,⟨by omega,by omega,by decide⟩,_,_,rfl,rfl,?_⟩;dsimp only;rw[show((ks.length:Nat):Int).toNat=(fields ms c).length by omega,Int.one_mul];exact q H2 s2
theorem cO:aA ["makes","row","sign","c","field"] ["makes","row"] (dS fj):=by walk_at "sc"
theorem pS{f:Addr}{fd:FuncData}(F:er K "asked_of_records" "asked_of_records" fj f fd){ab:Addr}(aj:ah K ab)(dP:cT P w K mg base aM "fields_of" 2 ["makes","c"] (eh K))(CL:cT P w K mg base aM "full_mask" 3 ["makes","c"] (lF K)):bp P w K mg base aM 4 f fd ["makes","row"] (eH K):=by
 refine F.ok cO (λvs H Q E h=>?_) (λcdv A outer s H vs Q E hr h=>?_)
 ·obtain⟨mk,rw',ms,sign,xs,ks,rfl,hM,hw,hf,hR,hA,q⟩:=h;rfl
 obtain⟨mk,rw',ms,sign,xs,ks,rfl,hM,hw,hf,hR,hA,q⟩:=h;refine⟨_,(qK (bI (i:=2) cO.nd rfl (aai rfl) (az aB (pv 1) pI (λ_ _=>rfl)))
   (qK (bI (i:=3) cO.nd rfl (aai rfl) (az aB (pv 1) pI (λ_ _=>rfl)))
   (qK (bg (tR bK (pv 2) aV (aH _)) (qO (aE (dD (pK (cw (pK aV (pK (pv 3) (pK (cg CL (hr.mono (by decide)) rfl (pK (pv 0) (pK (pv 3) pN))) pN)))) pN)))) aX)
   (qK (bg (tR bK (pv 2) aV (aH _)) (qO (aE (dD (pK (cw (pK aV (pK (pv 3) pN))) pN)))) aX)
   (qK (bI (i:=4) cO.nd rfl (aai rfl) (az bj (cg dP (hr.mono (by decide)) rfl (pK (pv 0) (pK (pv 3) pN))) (az aB (pv 1) pI (λ_ _=>rfl)) (λ_ _=>rfl)))
   (qK (bg (tR bK (pv 2) aV (aH _)) (qO (aE (dD (pK (cw (pK aV (pK (pv 3) (pK pI pN)))) (pK (pv 4) pN))))) aX)
   (qO (aE (dD (pK (cw (pK aV (pK (pv 3) pN))) (pK (pv 4) pN))))))))))),?_⟩
 have few:=hw.few
 cases hA with
 | @begin c hc =>
  refine⟨_,rfl,rw',_,_,_,rfl,rfl,hR,aN (j:=0) rfl,_,rfl,rw',_,_,_,rfl,rfl,hR,aN (j:=1) rfl,?_⟩;refine⟨_,rfl,rfl,_,rfl,pG rfl ?_⟩;refine⟨_,rfl,_,rfl,_,rfl,mk,ms,c,rfl,hM,hw,hf,hc,λH1 s1=>?_⟩;refine⟨Yp,λt ht=>⟨Nn,λr hr=>?_⟩⟩;have s2:=sN ht (.tup [.str "raw",.int (c:Int),.int (2 ^ (fields ms c).length - 1)]);have s3:=sN hr (.lst [.ref t]);refine q r _ _ (s1.trans (s2.trans s3)) ((s1.trans s2).free hr) uS ?_;refine .cons (zu (k:=.raw c (2 ^ (fields ms c).length - 1)) ?_) .nil
  have e:((2 ^ (fields ms c).length - 1:Nat):Int)=2 ^ (fields ms c).length - 1:=by
   have:=Nat.one_le_two_pow (n:=(fields ms c).length);rw[Int.ofNat_sub this];simp
  show bu K _ t [.str "raw",.int (c:Int),.int ((2 ^ (fields ms c).length - 1:Nat):Int)];rw[e];exact s3.tup (bu.of uS)
 | @get c f =>
  refine⟨_,rfl,rw',_,_,_,rfl,rfl,hR,aN (j:=0) rfl,_,rfl,rw',_,_,_,rfl,rfl,hR,aN (j:=1) rfl,?_⟩;refine⟨_,rfl,rfl,_,rfl,dk (by decide +kernel) ?_⟩;refine⟨_,rfl,rfl,_,rfl,pG rfl ?_⟩;refine⟨_,rfl,GQ,λt ht=>⟨Nn,λr hr=>?_⟩⟩;have s2:=sN ht (.tup [.str "whole",.int (c:Int)]);have s3:=sN hr (.lst [.ref t]);exact q r _ _ (s2.trans s3) (s2.free hr) uS (.cons (zu (k:=.whole c) (s3.tup (bu.of uS))) .nil)
 | @fill c f k hc hk =>
  refine⟨_,rfl,rw',_,_,_,rfl,rfl,hR,aN (j:=0) rfl,_,rfl,rw',_,_,_,rfl,rfl,hR,aN (j:=1) rfl,?_⟩;refine⟨_,rfl,rfl,_,rfl,dk (by decide +kernel) ?_⟩;refine⟨_,rfl,rfl,_,rfl,dk (by decide +kernel) ?_⟩;refine⟨_,rfl,_,rfl,mk,ms,c,rfl,hM,hw,hf,hc,λr1 vs H1 s1 _ g1 hV=>?_⟩;obtain⟨v,hv,hvr⟩:=aL.at hV (i:=f) (d:=.tuple (xx k)) (by rw[aar,hk];rfl);refine⟨_,rfl,rw',_,_,_,rfl,rfl,s1.tup hR,aN (j:=2) rfl,r1,_,_,_,rfl,rfl,bt.of g1,aN hv,?_⟩;refine⟨_,rfl,rfl,_,rfl,pG rfl ?_⟩;refine⟨_,rfl,Yp,λt ht=>⟨_,rfl,GQ,λr hr=>?_⟩⟩;have s2:=sN ht (.tup [.str "raw",.int (c:Int),.int 0]);have s3:=sN hr (.lst [.ref t,v]);exact q r _ _ (s1.trans (s2.trans s3)) ((s1.trans s2).free hr) uS (.cons (zu (k:=.raw c 0) (s3.tup (bu.of uS))) (.cons (hvr.same (s1.trans (s2.trans s3))) .nil))
 | @put c f k hc hk =>
  refine⟨_,rfl,rw',_,_,_,rfl,rfl,hR,aN (j:=0) rfl,_,rfl,rw',_,_,_,rfl,rfl,hR,aN (j:=1) rfl,?_⟩;refine⟨_,rfl,rfl,_,rfl,dk (by decide +kernel) ?_⟩;refine⟨_,rfl,rfl,_,rfl,dk (by decide +kernel) ?_⟩;refine⟨_,rfl,_,rfl,mk,ms,c,rfl,hM,hw,hf,hc,λr1 vs H1 s1 _ g1 hV=>?_⟩;obtain⟨v,hv,hvr⟩:=aL.at hV (i:=f) (d:=.tuple (xx k)) (by rw[aar,hk];rfl);refine⟨_,rfl,rw',_,_,_,rfl,rfl,s1.tup hR,aN (j:=2) rfl,r1,_,_,_,rfl,rfl,bt.of g1,aN hv,?_⟩;refine⟨_,rfl,rfl,_,rfl,dk (by decide +kernel) ?_⟩;refine⟨_,rfl,GQ,λt ht=>⟨_,rfl,GQ,λr hr=>?_⟩⟩;have s2:=sN ht (.tup [.str "whole",.int (c:Int)]);have s3:=sN hr (.lst [.ref t,v]);exact q r _ _ (s1.trans (s2.trans s3)) ((s1.trans s2).free hr) uS (.cons (zu (k:=.whole c) (s3.tup (bu.of uS))) (.cons (hvr.same (s1.trans (s2.trans s3))) .nil))
theorem xW:aA ["book","part","row","sign","parts"] ["book","part","row"] (dS AL):=by walk_at "sc"
theorem LF{f:Addr}{fd:FuncData}(F:er K "asked" "asked" AL f fd)(cq:mg "list"=none){cG:Addr}(kC:mg "ALWAYS"=some (.ref cG))(m8:Nt K w cG bw){ab:Addr}(aj:ah K ab)(qV:cT P w K mg base aM "asked_of_records" 4 ["makes","row"] (eH K)):bp P w K mg base aM 5 f fd ["book","part","row"] (xN K):=by
 refine F.ok xW (λvs H Q E h=>?_) (λcdv A outer s H vs Q E hr h=>?_)
 ·obtain⟨b,mk,pl,rw',part,sign,xs,ks,rfl,hB,hR,hA,q⟩:=h;rfl
 obtain⟨b,mk,pl,rw',part,sign,xs,ks,rfl,hB,hR,hA,q⟩:=h;refine⟨_,(qK (bI (i:=3) xW.nd rfl (aai rfl) (az aB (pv 2) pI (λ_ _=>rfl)))
   (qK (bg (tR SQ (pv 3) (i3 (v:=.ref cG) rfl kC rfl) rfl) (qO (aE (dX bY rfl cq ic (pK (az Kh (i3 (v:=.ref cG) rfl kC rfl) (pv 3) (λ_ _=>rfl)) pN)))) aX)
   (qK (bI (i:=4) xW.nd rfl (aai rfl) (az aB (pv 0) pI (λ_ _=>rfl)))
   (qK (bg (tR bK (pv 3) aV (aH _)) (qO (aE (dX bY rfl cq ic (pK (az aB (az bj (pv 4) (az aB (pv 2) pI (λ_ _=>rfl)) (λ_ _=>rfl)) pI (λ_ _=>rfl)) pN)))) aX)
   (qK (bg (tR bK (pv 3) aV (aH _)) (qO (aE (dD (pK (az aB (az bj (pv 4) (pv 1) (λ_ _=>rfl)) pI (λ_ _=>rfl)) pN)))) aX)
   (qO (aE (cg qV (hr.mono (by decide)) rfl (pK (az aB (pv 0) pI (λ_ _=>rfl)) (pK (pv 2) pN)))))))))),?_⟩
 refine⟨_,rfl,rw',_,_,_,rfl,rfl,hR,aN (j:=0) rfl,?_⟩
 cases hA with
 | always h =>
  refine⟨_,rfl,cG,bw,sign,rfl,rfl,m8,_,rfl,ifB (by rw[h];rfl) ?_⟩;refine⟨_,rfl,cG,bw,sign,_,rfl,rfl,m8,h,λv hv=>?_⟩;obtain⟨a,ys,rfl,hS,hY⟩:=aZ.cJ (hv H);refine⟨a,ys,rfl,.inr hS,λr hr=>?_⟩;have s1:=sN hr (.lst ys);exact q r ys _ s1 hr uS (hY.same s1)
 | @call k ys rest vs t l _ h1 h2 h3 h4 h5 =>
  refine⟨_,rfl,cG,bw,_,rfl,rfl,m8,_,rfl,YL (by rw[PB];rfl) ?_⟩;refine⟨_,rfl,b,_,_,_,rfl,rfl,hB,aN (j:=1) rfl,?_⟩;refine⟨_,rfl,rfl,_,rfl,pG rfl ?_⟩;refine⟨_,rfl,_,rfl,rw',_,_,_,rfl,rfl,hR,aN (j:=1) rfl,pl,_,_,_,rfl,rfl,h1,aN h2,t,_,_,_,rfl,rfl,h3,aN (j:=0) rfl,l,vs,rfl,.inl h4,λr hr=>?_⟩;have s1:=sN hr (.lst vs);exact q r vs _ s1 hr uS (h5.same s1)
 | @give ys rest t v0 v k h1 h2 h3 h4 =>
  refine⟨_,rfl,cG,bw,_,rfl,rfl,m8,_,rfl,YL (by rw[PC];rfl) ?_⟩;refine⟨_,rfl,b,_,_,_,rfl,rfl,hB,aN (j:=1) rfl,?_⟩;refine⟨_,rfl,rfl,_,rfl,dk (by decide +kernel) ?_⟩;refine⟨_,rfl,rfl,_,rfl,pG rfl ?_⟩;refine⟨_,rfl,_,rfl,pl,_,_,_,rfl,rfl,h1,aN h2,t,_,_,_,rfl,rfl,h3,aN (j:=1) rfl,Nn,λr hr=>?_⟩;have s1:=sN hr (.lst [v]);exact q r _ _ s1 hr uS (.cons (h4.same s1) .nil)
 | @ofR ms _ _ _ hM hw hf h =>
  obtain⟨n1,n2,n3⟩:=TR h;refine⟨_,rfl,cG,bw,_,rfl,rfl,m8,_,rfl,YL (by rw[n1];rfl) ?_⟩;refine⟨_,rfl,b,_,_,_,rfl,rfl,hB,aN (j:=1) rfl,?_⟩;refine⟨_,rfl,rfl,_,rfl,dk n2 ?_⟩;refine⟨_,rfl,rfl,_,rfl,dk n3 ?_⟩;exact⟨_,rfl,b,_,_,_,rfl,rfl,hB,aN (j:=0) rfl,_,rfl,mk,rw',ms,sign,xs,ks,rfl,hM,hw,hf,hR,h,q⟩
theorem qW:aA ["makes","record","kind"] ["makes","record","kind"] (dS fV):=by walk_at "sc"
theorem qX{f:Addr}{fd:FuncData}(F:er K "record_has_kind" "record_has_kind" fV f fd){ab:Addr}(aj:ah K ab)(qT:cT P w K mg base aM "is_under" 2 ["makes","c","other"] (jQ K)):bp P w K mg base aM 3 f fd ["makes","record","kind"] (fv K):=by
 refine F.ok qW (λvs H Q E h=>?_) (λcdv A outer s H vs Q E hr h=>?_)
 ·obtain⟨a,ms,v,t,r,k,rfl,hM,hw,hv,hc,ht,n1,n2,q⟩:=h;rfl
 obtain⟨a,ms,v,t,r,k,rfl,hM,hw,hv,hc,ht,n1,n2,q⟩:=h;refine⟨_,(qK (bg (tR bK (az aB (pv 2) pI (λ_ _=>rfl)) aV (aH _)) (qO (aE (DJ (az aB (pv 1) pI (λ_ _=>rfl)) (DH (cg qT (hr.mono (by decide)) rfl (pK (pv 0) (pK (az aB (pv 1) pI (λ_ _=>rfl)) (pK (az aB (pv 2) pI (λ_ _=>rfl)) pN)))))))) aX)
   (qO (aE (DJ (kM bK (az aB (pv 1) pI (λ_ _=>rfl)) (az aB (pv 2) pI (λ_ _=>rfl)) (aH _)) (DH (kM bK (aT Sq (az aB (pv 1) pI (λ_ _=>rfl)) (az aB (pv 2) pI (λ_ _=>rfl))) (az aB (pv 2) pI (λ_ _=>rfl)) (aH _))))))),?_⟩
 obtain⟨u,ft,fys,rfl,hu,_,_⟩:=hv;have hu:bu K H u [.int (r.c:Int),.bl r.begun,.int (r.mask:Int),.ref ft]:=hu
 cases k with
 | any=>exact absurd rfl n1
 | num=>exact absurd rfl n2
 | whole c =>
  refine⟨_,rfl,t,_,_,_,rfl,rfl,ht,aN (j:=0) rfl,rfl,_,rfl,pG rfl ?_⟩;refine⟨_,rfl,u,_,_,_,rfl,rfl,hu,aN (j:=1) rfl,_,rfl,?_⟩;have q':∀(H':Hp),aF H H'->Q (.bl (r.begun&&decide (c∈bc ms r.c))) H':=q
  cases hb:r.begun with
  | true =>
   rw[hb]at q';exact iJ ⟨_,rfl,_,rfl,u,_,_,_,rfl,rfl,hu,aN (j:=0) rfl,_,rfl,t,_,_,_,rfl,rfl,ht,aN (j:=1) rfl,a,ms,r.c,c,rfl,hM,hw,hc,q'⟩
  | false =>
   rw[hb]at q';exact dj (q' H (aF.refl _))
 | raw c m =>
  refine⟨_,rfl,t,_,_,_,rfl,rfl,ht,aN (j:=0) rfl,rfl,_,rfl,dk nRW ?_⟩;dsimp only[iu];have qq:Q (.bl (decide (r.c=c)&&decide (r.mask&&&m=m))) H:=q H (aF.refl _);refine⟨_,rfl,u,_,_,_,rfl,rfl,hu,aN (j:=0) rfl,_,rfl,t,_,_,_,rfl,rfl,ht,aN (j:=1) rfl,rfl,_,rfl,?_⟩;rw[Gs];by_cases e:r.c=c
  ·rw[decide_eq_true e]at qq ⊢;refine iJ ⟨_,rfl,u,_,_,_,rfl,rfl,hu,aN (j:=2) rfl,_,rfl,t,_,_,_,rfl,rfl,ht,aN (j:=2) rfl,_,_,rfl,rfl,_,rfl,t,_,_,_,rfl,rfl,ht,aN (j:=2) rfl,rfl,?_⟩;show Q (.bl (decide (V.int (Builtin.bitAnd (r.mask:Int) (m:Int))=V.int (m:Int)))) H;rw[Ex,Gs];simpa using qq
  ·rw[aaH e]at qq ⊢;exact dj qq
theorem CM:aA ["makes","heap","value","kind"] ["makes","heap","value","kind"] (dS qD):=by walk_at "sc"
theorem CN{f:Addr}{fd:FuncData}(F:er K "has_kind" "has_kind" qD f fd){ab:Addr}(aj:ah K ab)(tm:cT P w K mg base aM "record_has_kind" 3 ["makes","record","kind"] (fv K)):bp P w K mg base aM 4 f fd ["makes","heap","value","kind"] (mY K):=by
 refine F.ok CM (λvs H Q E h=>?_) (λcdv A outer s H vs Q E hr h=>?_)
 ·obtain⟨a,ms,hp,rs,rcs,v,x,t,k,rfl,hM,hw,hS,hR,hC,hv,hn,ht,q⟩:=h;rfl
 obtain⟨a,ms,hp,rs,rcs,v,x,t,k,rfl,hM,hw,hS,hR,hC,hv,hn,ht,q⟩:=h;refine⟨_,(qK (bg (tR bK (az aB (pv 3) pI (λ_ _=>rfl)) aV (aH _)) (qO (aE uR)) aX)
   (qK (bg (tR DN (pv 2) je (aH _)) (qO (aE uR)) aX)
   (qK (bg (PW.pt (pw_or (tR bK (az aB (pv 3) pI (λ_ _=>rfl)) aV (aH _)) (pw_or1 (tR bK (az aB (pv 2) pI (λ_ _=>rfl)) aV (aH _))))) (qO (aE (kM bK (az aB (pv 3) pI (λ_ _=>rfl)) (az aB (pv 2) pI (λ_ _=>rfl)) (aH _)))) aX)
   (qO (aE (cg tm (hr.mono (by decide)) rfl (pK (pv 0) (pK (az bj (pv 1) (az aB (pv 2) pI (λ_ _=>rfl)) (λ_ _=>rfl)) (pK (pv 3) pN))))))))),?_⟩
 refine⟨_,rfl,t,_,_,_,rfl,rfl,ht,uo k,rfl,_,rfl,?_⟩;by_cases ka:k=.any
 ·subst ka;exact pG rfl (q H (aF.refl _))
 refine dk (Pf ka) ?_;dsimp only[iu];rw[AR ka]at q
 cases x with
 | none =>
  have e:=Gv hv;subst e;exact⟨_,rfl,rfl,_,rfl,iJ (q H (aF.refl _))⟩
 | num w =>
  obtain⟨u,rfl,hu⟩:=EA hv;refine⟨_,rfl,rfl,_,rfl,dj ?_⟩;dsimp only[iu];refine⟨_,rfl,t,_,_,_,rfl,rfl,ht,uo k,rfl,_,rfl,?_⟩
  have fin:Q (.bl (decide (V.str (Tx k)=V.str "number"))) H:=by
   have z:=q H (aF.refl _);rw[show decide (V.str (Tx k)=V.str "number")=decide (k=.num)from acm.mpr AU];exact z
  by_cases kn:V.str (Tx k)=V.str "number"
  ·refine pG kn ?_;exact⟨_,rfl,t,_,_,_,rfl,rfl,ht,uo k,_,rfl,u,_,_,_,rfl,rfl,hu,aN (j:=0) rfl,rfl,fin⟩
  ·refine dk kn ?_;refine⟨_,rfl,u,_,_,_,rfl,rfl,hu,aN (j:=0) rfl,rfl,_,rfl,pG rfl ?_⟩;exact⟨_,rfl,t,_,_,_,rfl,rfl,ht,uo k,_,rfl,u,_,_,_,rfl,rfl,hu,aN (j:=0) rfl,rfl,fin⟩
 | rcd n =>
  obtain⟨u,rfl,hu⟩:=EC hv;have hnl:=hn n rfl;refine⟨_,rfl,rfl,_,rfl,dj ?_⟩;dsimp only[iu];refine⟨_,rfl,t,_,_,_,rfl,rfl,ht,uo k,rfl,_,rfl,?_⟩;have hrn:=dh hnl;by_cases kn:k=.num
  ·refine pG (AU.mpr kn) ?_;refine⟨_,rfl,t,_,_,_,rfl,rfl,ht,uo k,_,rfl,u,_,_,_,rfl,rfl,hu,aN (j:=0) rfl,rfl,?_⟩;subst kn;have z:=q H (aF.refl _);rw[sA hrn]at z;have z2:decide (V.str (Tx Kd.num)=V.str "record")=false:=aaH Zq;rw[z2];exact z
  ·refine dk (λh=>kn (AU.mp h)) ?_;refine⟨_,rfl,u,_,_,_,rfl,rfl,hu,aN (j:=0) rfl,rfl,_,rfl,dk Zp ?_⟩;dsimp only[iu];rw[sA hrn]at q;obtain⟨y,hy1,hy2⟩:=hR.at hrn;exact⟨_,rfl,_,rfl,_,rfl,u,_,_,_,rfl,rfl,hu,aN (j:=1) rfl,hp,rs,_,_,rfl,rfl,hS,aN hy1,_,rfl,a,ms,y,t,rcs[n],k,rfl,hM,hw,hy2,hC _ (List.getElem_mem hnl),ht,ka,kn,q⟩
theorem HA:aA ["row"] ["row"] (dS xr):=by walk_at "sc"
theorem HB{f:Addr}{fd:FuncData}(F:er K "leaves" "leaves" xr f fd){lI:Addr}(xX:mg "LEFT"=some (.ref lI))(Ue:Nt K w lI pq){ab:Addr}(aj:ah K ab):bp P w K mg base aM 1 f fd ["row"] (uA K):=by
 refine F.ok HA (λvs H Q E h=>?_) (λcdv A outer s H vs Q E hr h=>?_)
 ·obtain⟨rw',sign,xs,rfl,hR,q⟩:=h;rfl
 obtain⟨rw',sign,xs,rfl,hR,q⟩:=h;refine⟨_,(qO (aE (Ow (i3 (v:=.ref lI) rfl xX rfl) (pK (az aB (pv 0) pI (λ_ _=>rfl)) (pK pI pN))))),?_⟩;refine⟨lI,pq,rfl,Ue,_,rfl,rw',_,_,_,rfl,rfl,hR,aN (j:=0) rfl,sign,_,rfl,λhn=>?_,λdt hd v hv=>?_⟩
 ·unfold cc at q;rw[hn]at q;exact q
 ·obtain⟨i,rfl⟩:=Lj hd;unfold cc at q;rw[hd]at q;rw[aZ.aW (hv H)];exact q
theorem cH:aA ["self","frame","row","wanted","under","value","kind"] ["self","frame","row"] (dS gP):=by walk_at "sc"
theorem tp{f:Addr}{fd:FuncData}(F:er K "looked" "Watched.looked" gP f fd)(bX:mg "len"=none)(CO:mg "zip"=none){ab:Addr}(aj:ah K ab){C:Addr}(ac:au K C)(PL:cT P w K mg base aM "asked" 5 ["book","part","row"] (xN K))(EU:cT P w K mg base aM "has_kind" 4 ["makes","heap","value","kind"] (mY K))(LG:cT P w K mg base aM "leaves" 1 ["row"] (uA K)):bp P w K mg base aM 6 f fd ["self","frame","row"] (ky K ab C true):=by
 refine F.ok cH (λvs H Q E h=>?_) (λcdv A outer s H vs Q E hr h=>?_)
 ·obtain⟨mm,fs,fr,r,rt,p,ks,rfl,hM,hf,hR,hp,hw,fM,LD,hrc,hnr,hA,q⟩:=h;rfl
 obtain⟨mm,fs,fr,r,rt,p,ks,rfl,hM,hf,hR,hp,hw,fM,LD,hrc,hnr,hA,q⟩:=h;refine⟨_,(qK (bI (i:=3) cH.nd rfl (aai rfl) (cg PL (hr.mono (by decide)) rfl (pK (aO (pv 0) rfl) (pK (aO (pv 1) rfl) (pK (pv 2) pN)))))
   (qK (bI (i:=4) cH.nd rfl (aai rfl) (aT gH (bP bD rfl bX gJ (pK (aO (pv 1) rfl) pN)) (bP bD rfl bX gJ (pK (pv 3) pN))))
   (qK (bg (tR FK (pv 4) pI (aH _)) (qO (aE aV)) aX)
   (qK (zX aaR rfl (SR true true rfl CO (pK (mI Ab (aO (pv 1) rfl) (rS (pv 4)) rR) (pK (pv 3) pN))) (JK rfl (w6 (dW (i:=5) cH.nd rfl (aai rfl)) (w6 (dW (i:=6) cH.nd rfl (aai rfl)) FG))) (qO (bg (zU (wY (cg EU (hr.mono (by decide)) rfl (pK (az aB (aO (pv 0) rfl) pI (λ_ _=>rfl)) (pK (aO (pv 0) rfl) (pK (pv 5) (pK (pv 6) pN))))))) (qO (aE aV)) aX)))
   (qK (bg (tR Rq (aT gF (pv 4) (cg LG (hr.mono (by decide)) rfl (pK (pv 2) pN))) (az aB (az bj (az aB (aO (pv 0) rfl) pI (λ_ _=>rfl)) (aO (pv 1) rfl) (λ_ _=>rfl)) pI (λ_ _=>rfl)) (aH _)) (qO (aE aV)) aX)
   (qO (aE je))))))),?_⟩
 have hF:=hM.last hf;obtain⟨⟨fdx,f1⟩,⟨bys,f2,f3⟩,⟨sys,f4,f5⟩,fne⟩:=id hF;obtain⟨mdx,ev,m1,m2⟩:=hM.ob;obtain⟨mk,pl,xs,hb⟩:=hM.bk;obtain⟨hT,hMk,hL,hP⟩:=hb H aC.refl;obtain⟨rys,rg,rr⟩:=id hM.rc;have lst:=f5.1;refine⟨_,rfl,mm.ma,C,mdx,_,_,rfl,m1,ac.cl,ac.ll,jJ,_,rfl,fr.fa,ab,fdx,_,_,rfl,f1,aj.cl,aj.xu,wO,_,rfl,mm.b,mk,pl,rt,fr.part,kG r,(Hm r).map V.int,ks,rfl,hT,hR,hA H mk pl xs hMk hL hP,λwa ws H1 s1 n1 g1 hW=>?_⟩;have lws:=hW.1;rw[List.length_map]at lws;dsimp only[wZ];refine Hn (λR kk=>?_);refine⟨_,rfl,fr.fa,ab,fdx,_,_,rfl,s1 _ _ f1,aj.cl,aj.ig,fY,fr.sl,sys,rfl,.inl (bt.of (s1 _ _ f4)),_,rfl,wa,ws,rfl,.inl (bt.of g1),_,_,rfl,rfl,kk _ _ ?_⟩;clear kk R;dsimp only;refine⟨_,rfl,_,_,rfl,rfl,_,rfl,BQ (λz=>?_) (λz=>?_)⟩
 ·have z':fr.st.length < ks.length:=by have:=aa1 z;omega
  have e:eA mm.ms mm.recs p.height fr.st ks (kG r)=some ("empty" : Str):=by unfold eA;rw[if_pos z']
  have q':=q H1 s1;rw[aaq rfl,e]at q';exact q'
 have hle:ks.length<=fr.st.length:=by
  have:¬ ((sys.length:Nat):Int) - ((ws.length:Nat):Int) < 0:=λe=>z (aaM e)
  omega
 dsimp only[iu];obtain⟨lo,hlo⟩:∃lo,lo=fr.st.length - ks.length:=⟨_,rfl⟩;have eu:((sys.length:Nat):Int) - ((ws.length:Nat):Int)=((lo:Nat):Int):=by omega
 rw[eu];refine⟨_,rfl,fr.fa,ab,fdx,_,_,rfl,s1 _ _ f1,aj.cl,aj.ig,fY,_,rfl,_,rfl,fr.sl,sys,rfl,bt.of (s1 _ _ f4),λp1 h1=>?_⟩;rw[Ci (by omega)];have s2:=sN h1 (.lst (sys.drop lo));have g2:=uS (H:=H1) (a:=p1) (o:=.lst (sys.drop lo));generalize upd H1 p1 _=H2 at s2 g2 ⊢;have S2:=s1.trans s2;have vt:=(f5.same S2).drop lo;have lvt:=vt.1;rw[aaY]at lvt;have afw:(sys.drop lo).length=sys.length - lo:=aaY ..;have ltk:(fr.st.drop lo).length=fr.st.length - lo:=aaY ..;have hWK:=(Pb.Tw hW).same s2;obtain⟨w0,HC,hwr⟩:=pz hP hp;obtain⟨t,l0,l4,l5,ks0,Dz,DA,f1',rfl,hTt,Jw,XS,rg',Ny,Nz,Pd,Kl⟩:=qG hwr;refine⟨_,rfl,p1,wa,_,ws,rfl,bt.of g2,bt.of (s2 _ _ g1),?_⟩;refine OD ks.length (λi σ H3=>∃(o5 o6:Option V),σ=[some (.ref mm.ma),some (.ref fr.fa),some (.ref rt),some (.ref wa),some (.int (lo:Int)),o5,o6]/\aF H2 H3/\∀j,j < i->∀x k,(fr.st.drop lo)[j]?=some x->ks[j]?=some k->hasB mm.ms mm.recs x k=true) (by omega) (by omega) (by omega) ⟨_,_,rfl,aF.refl _,λj hj=>absurd hj (Nat.not_lt_zero _)⟩ ?_ ?_ ?_
 ·rintro i σ H3 hi ⟨o5,o6,rfl,s3,_⟩;exact⟨s3.seq (bt.of g2),s3.seq (bt.of (s2 _ _ g1))⟩
 ·rintro i u v σ H3 T hu hv hi ⟨o5,o6,rfl,s3,hpre⟩ hT';have hit:i < (fr.st.drop lo).length:=by omega
  have hx:=dh hit;generalize hxe:(fr.st.drop lo)[i]=x at hx;have hxm:x∈fr.st:=List.mem_of_mem_drop (aat hx);have hvu:=vt.2 i u x hu hx;obtain⟨k,Vn,ZH,rfl,hk2⟩:=Pb.at hWK hv;have sT:=sN hT' (.tup [u,.ref ZH]);have S3:=S2.trans (s3.trans sT);refine⟨T,_,rfl,bu.of uS,rfl,_,_,rfl,_,_,rfl,rfl,?_⟩;generalize upd H3 T (.tup [u,.ref ZH])=H4 at sT S3 ⊢;obtain⟨ZI,WM,hL4,hP4⟩:=hb H4 (cC S3);refine⟨_,rfl,mm.ma,C,mdx,_,_,rfl,S3 _ _ m1,ac.cl,ac.ll,jJ,mm.b,_,_,_,rfl,rfl,ZI,aN (j:=0) rfl,_,rfl,mm.ma,C,mdx,_,_,rfl,S3 _ _ m1,ac.cl,ac.cz,fZ,_,rfl,_,rfl,mk,mm.ms,mm.rc,rys,mm.recs,u,x,ZH,k,rfl,WM,hw,bt.of (S3 _ _ rg),rr.imp (λy x h=>h.same S3),hrc,aZ.same (s3.trans sT) hvu,(λn e=>hnr n (by rw[← e];exact hxm)),(s3.trans sT).tup hk2,λH5 s5=>⟨_,rfl,?_⟩⟩
  cases hh:hasB mm.ms mm.recs x k with
  | true =>
   refine dj ?_;dsimp only[iu];refine⟨_,_,rfl,s3.trans (sT.trans s5),λj hj x' k' hx' hk'=>?_⟩;by_cases e:j=i
   ·subst e;rw[hx]at hx';rw[Vn]at hk';cases hx';cases hk';exact hh
   ·exact hpre j (by omega) x' k' hx' hk'
  | false =>
   refine iJ ?_
   have e:eA mm.ms mm.recs p.height fr.st ks (kG r)=some ("kind" : Str):=by
    unfold eA;rw[if_neg (by omega),if_neg];intro ha;rw[← hlo,List.all_eq_true]at ha;have:=ha (x,k) (List.mem_of_getElem? (i:=i) (by rw[List.getElem?_zip_eq_some];exact⟨hx,Vn⟩));rw[hh]at this;cases this
   have q':=q H5 (S3.trans s5);rw[aaq rfl,e]at q';exact q'
 ·rintro σ H3 ⟨o5,o6,rfl,s3,hall⟩;have S3:=S2.trans s3;obtain⟨ZI,WM,hL4,hP4⟩:=hb H3 (cC S3)
  have ha:((fr.st.drop (fr.st.length - ks.length)).zip ks).all (λx=>hasB mm.ms mm.recs x.1 x.2)=true:=by
   rw[← hlo,ack];intro y hy;obtain⟨i,hi,rfl⟩:=List.mem_iff_getElem.mp hy;have hz:=dh hi;rw[List.getElem?_zip_eq_some]at hz;have hik:i < ks.length:=(bU hz.2).1;exact hall i hik _ _ hz.1 hz.2
  refine⟨_,rfl,_,rfl,rt,kG r,_,rfl,S3.tup hR,_,_,rfl,rfl,_,rfl,mm.ma,C,mdx,_,_,rfl,S3 _ _ m1,ac.cl,ac.ll,jJ,mm.b,_,_,_,rfl,rfl,ZI,aN (j:=1) rfl,_,rfl,fr.fa,ab,fdx,_,_,rfl,S3 _ _ f1,aj.cl,aj.xu,wO,pl,_,_,_,rfl,rfl,hL4,aN HC,t,_,_,_,rfl,rfl,S3.tup hTt,aN (j:=3) rfl,_,_,rfl,rfl,_,rfl,BQ (λz=>?_) (λz=>?_)⟩
  ·have z':(p.height:Int) < ((fr.st.length - ks.length:Nat):Int) + cc (kG r):=by have:=aa1 z;rw[← hlo];omega
   have e:eA mm.ms mm.recs p.height fr.st ks (kG r)=some ("high" : Str):=by
    unfold eA;rw[if_neg (by omega),if_pos ha,if_pos z']
   have q':=q H3 S3;rw[aaq rfl,e]at q';exact q'
  ·have z':¬ (p.height:Int) < ((fr.st.length - ks.length:Nat):Int) + cc (kG r):=λe=>z (aaM (by rw[← hlo]at e;omega))
   have e:eA mm.ms mm.recs p.height fr.st ks (kG r)=none:=by
    unfold eA;rw[if_neg (by omega),if_pos ha,if_neg z']
   have q':=q H3 S3;rw[if_pos rfl,e]at q';dsimp only[iu];exact q'
theorem iq:aA ["self","frame","row","word"] ["self"] (dS kZ):=by walk_at "sc"
theorem qe{f:Addr}{fd:FuncData}(F:er K "step" "Plain.step" kZ f fd){ab:Addr}(aj:ah K ab){C:Addr}{wt:Bool}(ac:au K C)(HD:bH P w K mg base aM C "do_row" 5 ["self","frame","row"] (pD K ab C wt))(HE:bH P w K mg base aM C "looked" 6 ["self","frame","row"] (ky K ab C wt)):bp P w K mg base aM 7 f fd ["self"] (wR K ab C wt):=by
 refine F.ok iq (λvs H Q E h=>?_) (λcdv A outer s H vs Q E hr h=>?_)
 ·obtain⟨mm,p',rfl,hM,hS,q⟩:=h;rfl
 obtain⟨mm,p',rfl,hM,hS,q⟩:=h;refine⟨_,(qK (bg (tR wG (aO (pv 0) rfl) je (aH _)) (qO FF) aX)
   (qK (bI (i:=1) iq.nd rfl (aai rfl) (az bj (aO (pv 0) rfl) (rO kL pI) (λ_ _=>rfl)))
   (qK (bI (i:=2) iq.nd rfl (aai rfl) (az bj (az aB (az bj (az aB (aO (pv 0) rfl) pI (λ_ _=>rfl)) (aO (pv 1) rfl) (λ_ _=>rfl)) pI (λ_ _=>rfl)) (aO (pv 1) rfl) (λ_ _=>rfl)))
   (qK (bI (i:=3) iq.nd rfl (aai rfl) (c9 (pv 0) HE bV (hr.mono (by decide)) (pK (pv 1) (pK (pv 2) pN))))
   (qO (bg (tR DN (pv 3) je (aH _)) (qO (bC (c9 (pv 0) HD bV (hr.mono (by decide)) (pK (pv 1) (pK (pv 2) pN))))) (qO (cP (pv 0) (cw (pK aV (pK (aO (pv 1) rfl) (pK (aO (pv 1) rfl) (pK (pv 3) pN))))) rfl)))))))),?_⟩
 obtain⟨mdx,ev,m1,m2⟩:=id hM.ob;refine⟨_,rfl,mm.ma,C,mdx,_,_,rfl,m1,ac.cl,ac.xw,EG,rfl,_,rfl,?_⟩;rcases hS with⟨h1,rfl⟩ | ⟨h1,hfi,fs',f',r,p,ks,hf',hp',hr',hlo,hD⟩
 ·rcases m2 with⟨z,_⟩ | ⟨_,t,rfl,ht⟩
  ·exact absurd z h1
  ·show if (!decide (V.ref t=V.non))=true then _ else _
   rw[if_pos (by simp)];exact q mm H rfl ⟨rfl,rfl⟩ hM (λc hc=>.inl hc) aC.refl
 ·rcases m2 with⟨_,rfl⟩ | ⟨z,_⟩;rotate_left
  ·exact absurd h1 z
  show if (!decide (V.non=V.non))=true then _ else _
  rw[if_neg (by simp)];dsimp only[iu];obtain⟨fs,fr0,hf,e1,e2⟩:=List.map_eq_append_iff.mp (show mm.bT.map Fm.pf=fs'++[f']from hf')
  obtain⟨fr,rfl⟩:∃fr,fr0=[fr]:=by
   have:fr0.length=1:=by have:=congrArg List.length e2;simpa using this
   exact XY this
  have e2:fr.pf=f':=by simpa using e2
  subst e1;subst e2;have hp:mm.ps[fr.part]?=some p:=hp';have hF:=hM.last hf;obtain⟨⟨fdx,f1⟩,⟨bys,f2,f3⟩,⟨sys,f4,f5⟩,fne⟩:=id hF;obtain⟨mk,pl,xs,hb⟩:=hM.bk;obtain⟨hT,hMk,hL,hP⟩:=hb H aC.refl;obtain⟨w0,HC,hwr⟩:=pz hP hp;obtain⟨t,l0,l4,l5,ks0,Dz,DA,f1',rfl,hTt,Jw,XS,rg,Ny,Nz,Pd,Kl⟩:=qG hwr;obtain⟨rv,hrv,hrr⟩:=aL.at Nz (i:=fr.at') (d:=jm r) (by rw[List.getElem?_map];show Option.map jm (p.rows[fr.pf.at']?)=_;rw[hr'];rfl);obtain⟨rt,rfl,hR⟩:=rw_inv hrr;have L1:=hM.lv;rw[hf,List.map_append,show([fr].map λf=>V.ref f.fa)=[V.ref fr.fa]from rfl]at L1;have qb:=(hfi.st fr.pf (by rw[hf'];simp)).1;refine⟨_,rfl,mm.ma,C,mdx,_,_,rfl,m1,ac.cl,ac.um,sC,_,rfl,mm.lv,_,_,_,rfl,rfl,bt.of L1,dN,?_⟩;refine⟨_,rfl,mm.ma,C,mdx,_,_,rfl,m1,ac.cl,ac.ll,jJ,mm.b,_,_,_,rfl,rfl,hT,aN (j:=1) rfl,_,rfl,fr.fa,ab,fdx,_,_,rfl,f1,aj.cl,aj.xu,wO,pl,_,_,_,rfl,rfl,hL,aN HC,t,_,_,_,rfl,rfl,hTt,aN (j:=4) rfl,_,rfl,fr.fa,ab,fdx,_,_,rfl,f1,aj.cl,aj.pJ,uZ,l4,_,_,_,rfl,rfl,Ny,aN hrv,?_⟩;refine⟨_,rfl,mm.ma,mdx,_,rfl,m1,mc_no (by decide +kernel),_,rfl,_,rfl,mm,fs,fr,r,rt,p,ks,rfl,hM,hf,hR,hp,hfi.wf,qb,hlo.few,hlo.rc,hlo.st,hlo.ask,λH1 s1=>?_⟩;rcases hD with⟨w,rfl,hl,rfl⟩ | ⟨hl,hD⟩
  ·have el:eA mm.ms mm.recs p.height fr.st ks (kG r)=some w:=hl;rw[aaq rfl,el,show WG (some w)=V.str w from rfl];refine⟨_,rfl,rfl,_,rfl,?_⟩;show if decide (V.str w=V.non)=true then _ else _
   rw[if_neg (by simp)];have M1:=hM.same s1;refine⟨_,rfl,fr.fa,ab,fdx,_,_,rfl,s1 _ _ f1,aj.cl,aj.xu,wO,_,rfl,fr.fa,ab,fdx,_,_,rfl,s1 _ _ f1,aj.cl,aj.pJ,uZ,_,rfl,XD,λte nte=>?_⟩;have s2:=sN nte (.tup [.str "look",.int (fr.part:Int),.int (fr.at':Int),.str w]);have g2:bu K (upd H1 te (.tup [.str "look",.int (fr.part:Int),.int (fr.at':Int),.str w])) te [.str "look",.int (fr.part:Int),.int (fr.at':Int),.str w]:=bu.of uS;have M2:=M1.same s2;have S2:=s1.trans s2;generalize upd H1 te _=H2 at s2 g2 M2 S2 ⊢;refine⟨_,rfl,mm.ma,C,mdx,_,rfl,S2 _ _ m1,ac.cl,ac.xw,AX,?_⟩;rw[ur];have PD:bq H2 [mm.ma]:=M2.rK.sub (λc hc=>by rw[bN hc];exact cf.1);have DB:aC [mm.ma] H2 (upd H2 mm.ma (.ins C mdx (rL mm.b mm.lv mm.rc mm.sd mm.left (.ref te)))):=aY;exact q {mm with fin:=[.inl "look",.inr fr.part,.inr fr.at',.inl w]} _ rfl ⟨rfl,rfl⟩ (M2.own DB uS (.inr ⟨(by simp),te,rfl,bu.keep DB PD g2⟩)) (λc hc=>.inl hc) ((cC S2).trans (DB.sub λc hc=>by rw[bN hc];exact cf.1))
  ·have e0:(if wt=true then eA mm.ms mm.recs p.height fr.st ks (kG r)else none)=none:=by
    cases wt with
    | true=>exact hl rfl
    | false=>rfl
   rw[e0];refine⟨_,rfl,rfl,_,rfl,iJ ?_⟩;refine⟨_,rfl,mm.ma,mdx,_,rfl,s1 _ _ m1,mc_no (by decide +kernel),_,rfl,_,rfl,mm,fs,fr,r,rt,p',rfl,hM.same s1,hf,s1.tup hR,hfi,hD,λm' H2 r1 r2 r3 r4 r5=>q m' H2 r1 r2 r3 (λc hc=>?_) ((cC s1).trans r5)⟩;rcases r4 c hc with z | z
   ·exact .inl z
   ·exact .inr (s1.free z)
theorem yW:aA ["self"] ["self"] (dS lh):=by walk_at "sc"
theorem qf{f:Addr}{fd:FuncData}(F:er K "told" "Plain.told" lh f fd)(cq:mg "list"=none){ab:Addr}(aj:ah K ab){C:Addr}{wt:Bool}(ac:au K C):bp P w K mg base aM 1 f fd ["self"] (wU K ab C wt):=by
 refine F.ok yW (λvs H Q E h=>?_) (λcdv A outer s H vs Q E hr h=>?_)
 ·obtain⟨mm,rfl,hM,qb,q⟩:=h;rfl
 obtain⟨mm,rfl,hM,qb,q⟩:=h;refine⟨_,(qO (aE (cw (pK (aO (pv 0) rfl) (pK (dX bY rfl cq ic (pK (aO (pv 0) rfl) pN)) (pK (aO (pv 0) rfl) pN)))))),?_⟩;obtain⟨dx,ev,h1,h2⟩:=hM.ob;refine⟨_,rfl,mm.ma,C,dx,_,_,rfl,h1,ac.cl,ac.xw,EG,_,rfl,mm.ma,C,dx,_,_,rfl,h1,ac.cl,ac.Eu,Gx,mm.sd,_,rfl,.inl (bt.of hM.sd),λl hl=>?_⟩;have u1:=sN hl (.lst (mm.said.map V.int));have g1:=uS (H:=H) (a:=l) (o:=.lst (mm.said.map V.int));generalize upd H l _=H1 at u1 g1 ⊢;refine⟨_,rfl,mm.ma,C,dx,_,_,rfl,u1 _ _ h1,ac.cl,ac.xv,AW,Yp,λt ht=>?_⟩;have u2:=sN ht (.tup [ev,.ref l,.int mm.left]);exact q t l ev _ (u1.trans u2) hl (u2 _ _ g1) (bu.of uS) (h2.same (u1.trans u2))
theorem CP:aA ["machine"] ["machine"] (dS qE):=by walk_at "sc"
theorem vf{f:Addr}{fd:FuncData}(F:er K "finished" "finished" qE f fd){ab:Addr}(aj:ah K ab){C:Addr}{wt:Bool}(ac:au K C)(PN:bH P w K mg base aM C "step" 7 ["self"] (wR K ab C wt))(PQ:bH P w K mg base aM C "told" 1 ["self"] (wU K ab C wt)):bp P w K mg base aM 8 f fd ["machine"] (iE K ab C wt):=by
 refine F.ok CP (λvs H Q E h=>?_) (λcdv A outer s H vs Q E hr h=>?_)
 ·obtain⟨mm,n,p2,rfl,hM,hR,h9,q⟩:=h;rfl
 obtain⟨mm,n,p2,rfl,hM,hR,h9,q⟩:=h;refine⟨_,(qK (w8 aaR (tR DN (aO (pv 0) rfl) je (aH _)) (qO (bC (An (pv 0) PN bV (hr.mono (by decide))))))
   (qO (aE (An (pv 0) PQ bV (hr.mono (by decide)))))),?_⟩
 refine⟨λk σ H2=>∃(m2:Mc),σ=[some (.ref mm.ma)]/\m2.ma=mm.ma/\bQ K H2 ab C wt m2/\sF K wt k m2.pm p2/\aC (foot mm) H H2/\∀c∈foot m2,c∈foot mm∨H c=none,⟨n,mm,rfl,rfl,hM,hR,aC.refl,λc hc=>.inl hc⟩,?_⟩;rintro k σ H2 ⟨m2,rfl,ea,M2,R2,K2,F2⟩;obtain⟨dx,ev,o1,o2⟩:=id M2.ob;refine⟨_,rfl,m2.ma,C,dx,_,_,(by rw[ea]),o1,ac.cl,ac.xw,EG,rfl,_,rfl,?_⟩;generalize hp:m2.pm=p at R2
 cases R2 with
 | done hd =>
  have hd':m2.fin≠[]:=by rw[← hp]at hd;exact hd
  rcases o2 with⟨z,_⟩ | ⟨_,t,rfl,ht⟩
  ·exact absurd z hd'
  show if decide (V.ref t=V.non)=true then _ else _
  rw[if_neg (by simp)];have e1:m2.said=p2.said:=by rw[← hp];rfl
  have e2:m2.left=p2.left:=by rw[← hp];rfl
  have e3:m2.fin=p2.fin:=by rw[← hp];rfl
  refine⟨_,rfl,m2.ma,dx,_,(by rw[ea]),o1,mc_no (by decide +kernel),m2,(by rw[ea];rfl),M2,(by rw[e1];exact h9),λtt l ev' H' s' nl g gt hE=>?_⟩;rw[e1]at g;rw[e2]at gt;rw[e3]at hE;refine q tt l ev' H' (K2.trans (cC s')) (λhl=>?_) gt g hE
  cases hh:H l with
  | none=>rfl
  | some o=>rw[K2 l o hl hh]at nl;cases nl
 | next h0 hs R' =>
  rename_i k' p1;have h0':m2.fin=[]:=by rw[← hp]at h0;exact h0
  rcases o2 with⟨_,rfl⟩ | ⟨z,_⟩;rotate_left
  ·exact absurd h0' z
  show if decide (V.non=V.non)=true then _ else _
  rw[if_pos (by simp)];refine⟨λσ' H'=>∃(m3:Mc),σ'=[some (.ref mm.ma)]/\m3.ma=mm.ma/\bQ K H' ab C wt m3/\sF K wt k' m3.pm p2/\aC (foot mm) H H'/\∀c∈foot m3,c∈foot mm∨H c=none,λσ' H' h=>⟨k',Nat.lt_succ_self _,h⟩,?_⟩;refine⟨_,rfl,m2.ma,dx,_,(by rw[ea]),o1,mc_no (by decide +kernel),m2,p1,(by rw[ea];rfl),M2,(by rw[hp];exact hs),λm' H' r1 r2 r3 r4 r5=>⟨m',rfl,r2.1.trans ea,r3,(by rw[r1];exact R'),λc o hc e=>r5 c o (λhz=>?_) (K2 c o hc e),λc hc=>?_⟩⟩
  ·rcases F2 c hz with z | z
   ·exact hc z
   ·rw[z]at e;cases e
  ·rcases r4 c hc with z | z
   ·exact F2 c z
   ·by_cases hz:c∈foot mm
    ·exact .inl hz
    ·refine .inr ?_
     cases hh:H c with
     | none=>rfl
     | some o=>rw[K2 c o hz hh]at z;cases z
theorem EV:aA ["takes","gives"] ["takes","gives"] (dS uj):=by walk_at "sc"
theorem EW{f:Addr}{fd:FuncData}(F:er K "is_door" "is_door" uj f fd)(CQ:mg "all"=none){ab:Addr}(aj:ah K ab):bp P w K mg base aM 1 f fd ["takes","gives"] (qR K):=by
 refine F.ok EV (λvs H Q E h=>?_) (λcdv A outer s H vs Q E hr h=>?_)
 ·obtain⟨tl,g,ys,ks,gk,rfl,hS,hK,hg,fM,q⟩:=h;rfl
 obtain⟨tl,g,ys,ks,gk,rfl,hS,hK,hg,fM,q⟩:=h;refine⟨_,(qO (aE (bP (Kf rfl) rfl CQ SI (pK (Ke 1 ["kind"] [] ⟨rfl,rfl,rfl,rfl,rfl,rfl,rfl,rfl⟩ (kJ (aT Ae (pv 0) (dD (pK (pv 1) pN)))) (λ_ _ _ _=>⟨(dW (i:=0) (show List.Nodup (["kind"]:List Str)by decide +kernel) rfl (aai rfl)),kN,(kM (r:=SK K) (Eb (hr.units)) (pv 0) (cw (pK aV pN)) (aH _))⟩)) pN)))),?_⟩;have ly:=hK.1;rw[aah]at ly;refine⟨_,rfl,_,rfl,Nn,λl1 h1=>?_⟩;have u1:=sN h1 (.lst [g]);refine⟨tl,l1,ys,_,rfl,rfl,u1.seq hS,bt.of uS,aaX (sK (by show ys.length + 1<=1000;omega)),λl2 h2=>?_⟩;have u2:=sN h2 (.lst (ys++[g]));have U:=u1.trans u2;have g2:=uS (H:=upd H l1 (.lst [g])) (a:=l2) (o:=.lst (ys++[g]));generalize upd (upd H l1 (.lst [g])) l2 (.lst (ys++[g]))=H1 at U g2 ⊢;refine⟨l2,rfl,⟨_,bt.of g2⟩,λD hD=>?_⟩
 have hA:aL K H (ys++[g]) (eO (ks++[gk])):=by
  unfold eO;rw[List.map_append];exact aL.append hK (.cons hg .nil)
 refine rY (xs:=ys++[g]) (λi zs H2=>aF H1 H2/\H2 D=some (.lst zs)/\zs=(((ks++[gk]).take i).map lG).map V.bl) (aaX (sK (by rw[aaG];show ys.length + 1<=1000;omega))) ⟨sN hD _,uS,rfl⟩ ?_ ?_ ?_
 ·rintro i zs H2 hi ⟨s2,d2,rfl⟩;refine⟨d2,?_,s2.seq (bt.of g2)⟩;rw[aah,aah,aaC];omega
 ·rintro i x zs H2 hx ⟨s2,d2,rfl⟩
  have hi:i < (ks++[gk]).length:=by
   have:=(bU hx).1;rw[List.length_append]at this ⊢;simp only[List.length_singleton]at this ⊢;omega
  have hr':=hA.2 i x (.tuple (xx (ks++[gk])[i])) hx (by rw[aar,dh hi];rfl);refine⟨rfl,_,rfl,Nn,λt ht=>?_⟩;have s3:=sN ht (.tup [.str "number"]);refine⟨_,_,aZ.same (U.trans (s2.trans s3)) hr',.rV (bu.of uS) (.cons (.str _) .nil),Tv _,(by decide +kernel),s3 _ _ d2,xD (s2.trans s3) hD _,uS,?_⟩;rw[Ly,aa4 hi,aaU,aaU];rfl
 ·rintro zs H2 ⟨s2,d2,rfl⟩;have e:(ks++[gk]).take (ys++[g]).length=ks++[gk]:=List.take_of_length_le (by rw[List.length_append,List.length_append];simp only[List.length_singleton];omega);rw[e]at d2;refine⟨D,_,rfl,bt.of d2,?_⟩;have z:=q H2 (U.trans s2);rw[List.all_map];exact z
theorem qg:aA ["parts","part","inputs","takes"] ["parts","part","inputs"] (dS lj):=by walk_at "sc"
theorem yX{f:Addr}{fd:FuncData}(F:er K "check_door" "check_door" lj f fd)(bX:mg "len"=none){ab:Addr}(aj:ah K ab)(HG:cT P w K mg base aM "is_door" 1 ["takes","gives"] (qR K)):bp P w K mg base aM 2 f fd ["parts","part","inputs"] (j5 K):=by
 refine F.ok qg (λvs H Q E h=>?_) (λcdv A outer s H vs Q E hr h=>?_)
 ·obtain⟨pl,il,xs,zs,ps,j,p,rfl,hL,hP,hp,hd,fM,hI,hl,q⟩:=h;rfl
 obtain⟨pl,il,xs,zs,ps,j,p,rfl,hL,hP,hp,hd,fM,hI,hl,q⟩:=h;refine⟨_,(qK (bg (zU (JV JT FK pI (pv 1) (bP bD rfl bX gJ (pK (pv 0) pN)))) (qO mH) aX)
   (qK (bI (i:=3) qg.nd rfl (aai rfl) (az aB (az bj (pv 0) (pv 1) (λ_ _=>rfl)) pI (λ_ _=>rfl)))
   (qO (bg (PW.pt (pw_or (zU (wY (cg HG (hr.mono (by decide)) rfl (pK (pv 3) (pK (az aB (az bj (pv 0) (pv 1) (λ_ _=>rfl)) pI (λ_ _=>rfl)) pN))))) (pw_or1 (tR Rp (bP bD rfl bX gJ (pK (pv 2) pN)) (bP bD rfl bX gJ (pK (pv 3) pN)) (aH _))))) (qO mH) aX)))),?_⟩
 obtain⟨w0,HC,hwr⟩:=pz hP hp;obtain⟨t,l0,l4,l5,ks,Dz,DA,f1,rfl,hTt,Jw,hk,rg,Ny,Nz,Pd,Kl⟩:=qG hwr;have hj:j < xs.length:=(bU HC).1;refine⟨_,rfl,_,_,rfl,rfl,_,rfl,?_⟩;refine pG (by omega) ?_;refine⟨_,rfl,pl,xs,rfl,.inl hL,_,_,rfl,rfl,_,rfl,?_⟩;refine VX (by omega) ?_;dsimp only[iu];refine⟨_,rfl,_,rfl,pl,_,_,_,rfl,rfl,hL,aN HC,t,_,_,_,rfl,rfl,hTt,aN (j:=0) rfl,?_⟩;refine⟨_,rfl,_,rfl,_,rfl,pl,_,_,_,rfl,rfl,hL,aN HC,t,_,_,_,rfl,rfl,hTt,aN (j:=1) rfl,l0,_,ks,p.takes,p.gives,rfl,Jw,hk,rg,fM,λH1 s1=>?_⟩;rw[hd];refine⟨_,rfl,dj ?_⟩;have lk:=hk.1;rw[List.length_map]at lk;refine⟨_,rfl,il,zs,rfl,.inl (s1.seq hI),_,rfl,l0,ks,rfl,.inl (s1.seq Jw),rfl,_,rfl,?_⟩;refine VX (by rw[hl,lk]) ?_;exact q H1 s1
theorem uE:aA ["book","makes","parts"] ["book"] (dS xt):=by walk_at "sc"
theorem HH{f:Addr}{fd:FuncData}(F:er K "copied" "copied" xt f fd)(cq:mg "list"=none){ab:Addr}(aj:ah K ab):bp P w K mg base aM 1 f fd ["book"] (uB K):=by
 refine F.ok uE (λvs H Q E h=>?_) (λcdv A outer s H vs Q E hr h=>?_)
 ·obtain⟨b,ms,ps,rfl,hB,h8,Jz,q⟩:=h;rfl
 obtain⟨b,ms,ps,rfl,hB,h8,Jz,q⟩:=h;refine⟨_,(qK (mK (i:=1) uE.nd rfl (aai rfl) 1 ["make"] [] ⟨rfl,rfl,rfl,rfl,rfl,rfl,rfl,rfl⟩ (kJ (az aB (pv 0) pI (λ_ _=>rfl))) (λ_ _ _ _=>⟨(dW (i:=0) (show List.Nodup (["make"]:List Str)by decide +kernel) rfl (aai rfl)),kN,(cw (pK (az (r:=yD K) aB (pv 0) pI (λ_ _=>rfl)) (pK (dX (r:=wH K) bY rfl cq ic (pK (az (r:=yD K) aB (pv 0) pI (λ_ _=>rfl)) pN)) pN)))⟩))
   (qK (mK (i:=2) uE.nd rfl (aai rfl) 1 ["part"] [] ⟨rfl,rfl,rfl,rfl,rfl,rfl,rfl,rfl⟩ (kJ (az aB (pv 0) pI (λ_ _=>rfl))) (λ_ _ _ _=>⟨(dW (i:=0) (show List.Nodup (["part"]:List Str)by decide +kernel) rfl (aai rfl)),kN,(cw (pK (dX (r:=wH K) bY rfl cq ic (pK (az (r:=yD K) aB (pv 0) pI (λ_ _=>rfl)) pN)) (pK (az (r:=yD K) aB (pv 0) pI (λ_ _=>rfl)) (pK (az (r:=yD K) aB (pv 0) pI (λ_ _=>rfl)) (pK (az (r:=yD K) aB (pv 0) pI (λ_ _=>rfl)) (pK (dX (r:=wH K) bY rfl cq ic (pK (az (r:=yD K) aB (pv 0) pI (λ_ _=>rfl)) pN)) (pK (dX (r:=wH K) bY rfl cq ic (pK (az (r:=yD K) aB (pv 0) pI (λ_ _=>rfl)) pN)) pN)))))))⟩))
   (qO (aE (cw (pK (pv 1) (pK (pv 2) pN))))))),?_⟩
 obtain⟨b',mk,pl,xs,e,hT,hM,hL,hP⟩:=Lh hB;cases e;obtain⟨zs,hS,hI⟩:=hM;have lz:=hI.1;have lx:=hP.1;rw[aah]at lx;refine⟨_,rfl,b,_,_,_,rfl,rfl,hT,aN (j:=0) rfl,mk,rfl,⟨_,hS⟩,λD hD=>?_⟩;refine rY (xs:=zs) (λi ys H2=>aF H H2/\H2 D=some (.lst ys)/\(∀HX,Hw [D] H H2 HX->Ld K HX ys (ms.take i))/\ys.length=i) (aaX (sK (by omega))) ⟨sN hD _,uS,λHX _=>Ld.nil K _,rfl⟩ ?_ ?_ ?_
 ·rintro i ys H2 hi ⟨s2,d2,_,hl⟩;exact⟨d2,acJ hl,s2.seq hS⟩
 ·rintro i x ys H2 hx ⟨s2,d2,hF,hl⟩;have hix:i < zs.length:=(bU hx).1;have him:i < ms.length:=by omega
  obtain⟨t,l,ks,rfl,e2',e3',e4⟩:=hI.2 i x _ hx (dh him);have e2:=s2.tup e2';have e3:=s2.seq e3';refine⟨rfl,_,rfl,t,_,_,_,rfl,rfl,e2,aN (j:=0) rfl,_,rfl,t,_,_,_,rfl,rfl,e2,aN (j:=1) rfl,l,ks,rfl,.inl e3,λl2 FO=>?_⟩;refine⟨GQ,λu hu=>?_⟩;have nl:l2≠D:=(nN d2 FO).symm;have s3:=sN FO (.lst ks);have s4:=sN hu (.tup [Tq (ms[i]).1,.ref l2]);have d4:=s4 _ _ (s3 _ _ d2);have nu:u≠D:=(nN (s3 _ _ d2) hu).symm;have fl:H l2=none:=s2.free FO;have fu:H u=none:=(s2.trans s3).free hu;refine⟨d4,λb o e=>?_,uS,λHX hX=>?_,by simp[hl]⟩
  ·rw[uN (nN e hD)];exact s4 b o (s3 b o (s2 b o e))
  ·have z:=hF HX (hX.sub (λc o n e=>by rw[uN (λz=>n (by rw[z];exact aaN.mpr rfl))];exact s4 c o (s3 c o e)) (λc hc=>.inl hc));have ht:ms.take (i + 1)=ms.take i++[ms[i]]:=by rw[aa4 him]
   rw[ht];refine z.snoc ⟨u,l2,ks,rfl,?_,?_,?_⟩
   ·exact bu.of (hX u _ (λz=>nu (bN z)) (by rw[uN nu];exact uS) (λzs e=>by rw[fu]at e;cases e))
   ·exact bt.of (hX l2 _ (λz=>nl (bN z)) (by rw[uN nl];exact s4 _ _ uS) (λzs e=>by rw[fl]at e;cases e))
   ·exact zB (λc o e m=>hX c o (λz=>nN e hD (bN z)) (by rw[uN (nN e hD)];exact s4 c o (s3 c o (s2 c o e))) (λz h=>by rw[e]at h;cases h;exact m)) e4
 ·rintro zs1 H1 ⟨s1,d1,hF1,OA⟩;have e:ms.take zs.length=ms:=acf (by omega);rw[e]at hF1;refine⟨_,rfl,b,_,_,_,rfl,rfl,s1.tup hT,aN (j:=1) rfl,pl,rfl,⟨_,s1.seq hL⟩,λD2 X3=>?_⟩;have nD:D2≠D:=(nN d1 X3).symm;have Ug:H D2=none:=s1.free X3;refine rY (xs:=xs) (λi ys H2=>aF H1 H2/\H2 D2=some (.lst ys)/\(∀HX,Hw [D2] H H2 HX->aL K HX ys ((ps.take i).map Cc))/\ys.length=i) (aaX (sK (by omega))) ⟨sN X3 _,uS,λHX _=>.nil,rfl⟩ ?_ ?_ ?_
  ·rintro i ys H2 hi ⟨s2,d2,_,hl⟩;exact⟨d2,acJ hl,(s1.trans s2).seq hL⟩
  ·rintro i x ys H2 hx ⟨s2',d2,hF,hl⟩;have s2:=s1.trans s2';have hix:i < xs.length:=(bU hx).1;have hip:i < ps.length:=by omega
   have hxr:=hP.2 i x (Cc ps[i]) hx (by rw[List.getElem?_map,dh hip];rfl);obtain⟨t,l0,l4,l5,ks,Dz,DA,f1,rfl,hTt,Jw,hk,rg,Ny,Nz,Pd,Kl⟩:=qG hxr;have T2:=s2.tup hTt;refine⟨rfl,_,rfl,t,_,_,_,rfl,rfl,T2,aN (j:=0) rfl,l0,ks,rfl,.inl (s2.seq Jw),λa1 h1=>?_⟩;have b1:=sN h1 (.lst ks);have T3:=b1.tup T2;refine⟨_,rfl,t,_,_,_,rfl,rfl,T3,aN (j:=1) rfl,_,rfl,t,_,_,_,rfl,rfl,T3,aN (j:=2) rfl,_,rfl,t,_,_,_,rfl,rfl,T3,aN (j:=3) rfl,_,rfl,t,_,_,_,rfl,rfl,T3,aN (j:=4) rfl,l4,Dz,rfl,.inl ((s2.trans b1).seq Ny),λa2 h2=>?_⟩;have b2:=sN h2 (.lst Dz);have T4:=b2.tup T3;refine⟨_,rfl,t,_,_,_,rfl,rfl,T4,aN (j:=5) rfl,l5,DA,rfl,.inl ((s2.trans (b1.trans b2)).seq Pd),λa3 h3=>⟨sz6,λt3 ZJ=>?_⟩⟩;have b3:=sN h3 (.lst DA);have b4:=sN ZJ (.tup [.ref a1,f1,.int (ps[i].boxes:Int),.int (ps[i].height:Int),.ref a2,.ref a3]);have bA:=b1.trans (b2.trans (b3.trans b4));have n1:a1≠D2:=(nN d2 h1).symm;have n2:a2≠D2:=(nN (b1 _ _ d2) h2).symm;have n3:a3≠D2:=(nN (b2 _ _ (b1 _ _ d2)) h3).symm;have n4:t3≠D2:=(nN (b3 _ _ (b2 _ _ (b1 _ _ d2))) ZJ).symm;have f1n:H a1=none:=s2.free h1;have f2n:H a2=none:=(s2.trans b1).free h2;have f3n:H a3=none:=(s2.trans (b1.trans b2)).free h3;have f4n:H t3=none:=(s2.trans (b1.trans (b2.trans b3))).free ZJ;have e1:=b4 _ _ (b3 _ _ (b2 _ _ (uS (H:=H2) (a:=a1) (o:=.lst ks))));have e2:=b4 _ _ (b3 _ _ (uS (a:=a2) (o:=.lst Dz)));have e3:=b4 _ _ (uS (a:=a3) (o:=.lst DA));have e4:=uS (H:=upd (upd (upd H2 a1 (.lst ks)) a2 (.lst Dz)) a3 (.lst DA)) (a:=t3) (o:=.tup [.ref a1,f1,.int (ps[i].boxes:Int),.int (ps[i].height:Int),.ref a2,.ref a3]);generalize upd (upd (upd (upd H2 a1 (.lst ks)) a2 (.lst Dz)) a3 (.lst DA)) t3 (.tup [.ref a1,f1,.int (ps[i].boxes:Int),.int (ps[i].height:Int),.ref a2,.ref a3])=H9 at bA e1 e2 e3 e4 ⊢;refine⟨bA _ _ d2,λb o e=>?_,uS,λHX hX=>?_,by simp[hl]⟩
   ·rw[uN (nN e X3)];exact bA b o (s2' b o e)
   ·have z:=hF HX (hX.sub (λc o n e=>by rw[uN (λz=>n (by rw[z];exact aaN.mpr rfl))];exact bA c o e) (λc hc=>.inl hc));have ht:ps.take (i + 1)=ps.take i++[ps[i]]:=by rw[aa4 hip]
    rw[ht,aaU];have k9:∀c o,c≠D2->H c=none->H9 c=some o->HX c=some o:=λc o d n e=>hX c o (λz=>d (bN z)) (by rw[uN d];exact e) (λz h=>by rw[n]at h;cases h)
    have kO:∀c o,H c=some o->¬ AV o->HX c=some o:=λc o e m=>hX c o (λz=>nN e Ug (bN z)) (by rw[uN (nN e Ug)];exact bA c o (s2 c o e)) (λz h=>by rw[e]at h;cases h;exact m)
    obtain⟨g,rfl,hg⟩:=EI rg;refine aL.append z (.cons ?_ .nil);exact .rV (bu.of (k9 _ _ n4 f4n e4)) (.cons (.Ka (bt.of (k9 _ _ n1 f1n e1)) (zB kO hk)) (.cons (zu (bu.zA kO hg)) (.cons (.int _) (.cons (.int _) (.cons (.Ka (bt.of (k9 _ _ n2 f2n e2)) (Hx kO Nz)) (.cons (.Ka (bt.of (k9 _ _ n3 f3n e3)) (Hy kO Kl)) .nil))))))
  ·rintro ys H2 ⟨s2,d2,hF,hl⟩;have e':ps.take xs.length=ps:=acf (by omega);rw[e']at hF;refine⟨_,rfl,_,rfl,GQ,λt ht=>?_⟩;have s3:=sN ht (.tup [.ref D,.ref D2]);have ft:H t=none:=(s1.trans s2).free ht;have fD:H D=none:=hD;refine q t _ (s1.trans (s2.trans s3)) ⟨D,D2,ys,λHX hX=>?_⟩;refine⟨bu.of (hX t _ (λz=>nomatch z) uS (λz h=>by rw[ft]at h;cases h)),⟨zs1,bt.of (hX D _ (λz=>nomatch z) (s3 _ _ (s2 _ _ d1)) (λz h=>by rw[fD]at h;cases h)),hF1 HX (hX.sub (λc o n e=>s3 c o (s2 c o e)) (λc hc=>nomatch hc))⟩,bt.of (hX D2 _ (λz=>nomatch z) (s3 _ _ d2) (λz h=>by rw[Ug]at h;cases h)),hF HX (hX.sub (λc o n e=>s3 c o e) (λc hc=>nomatch hc))⟩
theorem tq:aA ["self","part","boxes"] ["self","part","boxes"] (dS gQ):=by walk_at "sc"
theorem tw{f:Addr}{fd:FuncData}(F:er K "__init__" "Frame.__init__" gQ f fd){ab:Addr}(aj:ah K ab):bp P w K mg base aM 1 f fd ["self","part","boxes"] (j6 K ab):=by
 refine F.ok tq (λvs H Q E h=>?_) (λcdv A outer s H vs Q E hr h=>?_)
 ·obtain⟨x,dx,bl,p,rfl,hx,q⟩:=h;rfl
 obtain⟨x,dx,bl,p,rfl,hx,q⟩:=h;refine⟨_,(qK (cP (pv 0) (pv 1) rfl)
   (qK (cP (pv 0) pI rfl)
   (qK (cP (pv 0) (pv 2) rfl)
   (qO (cP (pv 0) (dD pN) rfl))))),?_⟩
 refine⟨_,rfl,_,rfl,x,ab,dx,_,rfl,hx,aj.cl,aj.xu,(by show 0 < 1000;decide),?_⟩;refine⟨_,rfl,x,ab,dx,_,rfl,uS,aj.cl,aj.pJ,(by show 1 < 1000;decide),?_⟩;refine⟨_,rfl,_,rfl,x,ab,dx,_,rfl,uS,aj.cl,aj.AM,(by show(bz _ _ _).length < 1000;exact aaI (fC _ _ _) (by show 2 < 1000;decide)),?_⟩;refine⟨Vh,λsl hsl=>?_⟩;have ne:x≠sl:=λe=>by subst e;rw[uS]at hsl;cases hsl
 have hs0:H sl=none:=by rw[uN ne.symm,uN ne.symm,uN ne.symm]at hsl;exact hsl
 refine⟨_,rfl,x,ab,dx,_,rfl,(uN ne).trans uS,aj.cl,aj.ig,(by show(bz _ _ _).length < 1000;exact aaI (fC _ _ _) (Nat.succ_lt_succ (aaI (fC _ _ _) (by show 2 < 999;decide)))),?_⟩;refine q sl _ hs0 ?_ ((uN ne.symm).trans uS) (λc o hc e=>?_)
 ·rw[uS,TC]
 ·rw[uN hc,uN (nN e hs0),uN hc,uN hc,uN hc];exact e
theorem EX:aA ["parts","part","values","nothing"] ["parts","part","values","nothing"] (dS uk):=by walk_at "sc"
theorem EY{f:Addr}{fd:FuncData}(F:er K "started" "started" uk f fd)(bX:mg "len"=none){ab:Addr}(aj:ah K ab)(LH:Ef P w K mg base aM ab "Frame" 1 ["self","part","boxes"] (j6 K ab)):bp P w K mg base aM 3 f fd ["parts","part","values","nothing"] (qS K ab):=by
 refine F.ok EX (λvs H Q E h=>?_) (λcdv A outer s H vs Q E hr h=>?_)
 ·obtain⟨pl,vl,ps,xs,ys,j,p,n,rfl,hL,hP,hp,hV,hl,h8,q⟩:=h;rfl
 obtain⟨pl,vl,ps,xs,ys,j,p,n,rfl,hL,hP,hp,hV,hl,h8,q⟩:=h;refine⟨_,(qO (aE (Kq LH bV (hr.mono (by decide)) rfl (pK (pv 1) (pK (aT Ae (pv 2) (aT SD (dD (pK (pv 3) pN)) (aT gH (az aB (az bj (pv 0) (pv 1) (λ_ _=>rfl)) pI (λ_ _=>rfl)) (bP bD rfl bX gJ (pK (pv 2) pN))))) pN))))),?_⟩;obtain⟨w0,HC,hwr⟩:=pz hP hp;obtain⟨t,l0,l4,l5,ks,Dz,DA,f1,rfl,hTt,Jw,hk,rg,Ny,Nz,Pd,Kl⟩:=qG hwr;refine⟨_,rfl,_,rfl,_,rfl,Nn,λl1 h1=>?_⟩;have u1:=sN h1 (.lst [n]);have g1:=uS (H:=H) (a:=l1) (o:=.lst [n]);generalize upd H l1 (.lst [n])=H1 at u1 g1 ⊢;refine⟨_,rfl,_,rfl,pl,_,_,_,rfl,rfl,u1.seq hL,aN HC,t,_,_,_,rfl,rfl,u1.tup hTt,aN (j:=2) rfl,_,rfl,vl,ys,rfl,.inl (u1.seq hV),_,_,rfl,rfl,l1,_,_,rfl,rfl,g1,by omega,by omega,?_,λl2 h2=>?_⟩
 ·show 1 * ((p.boxes:Int) - ((ys.length:Nat):Int)).toNat<=sizeLine;exact aaX (sK (by omega))
 rw[A6,show((p.boxes:Int) - ((ys.length:Nat):Int)).toNat=p.boxes - ys.length by omega];have u2:=sN h2 (.lst (List.replicate (p.boxes - ys.length) n));have g2:=uS (H:=H1) (a:=l2) (o:=.lst (List.replicate (p.boxes - ys.length) n));generalize upd H1 l2 _=H2 at u2 g2 ⊢;have U2:=u1.trans u2;refine⟨vl,l2,_,_,rfl,rfl,U2.seq hV,bt.of g2,Nat.le_of_lt (sK (by simp;omega)),λl3 h3=>?_⟩;have u3:=sN h3 (.lst (ys++List.replicate (p.boxes - ys.length) n));have g3:=uS (H:=H2) (a:=l3) (o:=.lst (ys++List.replicate (p.boxes - ys.length) n));have n3:H l3=none:=U2.free h3;generalize upd H2 l3 _=H3 at u3 g3 ⊢;have U3:=U2.trans u3;intro x dx nx ndx ne;refine⟨x,dx,l3,(j:Int),rfl,uS,λsl H' nsl hx hsl hk=>⟨rfl,?_⟩⟩;have xl:x≠l3:=λe=>by subst e;rw[g3]at nx;cases nx
 have dl:dx≠l3:=λe=>by subst e;rw[g3]at ndx;cases ndx
 have sx:sl≠x:=λe=>by subst e;rw[uS]at nsl;cases nsl
 have sd:sl≠dx:=λe=>by subst e;rw[uN sx,uS]at nsl;cases nsl
 have ZK:H3 sl=none:=by rw[uN sx,uN sd]at nsl;exact nsl
 have ls:l3≠sl:=λe=>by subst e;rw[g3]at ZK;cases ZK
 have k3:∀c o,H3 c=some o->H' c=some o:=λc o e=>by
  have cx:c≠x:=λz=>by subst z;rw[nx]at e;cases e
  have cd:c≠dx:=λz=>by subst z;rw[ndx]at e;cases e
  exact hk c o cx (by rw[uN cx,uN cd];exact e)
 exact q x l3 sl H' (U3.free nx) n3 (U3.free ZK) ls ⟨dx,hx⟩ (k3 _ _ g3) hsl (λc o e=>k3 c o (U3 c o e))
theorem uF:aA ["self"] ["self"] (dS iL):=by walk_at "sc"
theorem uG{f:Addr}{fd:FuncData}(F:er K "nothing" "Plain.nothing" iL f fd){ab:Addr}(aj:ah K ab){C:Addr}(ac:au K C):bp P w K mg base aM 1 f fd ["self"] (ju K false):=by
 refine F.ok uF (λvs H Q E h=>?_) (λcdv A outer s H vs Q E hr h=>?_)
 ·obtain⟨x,rfl,q⟩:=h;rfl
 obtain⟨x,rfl,q⟩:=h;refine⟨_,(qO (aE pI)),?_⟩;exact q _ rfl
theorem qY:aA ["self"] ["self"] (dS fW):=by walk_at "sc"
theorem qZ{f:Addr}{fd:FuncData}(F:er K "nothing" "Watched.nothing" fW f fd){ab:Addr}(aj:ah K ab){C:Addr}(ac:au K C):bp P w K mg base aM 1 f fd ["self"] (ju K true):=by
 refine F.ok qY (λvs H Q E h=>?_) (λcdv A outer s H vs Q E hr h=>?_)
 ·obtain⟨x,rfl,q⟩:=h;rfl
 obtain⟨x,rfl,q⟩:=h;refine⟨_,(qO (aE je)),?_⟩;exact q _ .non
theorem ra:aA ["self","part","values"] ["self","part","values"] (dS fX):=by walk_at "sc"
theorem jw{f:Addr}{fd:FuncData}(F:er K "add_frame" "Plain.add_frame" fX f fd){ab:Addr}(aj:ah K ab){C:Addr}{wt:Bool}(ac:au K C)(HI:cT P w K mg base aM "started" 3 ["parts","part","values","nothing"] (qS K ab))(EZ:bH P w K mg base aM C "nothing" 1 ["self"] (ju K wt)):bp P w K mg base aM 4 f fd ["self","part","values"] (i8 K ab C wt):=by
 refine F.ok ra (λvs H Q E h=>?_) (λcdv A outer s H vs Q E hr h=>?_)
 ·obtain⟨mm,vl,ys,us,j,p,rfl,hM,hp,hV,hU,hl,h8,fM,q⟩:=h;rfl
 obtain⟨mm,vl,ys,us,j,p,rfl,hM,hp,hV,hU,hl,h8,fM,q⟩:=h;refine⟨_,(qO (bC (kq aae aaA aaB cj (aO (pv 0) rfl) (pK (cg HI (hr.mono (by decide)) rfl (pK (az aB (aO (pv 0) rfl) pI (λ_ _=>rfl)) (pK (pv 1) (pK (pv 2) (pK (An (pv 0) EZ bV (hr.mono (by decide))) pN))))) pN)))),?_⟩;obtain⟨mdx,ev,m1,m2⟩:=hM.ob;obtain⟨mk,pl,xs,hb⟩:=hM.bk;obtain⟨hT,hMk,hL,hP⟩:=hb H aC.refl;have ly:=hU.1;refine⟨_,rfl,mm.ma,C,mdx,_,_,rfl,m1,ac.cl,ac.um,sC,.inl ⟨rfl,_,bt.of hM.lv⟩,_,rfl,mm.ma,C,mdx,_,_,rfl,m1,ac.cl,ac.ll,jJ,mm.b,_,_,_,rfl,rfl,hT,aN (j:=1) rfl,_,rfl,_,rfl,_,rfl,mm.ma,mdx,_,rfl,m1,mc_no (by decide +kernel),_,rfl,λv hv=>?_⟩;refine⟨pl,vl,mm.ps,xs,ys,j,p,v,rfl,hL,hP,hp,hV,by omega,h8,λfa bl sl H1 n1 n2 n3 ne ob g2 g3 s1=>?_⟩;obtain⟨dx,g1⟩:=ob;have hU1:=(hU.same s1).append (iM.rep (hv.same s1) (p.boxes - ys.length))
 have hF:gW K H1 ab wt ⟨fa,bl,sl,j,0,us++List.replicate (p.boxes - us.length) .none,[]⟩:=by
  refine⟨⟨dx,g1⟩,⟨_,g2,?_⟩,⟨_,g3,iM.nil⟩,ne⟩;rw[← ly];exact hU1
 obtain⟨z1,z2⟩:=hF.fs
 have fr:∀c∈gC ⟨fa,bl,sl,j,0,us++List.replicate (p.boxes - us.length) .none,[]⟩,H c=none:=by
  intro c hc;simp only[gC,List.mem_cons,List.not_mem_nil,or_false]at hc;rcases hc with rfl | rfl | rfl
  ·exact n1
  ·exact n2
  ·exact n3
 have P:=hM.push s1 hF fr (by simp only[gC,List.nodup_cons,List.mem_cons,List.not_mem_nil,or_false,not_or,not_false_eq_true,List.nodup_nil,and_true];exact⟨⟨z1,z2⟩,ne⟩);rw[List.map_append]at P;exact⟨mm.lv,_,_,rfl,rfl,s1 _ _ hM.lv,sK (by rw[List.length_map];show mm.bT.length<=1000;omega),q _ _ P.1 rfl rfl rfl rfl fr P.2⟩
theorem tx:aA ["self","book","part","inputs","budget"] ["self","book","part","inputs","budget"] (dS gU):=by walk_at "sc"
theorem jU{f:Addr}{fd:FuncData}(F:er K "__init__" "Plain.__init__" gU f fd){ab:Addr}(aj:ah K ab){C:Addr}{wt:Bool}(ac:au K C)(Bq:cT P w K mg base aM "check_door" 2 ["parts","part","inputs"] (j5 K))(LI:cT P w K mg base aM "copied" 1 ["book"] (uB K))(Br:bH P w K mg base aM C "add_frame" 4 ["self","part","values"] (i8 K ab C wt))(g7:bH P w K mg base aM C "tagged" 1 ["self","tag","number"] (fK K wt)):bp P w K mg base aM 5 f fd ["self","book","part","inputs","budget"] (eS K ab C wt):=by
 refine F.ok tx (λvs H Q E h=>?_) (λcdv A outer s H vs Q E hr h=>?_)
 ·obtain⟨x,dx,b,il,j,bud,ms,ps,p,ws,rfl,hx,hB,h8,Jz,hp,hd,hI,hl,hb,R0,q⟩:=h;rfl
 obtain⟨x,dx,b,il,j,bud,ms,ps,p,ws,rfl,hx,hB,h8,Jz,hp,hd,hI,hl,hb,R0,q⟩:=h;refine⟨_,(qK (bC (cg Bq (hr.mono (by decide)) rfl (pK (az aB (pv 1) pI (λ_ _=>rfl)) (pK (pv 2) (pK (pv 3) pN)))))
   (qK (cP (pv 0) (cg LI (hr.mono (by decide)) rfl (pK (pv 1) pN)) rfl)
   (qK (cP (pv 0) (dD pN) rfl)
   (qK (cP (pv 0) (dD pN) rfl)
   (qK (cP (pv 0) (dD pN) rfl)
   (qK (cP (pv 0) (pv 4) rfl)
   (qK (cP (pv 0) je rfl)
   (qO (bC (c9 (pv 0) Br bV (hr.mono (by decide)) (pK (pv 2) (pK (Ke 1 ["word","self"] [0] ⟨rfl,rfl,rfl,rfl,rfl,rfl,rfl,rfl⟩ (kJ (pv 3)) (λ_ _ _ _=>⟨(dW (i:=0) (show List.Nodup (["word","self"]:List Str)by decide +kernel) rfl (aai rfl)),kN,(show PE _ _ (zd C _ _ [] _ _ _)from (c9 (pv 1) g7 bV (hr.mono (by decide)) (pK aV (pK (pv 0) pN))))⟩)) pN)))))))))))),?_⟩
 obtain⟨b',mk,pl,xs,e,hT,hM,hL,hP⟩:=Lh hB;cases e;have lw:(ws.map V.int).length=p.takes.length:=by rw[aah,hl]
 refine⟨_,rfl,b,_,_,_,rfl,rfl,hT,aN (j:=1) rfl,_,rfl,_,rfl,pl,il,xs,_,ps,j,p,rfl,hL,hP,hp,hd,by omega,hI,lw,λH1 s1=>?_⟩;refine⟨_,rfl,b,ms,ps,rfl,aZ.same s1 hB,h8,Jz,λbb H2 s2 hbk=>?_⟩;have U2:=s1.trans s2;have hx2:=U2 _ _ hx;refine⟨_,rfl,x,C,dx,_,rfl,hx2,ac.cl,ac.ll,(by show 0 < 1000;decide),?_⟩;have k3:aC [x] H2 (upd H2 x (.ins C dx (bz "book" (.ref bb) []))):=aY;have x3:=uS (H:=H2) (a:=x) (o:=.ins C dx (bz "book" (.ref bb) []));have c3:(bz "book" (.ref bb) []).length<=1:=mZ (aaf 0);generalize hF3:bz "book" (.ref bb) []=F3 at k3 x3 c3 ⊢;generalize upd H2 x (.ins C dx F3)=H3 at k3 x3 ⊢;refine⟨Vh,λlv nlv=>⟨_,rfl,x,C,dx,_,rfl,(uN (nN x3 nlv)).trans x3,ac.cl,ac.um,aaI c3 (by decide),?_⟩⟩;obtain⟨k4,x4,WN,ZL,lvx,ZM⟩:=TX (o':=.ins C dx (bz "live" (.ref lv) F3)) k3 x3 nlv;have c4:(bz "live" (.ref lv) F3).length<=2:=mZ c3;generalize hF4:bz "live" (.ref lv) F3=F4 at k4 x4 WN ZM c4 ⊢;generalize upd (upd H3 lv (.lst [])) x (.ins C dx F4)=H4 at k4 x4 WN ZM ⊢;refine⟨Vh,λrc nrc=>⟨_,rfl,x,C,dx,_,rfl,(uN (nN x4 nrc)).trans x4,ac.cl,ac.cz,aaI c4 (by decide),?_⟩⟩;obtain⟨k5,x5,WO,ZN,rcx,X4⟩:=TX (o':=.ins C dx (bz "records" (.ref rc) F4)) k4 x4 nrc;have rl:lv≠rc:=nN WN nrc;have WQ:=X4 _ _ lvx WN;have c5:(bz "records" (.ref rc) F4).length<=3:=mZ c4;generalize hF5:bz "records" (.ref rc) F4=F5 at k5 x5 WO X4 c5 WQ ⊢;generalize upd (upd H4 rc (.lst [])) x (.ins C dx F5)=H5 at k5 x5 WO X4 WQ ⊢;refine⟨Vh,λsd nsd=>⟨_,rfl,x,C,dx,_,rfl,(uN (nN x5 nsd)).trans x5,ac.cl,ac.Eu,aaI c5 (by decide),?_⟩⟩;obtain⟨k6,x6,X5,ZO,sdx,WR⟩:=TX (o':=.ins C dx (bz "said" (.ref sd) F5)) k5 x5 nsd;have sl:lv≠sd:=nN WQ nsd;have sr:rc≠sd:=nN WO nsd;have X6:=WR _ _ lvx WQ;have X7:=WR _ _ rcx WO;have c6:(bz "said" (.ref sd) F5).length<=4:=mZ c5;generalize hF6:bz "said" (.ref sd) F5=F6 at k6 x6 X5 WR c6 X6 X7 ⊢;generalize upd (upd H5 sd (.lst [])) x (.ins C dx F6)=H6 at k6 x6 X5 WR X6 X7 ⊢;refine⟨_,rfl,_,rfl,x,C,dx,_,rfl,x6,ac.cl,ac.xv,aaI c6 (by decide),?_⟩;have c7:(bz "left" (.int bud) F6).length<=5:=mZ c6;refine⟨_,rfl,x,C,dx,_,rfl,uS,ac.cl,ac.xw,aaI c7 (by decide),?_⟩;subst hF3 hF4 hF5 hF6;rw[TV];have x8:=uS (H:=upd H6 x (.ins C dx (bz "left" (.int bud) (bz "said" (.ref sd) (bz "records" (.ref rc) (bz "live" (.ref lv) (bz "book" (.ref bb) []))))))) (a:=x) (o:=.ins C dx (rL bb lv rc sd bud .non));have k8:aC [x] H6 (upd (upd H6 x (.ins C dx (bz "left" (.int bud) (bz "said" (.ref sd) (bz "records" (.ref rc) (bz "live" (.ref lv) (bz "book" (.ref bb) []))))))) x (.ins C dx (rL bb lv rc sd bud .non))):=aY.trans aY;generalize upd (upd H6 x (.ins C dx (bz "left" (.int bud) (bz "said" (.ref sd) (bz "records" (.ref rc) (bz "live" (.ref lv) (bz "book" (.ref bb) []))))))) x (.ins C dx (rL bb lv rc sd bud .non))=H8 at x8 k8 ⊢;have nx:∀c,c≠x->c∉[x]:=λc h z=>h (bN z)
 have lv8:=k8 _ _ (nx _ lvx) X6;have rc8:=k8 _ _ (nx _ rcx) X7;have sd8:=k8 _ _ (nx _ sdx) X5;have K8:=k6.trans k8;clear k3 k4 k5 k6 ZM X4 WR x3 x4 x5 x6 c3 c4 c5 c6 c7 WN WQ X6 WO X7 X5;have ZP:=s1 _ _ hx;obtain⟨mk',pl',xs',hbk⟩:=hbk
 have M8:bQ K H8 ab C wt ⟨x,bb,lv,rc,sd,ms,ps,[],[],[],bud,[]⟩:=by
  refine⟨⟨dx,.non,x8,.inl ⟨rfl,rfl⟩⟩,⟨mk',pl',xs',λHX kX=>hbk HX λc o _ e m=>?_⟩,lv8,⟨[],rc8,Cf.nil⟩,sd8,(λf hf=>nomatch hf),?_⟩
  ·have cx:c≠x:=λz=>by subst z;exact m _ ZP (.inr ⟨_,_,_,rfl⟩)
   refine kX c o (λhc=>?_) (K8 c o (nx c cx) e);simp only[foot,List.flatMap_nil,List.mem_cons,List.not_mem_nil,or_false]at hc;rcases hc with rfl | rfl | rfl | rfl
   ·exact cx rfl
   ·rw[ZL]at e;cases e
   ·rw[ZN]at e;cases e
   ·rw[ZO]at e;cases e
  ·simp only[foot,List.flatMap_nil,List.nodup_cons,List.mem_cons,List.not_mem_nil,or_false,not_or,not_false_eq_true,List.nodup_nil,and_true];exact⟨⟨lvx.symm,rcx.symm,sdx.symm⟩,⟨rl,sl⟩,sr⟩
 have K0:aC [x] H H8:=λc o n e=>K8 c o n (U2 c o e)
 have hI8:bt K H8 il (ws.map V.int):=by
  rcases hI with(h | ⟨u,h⟩) | h
  ·exact .inl (.inl (K0 _ _ (λz=>by rw[bN z,hx]at h;cases h) h))
  ·exact .inl (.inr ⟨u,K0 _ _ (λz=>by rw[bN z,hx]at h;cases h) h⟩)
  ·exact .inr h
 refine⟨_,rfl,x,dx,_,rfl,x8,mc_no (by decide +kernel),_,rfl,_,rfl,il,rfl,⟨_,hI8⟩,λD hD=>?_⟩;refine rY (xs:=ws.map V.int) (λi ys H9=>aF H8 H9/\H9 D=some (.lst ys)/\iM K H9 wt ys ((ws.take i).map Vl.num)) (aaX (sK (by omega))) ⟨sN hD _,uS,iM.nil⟩ ?_ ?_ ?_
 ·rintro i ys H9 hi ⟨s9,g9,hV⟩;refine⟨g9,?_,s9.seq hI8⟩;rw[hV.1,aah,aaC];omega
 ·rintro i v ys H9 hv ⟨s9,g9,hV⟩;rw[aar]at hv
  cases hwi:ws[i]? with
  | none=>rw[hwi]at hv;cases hv
  | some n =>
   rw[hwi]at hv;cases hv;refine⟨rfl,_,rfl,x,dx,_,rfl,s9 _ _ x8,mc_no (by decide +kernel),_,rfl,_,.num n,(λz=>nomatch z),rfl,λu Vj V1 hu=>?_⟩;have g10:=V1 _ _ g9;have hiw:=(bU hwi);have mu:bq Vj [D]:=λc hc=>by rw[bN hc];exact⟨_,g10,.inl ⟨_,rfl⟩⟩
   refine⟨g10,xD (s9.trans V1) hD _,uS,?_⟩;rw[aa4 hiw.1,aaU,hiw.2];exact iM.keep aY mu ((hV.same V1).snoc hu)
 ·rintro ys H9 ⟨s9,g9,hV⟩;rw[acf (by rw[aah];omega)]at hV;have M9:=M8.same s9;refine⟨_,D,ys,ws.map Vl.num,j,p,rfl,M9,hp,bt.of g9,hV,by rw[aah];exact hb,R0,(by show 0<=100;decide),λf Vj M10 f1 f2 f3 f4 fr ZQ=>?_⟩;rw[aah]at f3
  have kE:∀c o,c≠x->H2 c=some o->Vj c=some o:=λc o n e=>by
   refine ZQ c o (λhc=>?_) (s9 _ _ (K8 c o (nx c n) e));simp only[foot,List.flatMap_nil,List.mem_cons,List.not_mem_nil,or_false]at hc;rcases hc with rfl | rfl | rfl | rfl
   ·exact n rfl
   ·rw[ZL]at e;cases e
   ·rw[ZN]at e;cases e
   ·rw[ZO]at e;cases e
  have LJ:∀c∈foot ⟨x,bb,lv,rc,sd,ms,ps,[f],[],[],bud,[]⟩,c≠x->H2 c=none:=λc hc n=>by
   simp only[foot,List.flatMap_cons,List.flatMap_nil,List.append_nil,List.mem_cons]at hc;rcases hc with rfl | rfl | rfl | rfl | hc
   ·exact absurd rfl n
   ·exact ZL
   ·exact ZN
   ·exact ZO
   ·have z:=s9.free (fr c hc)
    cases e:H2 c with
    | none=>rfl
    | some o=>rw[K8 c o (nx c n) e]at z;cases z
  refine q bb lv rc sd f Vj f1 f2 f3 f4 M10 (λc hc n=>U2.free (LJ c hc n)) (λc o n e=>kE c o (λz=>n (by rw[z];exact aaN.mpr rfl)) (U2 c o e)) (λG hG=>⟨mk',pl',xs',λHX kX=>hbk HX λc o _ e m=>?_⟩) (λHX kX=>?_);rotate_left
  ·obtain⟨w1,w2,w3,w4⟩:=hbk HX λc o _ e m=>by
    have cx:c≠x:=λz=>by subst z;exact m _ ZP (.inr ⟨_,_,_,rfl⟩)
    exact kX c o (λz=>by rw[LJ c z cx]at e;cases e) (λz hz mz=>m _ (s1 _ _ hz) mz) (kE c o cx e)
   exact .rV w1 (.cons w2.rd (.cons (.Ka w3 w4) .nil))
  have cx:c≠x:=λz=>by subst z;exact m _ ZP (.inr ⟨_,_,_,rfl⟩)
  refine kX c o (λhc=>?_) (kE c o cx e);rcases aaQ.mp hc with z | z
  ·rw[LJ c z cx]at e;cases e
  ·obtain⟨o',e',mo⟩:=hG c z;exact m _ (s1 _ _ e') mo
theorem Uh:aA ["book","part","inputs","budget"] ["book","part","inputs","budget"] (dS Lc):=by walk_at "sc"
theorem Ui{f:Addr}{fd:FuncData}(F:er K "run" "run" Lc f fd){ab:Addr}(aj:ah K ab){ar:Addr}(rb:cT P w K mg base aM "finished" 8 ["machine"] (iE K ab ar false))(LK:Ef P w K mg base aM ar "Plain" 5 ["self","book","part","inputs","budget"] (eS K ab ar false)):bp P w K mg base aM 9 f fd ["book","part","inputs","budget"] (A7 K):=by
 refine F.ok Uh (λvs H Q E h=>?_) (λcdv A outer s H vs Q E hr h=>?_)
 ·obtain⟨b,il,j,n,bud,ms,ps,p,ws,p2,rfl,hB,h8,Jz,hp,hd,hI,hl,hb,R0,hR,h9,q⟩:=h;rfl
 obtain⟨b,il,j,n,bud,ms,ps,p,ws,p2,rfl,hB,h8,Jz,hp,hd,hI,hl,hb,R0,hR,h9,q⟩:=h;refine⟨_,(qO (aE (cg rb (hr.mono (by decide)) rfl (pK (Kq LK bV (hr.mono (by decide)) rfl (pK (pv 0) (pK (pv 1) (pK (pv 2) (pK (pv 3) pN))))) pN)))),?_⟩;refine⟨_,rfl,_,rfl,_,rfl,_,rfl,λx dx nx ndx ne=>?_⟩;have y:=(pA (H':=upd (upd H dx (.own x)) x (.ins ar dx [])) nx ndx ne aC.refl).1;refine⟨x,dx,b,il,j,bud,ms,ps,p,ws,rfl,uS,aZ.same y hB,h8,Jz,hp,hd,y.seq hI,hl,hb,R0,λbb lv rc sd f' H1 e1 e2 e3 e4 M1 ZR k1 _ _=>⟨rfl,?_⟩⟩;have x1:=(pA nx ndx ne k1).2
 have z1:∀c∈foot ⟨x,bb,lv,rc,sd,ms,ps,[f'],[],[],bud,[]⟩,H c=none:=λc hc=>by
  by_cases e:c=x
  ·rw[e];exact nx
  ·exact y.free (ZR c hc e)
 have ep:(⟨x,bb,lv,rc,sd,ms,ps,[f'],[],[],bud,[]⟩:Mc).pm=j3 ms ps j p ws bud:=by
  unfold Mc.pm j3;show(⟨ms,ps,[f'.pf],[],[],bud,[]⟩:PM)=_;unfold Fm.pf;rw[e1,e2,e3,e4]
 refine⟨⟨x,bb,lv,rc,sd,ms,ps,[f'],[],[],bud,[]⟩,n,p2,rfl,M1,(by rw[ep];exact hR),h9,λt l ev H' k' fr gt g hE=>q t l ev H' (λc o e=>k' c o (λhz=>?_) (x1 c o e)) ?_ gt g hE⟩;rotate_left
 ·by_cases hz:l∈foot ⟨x,bb,lv,rc,sd,ms,ps,[f'],[],[],bud,[]⟩
  ·exact z1 l hz
  ·cases hh:H l with
   | none=>rfl
   | some o=>have:=x1 l o hh;rw[fr hz]at this;cases this
 rw[z1 c hz]at e;cases e
theorem xY:aA ["book","part","inputs","budget"] ["book","part","inputs","budget"] (dS j2):=by walk_at "sc"
theorem xZ{f:Addr}{fd:FuncData}(F:er K "run_watched" "run_watched" j2 f fd){ab:Addr}(aj:ah K ab){ak:Addr}(rb:cT P w K mg base aM "finished" 8 ["machine"] (iE K ab ak true))(E8:Ef P w K mg base aM ak "Watched" 5 ["self","book","part","inputs","budget"] (eS K ab ak true)):bp P w K mg base aM 9 f fd ["book","part","inputs","budget"] (gm K):=by
 refine F.ok xY (λvs H Q E h=>?_) (λcdv A outer s H vs Q E hr h=>?_)
 ·obtain⟨b,il,j,n,bud,ms,ps,p,ws,p2,rfl,hB,h8,Jz,hp,hd,hI,hl,hb,R0,hR,h9,q⟩:=h;rfl
 obtain⟨b,il,j,n,bud,ms,ps,p,ws,p2,rfl,hB,h8,Jz,hp,hd,hI,hl,hb,R0,hR,h9,q⟩:=h;refine⟨_,(qO (aE (cg rb (hr.mono (by decide)) rfl (pK (Kq E8 bV (hr.mono (by decide)) rfl (pK (pv 0) (pK (pv 1) (pK (pv 2) (pK (pv 3) pN))))) pN)))),?_⟩;refine⟨_,rfl,_,rfl,_,rfl,_,rfl,λx dx nx ndx ne=>?_⟩;have y:=(pA (H':=upd (upd H dx (.own x)) x (.ins ak dx [])) nx ndx ne aC.refl).1;refine⟨x,dx,b,il,j,bud,ms,ps,p,ws,rfl,uS,aZ.same y hB,h8,Jz,hp,hd,y.seq hI,hl,hb,R0,λbb lv rc sd f' H1 e1 e2 e3 e4 M1 ZR k1 _ _=>⟨rfl,?_⟩⟩;have x1:=(pA nx ndx ne k1).2
 have z1:∀c∈foot ⟨x,bb,lv,rc,sd,ms,ps,[f'],[],[],bud,[]⟩,H c=none:=λc hc=>by
  by_cases e:c=x
  ·rw[e];exact nx
  ·exact y.free (ZR c hc e)
 have ep:(⟨x,bb,lv,rc,sd,ms,ps,[f'],[],[],bud,[]⟩:Mc).pm=j3 ms ps j p ws bud:=by
  unfold Mc.pm j3;show(⟨ms,ps,[f'.pf],[],[],bud,[]⟩:PM)=_;unfold Fm.pf;rw[e1,e2,e3,e4]
 refine⟨⟨x,bb,lv,rc,sd,ms,ps,[f'],[],[],bud,[]⟩,n,p2,rfl,M1,(by rw[ep];exact hR),h9,λt l ev H' k' fr gt g hE=>q t l ev H' (λc o e=>k' c o (λhz=>?_) (x1 c o e)) ?_ gt g hE⟩;rotate_left
 ·by_cases hz:l∈foot ⟨x,bb,lv,rc,sd,ms,ps,[f'],[],[],bud,[]⟩
  ·exact z1 l hz
  ·cases hh:H l with
   | none=>rfl
   | some o=>have:=x1 l o hh;rw[fr hz]at this;cases this
 rw[z1 c hz]at e;cases e
theorem gq:aA ["_law_script","_law_inputs","_law_budgets","_law_rows","_law_other","_law_elders","_law_books","_law_told","_law_due","_law_k","_law_j","_law_found","_law_one"] ["_law_script"] (dS su):=by walk_at "sc"
theorem Uj{f:Addr}{fd:FuncData}(F:er K "law" "law" su f fd)(x9:mg "bool"=none)(cY:mg "isinstance"=none)(bX:mg "len"=none)(cq:mg "list"=none)(ja:mg "range"=none)(tD:mg "tuple"=none){ab:Addr}(aj:ah K ab)(jV:cT P w K mg base aM "_law_book" 1 ["_law_rows","_law_elders"] (jL K))(bM:cT P w K mg base aM "_law_cell" 1 ["_law_script","_law_k"] (iA K))(vg:cT P w K mg base aM "_law_code" 4 ["_law_script","_law_at"] (jO K))(yY:cT P w K mg base aM "_law_walked" 4 ["_law_rows","_law_elders","_law_inputs","_law_budget"] (ip K))(m4:cT P w K mg base aM "_law_word" 1 ["_law_cell_here"] (iB K))(WT:cT P w K mg base aM "run" 9 ["book","part","inputs","budget"] (A7 K))(yZ:cT P w K mg base aM "run_watched" 9 ["book","part","inputs","budget"] (gm K))(tE:IsT K "bool" (uX "bool"))(tF:IsT K "list" (uX "list"))(m9:IsT K "tuple" (uX "tuple")):bp P w K mg base aM 10 f fd ["_law_script"] (A8 K):=by
 refine F.ok gq (λvs H Q E h=>?_) (λcdv A outer s H vs Q E hr h=>?_)
 ·obtain⟨a,ns,rfl,hS,h63,q⟩:=h;rfl
 obtain⟨a,ns,rfl,hS,h63,q0⟩:=h;have hv:dC (aS K (λ_=>False) H) [.ref a] [.list (ns.map PyData.int)]:=.cons (Ta (.lst hS (by simp) λi x d hx hd=>(B6 (K:=K) (P:=λ_=>False) (H:=H) (ns:=ns)).2 i x d hx hd |>.now)) .nil;have q:∀v H',aF H H'->aS K (λ_=>False) H' v (.bool true)->Q v H':=λv H' _ r=>by rw[aS.mL r];exact q0 H'
 refine fT (P:=λ_=>False) (λ_ h=>h.elim) hv ?_;show Dx _ _ _ [some _,none,none,none,none,none,none,none,none,none,none,none,none] [];clear hv q0 hS;refine aD (Hh Ww (i:=1) gq.nd rfl (aai rfl) 1 ["_law_k","_law_script"] [0] ⟨rfl,rfl,rfl,rfl,rfl,rfl,rfl,rfl⟩ (zq rfl ja (ae av aq)) (λ_ _ _ _=>(dW (i:=0) (show List.Nodup (["_law_k","_law_script"]:List Str)by decide +kernel) rfl (aai rfl))) (KP (i:=0)) (Wt (by decide)) (λ_ _ _ _=>⟨KS,(br m4 vc vb (hr.mono (by decide)) rfl (ae (br bM bS bR (hr.mono (by decide)) rfl (ae (ai 1) (ae (ai 0) aq))) aq))⟩)) (λR kk=>?_);walk_at "vc";refine⟨by decide,RM (λi ys=>∃ws:List Int,ys=ws.map PyData.int/\ws.length=i/\∀w∈ws,lu w) (by decide) ⟨[],rfl,rfl,(λw hw=>nomatch hw)⟩ ?_ ?_⟩
 ·rintro i ys d hd ⟨ws,rfl,hl,hW⟩;obtain⟨hi,rfl⟩:=Au hd;have hi:i < 3:=hi;walk_at "vc";refine⟨rfl,rfl,iJ ⟨ns,_,rfl,by omega,by omega,λv=>⟨v,rfl,λx hx=>⟨rfl,ws++[x],by rw[List.map_append];rfl,by simp[hl],λw hw=>?_⟩⟩⟩⟩;rcases List.mem_append.mp hw with z | z
  ·exact hW w z
  ·rw[bN z];exact hx
 rintro ys ⟨ws,rfl,hl,hW⟩;rw[si]at hl;have hl:ws.length=3:=hl;walk_at "vc";refine kk _ _ ?_;clear kk R;refine aD (da (eN (hr.units) (bZ (br bM bS bR (hr.mono (by decide)) rfl (ae (ai 0) (ae av aq))) av) av) (aP (Az (bZ (br bM bS bR (hr.mono (by decide)) rfl (ae (ai 0) (ae av aq))) av) (Aw (ai 1) av))) cu) (λR kk=>?_);walk_at "vc"
 have nx:∀ws:List Int,ws.length=3->(∀w∈ws,lu w)->R [some (.dat (.list (ns.map PyData.int))),some (.ref 0),none,none,none,none,none,none,none,none,none,none,none] [.live (ws.map PyData.int)]:=by
  intro ws hl hW;refine kk _ _ ?_;clear kk R;refine aD (bh (i:=2) gq.nd rfl (aai rfl) (jG (ae (bZ (br bM bS bR (hr.mono (by decide)) rfl (ae (ai 0) (ae av aq))) av) (ae (bZ (br bM bS bR (hr.mono (by decide)) rfl (ae (ai 0) (ae av aq))) av) aq)))) (λR kk=>?_);walk_at "vc";refine⟨ns,5,rfl,by decide,by decide,λv5=>⟨by decide,ns,6,rfl,by decide,by decide,λv6=>⟨by decide,kk _ _ ?_⟩⟩⟩;clear kk R;have b5:=aa6 v5 (show(13:Int)≠0 by decide);have b5':=aa5 v5 (show(0:Int) < 13 by decide);have b6:=aa6 v6 (show(13:Int)≠0 by decide);have b6':=aa5 v6 (show(0:Int) < 13 by decide);generalize v5 % 13=u1 at b5 b5';generalize v6 % 13=u2 at b6 b6';refine aD (da (eN (hr.units) (bZ (br bM bS bR (hr.mono (by decide)) rfl (ae (ai 0) (ae av aq))) av) av) (aP (Az av (Aw (ai 2) av))) cu) (λR kk=>?_);walk_at "vc"
  have nx:∀u1:Int,0<=u1->u1 < 13->R [some (.dat (.list (ns.map PyData.int))),some (.ref 0),some (.ref 1),none,none,none,none,none,none,none,none,none,none] [.live (ws.map PyData.int),.live [.int u1,.int u2]]:=by
   intro u1 b5 b5';refine kk _ _ ?_;clear kk R;refine aD (bh (i:=3) gq.nd rfl (aai rfl) (br vg ve vd (hr.mono (by decide)) rfl (ae (ai 0) (ae av aq)))) (λR kk=>?_);walk_at "vc";refine⟨ns,9,rfl,by decide,λCS c11 c12 X8=>kk _ _ ?_⟩;clear kk R;refine aD (bh (i:=4) gq.nd rfl (aai rfl) (br vg ve vd (hr.mono (by decide)) rfl (ae (dF (KA (ai 0) (wI av) Ge) (KA (ai 0) Ge (wI av))) (ae (dF av (ie (uc rfl bX (ae (ai 0) aq)) av)) aq)))) (λR kk=>?_);walk_at "vc";obtain⟨ca,ea,la⟩:=Cq ns (some 1) none;obtain⟨cb,eb,lb⟩:=Cq ns none (some 1);rw[ea,eb,← aaU,aah,aah,aah];refine⟨by omega,pZ (by decide) (by decide),ca++cb,9 + ns.length / 2,rfl,by omega,λJA c21 c22 ZS=>kk _ _ ?_⟩;clear kk R;refine aD (bh (i:=5) gq.nd rfl (aai rfl) (bO (ae Ao (ae av (ae (bZ (br bM bS bR (hr.mono (by decide)) rfl (ae (ai 0) (ae av aq))) av) aq))))) (λR kk=>?_);walk_at "vc";refine⟨ns,8,rfl,by decide,by decide,λv8=>⟨by decide,?_⟩⟩;obtain⟨e,ee,he⟩:=mM v8 (n:=2) (by decide);rw[ee];refine kk _ _ ?_;clear kk R;have he:e < 2:=by omega
   have l1:=X8.code.2.2.2;have l2:=ZS.code.2.2.2;refine aD (bh (i:=6) gq.nd rfl (Or.inl rfl) (bO (ae (br jV jN jM (hr.mono (by decide)) rfl (ae (ai 3) (ae (ai 5) aq))) (ae (br jV jN jM (hr.mono (by decide)) rfl (ae (ai 4) (ae (ai 5) aq))) aq)))) (λR kk=>?_);walk_at "vc";refine⟨codeOf CS,e,rfl,by omega,codeOf JA,e,rfl,by omega,kk _ _ ?_⟩;clear kk R;refine aD (bh (i:=7) gq.nd rfl (Or.inl rfl) (jG aq)) (λR kk=>?_);walk_at "vc";refine kk _ _ ?_;clear kk R;refine aD (bh (i:=8) gq.nd rfl (Or.inl rfl) (bO aq)) (λR kk=>?_);walk_at "vc";refine kk _ _ ?_;clear kk R;obtain⟨w0,w1,w2,rfl⟩:=Zm hl;have HC:=hW w0 (by simp);have ZT:=hW w1 (by simp);have ZU:=hW w2 (by simp);obtain⟨n1,o1,wk1,so1,rn1⟩:=Lu (K:=K) (e:=e) X8 he HC ZT ZU b5 (by omega);obtain⟨n2,o2,wk2,so2,rn2⟩:=Lu (K:=K) (e:=e) ZS he HC ZT ZU b6 (by omega);obtain⟨n3,o3,wk3,so3,rn3⟩:=Lu (K:=K) (e:=e) X8 he HC ZT ZU b6 (by omega);refine aD (ue PassesOwn.never rfl (ud (bO (ae (aU (ae av (ae av aq))) (ae (aU (ae av (ae av aq))) (ae (aU (ae av (ae av aq))) aq))))) (Tc (m:=2) rfl (B3 (kS (i:=9) gq.nd rfl (Or.inl rfl)) (B3 (kS (i:=10) gq.nd rfl (Or.inl rfl)) O2))) (bW (cU (ck (ai 7) (ae (br WT TZ TY (hr.mono (by decide)) rfl (ae (iY (ai 6) (ai 9) (λ_ _=>rfl)) (ae av (ae (wK rfl cq (ae (ai 1) aq)) (ae (iY (ai 2) (ai 10) (λ_ _=>rfl)) aq))))) aq)))
   (bW (cU (ck (ai 7) (ae (br yZ xP xO (hr.mono (by decide)) rfl (ae (iY (ai 6) (ai 9) (λ_ _=>rfl)) (ae av (ae (wK rfl cq (ae (ai 1) aq)) (ae (iY (ai 2) (ai 10) (λ_ _=>rfl)) aq))))) aq)))
   (bW (bh (i:=11) gq.nd rfl (aai rfl) (br yY yO yN (hr.mono (by decide)) rfl (ae (iY (bO (ae (ai 3) (ae (ai 4) aq))) (ai 9) (λ_ _=>rfl)) (ae (ai 5) (ae (ai 1) (ae (iY (ai 2) (ai 10) (λ_ _=>rfl)) aq))))))
   (aP (bh (i:=8) gq.nd rfl (aai rfl) (dF (ai 8) (bO (ae (ai 11) (ae (ai 11) aq)))))))))) (λR kk=>?_)
   walk_at "vc";refine pk (λi env st=>∃(ok oj of:Option DV),env=[some (.dat (.list (ns.map PyData.int))),some (.ref 0),some (.ref 1),some (.dat (.list ((codeOf CS).map jm))),some (.dat (.list ((codeOf JA).map jm))),some (.dat (.list ((fq e).map λm=>AN m.1))),some (.dat (.list [Dy (fq e) [cy (codeOf CS)],Dy (fq e) [cy (codeOf JA)]])),some (.ref 2),some (.dat (.list ([outD o1,outD o1,outD o2,outD o2,outD o3,outD o3].take (2 * i)))),ok,oj,of,none]/\st=[Lw i [.int w0,.int w1,.int w2],.live [.int u1,.int u2],.live ([outD o1,outD o1,outD o2,outD o2,outD o3,outD o3].take (2 * i))]) ⟨_,_,_,rfl,rfl⟩ (λ_ _ _ _=>trivial) ?_ ?_
   ·rintro i env st d hd ⟨ok,oj,of,rfl,rfl⟩;have hi:i < 3:=(bU hd).1;rcases (by omega:i=0∨i=1∨i=2)with rfl | rfl | rfl
    ·cases hd;rw[show Lw 0 [PyData.int w0,.int w1,.int w2]=.live [.int w0,.int w1,.int w2]from rfl];walk_at "vc";obtain⟨m,p2,r1,r2,r3⟩:=rn1 false;obtain⟨m',p2',r1',r2',r3'⟩:=rn1 true;refine⟨rfl,rfl,_,aN (j:=0) rfl,_,aN (j:=0) rfl,0,m,u1,fq e,[cy (codeOf CS)],cy (codeOf CS),[w0,w1,w2],p2,rfl,(by show 3<=8;decide),(by show 1<=8;decide),rfl,rfl,rfl,(by show 3<=5;decide),(by show 5<=8;decide),r1,r2,?_⟩;rw[r3];refine⟨aaw rfl,rfl,_,aN (j:=0) rfl,_,aN (j:=0) rfl,0,m',u1,fq e,[cy (codeOf CS)],cy (codeOf CS),[w0,w1,w2],p2',rfl,(by show 3<=8;decide),(by show 1<=8;decide),rfl,rfl,rfl,(by show 3<=5;decide),(by show 5<=8;decide),r1',r2',?_⟩;rw[r3'];refine⟨aaw rfl,_,aN (j:=0) rfl,_,aN (j:=0) rfl,codeOf CS,fq e,[w0,w1,w2],u1,n1,o1,rfl,(good3 he).wf,(by show 3<=100;decide),wk1,?_⟩;exact⟨aaw rfl,_,_,_,rfl,rfl⟩
    ·cases hd;rw[show Lw 1 [PyData.int w0,.int w1,.int w2]=.froz [.int w0,.int w1,.int w2]from rfl];walk_at "vc";obtain⟨m,p2,r1,r2,r3⟩:=rn2 false;obtain⟨m',p2',r1',r2',r3'⟩:=rn2 true;refine⟨rfl,rfl,_,aN (j:=1) rfl,_,aN (j:=1) rfl,0,m,u2,fq e,[cy (codeOf JA)],cy (codeOf JA),[w0,w1,w2],p2,rfl,(by show 3<=8;decide),(by show 1<=8;decide),rfl,rfl,rfl,(by show 3<=5;decide),(by show 5<=8;decide),r1,r2,?_⟩;rw[r3];refine⟨aaw rfl,rfl,_,aN (j:=1) rfl,_,aN (j:=1) rfl,0,m',u2,fq e,[cy (codeOf JA)],cy (codeOf JA),[w0,w1,w2],p2',rfl,(by show 3<=8;decide),(by show 1<=8;decide),rfl,rfl,rfl,(by show 3<=5;decide),(by show 5<=8;decide),r1',r2',?_⟩;rw[r3'];refine⟨aaw rfl,_,aN (j:=1) rfl,_,aN (j:=1) rfl,codeOf JA,fq e,[w0,w1,w2],u2,n2,o2,rfl,(good3 he).wf,(by show 3<=100;decide),wk2,?_⟩;exact⟨aaw rfl,_,_,_,rfl,rfl⟩
    ·cases hd;rw[show Lw 2 [PyData.int w0,.int w1,.int w2]=.froz [.int w0,.int w1,.int w2]from rfl];walk_at "vc";obtain⟨m,p2,r1,r2,r3⟩:=rn3 false;obtain⟨m',p2',r1',r2',r3'⟩:=rn3 true;refine⟨rfl,rfl,_,aN (j:=0) rfl,_,aN (j:=1) rfl,0,m,u2,fq e,[cy (codeOf CS)],cy (codeOf CS),[w0,w1,w2],p2,rfl,(by show 3<=8;decide),(by show 1<=8;decide),rfl,rfl,rfl,(by show 3<=5;decide),(by show 5<=8;decide),r1,r2,?_⟩;rw[r3];refine⟨aaw rfl,rfl,_,aN (j:=0) rfl,_,aN (j:=1) rfl,0,m',u2,fq e,[cy (codeOf CS)],cy (codeOf CS),[w0,w1,w2],p2',rfl,(by show 3<=8;decide),(by show 1<=8;decide),rfl,rfl,rfl,(by show 3<=5;decide),(by show 5<=8;decide),r1',r2',?_⟩;rw[r3'];refine⟨aaw rfl,_,aN (j:=0) rfl,_,aN (j:=1) rfl,codeOf CS,fq e,[w0,w1,w2],u2,n3,o3,rfl,(good3 he).wf,(by show 3<=100;decide),wk3,?_⟩;exact⟨aaw rfl,_,_,_,rfl,rfl⟩
   ·rintro env st ⟨ok,oj,of,rfl,rfl⟩;rw[show Lw _ [PyData.int w0,.int w1,.int w2]=.froz [.int w0,.int w1,.int w2]from rfl];refine kk _ _ ?_;clear kk R;refine aD (ue aaR rfl (ud (ai 7)) (kS (i:=12) gq.nd rfl (aai rfl)) (aP (da (FT.dt (KI (KG (Aq (Ek m9 rfl cY rfl tD J9 (ai 12)))) (KI (KG (Aq (Ek tF rfl cY rfl cq ic (bG (n:=1) (ai 12))))) (KH (Aq (Ek tE rfl cY rfl x9 Oo (bG (n:=2) (ai 12)))))))) (aP (cR Wd)) cu))) (λR kk=>?_);walk_at "vc";refine pk (λi env st=>∃(DE:Option DV),env=[some (.dat (.list (ns.map PyData.int))),some (.ref 0),some (.ref 1),some (.dat (.list ((codeOf CS).map jm))),some (.dat (.list ((codeOf JA).map jm))),some (.dat (.list ((fq e).map λm=>AN m.1))),some (.dat (.list [Dy (fq e) [cy (codeOf CS)],Dy (fq e) [cy (codeOf JA)]])),some (.ref 2),some (.dat (.list [outD o1,outD o1,outD o2,outD o2,outD o3,outD o3])),ok,oj,of,DE]/\st=[.froz [.int w0,.int w1,.int w2],.live [.int u1,.int u2],.froz [outD o1,outD o1,outD o2,outD o2,outD o3,outD o3]]) ⟨_,rfl,rfl⟩ (λ_ _ _ _=>trivial) ?_ ?_
    ·rintro i env st d hd ⟨DE,rfl,rfl⟩
     obtain⟨o,rfl⟩:∃o:Out,d=outD o:=by
      have hm:=List.mem_of_getElem? hd;simp only[List.mem_cons,List.not_mem_nil,or_false]at hm;rcases hm with rfl | rfl | rfl | rfl | rfl | rfl<;>exact⟨_,rfl⟩
     rw[show outD o=.tuple [EE o.fin,.list (cL o.sd),.int o.left]from rfl];walk_at "vc";rw[aan (by decide +kernel),aan (by decide +kernel),aan (by decide +kernel)];exact⟨_,rfl,rfl⟩
    ·rintro env st ⟨DE,rfl,rfl⟩;refine kk _ _ ?_;clear kk R;refine fS (cR (OV (RH (hr.units) (ai 7) (ai 8)) (S8 (RH (hr.units) (ai 6) (bO (ae (br jV jN jM (hr.mono (by decide)) rfl (ae (ai 3) (ae (ai 5) aq))) (ae (br jV jN jM (hr.mono (by decide)) rfl (ae (ai 4) (ae (ai 5) aq))) aq))))))) ?_;walk_at "vc";have s1:Sh 4 (.list [outD o1,outD o1,outD o2,outD o2,outD o3,outD o3]):=sq (cM so1 (cM so1 (cM so2 (cM so2 (cM so3 (cM so3 uf))))));have s2:Sh 6 (.list [Dy (fq e) [cy (codeOf CS)],Dy (fq e) [cy (codeOf JA)]]):=sq (cM (GK X8) (cM (GK ZS) uf));refine⟨⟨s1.ok,s1.ok⟩,?_⟩;rw[aaq s1.self];refine⟨codeOf CS,e,rfl,by omega,codeOf JA,e,rfl,by omega,⟨s2.ok,s2.ok⟩,?_⟩;rw[s2.self];exact q
  refine⟨ns,7,rfl,by decide,by decide,λv7=>⟨by decide,eF (λ_=>⟨0,rfl,nx 0 (by decide) (by decide)⟩) (λ_=>nx u1 b5 b5')⟩⟩
 refine⟨ns,3,rfl,by decide,by decide,λv3=>⟨by decide,eF (λ_=>⟨ns,2,rfl,by decide,by decide,λv2=>⟨by decide,2,by rw[aah,hl];rfl,?_⟩⟩) (λ_=>nx ws hl hW)⟩⟩;have e2:(ws.map PyData.int).set 2 (.int (v2 % 7))=(ws.set 2 (v2 % 7)).map PyData.int:=by rw[List.map_set]
 rw[e2];refine nx _ (by rw[aaL];exact hl) (λw hw=>?_);rcases aby hw with z | rfl
 ·exact hW w z
 ·exact⟨by have:=aa6 v2 (show(7:Int)≠0 by decide);omega,by have:=aa5 v2 (show(0:Int) < 7 by decide);omega⟩
end
def eU(K:ax)(n:Str)(s:Stmt):Prop:=∃f fd,PySem.W.nsIn K mainGlobals n=some (some (.ref f))/\er K n n s f fd
def gB(K:ax)(f:Addr)(n q:Str)(s:Stmt):Prop:=(∃fd,er K n q s f fd)/\PySem.W.isFn K (.ref f)=true
theorem all_mk{l:PySem.W.OpenLaw}{w:World}{K:ax}{h:Heap}{mg:Str->Option Value}{fa f11 f12 ZV ZW ZX ZY ZZ f20 f21 f23 f24 f25 f26 f28 f29 Z0 Z1 Z2 Z3 f38 f45 Z4 Z5 f52 f54 f55 Z6 Z7 Z8:Addr}(X:K.In h)(G:h.Ns mainGlobals mg)(hfa:mg "law"=some (.ref fa))
  {Z9 WU:Option Addr} {aaa:Array (Option Value)} {aab WV WW WX Uk WY:Value}
  {Bj Bl:Tok}
  {HJ:Nat}
  {rf rh rj nc ng nh ni nj nk nq nv ny nz nA nB nC nE nF nH nI nJ nK nM nO nP nQ nR nS nU nV nW nX nY lJ lK lL lM lN lO lP lQ lR cG:Addr} {ya yb yc yd vh vj vk vm vn vp vq vv vw vx vy vz vA vB vC vD vE vF vG vH vI vJ vK vL vM vN vO vP vQ tG tH tI tJ tK tL tM tN tO tP:Tok}
  {uH:Addr} {zC zD zE:Tok}
  {PR:Nat}
  {lI:Addr} {CT CU CV CW CY CZ C0 C1 C2 zF zG zH zI zJ zK zL zM zN zO zP:Tok}
  {jx:Addr} {nZ n6 n8 n9 oa:Tok}
  {j7:Addr} {qh qi qj qk ql qo qp:Tok}
  {ab:Addr} (ye:PySem.W.nsIn K mainGlobals "Frame"=some (some (.ref ab)))
  (yf:PySem.W.plainGet K ab Str.empty=true)
  (yg:PySem.W.hasDictIn K ab=true)
  (yh:PySem.W.plainOver K ab=true)
  (yi:PySem.W.findIn K (.ref ab) "__setattr__"=some (some (.builtin "object.__setattr__")))
  (yj:PySem.W.makesIn K ab=true)
  (yk:PySem.W.keepIn K (.ref ab)=true)
  (j8:PySem.W.findIn K (.ref ab) "part"=some none)
  (og:PySem.W.findIn K (.ref ab) "at"=some none)
  (jy:PySem.W.findIn K (.ref ab) "boxes"=some none)
  (jz:PySem.W.findIn K (.ref ab) "stack"=some none)
  (gr:PySem.W.findIn K (.ref ab) "__init__"=some (some (.ref f52)))
  {ar:Addr} (ym:PySem.W.nsIn K mainGlobals "Plain"=some (some (.ref ar)))
  (yn:PySem.W.plainGet K ar Str.empty=true)
  (yo:PySem.W.hasDictIn K ar=true)
  (yp:PySem.W.plainOver K ar=true)
  (yq:PySem.W.findIn K (.ref ar) "__setattr__"=some (some (.builtin "object.__setattr__")))
  (yr:PySem.W.makesIn K ar=true)
  (yt:PySem.W.keepIn K (.ref ar)=true)
  (j9:PySem.W.findIn K (.ref ar) "book"=some none)
  (kb:PySem.W.findIn K (.ref ar) "live"=some none)
  (g8:PySem.W.findIn K (.ref ar) "records"=some none)
  (kc:PySem.W.findIn K (.ref ar) "said"=some none)
  (ke:PySem.W.findIn K (.ref ar) "left"=some none)
  (lS:PySem.W.findIn K (.ref ar) "end"=some none)
  (kf:PySem.W.findIn K (.ref ar) "bare"=some (some (.ref f11)))
  (hJ:PySem.W.findIn K (.ref ar) "do_give"=some (some (.ref ZV)))
  (jA:PySem.W.findIn K (.ref ar) "spend"=some (some (.ref ZW)))
  (jB:PySem.W.findIn K (.ref ar) "go_on"=some (some (.ref ZX)))
  (kg:PySem.W.findIn K (.ref ar) "goes"=some (some (.ref ZY)))
  (gu:PySem.W.findIn K (.ref ar) "do_going"=some (some (.ref ZZ)))
  (gw:PySem.W.findIn K (.ref ar) "as_begun"=some (some (.ref f20)))
  (eI:PySem.W.findIn K (.ref ar) "new_record"=some (some (.ref f23)))
  (iN:PySem.W.findIn K (.ref ar) "tagged"=some (some (.ref f25)))
  (eJ:PySem.W.findIn K (.ref ar) "with_field"=some (some (.ref f28)))
  (cZ:PySem.W.findIn K (.ref ar) "do_of_records"=some (some (.ref Z0)))
  (dq:PySem.W.findIn K (.ref ar) "do_reckoning"=some (some (.ref Z1)))
  (dQ:PySem.W.findIn K (.ref ar) "do_straight"=some (some (.ref Z2)))
  (iO:PySem.W.findIn K (.ref ar) "do_row"=some (some (.ref Z3)))
  (iP:PySem.W.findIn K (.ref ar) "looked"=some (some (.ref f38)))
  (kh:PySem.W.findIn K (.ref ar) "step"=some (some (.ref Z4)))
  (ki:PySem.W.findIn K (.ref ar) "told"=some (some (.ref Z5)))
  (hZ:PySem.W.findIn K (.ref ar) "nothing"=some (some (.ref f54)))
  (fw:PySem.W.findIn K (.ref ar) "add_frame"=some (some (.ref Z6)))
  (gx:PySem.W.findIn K (.ref ar) "__init__"=some (some (.ref Z7)))
  {ak:Addr} (rm:PySem.W.nsIn K mainGlobals "Watched"=some (some (.ref ak)))
  (rn:PySem.W.plainGet K ak Str.empty=true)
  (rp:PySem.W.hasDictIn K ak=true)
  (rq:PySem.W.plainOver K ak=true)
  (rz:PySem.W.findIn K (.ref ak) "__setattr__"=some (some (.builtin "object.__setattr__")))
  (rA:PySem.W.makesIn K ak=true)
  (rB:PySem.W.keepIn K (.ref ak)=true)
  (iQ:PySem.W.findIn K (.ref ak) "book"=some none)
  (iR:PySem.W.findIn K (.ref ak) "live"=some none)
  (fz:PySem.W.findIn K (.ref ak) "records"=some none)
  (iS:PySem.W.findIn K (.ref ak) "said"=some none)
  (iT:PySem.W.findIn K (.ref ak) "left"=some none)
  (jC:PySem.W.findIn K (.ref ak) "end"=some none)
  (iU:PySem.W.findIn K (.ref ak) "bare"=some (some (.ref f12)))
  (fA:PySem.W.findIn K (.ref ak) "do_give"=some (some (.ref ZV)))
  (ia:PySem.W.findIn K (.ref ak) "spend"=some (some (.ref ZW)))
  (ib:PySem.W.findIn K (.ref ak) "go_on"=some (some (.ref ZX)))
  (iV:PySem.W.findIn K (.ref ak) "goes"=some (some (.ref ZY)))
  (eK:PySem.W.findIn K (.ref ak) "do_going"=some (some (.ref ZZ)))
  (eL:PySem.W.findIn K (.ref ak) "as_begun"=some (some (.ref f21)))
  (dr:PySem.W.findIn K (.ref ak) "new_record"=some (some (.ref f24)))
  (gy:PySem.W.findIn K (.ref ak) "tagged"=some (some (.ref f26)))
  (du:PySem.W.findIn K (.ref ak) "with_field"=some (some (.ref f29)))
  (cK:PySem.W.findIn K (.ref ak) "do_of_records"=some (some (.ref Z0)))
  (cS:PySem.W.findIn K (.ref ak) "do_reckoning"=some (some (.ref Z1)))
  (c0:PySem.W.findIn K (.ref ak) "do_straight"=some (some (.ref Z2)))
  (gz:PySem.W.findIn K (.ref ak) "do_row"=some (some (.ref Z3)))
  (gA:PySem.W.findIn K (.ref ak) "looked"=some (some (.ref f45)))
  (iW:PySem.W.findIn K (.ref ak) "step"=some (some (.ref Z4)))
  (iX:PySem.W.findIn K (.ref ak) "told"=some (some (.ref Z5)))
  (fB:PySem.W.findIn K (.ref ak) "nothing"=some (some (.ref f55)))
  (dR:PySem.W.findIn K (.ref ak) "add_frame"=some (some (.ref Z6)))
  (eM:PySem.W.findIn K (.ref ak) "__init__"=some (some (.ref Z7)))
  (d0:eU K "_law_book" qv)
  (d1:eU K "_law_cell" qw)
  (d2:eU K "_law_word" qx)
  (d3:eU K "_law_block" mN)
  (d4:eU K "_law_blocks" kT)
  (d5:eU K "_law_code" qy)
  (d6:eU K "_law_wrapped" jZ)
  (d7:eU K "_law_two" ug)
  (d8:eU K "_law_done" qz)
  (d9:eU K "_law_under" mO)
  (d10:eU K "_law_walked" kU)
  (l11:gB K f11 "bare" "Plain.bare" kW)
  (l12:gB K f12 "bare" "Watched.bare" ji)
  (l13:gB K ZV "do_give" "Plain.do_give" iK)
  (l14:gB K ZW "spend" "Plain.spend" j0)
  (l15:gB K ZX "go_on" "Plain.go_on" j1)
  (d16:eU K "elders_of" mP)
  (d17:eU K "is_under" qA)
  (l18:gB K ZY "goes" "Plain.goes" kY)
  (l19:gB K ZZ "do_going" "Plain.do_going" gL)
  (l20:gB K f20 "as_begun" "Plain.as_begun" gM)
  (l21:gB K f21 "as_begun" "Watched.as_begun" fe)
  (d22:eU K "fields_of" mQ)
  (l23:gB K f23 "new_record" "Plain.new_record" fh)
  (l24:gB K f24 "new_record" "Watched.new_record" dG)
  (l25:gB K f25 "tagged" "Plain.tagged" jj)
  (l26:gB K f26 "tagged" "Watched.tagged" gO)
  (d27:eU K "replaced" qB)
  (l28:gB K f28 "with_field" "Plain.with_field" fi)
  (l29:gB K f29 "with_field" "Watched.with_field" dH)
  (l30:gB K Z0 "do_of_records" "Plain.do_of_records" dm)
  (d31:eU K "wrapped" uh)
  (d32:eU K "divided" ui)
  (d33:eU K "reckoned" qC)
  (d34:eU K "taken" AK)
  (l35:gB K Z1 "do_reckoning" "Plain.do_reckoning" dI)
  (l36:gB K Z2 "do_straight" "Plain.do_straight" eG)
  (l37:gB K Z3 "do_row" "Plain.do_row" jk)
  (l38:gB K f38 "looked" "Plain.looked" jl)
  (d39:eU K "full_mask" mR)
  (d40:eU K "asked_of_records" fj)
  (d41:eU K "asked" AL)
  (d42:eU K "record_has_kind" fV)
  (d43:eU K "has_kind" qD)
  (d44:eU K "leaves" xr)
  (l45:gB K f45 "looked" "Watched.looked" gP)
  (l46:gB K Z4 "step" "Plain.step" kZ)
  (l47:gB K Z5 "told" "Plain.told" lh)
  (d48:eU K "finished" qE)
  (d49:eU K "is_door" uj)
  (d50:eU K "check_door" lj)
  (d51:eU K "copied" xt)
  (l52:gB K f52 "__init__" "Frame.__init__" gQ)
  (d53:eU K "started" uk)
  (l54:gB K f54 "nothing" "Plain.nothing" iL)
  (l55:gB K f55 "nothing" "Watched.nothing" fW)
  (l56:gB K Z6 "add_frame" "Plain.add_frame" fX)
  (l57:gB K Z7 "__init__" "Plain.__init__" gU)
  (d58:eU K "run" Lc)
  (d59:eU K "run_watched" j2)
  (a60:PySem.W.nsIn K mainGlobals "law"=some (some (.ref Z8))) (l60:K.lookup Z8=some ⟨aab,Z9,.func (PySem.W.fnOf "law" "law" (dA su) (dB su) (dS su) .none WV WW WX WU Uk WY),aaa⟩) (c60:PySem.W.codeIn K Uk "law"=true) (k60:PySem.W.keepIn K (.ref Z8)=true)
  (uC:PySem.W.nsIn K mainGlobals "HALF"=some (some (.int 2147483648 Bj)))
  (xU:PySem.W.nsIn K mainGlobals "TURN"=some (some (.int 4294967296 Bl)))
  (tE:IsT K "bool" (uX "bool"))
  (tF:IsT K "list" (uX "list"))
  (m9:IsT K "tuple" (uX "tuple"))
  (kC:PySem.W.nsIn K mainGlobals "ALWAYS"=some (some (.ref cG)))
  (lT:(cG == sysModules)=false)
  (lU:K.lookup cG=some {cls:=.type "dict",data:=.dict #[{hash:=PyData.keyHash w.params "push",key:=.str "push" ya,val:=.ref rf},{hash:=PyData.keyHash w.params "load",key:=.str "load" yb,val:=.ref rh},{hash:=PyData.keyHash w.params "store",key:=.str "store" yc,val:=.ref nc},{hash:=PyData.keyHash w.params "dup",key:=.str "dup" vh,val:=.ref nh},{hash:=PyData.keyHash w.params "swap",key:=.str "swap" vk,val:=.ref nk},{hash:=PyData.keyHash w.params "drop",key:=.str "drop" vp,val:=.ref nv},{hash:=PyData.keyHash w.params "add",key:=.str "add" vv,val:=.ref nA},{hash:=PyData.keyHash w.params "sub",key:=.str "sub" vy,val:=.ref nE},{hash:=PyData.keyHash w.params "mul",key:=.str "mul" vB,val:=.ref nI},{hash:=PyData.keyHash w.params "div",key:=.str "div" vE,val:=.ref nM},{hash:=PyData.keyHash w.params "rem",key:=.str "rem" vH,val:=.ref nQ},{hash:=PyData.keyHash w.params "less",key:=.str "less" vK,val:=.ref nU},{hash:=PyData.keyHash w.params "same",key:=.str "same" vN,val:=.ref nX},{hash:=PyData.keyHash w.params "jump",key:=.str "jump" vQ,val:=.ref nY},{hash:=PyData.keyHash w.params "zero",key:=.str "zero" tG,val:=.ref lK},{hash:=PyData.keyHash w.params "kin",key:=.str "kin" tI,val:=.ref lM},{hash:=PyData.keyHash w.params "make",key:=.str "make" tL,val:=.ref lN},{hash:=PyData.keyHash w.params "toss",key:=.str "toss" tM,val:=.ref lP},{hash:=PyData.keyHash w.params "say",key:=.str "say" tO,val:=.ref lR}] HJ})
  (lV:K.lookup lR=some {cls:=.type "tuple",data:=.seq #[.ref lQ] 0})
  (lW:K.lookup lQ=some {cls:=.type "tuple",data:=.seq #[.str "number" tP] 0})
  (lX:K.lookup lP=some {cls:=.type "tuple",data:=.seq #[.ref lO] 0})
  (lZ:K.lookup lO=some {cls:=.type "tuple",data:=.seq #[.str "number" tN] 0})
  (md:K.lookup lN=some {cls:=.type "tuple",data:=.seq #[] 0})
  (me:K.lookup lM=some {cls:=.type "tuple",data:=.seq #[.ref lL] 0})
  (mf:K.lookup lL=some {cls:=.type "tuple",data:=.seq #[.str "whole" tJ,.int 0 tK] 0})
  (mh:K.lookup lK=some {cls:=.type "tuple",data:=.seq #[.ref lJ] 0})
  (mi:K.lookup lJ=some {cls:=.type "tuple",data:=.seq #[.str "number" tH] 0})
  (oh:K.lookup nY=some {cls:=.type "tuple",data:=.seq #[] 0})
  (oi:K.lookup nX=some {cls:=.type "tuple",data:=.seq #[.ref nV,.ref nW] 0})
  (om:K.lookup nW=some {cls:=.type "tuple",data:=.seq #[.str "number" vP] 0})
  (oo:K.lookup nV=some {cls:=.type "tuple",data:=.seq #[.str "number" vO] 0})
  (oq:K.lookup nU=some {cls:=.type "tuple",data:=.seq #[.ref nR,.ref nS] 0})
  (ou:K.lookup nS=some {cls:=.type "tuple",data:=.seq #[.str "number" vM] 0})
  (ow:K.lookup nR=some {cls:=.type "tuple",data:=.seq #[.str "number" vL] 0})
  (ox:K.lookup nQ=some {cls:=.type "tuple",data:=.seq #[.ref nO,.ref nP] 0})
  (oy:K.lookup nP=some {cls:=.type "tuple",data:=.seq #[.str "number" vJ] 0})
  (oz:K.lookup nO=some {cls:=.type "tuple",data:=.seq #[.str "number" vI] 0})
  (oA:K.lookup nM=some {cls:=.type "tuple",data:=.seq #[.ref nJ,.ref nK] 0})
  (oB:K.lookup nK=some {cls:=.type "tuple",data:=.seq #[.str "number" vG] 0})
  (oC:K.lookup nJ=some {cls:=.type "tuple",data:=.seq #[.str "number" vF] 0})
  (oE:K.lookup nI=some {cls:=.type "tuple",data:=.seq #[.ref nF,.ref nH] 0})
  (oF:K.lookup nH=some {cls:=.type "tuple",data:=.seq #[.str "number" vD] 0})
  (oG:K.lookup nF=some {cls:=.type "tuple",data:=.seq #[.str "number" vC] 0})
  (oH:K.lookup nE=some {cls:=.type "tuple",data:=.seq #[.ref nB,.ref nC] 0})
  (oJ:K.lookup nC=some {cls:=.type "tuple",data:=.seq #[.str "number" vA] 0})
  (oK:K.lookup nB=some {cls:=.type "tuple",data:=.seq #[.str "number" vz] 0})
  (oM:K.lookup nA=some {cls:=.type "tuple",data:=.seq #[.ref ny,.ref nz] 0})
  (oN:K.lookup nz=some {cls:=.type "tuple",data:=.seq #[.str "number" vx] 0})
  (oO:K.lookup ny=some {cls:=.type "tuple",data:=.seq #[.str "number" vw] 0})
  (oP:K.lookup nv=some {cls:=.type "tuple",data:=.seq #[.ref nq] 0})
  (oQ:K.lookup nq=some {cls:=.type "tuple",data:=.seq #[.str "any" vq] 0})
  (oR:K.lookup nk=some {cls:=.type "tuple",data:=.seq #[.ref ni,.ref nj] 0})
  (oS:K.lookup nj=some {cls:=.type "tuple",data:=.seq #[.str "any" vn] 0})
  (oT:K.lookup ni=some {cls:=.type "tuple",data:=.seq #[.str "any" vm] 0})
  (oU:K.lookup nh=some {cls:=.type "tuple",data:=.seq #[.ref ng] 0})
  (oV:K.lookup ng=some {cls:=.type "tuple",data:=.seq #[.str "any" vj] 0})
  (oW:K.lookup nc=some {cls:=.type "tuple",data:=.seq #[.ref rj] 0})
  (oX:K.lookup rj=some {cls:=.type "tuple",data:=.seq #[.str "any" yd] 0})
  (rC:K.lookup rh=some {cls:=.type "tuple",data:=.seq #[] 0})
  (rD:K.lookup rf=some {cls:=.type "tuple",data:=.seq #[] 0})
  (sZ:PySem.W.nsIn K mainGlobals "GOING"=some (some (.ref uH)))
  (kD:K.lookup uH=some {cls:=.type "tuple",data:=.seq #[.str "jump" zC,.str "zero" zD,.str "kin" zE] 0})
  (xX:PySem.W.nsIn K mainGlobals "LEFT"=some (some (.ref lI)))
  (uI:(lI == sysModules)=false)
  (uJ:K.lookup lI=some {cls:=.type "dict",data:=.dict #[{hash:=PyData.keyHash w.params "store",key:=.str "store" CT,val:=.int 0 CU},{hash:=PyData.keyHash w.params "dup",key:=.str "dup" CV,val:=.int 2 CW},{hash:=PyData.keyHash w.params "swap",key:=.str "swap" CY,val:=.int 2 CZ},{hash:=PyData.keyHash w.params "drop",key:=.str "drop" C0,val:=.int 0 C1},{hash:=PyData.keyHash w.params "jump",key:=.str "jump" C2,val:=.int 0 zF},{hash:=PyData.keyHash w.params "zero",key:=.str "zero" zG,val:=.int 0 zH},{hash:=PyData.keyHash w.params "put",key:=.str "put" zI,val:=.int 0 zJ},{hash:=PyData.keyHash w.params "toss",key:=.str "toss" zK,val:=.int 0 zL},{hash:=PyData.keyHash w.params "say",key:=.str "say" zM,val:=.int 0 zN},{hash:=PyData.keyHash w.params "give",key:=.str "give" zO,val:=.int 0 zP}] PR})
  (gp:PySem.W.nsIn K mainGlobals "OF_RECORDS"=some (some (.ref jx)))
  (dU:K.lookup jx=some {cls:=.type "tuple",data:=.seq #[.str "make" nZ,.str "fill" n6,.str "begin" n8,.str "get" n9,.str "put" oa] 0})
  (iG:PySem.W.nsIn K mainGlobals "RECKONING"=some (some (.ref j7)))
  (eV:K.lookup j7=some {cls:=.type "tuple",data:=.seq #[.str "add" qh,.str "sub" qi,.str "mul" qj,.str "div" qk,.str "rem" ql,.str "less" qo,.str "same" qp] 0})
  (CQ:PySem.W.nsIn K mainGlobals "all"=some none)
  (x9:PySem.W.nsIn K mainGlobals "bool"=some none)
  (cY:PySem.W.nsIn K mainGlobals "isinstance"=some none)
  (bX:PySem.W.nsIn K mainGlobals "len"=some none)
  (cq:PySem.W.nsIn K mainGlobals "list"=some none)
  (Ct:PySem.W.nsIn K mainGlobals "max"=some none)
  (Cu:PySem.W.nsIn K mainGlobals "min"=some none)
  (ja:PySem.W.nsIn K mainGlobals "range"=some none)
  (tD:PySem.W.nsIn K mainGlobals "tuple"=some none)
  (CO:PySem.W.nsIn K mainGlobals "zip"=some none)
  : ∃fd:FuncData,(∀(s:Shared) (v:Value),BindsTo s fd ⟨[v],[]⟩ [("_law_script",v)])/\∀base:Heap,K.In base->base.Ns mainGlobals mg->bp l.prog w K mg base aM 10 fa fd ["_law_script"] (A8 K):=by
 have e:=hfa.symm.trans (aag X G a60);cases e;obtain⟨f0,fd0,a0,F0⟩:=d0;have k0:=F0.kp;have b0:=F0.binds (ps:=["_law_rows","_law_elders"]) λ_ _ _ _ _ _=>ln2 (λ_ _=>by rfl)
 obtain⟨f1,fd1,a1,F1⟩:=d1;have k1:=F1.kp;have b1:=F1.binds (ps:=["_law_script","_law_k"]) λ_ _ _ _ _ _=>ln2 (λ_ _=>by rfl)
 obtain⟨f2,fd2,a2,F2⟩:=d2;have k2:=F2.kp;have b2:=F2.binds (ps:=["_law_cell_here"]) λ_ _ _ _ _ _=>Hj (λ_=>by rfl)
 obtain⟨f3,fd3,a3,F3⟩:=d3;have k3:=F3.kp;have b3:=F3.binds (ps:=["_law_cell_here","_law_other","_law_many"]) λ_ _ _ _ _ _=>wd (λ_ _ _=>by rfl)
 obtain⟨f4,fd4,a4,F4⟩:=d4;have k4:=F4.kp;have b4:=F4.binds (ps:=["_law_script","_law_at"]) λ_ _ _ _ _ _=>ln2 (λ_ _=>by rfl)
 obtain⟨f5,fd5,a5,F5⟩:=d5;have k5:=F5.kp;have b5:=F5.binds (ps:=["_law_script","_law_at"]) λ_ _ _ _ _ _=>ln2 (λ_ _=>by rfl)
 obtain⟨f6,fd6,a6,F6⟩:=d6;have k6:=F6.kp;have b6:=F6.binds (ps:=["_law_number"]) λ_ _ _ _ _ _=>Hj (λ_=>by rfl)
 obtain⟨f7,fd7,a7,F7⟩:=d7;have k7:=F7.kp;have b7:=F7.binds (ps:=["_law_sign","_law_one","_law_other"]) λ_ _ _ _ _ _=>wd (λ_ _ _=>by rfl)
 obtain⟨f8,fd8,a8,F8⟩:=d8;have k8:=F8.kp;have b8:=F8.binds (ps:=["_law_row","_law_stack","_law_boxes","_law_said"]) λ_ _ _ _ _ _=>Nw (λ_ _ _ _=>by rfl)
 obtain⟨f9,fd9,a9,F9⟩:=d9;have k9:=F9.kp;have b9:=F9.binds (ps:=["_law_elders","_law_c","_law_other"]) λ_ _ _ _ _ _=>wd (λ_ _ _=>by rfl)
 obtain⟨f10,afP,a10,F10⟩:=d10;have ZQ:=F10.kp;have b10:=F10.binds (ps:=["_law_rows","_law_elders","_law_inputs","_law_budget"]) λ_ _ _ _ _ _=>Nw (λ_ _ _ _=>by rfl)
 obtain⟨⟨afS,F11⟩,YV⟩:=l11;have k11:=F11.kp;have b11:=F11.binds (ps:=["self","value"]) λ_ _ _ _ _ _=>ln2 (λ_ _=>by rfl)
 obtain⟨⟨afV,F12⟩,q12⟩:=l12;have k12:=F12.kp;have b12:=F12.binds (ps:=["self","value"]) λ_ _ _ _ _ _=>ln2 (λ_ _=>by rfl)
 obtain⟨⟨afZ,X9⟩,q13⟩:=l13;have k13:=X9.kp;have b13:=X9.binds (ps:=["self","frame"]) λ_ _ _ _ _ _=>ln2 (λ_ _=>by rfl)
 obtain⟨⟨af0,Yb⟩,q14⟩:=l14;have k14:=Yb.kp;have b14:=Yb.binds (ps:=["self"]) λ_ _ _ _ _ _=>Hj (λ_=>by rfl)
 obtain⟨⟨af1,Yc⟩,q15⟩:=l15;have k15:=Yc.kp;have b15:=Yc.binds (ps:=["self","frame","at"]) λ_ _ _ _ _ _=>wd (λ_ _ _=>by rfl)
 obtain⟨f16,af2,a16,F16⟩:=d16;have k16:=F16.kp;have b16:=F16.binds (ps:=["makes","c"]) λ_ _ _ _ _ _=>ln2 (λ_ _=>by rfl)
 obtain⟨f17,af6,a17,F17⟩:=d17;have k17:=F17.kp;have b17:=F17.binds (ps:=["makes","c","other"]) λ_ _ _ _ _ _=>wd (λ_ _ _=>by rfl)
 obtain⟨⟨aga,Yd⟩,q18⟩:=l18;have k18:=Yd.kp;have b18:=Yd.binds (ps:=["self","stack","row"]) λ_ _ _ _ _ _=>wd (λ_ _ _=>by rfl)
 obtain⟨⟨agb,Ye⟩,q19⟩:=l19;have k19:=Ye.kp;have b19:=Ye.binds (ps:=["self","frame","row"]) λ_ _ _ _ _ _=>wd (λ_ _ _=>by rfl)
 obtain⟨⟨agc,F20⟩,q20⟩:=l20;have k20:=F20.kp;have b20:=F20.binds (ps:=["self","record"]) λ_ _ _ _ _ _=>ln2 (λ_ _=>by rfl)
 obtain⟨⟨agg,F21⟩,q21⟩:=l21;have k21:=F21.kp;have b21:=F21.binds (ps:=["self","record"]) λ_ _ _ _ _ _=>ln2 (λ_ _=>by rfl)
 obtain⟨f22,agk,a22,F22⟩:=d22;have k22:=F22.kp;have b22:=F22.binds (ps:=["makes","c"]) λ_ _ _ _ _ _=>ln2 (λ_ _=>by rfl)
 obtain⟨⟨ago,F23⟩,q23⟩:=l23;have k23:=F23.kp;have b23:=F23.binds (ps:=["self","c"]) λ_ _ _ _ _ _=>ln2 (λ_ _=>by rfl)
 obtain⟨⟨ags,F24⟩,q24⟩:=l24;have k24:=F24.kp;have b24:=F24.binds (ps:=["self","c"]) λ_ _ _ _ _ _=>ln2 (λ_ _=>by rfl)
 obtain⟨⟨agw,F25⟩,q25⟩:=l25;have k25:=F25.kp;have b25:=F25.binds (ps:=["self","tag","number"]) λ_ _ _ _ _ _=>wd (λ_ _ _=>by rfl)
 obtain⟨⟨agA,F26⟩,q26⟩:=l26;have k26:=F26.kp;have b26:=F26.binds (ps:=["self","tag","number"]) λ_ _ _ _ _ _=>wd (λ_ _ _=>by rfl)
 obtain⟨f27,agE,a27,F27⟩:=d27;have k27:=F27.kp;have b27:=F27.binds (ps:=["some","spot","thing"]) λ_ _ _ _ _ _=>wd (λ_ _ _=>by rfl)
 obtain⟨⟨agI,F28⟩,q28⟩:=l28;have k28:=F28.kp;have b28:=F28.binds (ps:=["self","record","f","value"]) λ_ _ _ _ _ _=>Nw (λ_ _ _ _=>by rfl)
 obtain⟨⟨agM,F29⟩,q29⟩:=l29;have k29:=F29.kp;have b29:=F29.binds (ps:=["self","record","f","value"]) λ_ _ _ _ _ _=>Nw (λ_ _ _ _=>by rfl)
 obtain⟨⟨agQ,Yg⟩,q30⟩:=l30;have k30:=Yg.kp;have b30:=Yg.binds (ps:=["self","stack","row"]) λ_ _ _ _ _ _=>wd (λ_ _ _=>by rfl)
 obtain⟨f31,agR,a31,F31⟩:=d31;have k31:=F31.kp;have b31:=F31.binds (ps:=["number"]) λ_ _ _ _ _ _=>Hj (λ_=>by rfl)
 obtain⟨f32,agV,a32,F32⟩:=d32;have k32:=F32.kp;have b32:=F32.binds (ps:=["sign","one","other"]) λ_ _ _ _ _ _=>wd (λ_ _ _=>by rfl)
 obtain⟨f33,agZ,a33,F33⟩:=d33;have k33:=F33.kp;have b33:=F33.binds (ps:=["sign","one","other"]) λ_ _ _ _ _ _=>wd (λ_ _ _=>by rfl)
 obtain⟨f34,ag3,a34,F34⟩:=d34;have k34:=F34.kp;have b34:=F34.binds (ps:=["stack","many"]) λ_ _ _ _ _ _=>ln2 (λ_ _=>by rfl)
 obtain⟨⟨ag7,Yh⟩,q35⟩:=l35;have k35:=Yh.kp;have b35:=Yh.binds (ps:=["self","frame","sign"]) λ_ _ _ _ _ _=>wd (λ_ _ _=>by rfl)
 obtain⟨⟨ag8,Yi⟩,q36⟩:=l36;have k36:=Yi.kp;have b36:=Yi.binds (ps:=["self","frame","row"]) λ_ _ _ _ _ _=>wd (λ_ _ _=>by rfl)
 obtain⟨⟨ag9,Yj⟩,q37⟩:=l37;have k37:=Yj.kp;have b37:=Yj.binds (ps:=["self","frame","row"]) λ_ _ _ _ _ _=>wd (λ_ _ _=>by rfl)
 obtain⟨⟨aha,F38⟩,q38⟩:=l38;have k38:=F38.kp;have b38:=F38.binds (ps:=["self","frame","row"]) λ_ _ _ _ _ _=>wd (λ_ _ _=>by rfl)
 obtain⟨f39,ahe,a39,F39⟩:=d39;have k39:=F39.kp;have b39:=F39.binds (ps:=["makes","c"]) λ_ _ _ _ _ _=>ln2 (λ_ _=>by rfl)
 obtain⟨f40,ahi,a40,F40⟩:=d40;have k40:=F40.kp;have b40:=F40.binds (ps:=["makes","row"]) λ_ _ _ _ _ _=>ln2 (λ_ _=>by rfl)
 obtain⟨f41,ahm,a41,F41⟩:=d41;have k41:=F41.kp;have b41:=F41.binds (ps:=["book","part","row"]) λ_ _ _ _ _ _=>wd (λ_ _ _=>by rfl)
 obtain⟨f42,ahq,a42,F42⟩:=d42;have k42:=F42.kp;have b42:=F42.binds (ps:=["makes","record","kind"]) λ_ _ _ _ _ _=>wd (λ_ _ _=>by rfl)
 obtain⟨f43,ahu,a43,F43⟩:=d43;have k43:=F43.kp;have b43:=F43.binds (ps:=["makes","heap","value","kind"]) λ_ _ _ _ _ _=>Nw (λ_ _ _ _=>by rfl)
 obtain⟨f44,ahy,a44,F44⟩:=d44;have k44:=F44.kp;have b44:=F44.binds (ps:=["row"]) λ_ _ _ _ _ _=>Hj (λ_=>by rfl)
 obtain⟨⟨ahC,F45⟩,q45⟩:=l45;have k45:=F45.kp;have b45:=F45.binds (ps:=["self","frame","row"]) λ_ _ _ _ _ _=>wd (λ_ _ _=>by rfl)
 obtain⟨⟨ahG,Yk⟩,q46⟩:=l46;have k46:=Yk.kp;have b46:=Yk.binds (ps:=["self"]) λ_ _ _ _ _ _=>Hj (λ_=>by rfl)
 obtain⟨⟨ahH,Yl⟩,q47⟩:=l47;have k47:=Yl.kp;have b47:=Yl.binds (ps:=["self"]) λ_ _ _ _ _ _=>Hj (λ_=>by rfl)
 obtain⟨f48,ahI,a48,Ym⟩:=d48;have k48:=Ym.kp;have b48:=Ym.binds (ps:=["machine"]) λ_ _ _ _ _ _=>Hj (λ_=>by rfl)
 obtain⟨f49,ahJ,a49,F49⟩:=d49;have k49:=F49.kp;have b49:=F49.binds (ps:=["takes","gives"]) λ_ _ _ _ _ _=>ln2 (λ_ _=>by rfl)
 obtain⟨f50,ahN,a50,F50⟩:=d50;have k50:=F50.kp;have b50:=F50.binds (ps:=["parts","part","inputs"]) λ_ _ _ _ _ _=>wd (λ_ _ _=>by rfl)
 obtain⟨f51,ahR,a51,F51⟩:=d51;have k51:=F51.kp;have b51:=F51.binds (ps:=["book"]) λ_ _ _ _ _ _=>Hj (λ_=>by rfl)
 obtain⟨⟨ahV,F52⟩,q52⟩:=l52;have k52:=F52.kp;have b52:=F52.binds (ps:=["self","part","boxes"]) λ_ _ _ _ _ _=>wd (λ_ _ _=>by rfl)
 obtain⟨f53,ahY,a53,F53⟩:=d53;have k53:=F53.kp;have b53:=F53.binds (ps:=["parts","part","values","nothing"]) λ_ _ _ _ _ _=>Nw (λ_ _ _ _=>by rfl)
 obtain⟨⟨ah2,F54⟩,q54⟩:=l54;have k54:=F54.kp;have b54:=F54.binds (ps:=["self"]) λ_ _ _ _ _ _=>Hj (λ_=>by rfl)
 obtain⟨⟨ah6,F55⟩,q55⟩:=l55;have k55:=F55.kp;have b55:=F55.binds (ps:=["self"]) λ_ _ _ _ _ _=>Hj (λ_=>by rfl)
 obtain⟨⟨aia,Yn⟩,q56⟩:=l56;have k56:=Yn.kp;have b56:=Yn.binds (ps:=["self","part","values"]) λ_ _ _ _ _ _=>wd (λ_ _ _=>by rfl)
 obtain⟨⟨aib,Yo⟩,q57⟩:=l57;have k57:=Yo.kp;have b57:=Yo.binds (ps:=["self","book","part","inputs","budget"]) λ_ _ _ _ _ _=>ln5 (λ_ _ _ _ _=>by rfl)
 obtain⟨f58,aic,a58,F58⟩:=d58;have k58:=F58.kp;have b58:=F58.binds (ps:=["book","part","inputs","budget"]) λ_ _ _ _ _ _=>Nw (λ_ _ _ _=>by rfl)
 obtain⟨f59,aih,a59,F59⟩:=d59;have k59:=F59.kp;have b59:=F59.binds (ps:=["book","part","inputs","budget"]) λ_ _ _ _ _ _=>Nw (λ_ _ _ _=>by rfl)
 have F60:=Ea (st:=su) l60 c60 k60;have WZ:=aaS X G CQ;have y_bool:=aaS X G x9;have Bs:=aaS X G cY;have jW:=aaS X G bX;have oY:=aaS X G cq;have W0:=aaS X G Ct;have W2:=aaS X G Cu;have Bt:=aaS X G ja;have PU:=aaS X G tD;have W3:=aaS X G CO;have Ul:=aag X G uC;have Um:=aag X G xU;have LL:=aag X G kC;have GL:=aag X G sZ;have Uo:=aag X G xX;have tQ:=aag X G gp;have vR:=aag X G iG;have PV:=aag X G ye;have ah:Mine.ah K ab:=⟨⟨yf,yg,yh,yi⟩,j8,og,jy,jz⟩;have PX:=aag X G ym;have au:Mine.au K ar:=⟨⟨yn,yo,yp,yq⟩,j9,kb,g8,kc,ke,lS⟩;have HK:=aag X G rm;have ay:Mine.au K ak:=⟨⟨rn,rp,rq,rz⟩,iQ,iR,fz,iS,iT,jC⟩;have LM:Nt K w cG bw:=Kg (ent:=[("push",ya,.ref rf),("load",yb,.ref rh),("store",yc,.ref nc),("dup",vh,.ref nh),("swap",vk,.ref nk),("drop",vp,.ref nv),("add",vv,.ref nA),("sub",vy,.ref nE),("mul",vB,.ref nI),("div",vE,.ref nM),("rem",vH,.ref nQ),("less",vK,.ref nU),("same",vN,.ref nX),("jump",vQ,.ref nY),("zero",tG,.ref lK),("kin",tI,.ref lM),("make",tL,.ref lN),("toss",tM,.ref lP),("say",tO,.ref lR)]) lT lU (show(["push","load","store","dup","swap","drop","add","sub","mul","div","rem","less","same","jump","zero","kin","make","toss","say"]:List Str).Nodup by decide +kernel) (.cons ⟨rfl,(aJ (its:=[]) rD (show 0<=sizeLine by decide) .nil)⟩ (.cons ⟨rfl,(aJ (its:=[]) rC (show 0<=sizeLine by decide) .nil)⟩ (.cons ⟨rfl,(aJ (its:=[.ref rj]) oW (show 1<=sizeLine by decide) (.cons (aJ (its:=[.str "any" yd]) oX (show 1<=sizeLine by decide) (.cons aR .nil)) .nil))⟩ (.cons ⟨rfl,(aJ (its:=[.ref ng]) oU (show 1<=sizeLine by decide) (.cons (aJ (its:=[.str "any" vj]) oV (show 1<=sizeLine by decide) (.cons aR .nil)) .nil))⟩ (.cons ⟨rfl,(aJ (its:=[.ref ni,.ref nj]) oR (show 2<=sizeLine by decide) (.cons (aJ (its:=[.str "any" vm]) oT (show 1<=sizeLine by decide) (.cons aR .nil)) (.cons (aJ (its:=[.str "any" vn]) oS (show 1<=sizeLine by decide) (.cons aR .nil)) .nil)))⟩ (.cons ⟨rfl,(aJ (its:=[.ref nq]) oP (show 1<=sizeLine by decide) (.cons (aJ (its:=[.str "any" vq]) oQ (show 1<=sizeLine by decide) (.cons aR .nil)) .nil))⟩ (.cons ⟨rfl,(aJ (its:=[.ref ny,.ref nz]) oM (show 2<=sizeLine by decide) (.cons (aJ (its:=[.str "number" vw]) oO (show 1<=sizeLine by decide) (.cons aR .nil)) (.cons (aJ (its:=[.str "number" vx]) oN (show 1<=sizeLine by decide) (.cons aR .nil)) .nil)))⟩ (.cons ⟨rfl,(aJ (its:=[.ref nB,.ref nC]) oH (show 2<=sizeLine by decide) (.cons (aJ (its:=[.str "number" vz]) oK (show 1<=sizeLine by decide) (.cons aR .nil)) (.cons (aJ (its:=[.str "number" vA]) oJ (show 1<=sizeLine by decide) (.cons aR .nil)) .nil)))⟩ (.cons ⟨rfl,(aJ (its:=[.ref nF,.ref nH]) oE (show 2<=sizeLine by decide) (.cons (aJ (its:=[.str "number" vC]) oG (show 1<=sizeLine by decide) (.cons aR .nil)) (.cons (aJ (its:=[.str "number" vD]) oF (show 1<=sizeLine by decide) (.cons aR .nil)) .nil)))⟩ (.cons ⟨rfl,(aJ (its:=[.ref nJ,.ref nK]) oA (show 2<=sizeLine by decide) (.cons (aJ (its:=[.str "number" vF]) oC (show 1<=sizeLine by decide) (.cons aR .nil)) (.cons (aJ (its:=[.str "number" vG]) oB (show 1<=sizeLine by decide) (.cons aR .nil)) .nil)))⟩ (.cons ⟨rfl,(aJ (its:=[.ref nO,.ref nP]) ox (show 2<=sizeLine by decide) (.cons (aJ (its:=[.str "number" vI]) oz (show 1<=sizeLine by decide) (.cons aR .nil)) (.cons (aJ (its:=[.str "number" vJ]) oy (show 1<=sizeLine by decide) (.cons aR .nil)) .nil)))⟩ (.cons ⟨rfl,(aJ (its:=[.ref nR,.ref nS]) oq (show 2<=sizeLine by decide) (.cons (aJ (its:=[.str "number" vL]) ow (show 1<=sizeLine by decide) (.cons aR .nil)) (.cons (aJ (its:=[.str "number" vM]) ou (show 1<=sizeLine by decide) (.cons aR .nil)) .nil)))⟩ (.cons ⟨rfl,(aJ (its:=[.ref nV,.ref nW]) oi (show 2<=sizeLine by decide) (.cons (aJ (its:=[.str "number" vO]) oo (show 1<=sizeLine by decide) (.cons aR .nil)) (.cons (aJ (its:=[.str "number" vP]) om (show 1<=sizeLine by decide) (.cons aR .nil)) .nil)))⟩ (.cons ⟨rfl,(aJ (its:=[]) oh (show 0<=sizeLine by decide) .nil)⟩ (.cons ⟨rfl,(aJ (its:=[.ref lJ]) mh (show 1<=sizeLine by decide) (.cons (aJ (its:=[.str "number" tH]) mi (show 1<=sizeLine by decide) (.cons aR .nil)) .nil))⟩ (.cons ⟨rfl,(aJ (its:=[.ref lL]) me (show 1<=sizeLine by decide) (.cons (aJ (its:=[.str "whole" tJ,.int 0 tK]) mf (show 2<=sizeLine by decide) (.cons aR (.cons fP .nil))) .nil))⟩ (.cons ⟨rfl,(aJ (its:=[]) md (show 0<=sizeLine by decide) .nil)⟩ (.cons ⟨rfl,(aJ (its:=[.ref lO]) lX (show 1<=sizeLine by decide) (.cons (aJ (its:=[.str "number" tN]) lZ (show 1<=sizeLine by decide) (.cons aR .nil)) .nil))⟩ (.cons ⟨rfl,(aJ (its:=[.ref lQ]) lV (show 1<=sizeLine by decide) (.cons (aJ (its:=[.str "number" tP]) lW (show 1<=sizeLine by decide) (.cons aR .nil)) .nil))⟩ .nil)))))))))))))))))));have GN:∀H:Hp,aZ K H (.ref uH) B8:=Af (aJ (its:=[.str "jump" zC,.str "zero" zD,.str "kin" zE]) kD (show 3<=sizeLine by decide) (.cons aR (.cons aR (.cons aR .nil))));have Up:Nt K w lI pq:=Kg (ent:=[("store",CT,.int 0 CU),("dup",CV,.int 2 CW),("swap",CY,.int 2 CZ),("drop",C0,.int 0 C1),("jump",C2,.int 0 zF),("zero",zG,.int 0 zH),("put",zI,.int 0 zJ),("toss",zK,.int 0 zL),("say",zM,.int 0 zN),("give",zO,.int 0 zP)]) uI uJ (show(["store","dup","swap","drop","jump","zero","put","toss","say","give"]:List Str).Nodup by decide +kernel) (.cons ⟨rfl,fP⟩ (.cons ⟨rfl,fP⟩ (.cons ⟨rfl,fP⟩ (.cons ⟨rfl,fP⟩ (.cons ⟨rfl,fP⟩ (.cons ⟨rfl,fP⟩ (.cons ⟨rfl,fP⟩ (.cons ⟨rfl,fP⟩ (.cons ⟨rfl,fP⟩ (.cons ⟨rfl,fP⟩ .nil))))))))));have tS:∀H:Hp,aZ K H (.ref jx) p6:=Af (aJ (its:=[.str "make" nZ,.str "fill" n6,.str "begin" n8,.str "get" n9,.str "put" oa]) dU (show 5<=sizeLine by decide) (.cons aR (.cons aR (.cons aR (.cons aR (.cons aR .nil))))));have vS:∀H:Hp,aZ K H (.ref j7) sv:=Af (aJ (its:=[.str "add" qh,.str "sub" qi,.str "mul" qj,.str "div" qk,.str "rem" ql,.str "less" qo,.str "same" qp]) eV (show 7<=sizeLine by decide) (.cons aR (.cons aR (.cons aR (.cons aR (.cons aR (.cons aR (.cons aR .nil))))))));refine⟨PySem.W.fnOf "law" "law" (dA su) (dB su) (dS su) .none WV WW WX WU Uk WY,λs v=>.of_eq rfl,λbase _ _=>?_⟩;have C3:cT l.prog w K mg base aM "_law_book" 1 ["_law_rows","_law_elders"] (jL K):=⟨_,_,A9 F0 oY ah,b0,k0,aag X G a0⟩;have vT:cT l.prog w K mg base aM "_law_cell" 1 ["_law_script","_law_k"] (iA K):=⟨_,_,Ba F1 jW ah,b1,k1,aag X G a1⟩;have vU:cT l.prog w K mg base aM "_law_word" 1 ["_law_cell_here"] (iB K):=⟨_,_,Bb F2 W0 W2 ah,b2,k2,aag X G a2⟩;have Bu:cT l.prog w K mg base aM "_law_block" 2 ["_law_cell_here","_law_other","_law_many"] (i4 K):=⟨_,_,yP F3 ah vU,b3,k3,aag X G a3⟩;have y2:cT l.prog w K mg base aM "_law_blocks" 3 ["_law_script","_law_at"] (ik K):=⟨_,_,xQ F4 jW Bt ah Bu vT,b4,k4,aag X G a4⟩;have C4:cT l.prog w K mg base aM "_law_code" 4 ["_law_script","_law_at"] (jO K):=⟨_,_,Be F5 jW ah y2,b5,k5,aag X G a5⟩;have yu:cT l.prog w K mg base aM "_law_wrapped" 1 ["_law_number"] (gf K):=⟨_,_,wj F6 ah,b6,k6,aag X G a6⟩;have E9:cT l.prog w K mg base aM "_law_two" 2 ["_law_sign","_law_one","_law_other"] (lB K):=⟨_,_,Cw F7 ah yu,b7,k7,aag X G a7⟩;have C5:cT l.prog w K mg base aM "_law_done" 3 ["_law_row","_law_stack","_law_boxes","_law_said"] (jP K):=⟨_,_,Bf F8 ah E9,b8,k8,aag X G a8⟩;have Bv:cT l.prog w K mg base aM "_law_under" 1 ["_law_elders","_law_c","_law_other"] (i5 K):=⟨_,_,yR F9 ah,b9,k9,aag X G a9⟩;have y3:cT l.prog w K mg base aM "_law_walked" 4 ["_law_rows","_law_elders","_law_inputs","_law_budget"] (ip K):=⟨_,_,xR F10 oY ah C5 Bv,b10,ZQ,aag X G a10⟩;have eW:bH l.prog w K mg base aM ar "bare" 1 ["self","value"] (i6 K false):=⟨⟨_,_,yT F11 (C:=ar) ah au,b11,⟨kf,YV,k11⟩⟩,au.cl⟩;have dc:bH l.prog w K mg base aM ak "bare" 1 ["self","value"] (i6 K true):=⟨⟨_,_,wm F12 (C:=ak) ah ay,b12,⟨iU,q12,k12⟩⟩,ay.cl⟩;have uK:bH l.prog w K mg base aM ar "do_give" 2 ["self","frame"] (lD K ab ar false):=⟨⟨_,_,kz X9 (C:=ar) (wt:=false) jW ah au eW,b13,⟨hJ,q13,k13⟩⟩,au.cl⟩;have rE:bH l.prog w K mg base aM ak "do_give" 2 ["self","frame"] (lD K ab ak true):=⟨⟨_,_,kz X9 (C:=ak) (wt:=true) jW ah ay dc,b13,⟨fA,q13,k13⟩⟩,ay.cl⟩;have yv:bH l.prog w K mg base aM ar "spend" 1 ["self"] (sM K ab ar false):=⟨⟨_,_,m5 Yb (C:=ar) (wt:=false) ah au,b14,⟨jA,q14,k14⟩⟩,au.cl⟩;have uL:bH l.prog w K mg base aM ak "spend" 1 ["self"] (sM K ab ak true):=⟨⟨_,_,m5 Yb (C:=ak) (wt:=true) ah ay,b14,⟨ia,q14,k14⟩⟩,ay.cl⟩;have yw:bH l.prog w K mg base aM ar "go_on" 2 ["self","frame","at"] (sO K ab ar false):=⟨⟨_,_,m6 Yc (C:=ar) (wt:=false) ah au yv,b15,⟨jB,q15,k15⟩⟩,au.cl⟩;have uM:bH l.prog w K mg base aM ak "go_on" 2 ["self","frame","at"] (sO K ab ak true):=⟨⟨_,_,m6 Yc (C:=ak) (wt:=true) ah ay uL,b15,⟨ib,q15,k15⟩⟩,ay.cl⟩;have vV:cT l.prog w K mg base aM "elders_of" 1 ["makes","c"] (i7 K):=⟨_,_,Bh F16 ah,b16,k16,aag X G a16⟩;have rF:cT l.prog w K mg base aM "is_under" 2 ["makes","c","other"] (jQ K):=⟨_,_,CA F17 ah vV,b17,k17,aag X G a17⟩;have y4:bH l.prog w K mg base aM ar "goes" 3 ["self","stack","row"] (wQ K ab ar false):=⟨⟨_,_,qd Yd (C:=ar) (wt:=false) ah au rF eW,b18,⟨kg,q18,k18⟩⟩,au.cl⟩;have wz:bH l.prog w K mg base aM ak "goes" 3 ["self","stack","row"] (wQ K ab ak true):=⟨⟨_,_,qd Yd (C:=ak) (wt:=true) ah ay rF dc,b18,⟨iV,q18,k18⟩⟩,ay.cl⟩;have tT:bH l.prog w K mg base aM ar "do_going" 4 ["self","frame","row"] (jR K ab ar false):=⟨⟨_,_,jT Ye (C:=ar) (wt:=false) ah au yw y4,b19,⟨gu,q19,k19⟩⟩,au.cl⟩;have pT:bH l.prog w K mg base aM ak "do_going" 4 ["self","frame","row"] (jR K ab ak true):=⟨⟨_,_,jT Ye (C:=ak) (wt:=true) ah ay uM wz,b19,⟨eK,q19,k19⟩⟩,ay.cl⟩;have tU:bH l.prog w K mg base aM ar "as_begun" 1 ["self","record"] (iD K false):=⟨⟨_,_,sW F20 (C:=ar) ah au,b20,⟨gw,q20,k20⟩⟩,au.cl⟩;have pU:bH l.prog w K mg base aM ak "as_begun" 1 ["self","record"] (iD K true):=⟨⟨_,_,pM F21 (C:=ak) ah ay,b21,⟨eL,q21,k21⟩⟩,ay.cl⟩;have jX:cT l.prog w K mg base aM "fields_of" 2 ["makes","c"] (eh K):=⟨_,_,Bi F22 oY ah vV,b22,k22,aag X G a22⟩;have pV:bH l.prog w K mg base aM ar "new_record" 3 ["self","c"] (eQ K ab ar false):=⟨⟨_,_,pP F23 (C:=ar) jW ah au jX,b23,⟨eI,q23,k23⟩⟩,au.cl⟩;have mE:bH l.prog w K mg base aM ak "new_record" 3 ["self","c"] (eQ K ab ak true):=⟨⟨_,_,mB F24 (C:=ak) jW ah ay jX,b24,⟨dr,q24,k24⟩⟩,ay.cl⟩;have eZ:bH l.prog w K mg base aM ar "tagged" 1 ["self","tag","number"] (fK K false):=⟨⟨_,_,wq F25 (C:=ar) ah au,b25,⟨iN,q25,k25⟩⟩,au.cl⟩;have dz:bH l.prog w K mg base aM ak "tagged" 1 ["self","tag","number"] (fK K true):=⟨⟨_,_,sY F26 (C:=ak) ah ay,b26,⟨gy,q26,k26⟩⟩,ay.cl⟩;have yx:cT l.prog w K mg base aM "replaced" 1 ["some","spot","thing"] (jS K):=⟨_,_,CC F27 ah,b27,k27,aag X G a27⟩;have pW:bH l.prog w K mg base aM ar "with_field" 2 ["self","record","f","value"] (eR K false):=⟨⟨_,_,pR F28 (C:=ar) ah au yx,b28,⟨eJ,q28,k28⟩⟩,au.cl⟩;have mF:bH l.prog w K mg base aM ak "with_field" 2 ["self","record","f","value"] (eR K true):=⟨⟨_,_,mD F29 (C:=ak) ah ay yx,b29,⟨du,q29,k29⟩⟩,ay.cl⟩;have mj:bH l.prog w K mg base aM ar "do_of_records" 4 ["self","stack","row"] (en K ab ar false):=⟨⟨_,_,gn Yg (C:=ar) (wt:=false) jW ah au tU eW pV eZ pW,b30,⟨cZ,q30,k30⟩⟩,au.cl⟩;have kj:bH l.prog w K mg base aM ak "do_of_records" 4 ["self","stack","row"] (en K ab ak true):=⟨⟨_,_,gn Yg (C:=ak) (wt:=true) jW ah ay pU dc mE dz mF,b30,⟨cK,q30,k30⟩⟩,ay.cl⟩;have zQ:cT l.prog w K mg base aM "wrapped" 1 ["number"] (lE K):=⟨_,_,EN F31 Ul ⟨_,rfl⟩ Um ⟨_,rfl⟩ ah,b31,k31,aag X G a31⟩;have HL:cT l.prog w K mg base aM "divided" 2 ["sign","one","other"] (qQ K):=⟨_,_,ER F32 ah zQ,b32,k32,aag X G a32⟩;have yy:cT l.prog w K mg base aM "reckoned" 3 ["sign","one","other"] (mX K):=⟨_,_,CH F33 ah HL zQ,b33,k33,aag X G a33⟩;have wV:cT l.prog w K mg base aM "taken" 1 ["stack","many"] (sP K):=⟨_,_,LC F34 Bt ah,b34,k34,aag X G a34⟩;have mG:bH l.prog w K mg base aM ar "do_reckoning" 4 ["self","frame","sign"] (eX K ab ar false):=⟨⟨_,_,gE Yh (C:=ar) (wt:=false) ah au yy wV eW eZ,b35,⟨dq,q35,k35⟩⟩,au.cl⟩;have kF:bH l.prog w K mg base aM ak "do_reckoning" 4 ["self","frame","sign"] (eX K ab ak true):=⟨⟨_,_,gE Yh (C:=ak) (wt:=true) ah ay yy wV dc dz,b35,⟨cS,q35,k35⟩⟩,ay.cl⟩;have oZ:bH l.prog w K mg base aM ar "do_straight" 2 ["self","frame","row"] (gh K ab ar false):=⟨⟨_,_,iF Yi (C:=ar) (wt:=false) ah au wV eW eZ,b36,⟨dQ,q36,k36⟩⟩,au.cl⟩;have ml:bH l.prog w K mg base aM ak "do_straight" 2 ["self","frame","row"] (gh K ab ak true):=⟨⟨_,_,iF Yi (C:=ak) (wt:=true) ah ay wV dc dz,b36,⟨c0,q36,k36⟩⟩,ay.cl⟩;have wA:bH l.prog w K mg base aM ar "do_row" 5 ["self","frame","row"] (pD K ab ar false):=⟨⟨_,_,mr Yj (C:=ar) (wt:=false) GL GN ⟨_,kD,rfl,rfl⟩ tQ tS ⟨_,dU,rfl,rfl⟩ vR vS ⟨_,eV,rfl,rfl⟩ ah au uK tT mj mG oZ,b37,⟨iO,q37,k37⟩⟩,au.cl⟩;have tV:bH l.prog w K mg base aM ak "do_row" 5 ["self","frame","row"] (pD K ab ak true):=⟨⟨_,_,mr Yj (C:=ak) (wt:=true) GL GN ⟨_,kD,rfl,rfl⟩ tQ tS ⟨_,dU,rfl,rfl⟩ vR vS ⟨_,eV,rfl,rfl⟩ ah ay rE pT kj kF ml,b37,⟨gz,q37,k37⟩⟩,ay.cl⟩;have wB:bH l.prog w K mg base aM ar "looked" 6 ["self","frame","row"] (ky K ab ar false):=⟨⟨_,_,wy F38 (C:=ar) ah au,b38,⟨iP,q38,k38⟩⟩,au.cl⟩;have C6:cT l.prog w K mg base aM "full_mask" 3 ["makes","c"] (lF K):=⟨_,_,Bp F39 jW ah jX,b39,k39,aag X G a39⟩;have rG:cT l.prog w K mg base aM "asked_of_records" 4 ["makes","row"] (eH K):=⟨_,_,pS F40 ah jX C6,b40,k40,aag X G a40⟩;have PY:cT l.prog w K mg base aM "asked" 5 ["book","part","row"] (xN K):=⟨_,_,LF F41 oY LL LM ah rG,b41,k41,aag X G a41⟩;have tW:cT l.prog w K mg base aM "record_has_kind" 3 ["makes","record","kind"] (fv K):=⟨_,_,qX F42 ah rF,b42,k42,aag X G a42⟩;have Fc:cT l.prog w K mg base aM "has_kind" 4 ["makes","heap","value","kind"] (mY K):=⟨_,_,CN F43 ah tW,b43,k43,aag X G a43⟩;have LN:cT l.prog w K mg base aM "leaves" 1 ["row"] (uA K):=⟨_,_,HB F44 Uo Up ah,b44,k44,aag X G a44⟩;have tX:bH l.prog w K mg base aM ak "looked" 6 ["self","frame","row"] (ky K ab ak true):=⟨⟨_,_,tp F45 (C:=ak) jW W3 ah ay PY Fc LN,b45,⟨gA,q45,k45⟩⟩,ay.cl⟩;have y6:bH l.prog w K mg base aM ar "step" 7 ["self"] (wR K ab ar false):=⟨⟨_,_,qe Yk (C:=ar) (wt:=false) ah au wA wB,b46,⟨kh,q46,k46⟩⟩,au.cl⟩;have wC:bH l.prog w K mg base aM ak "step" 7 ["self"] (wR K ab ak true):=⟨⟨_,_,qe Yk (C:=ak) (wt:=true) ah ay tV tX,b46,⟨iW,q46,k46⟩⟩,ay.cl⟩;have y8:bH l.prog w K mg base aM ar "told" 1 ["self"] (wU K ab ar false):=⟨⟨_,_,qf Yl (C:=ar) (wt:=false) oY ah au,b47,⟨ki,q47,k47⟩⟩,au.cl⟩;have wD:bH l.prog w K mg base aM ak "told" 1 ["self"] (wU K ab ak true):=⟨⟨_,_,qf Yl (C:=ak) (wt:=true) oY ah ay,b47,⟨iX,q47,k47⟩⟩,ay.cl⟩;have tY:cT l.prog w K mg base aM "finished" 8 ["machine"] (iE K ab ar false):=⟨_,_,vf Ym (C:=ar) (wt:=false) ah au y6 y8,b48,k48,aag X G a48⟩;have pX:cT l.prog w K mg base aM "finished" 8 ["machine"] (iE K ab ak true):=⟨_,_,vf Ym (C:=ak) (wt:=true) ah ay wC wD,b48,k48,aag X G a48⟩;have HM:cT l.prog w K mg base aM "is_door" 1 ["takes","gives"] (qR K):=⟨_,_,EW F49 WZ ah,b49,k49,aag X G a49⟩;have tZ:cT l.prog w K mg base aM "check_door" 2 ["parts","part","inputs"] (j5 K):=⟨_,_,yX F50 jW ah HM,b50,k50,aag X G a50⟩;have C7:cT l.prog w K mg base aM "copied" 1 ["book"] (uB K):=⟨_,_,HH F51 oY ah,b51,k51,aag X G a51⟩;have LO:Ef l.prog w K mg base aM ab "Frame" 1 ["self","part","boxes"] (j6 K ab):=⟨⟨_,_,tw F52 ah,b52,⟨yj,gr,q52,yk⟩,PV⟩⟩;have zR:cT l.prog w K mg base aM "started" 3 ["parts","part","values","nothing"] (qS K ab):=⟨_,_,EY F53 jW ah LO,b53,k53,aag X G a53⟩;have uO:bH l.prog w K mg base aM ar "nothing" 1 ["self"] (ju K false):=⟨⟨_,_,uG F54 (C:=ar) ah au,b54,⟨hZ,q54,k54⟩⟩,au.cl⟩;have rH:bH l.prog w K mg base aM ak "nothing" 1 ["self"] (ju K true):=⟨⟨_,_,qZ F55 (C:=ak) ah ay,b55,⟨fB,q55,k55⟩⟩,ay.cl⟩;have rJ:bH l.prog w K mg base aM ar "add_frame" 4 ["self","part","values"] (i8 K ab ar false):=⟨⟨_,_,jw Yn (C:=ar) (wt:=false) ah au zR uO,b56,⟨fw,q56,k56⟩⟩,au.cl⟩;have pb:bH l.prog w K mg base aM ak "add_frame" 4 ["self","part","values"] (i8 K ab ak true):=⟨⟨_,_,jw Yn (C:=ak) (wt:=true) ah ay zR rH,b56,⟨dR,q56,k56⟩⟩,ay.cl⟩;have LP:Ef l.prog w K mg base aM ar "Plain" 5 ["self","book","part","inputs","budget"] (eS K ab ar false):=⟨⟨_,_,jU Yo (C:=ar) (wt:=false) ah au tZ C7 rJ eZ,b57,⟨yr,gx,q57,yt⟩,PX⟩⟩;have Fd:Ef l.prog w K mg base aM ak "Watched" 5 ["self","book","part","inputs","budget"] (eS K ab ak true):=⟨⟨_,_,jU Yo (C:=ak) (wt:=true) ah ay tZ C7 pb dz,b57,⟨rA,eM,q57,rB⟩,HK⟩⟩;have W4:cT l.prog w K mg base aM "run" 9 ["book","part","inputs","budget"] (A7 K):=⟨_,_,Ui F58 ah tY LP,b58,k58,aag X G a58⟩;have y9:cT l.prog w K mg base aM "run_watched" 9 ["book","part","inputs","budget"] (gm K):=⟨_,_,xZ F59 ah pX Fd,b59,k59,aag X G a59⟩;exact Uj (P:=l.prog) (w:=w) (base:=base) F60 y_bool Bs jW oY Bt PU ah C3 vT C4 y3 vU W4 y9 tE tF m9
theorem walk{l:PySem.W.OpenLaw}{q:Program}{loose:List Str}{XP:(Str->Option Value)->Heap->Prop}{YP:World->Heap->Prop}{d:DefRec}{K:Params->ax}(hn:l.most=some 63)(hdf:d.params.defaults=[])
  (hY:∀(w:World) (h:Heap),YP w h->(K w.params).In h)
  (F:∀(w:World) (mg:Str->Option Value) (fa:Addr) (h:Heap),(K w.params).In h->h.Ns mainGlobals mg->mg d.name=some (.ref fa) ->
   ∃fd:FuncData,(∀(s:Shared) (u:Value),BindsTo s fd ⟨[u],[]⟩ [("_law_script",u)])/\∀base:Heap,(K w.params).In base->base.Ns mainGlobals mg->bp l.prog w (K w.params) mg base aM 10 fa fd ["_law_script"] (A8 (K w.params))) :
  PySem.W.WalkO q loose XP YP l.row.toRowW d [] (λf vs=>PySem.call f vs) :=
 L2.Om (n:=63) (k:=10) (x:="_law_script") (CX:=λ_=>aM) (sp:=λw=>A8 (K w.params)) hn (by decide) hdf ⟨rfl,by decide,by decide,rfl⟩ hY F (λ_ _ a ns hl _ hS=>⟨a,ns,rfl,hS,hl,λ_=>rfl⟩) λ_ _ _ _ _ z=>z
end Mine
noncomputable section
namespace MH
open PySem PySem.W L2 Mine
abbrev OF:=Program->Params->Obj
abbrev TF:=Program->Params->BT
abbrev r(a:Nat):Value:=.ref a
abbrev s(x:Str)(t:Tok):Value:=.str x t
abbrev i(n:Int):Value:=.int n 0
abbrev cF:Str:="/claim/cut.py"
def de(P:Params)(x:Str)(t:Tok)(v:Value):DictEntry:=⟨PyData.keyHash P x,.str x t,v⟩
abbrev fn(a b:Str)(e:Stmt)(dV kV doc pm:Value)(an:Option Addr)(cd ct:Value):FuncData:=PySem.W.fnOf a b (dA e) (dB e) (dS e) dV kV doc pm an cd ct
abbrev fx(g u:Nat)(a b:Str)(e:Stmt)(dV kV doc pm:Value)(an:Option Addr)(cd ct:Value):FuncData:=⟨a,b,dA e,.stmts (dB e),dS e,g,[],dV,kV,doc,pm,an,cd,ct,u⟩
abbrev tu(l:List Value):Obj:=⟨.type "tuple",none,.seq l.toArray 0,#[]⟩
abbrev nf(l:List Value):Obj:=⟨.none,none,.fields l.toArray,#[]⟩
abbrev co(l:List Value):Obj:=⟨.type "code",none,.fields l.toArray,#[]⟩
abbrev fm(l:List (Option Value)):Obj:=⟨.type "frame",none,.plain,l.toArray⟩
abbrev di(l:List DictEntry)(n:Nat):Obj:=⟨.type "dict",none,.dict l.toArray n,#[]⟩
abbrev fo(f:FuncData):Obj:=⟨.type "function",none,.func f,#[]⟩
abbrev no(f:FuncData):Obj:=⟨.none,none,.func f,#[]⟩
abbrev bn(o:Obj)(l r:BT):BT:=.node o l r
abbrev bl(o:Obj):BT:=.node o .nil .nil
abbrev aa(o:OF)(l r:TF):TF:=λp P=>.node (o p P) (l p P) (r p P)
abbrev af(o:OF):TF:=λp P=>.node (o p P) .nil .nil
abbrev aw:TF:=λ_ _=>.nil
abbrev f0_(a b:Str)(e:Stmt):FuncData:=fn a b e .none .none .none .none none .none .none
abbrev eB(g u:Nat)(a b:Str)(e:Stmt):FuncData:=fx g u a b e .none .none .none .none none .none .none
abbrev HN:OF:=λ_ P=>boot_o_0 P
abbrev HP:OF:=λ_ P=>boot_o_1 P
abbrev uP:OF:=λ_ P=>boot_o_10 P
abbrev HQ:OF:=λ_ P=>boot_o_2 P
abbrev b3_:OF:=λ_ P=>boot_o_3 P
abbrev HR:OF:=λ_ P=>boot_o_4 P
abbrev HS:OF:=λ_ P=>boot_o_5 P
abbrev HU:OF:=λ_ P=>boot_o_6 P
abbrev HV:OF:=λ_ P=>boot_o_7 P
abbrev HW:OF:=λ_ P=>boot_o_8 P
abbrev HY:OF:=λ_ P=>boot_o_9 P
abbrev pw:Program:=PySem.Challenge.pw_stackwarden_k34_goings_on_and_budget
def pd(p:Program):Env:={scope:=p.main.scope,locals:=mainNs,globals:=mainNs,cells:=[],code:=(.ref 13),frame:=some 14}
def ba(p:Program):Code:=.body (behindTheImports p) (pd p)
abbrev BF:List Frame:=[topFrame ⟨0,0,0,0⟩]
def df(p:Program)(i n:Nat):List Stmt:=((behindTheImports p).drop i).take n
def cI(p:Program):Program:={p with main:={p.main with body:=[tf p 0,tf p 2,tf p 3,tf p 4,tf p 6,tf p 7,tf p 8,tf p 9,tf p 11,tf p 12,tf p 13,tf p 14,tf p 15,tf p 16,tf p 17,tf p 18,tf p 20,tf p 22,tf p 23,tf p 25,tf p 26,tf p 27,tf p 28,tf p 29,tf p 30,tf p 32,tf p 33,tf p 34,tf p 35,tf p 36,tf p 38,tf p 40,tf p 41,tf p 42,tf p 44,tf p 45,tf p 47,tf p 49,tf p 50,tf p 51,tf p 53,tf p 54,tf p 55,tf p 56,tf p 57,tf p 58,tf p 59,tf p 60,tf p 61,tf p 62,tf p 63,tf p 64]}}
abbrev ST(t:BT)(n k:Nat)(os:OsState):SharedT:=⟨t,n,{},Array.mk [],{},k,os⟩
abbrev SH(h:Heap)(k:Nat)(os:OsState):Shared:=⟨h,Array.mk [],{},k,os⟩
local macro_rules | `(tactic| walk_at "qk")=>`(tactic| ((try rewrite [Fast.te14364793385576792824]); (try rewrite [Fast.te10110043849684766642]); (try rewrite [Fast.te14374325043358763698]); (try rewrite [Fast.te15667345088766844465]); (try rewrite [Fast.te14082659384304107361]); (try rewrite [Fast.te11892475500146522536]); (try rewrite [Fast.te5160383126252970620]); (try rewrite [Fast.te3399658132070893891]); (try rewrite [Fast.te5991557255702980513]); (try rewrite [Fast.te10880121769531294198]); (try rewrite [Fast.te821141287760084731]); (try rewrite [Fast.te7409074990110511671]); (try rewrite [Fast.te13664370479719496447]); (try rewrite [Fast.te5923862056798008813]); (try rewrite [Fast.te14722251495701143533]); (try rewrite [Fast.te10994771534591457954]); (try rewrite [Fast.te479339242167458305]); (try rewrite [Fast.te16090120013241838585]); (try rewrite [Fast.te3247288618530077131]); (try rewrite [Fast.te2386780881361962483]); (try rewrite [Fast.te11698064438423848299]); (try rewrite [Fast.te7317090234206586261]); (try rewrite [Fast.te7369524293546568484]); (try rewrite [Fast.te8920871248978507458]); (try rewrite [PySem.W.R.mapR_eq]); (try rewrite [Fast.te9517260473500160902]); kernel_rfl))
def o0:OF:=λp P=>tu []
def o1:OF:=λp P=>nf []
noncomputable def o2:OF:=λp P=>co [(s "<module>" 182),(s "<module>" 183),(s cF 184),(i 1),(i 0),(i 0),(i 0),(i 0),(r 11),(.bool false),(i 181),(r 12),.none,.none,.none,.none,(i 185),(i 1),(s cF 186)]
def o3:OF:=λp P=>fm [(some (r 13)),(some (r 3)),(some (r 3)),none,(some (s "__main__" 164)),none,(some (r 0))]
def H0(p:Program)(P:Params):Heap:=⟨Array.mk [boot_o_0 P,boot_o_1 P,boot_o_2 P,boot_o_3 P,boot_o_4 P,boot_o_5 P,boot_o_6 P,boot_o_7 P,boot_o_8 P,boot_o_9 P,boot_o_10 P,o0 p P,o1 p P,o2 p P,o3 p P],{}⟩
def dq0_(P:Params):List DictEntry:=[de P "__doc__" 166 .none,de P "__package__" 167 .none,de P "__loader__" 168 (.builtin "__main__.__loader__#opaque"),de P "__spec__" 169 .none,de P "__annotations__" 170 (r 6),de P "__builtins__" 171 (r 4),de P "__file__" 173 (s cF 172),de P "__cached__" 174 .none,de P "_wall" 193 (r 21),de P "WardenError" 213 (r 31)]
def dq1_(P:Params):List DictEntry:=dq0_ P++[de P "Nought" 229 (r 44)]
def dq2_(P:Params):List DictEntry:=dq1_ P++[de P "NoDoor" 245 (r 56),de P "elders_of" 256 (r 65),de P "fields_of" 266 (r 72),de P "is_under" 275 (r 79),de P "full_mask" 283 (r 86),de P "HALF" 287 (.int 2147483648 286),de P "TURN" 289 (.int 4294967296 288)]
def dq3_(P:Params):List DictEntry:=dq2_ P++[de P "wrapped" 296 (r 93),de P "reckoned" 305 (r 100),de P "divided" 314 (r 107),de P "RECKONING" 322 (r 108),de P "OF_RECORDS" 328 (r 109),de P "GOING" 332 (r 110),de P "copied" 340 (r 115),de P "is_door" 348 (r 120),de P "check_door" 358 (r 127)]
def dq4_(P:Params):List DictEntry:=dq3_ P++[de P "ALWAYS" 423 (r 128)]
def dq5_(P:Params):List DictEntry:=dq4_ P++[de P "LEFT" 454 (r 172),de P "asked" 465 (r 179),de P "asked_of_records" 476 (r 186),de P "leaves" 483 (r 193),de P "catcher" 492 (r 200),de P "MOST_FRAMES" 496 (.int 12 495)]
def dq6_(P:Params):List DictEntry:=dq5_ P++[de P "Frame" 529 (r 217),de P "started" 539 (r 228),de P "taken" 545 (r 233),de P "caught_at" 554 (r 240),de P "replaced" 565 (r 247),de P "BY_NOUGHT" 569 (.int 1 568),de P "TOO_DEEP" 571 (.int 2 570)]
def dq7_(P:Params):List DictEntry:=dq6_ P++[de P "Plain" 807 (r 421)]
def dq8_(P:Params):List DictEntry:=dq7_ P++[de P "has_kind" 819 (r 432),de P "record_has_kind" 828 (r 439)]
def dq9_(P:Params):List DictEntry:=dq8_ P++[de P "Watched" 909 (r 498)]
def dq10_(P:Params):List DictEntry:=dq9_ P++[de P "finished" 918 (r 507),de P "run" 928 (r 514),de P "run_watched" 938 (r 521),de P "_law_cell" 950 (r 528),de P "_law_word" 958 (r 535),de P "_law_wrapped" 965 (r 542),de P "_law_block" 978 (r 549),de P "_law_blocks" 990 (r 556),de P "_law_code" 1005 (r 563),de P "_law_two" 1014 (r 570),de P "_law_under" 1023 (r 577)]
def dq11_(P:Params):List DictEntry:=dq10_ P++[de P "_law_done" 1034 (r 584),de P "_law_walked" 1050 (r 591),de P "_law_book" 1056 (r 596),de P "law" 1062 (r 601)]
def o4:OF:=λp P=>di (de P "__name__" 165 (s "stackwarden.errors" 194)::dq0_ P) 11
def o5:OF:=λp P=>nf [(i 1),(i 0),(r 20),(i 5),(i 0),(r 27)]
def o6:OF:=λp P=>tu [(s "k" 190)]
def o7:OF:=λp P=>no (eB 0 0 "_wall" "_wall" (tf p 0))
noncomputable def o8:OF:=λp P=>co [(s "_wall" 187),(s "_wall" 188),(s cF 189),(i 1),(i 1),(i 0),(i 0),(i 3),(r 15),(.bool true),(i 181),(r 16),.none,(r 17),(r 18),(r 19),(i 191),(i 1),(s cF 192)]
def o9:OF:=λp P=>fo (fn "_wall" "_wall" (tf p 0) .none .none .none (s "__main__" 164) none (r 20) .none)
def GO:OF:=λp P=>tu [(.type "ValueError")]
def jc:OF:=λp P=>⟨(.type "builtin_function_or_method"),none,(.fields #[(.builtin "type.__prepare__"),(.type "type")]),#[]⟩
noncomputable def DE:OF:=λp P=>di [de P "__module__" 203 (s "stackwarden.errors" 194),de P "__qualname__" 205 (s "WardenError" 204),de P "__firstlineno__" 207 (.int 5 206),de P "__static_attributes__" 208 (r 29)] 4
noncomputable def HZ:OF:=λp P=>co [(s "WardenError" 198),(s "WardenError" 199),(s cF 200),(i 5),(i 0),(i 0),(i 0),(i 0),(r 25),(.bool false),(i 181),(r 26),.none,.none,.none,.none,(i 201),(i 5),(s cF 202)]
def Ia:OF:=λp P=>fm [(some (r 27)),(some (r 3)),(some (r 24)),none,(some (s "stackwarden.errors" 194)),none,(some (r 0))]
noncomputable def GP:OF:=λp P=>di [de P "__module__" 203 (s "stackwarden.errors" 194),de P "__firstlineno__" 207 (.int 5 206),de P "__static_attributes__" 208 (r 29),de P "__weakref__" 210 (r 32),de P "__doc__" 211 .none] 3
noncomputable def o16:OF:=λp P=>⟨(.type "type"),none,(.cls {name:="WardenError",bases:=[(.type "ValueError")],mro:=[(r 31),(.type "ValueError"),(.type "Exception"),(.type "BaseException"),(.type "object")],ns:=30,qualname:="WardenError"}),#[(some (r 22)),none,(some (s "WardenError" 196)),(some (s "WardenError" 204)),(some (.builtin "ValueError.__new__")),(some (.bool true))]⟩
noncomputable def JB:OF:=λp P=>⟨(.type "getset_descriptor"),none,(.fields #[(s "__weakref__" 209),(r 31),(.builtin "ExceptionGroup.__weakref__"),.none]),#[]⟩
def LQ:OF:=λp P=>⟨(.type "super"),none,(.fields #[(r 31),(r 31),(r 31)]),#[]⟩
def JC:OF:=λp P=>⟨(.type "builtin_function_or_method"),none,(.fields #[(.builtin "object.__init_subclass__"),(r 31)]),#[]⟩
def o20:OF:=λp P=>di (de P "__name__" 165 (s "stackwarden.errors" 194)::dq1_ P) 12
def o21:OF:=λp P=>nf [(i 1),(i 0),(r 20),(i 5),(i 0),(r 27),(i 7),(i 0),(r 40)]
noncomputable def o22:OF:=λp P=>⟨(.type "type"),none,(.cls {name:="WardenError",bases:=[(.type "ValueError")],mro:=[(r 31),(.type "ValueError"),(.type "Exception"),(.type "BaseException"),(.type "object")],ns:=30,qualname:="WardenError",subclasses:=[(r 44)]}),#[(some (r 22)),none,(some (s "WardenError" 196)),(some (s "WardenError" 204)),(some (.builtin "ValueError.__new__")),(some (.bool true))]⟩
def wW:OF:=λp P=>tu [(r 31)]
noncomputable def LR:OF:=λp P=>di [de P "__module__" 221 (s "stackwarden.errors" 194),de P "__qualname__" 223 (s "Nought" 222),de P "__firstlineno__" 225 (.int 7 224),de P "__static_attributes__" 226 (r 42)] 4
noncomputable def LS:OF:=λp P=>co [(s "Nought" 216),(s "Nought" 217),(s cF 218),(i 7),(i 0),(i 0),(i 0),(i 0),(r 38),(.bool false),(i 181),(r 39),.none,.none,.none,.none,(i 219),(i 7),(s cF 220)]
def NG:OF:=λp P=>fm [(some (r 40)),(some (r 3)),(some (r 37)),none,(some (s "stackwarden.errors" 194)),none,(some (r 0))]
noncomputable def JD:OF:=λp P=>di [de P "__module__" 221 (s "stackwarden.errors" 194),de P "__firstlineno__" 225 (.int 7 224),de P "__static_attributes__" 226 (r 42),de P "__doc__" 227 .none] 2
noncomputable def Ib:OF:=λp P=>⟨(.type "type"),none,(.cls {name:="Nought",bases:=[(r 31)],mro:=[(r 44),(r 31),(.type "ValueError"),(.type "Exception"),(.type "BaseException"),(.type "object")],ns:=43,qualname:="Nought"}),#[(some (r 35)),none,(some (s "Nought" 214)),(some (s "Nought" 222)),(some (.builtin "ValueError.__new__")),(some (.bool true))]⟩
def JE:OF:=λp P=>⟨(.type "super"),none,(.fields #[(r 44),(r 44),(r 44)]),#[]⟩
def JF:OF:=λp P=>⟨(.type "builtin_function_or_method"),none,(.fields #[(.builtin "object.__init_subclass__"),(r 44)]),#[]⟩
def o31:OF:=λp P=>di (de P "__name__" 165 (s "stackwarden.words" 284)::dq2_ P) 19
noncomputable def o32:OF:=λp P=>nf [(i 1),(i 0),(r 20),(i 5),(i 0),(r 27),(i 7),(i 0),(r 40),(i 9),(i 0),(r 52),(i 12),(i 0),(r 64),(i 18),(i 0),(r 71),(i 23),(i 0),(r 78),(i 25),(i 0),(r 85)]
noncomputable def NH:OF:=λp P=>⟨(.type "type"),none,(.cls {name:="WardenError",bases:=[(.type "ValueError")],mro:=[(r 31),(.type "ValueError"),(.type "Exception"),(.type "BaseException"),(.type "object")],ns:=30,qualname:="WardenError",subclasses:=[(r 44),(r 56)]}),#[(some (r 22)),none,(some (s "WardenError" 196)),(some (s "WardenError" 204)),(some (.builtin "ValueError.__new__")),(some (.bool true))]⟩
noncomputable def LU:OF:=λp P=>di [de P "__module__" 237 (s "stackwarden.errors" 194),de P "__qualname__" 239 (s "NoDoor" 238),de P "__firstlineno__" 241 (.int 9 240),de P "__static_attributes__" 242 (r 54)] 4
noncomputable def LV:OF:=λp P=>co [(s "NoDoor" 232),(s "NoDoor" 233),(s cF 234),(i 9),(i 0),(i 0),(i 0),(i 0),(r 50),(.bool false),(i 181),(r 51),.none,.none,.none,.none,(i 235),(i 9),(s cF 236)]
def LW:OF:=λp P=>fm [(some (r 52)),(some (r 3)),(some (r 49)),none,(some (s "stackwarden.errors" 194)),none,(some (r 0))]
noncomputable def JG:OF:=λp P=>di [de P "__module__" 237 (s "stackwarden.errors" 194),de P "__firstlineno__" 241 (.int 9 240),de P "__static_attributes__" 242 (r 54),de P "__doc__" 243 .none] 2
noncomputable def LX:OF:=λp P=>⟨(.type "type"),none,(.cls {name:="NoDoor",bases:=[(r 31)],mro:=[(r 56),(r 31),(.type "ValueError"),(.type "Exception"),(.type "BaseException"),(.type "object")],ns:=55,qualname:="NoDoor"}),#[(some (r 47)),none,(some (s "NoDoor" 230)),(some (s "NoDoor" 238)),(some (.builtin "ValueError.__new__")),(some (.bool true))]⟩
def NI:OF:=λp P=>⟨(.type "super"),none,(.fields #[(r 56),(r 56),(r 56)]),#[]⟩
def PZ:OF:=λp P=>⟨(.type "builtin_function_or_method"),none,(.fields #[(.builtin "object.__init_subclass__"),(r 56)]),#[]⟩
def NJ:OF:=λp P=>tu [(s "makes" 251),(s "c" 252),(s "elders" 253)]
def P0:OF:=λp P=>no (eB 0 0 "elders_of" "elders_of" (tf p 6))
noncomputable def NK:OF:=λp P=>co [(s "elders_of" 248),(s "elders_of" 249),(s cF 250),(i 12),(i 2),(i 0),(i 0),(i 3),(r 59),(.bool true),(i 181),(r 60),.none,(r 61),(r 62),(r 63),(i 254),(i 12),(s cF 255)]
def NL:OF:=λp P=>fo (fn "elders_of" "elders_of" (tf p 6) .none .none .none (s "stackwarden.kinds" 246) none (r 64) .none)
def LY:OF:=λp P=>tu [(s "makes" 260),(s "c" 261),(s "fields" 262),(s "elder" 263)]
def NM:OF:=λp P=>no (eB 0 0 "fields_of" "fields_of" (tf p 7))
noncomputable def LZ:OF:=λp P=>co [(s "fields_of" 257),(s "fields_of" 258),(s cF 259),(i 18),(i 2),(i 0),(i 0),(i 3),(r 66),(.bool true),(i 181),(r 67),.none,(r 68),(r 69),(r 70),(i 264),(i 18),(s cF 265)]
def L0:OF:=λp P=>fo (fn "fields_of" "fields_of" (tf p 7) .none .none .none (s "stackwarden.kinds" 246) none (r 71) .none)
def NN:OF:=λp P=>tu [(s "makes" 270),(s "c" 271),(s "other" 272)]
def NO:OF:=λp P=>no (eB 0 0 "is_under" "is_under" (tf p 8))
noncomputable def L3:OF:=λp P=>co [(s "is_under" 267),(s "is_under" 268),(s cF 269),(i 23),(i 3),(i 0),(i 0),(i 3),(r 73),(.bool true),(i 181),(r 74),.none,(r 75),(r 76),(r 77),(i 273),(i 23),(s cF 274)]
def L4:OF:=λp P=>fo (fn "is_under" "is_under" (tf p 8) .none .none .none (s "stackwarden.kinds" 246) none (r 78) .none)
def L5:OF:=λp P=>tu [(s "makes" 279),(s "c" 280)]
def NP:OF:=λp P=>no (eB 0 0 "full_mask" "full_mask" (tf p 9))
noncomputable def L6:OF:=λp P=>co [(s "full_mask" 276),(s "full_mask" 277),(s cF 278),(i 25),(i 2),(i 0),(i 0),(i 3),(r 80),(.bool true),(i 181),(r 81),.none,(r 82),(r 83),(r 84),(i 281),(i 25),(s cF 282)]
def L7:OF:=λp P=>fo (fn "full_mask" "full_mask" (tf p 9) .none .none .none (s "stackwarden.kinds" 246) none (r 85) .none)
def o57:OF:=λp P=>di (de P "__name__" 165 (s "stackwarden.asks" 359)::dq3_ P) 28
noncomputable def o58:OF:=λp P=>nf [(i 1),(i 0),(r 20),(i 5),(i 0),(r 27),(i 7),(i 0),(r 40),(i 9),(i 0),(r 52),(i 12),(i 0),(r 64),(i 18),(i 0),(r 71),(i 23),(i 0),(r 78),(i 25),(i 0),(r 85),(i 30),(i 0),(r 92),(i 32),(i 0),(r 99),(i 44),(i 0),(r 106),(i 54),(i 0),(r 114),(i 59),(i 0),(r 119),(i 61),(i 0),(r 126)]
def NQ:OF:=λp P=>tu [(s "number" 293)]
def R3:OF:=λp P=>no (eB 0 0 "wrapped" "wrapped" (tf p 13))
noncomputable def P1:OF:=λp P=>co [(s "wrapped" 290),(s "wrapped" 291),(s cF 292),(i 30),(i 1),(i 0),(i 0),(i 3),(r 87),(.bool true),(i 181),(r 88),.none,(r 89),(r 90),(r 91),(i 294),(i 30),(s cF 295)]
def P2:OF:=λp P=>fo (fn "wrapped" "wrapped" (tf p 13) .none .none .none (s "stackwarden.words" 284) none (r 92) .none)
def P4:OF:=λp P=>tu [(s "sign" 300),(s "one" 301),(s "other" 302)]
def R4:OF:=λp P=>no (eB 0 0 "reckoned" "reckoned" (tf p 14))
noncomputable def P7:OF:=λp P=>co [(s "reckoned" 297),(s "reckoned" 298),(s cF 299),(i 32),(i 3),(i 0),(i 0),(i 3),(r 94),(.bool true),(i 181),(r 95),.none,(r 96),(r 97),(r 98),(i 303),(i 32),(s cF 304)]
def P8:OF:=λp P=>fo (fn "reckoned" "reckoned" (tf p 14) .none .none .none (s "stackwarden.words" 284) none (r 99) .none)
def P9:OF:=λp P=>tu [(s "sign" 309),(s "one" 310),(s "other" 311)]
def Uq:OF:=λp P=>no (eB 0 0 "divided" "divided" (tf p 15))
noncomputable def Qa:OF:=λp P=>co [(s "divided" 306),(s "divided" 307),(s cF 308),(i 44),(i 3),(i 0),(i 0),(i 3),(r 101),(.bool true),(i 181),(r 102),.none,(r 103),(r 104),(r 105),(i 312),(i 44),(s cF 313)]
def Qb:OF:=λp P=>fo (fn "divided" "divided" (tf p 15) .none .none .none (s "stackwarden.words" 284) none (r 106) .none)
def NR:OF:=λp P=>tu [(s "add" 315),(s "sub" 316),(s "mul" 317),(s "div" 318),(s "rem" 319),(s "less" 320),(s "same" 321)]
def NS:OF:=λp P=>tu [(s "make" 323),(s "fill" 324),(s "begin" 325),(s "get" 326),(s "put" 327)]
def NT:OF:=λp P=>tu [(s "jump" 329),(s "zero" 330),(s "kin" 331)]
def Qc:OF:=λp P=>no (eB 0 0 "copied" "copied" (tf p 20))
noncomputable def NU:OF:=λp P=>co [(s "copied" 335),(s "copied" 336),(s cF 337),(i 54),(i 1),(i 0),(i 0),(i 3),(r 111),(.bool true),(i 181),(r 112),.none,.none,.none,(r 113),(i 338),(i 54),(s cF 339)]
def NV:OF:=λp P=>fo (fn "copied" "copied" (tf p 20) .none .none .none (s "stackwarden.books" 333) none (r 114) .none)
def R5:OF:=λp P=>no (eB 0 0 "is_door" "is_door" (tf p 22))
noncomputable def Qd:OF:=λp P=>co [(s "is_door" 343),(s "is_door" 344),(s cF 345),(i 59),(i 2),(i 0),(i 0),(i 3),(r 116),(.bool true),(i 181),(r 117),.none,.none,.none,(r 118),(i 346),(i 59),(s cF 347)]
def Qe:OF:=λp P=>fo (fn "is_door" "is_door" (tf p 22) .none .none .none (s "stackwarden.doors" 341) none (r 119) .none)
def Qf:OF:=λp P=>tu [(s "parts" 352),(s "part" 353),(s "inputs" 354),(s "takes" 355)]
def R6:OF:=λp P=>no (eB 0 0 "check_door" "check_door" (tf p 23))
noncomputable def Qg:OF:=λp P=>co [(s "check_door" 349),(s "check_door" 350),(s cF 351),(i 61),(i 3),(i 0),(i 0),(i 3),(r 121),(.bool true),(i 181),(r 122),.none,(r 123),(r 124),(r 125),(i 356),(i 61),(s cF 357)]
def Qh:OF:=λp P=>fo (fn "check_door" "check_door" (tf p 23) .none .none .none (s "stackwarden.doors" 341) none (r 126) .none)
def o84:OF:=λp P=>di (de P "__name__" 165 (s "stackwarden.asks" 359)::dq4_ P) 29
noncomputable def R7:OF:=λp P=>di [de P "push" 361 (r 129),de P "load" 363 (r 130),de P "store" 365 (r 132),de P "dup" 368 (r 134),de P "swap" 371 (r 137),de P "drop" 375 (r 139),de P "add" 378 (r 142),de P "sub" 382 (r 145),de P "mul" 386 (r 148),de P "div" 390 (r 151),de P "rem" 394 (r 154),de P "less" 398 (r 157),de P "same" 402 (r 160),de P "jump" 406 (r 161),de P "zero" 408 (r 163),de P "kin" 411 (r 165),de P "make" 415 (r 166),de P "toss" 417 (r 169),de P "say" 419 (r 171)] 19
def Qi:OF:=λp P=>tu [(s "any" 366)]
def Qj:OF:=λp P=>tu [(r 131)]
def Qk:OF:=λp P=>tu [(s "any" 369)]
def Ql:OF:=λp P=>tu [(r 133)]
def Qm:OF:=λp P=>tu [(s "any" 372)]
def Qn:OF:=λp P=>tu [(s "any" 373)]
def R8:OF:=λp P=>tu [(r 135),(r 136)]
def R9:OF:=λp P=>tu [(s "any" 376)]
def Sa:OF:=λp P=>tu [(r 138)]
def Qo:OF:=λp P=>tu [(s "number" 379)]
def Qp:OF:=λp P=>tu [(s "number" 380)]
def Qq:OF:=λp P=>tu [(r 140),(r 141)]
def Qr:OF:=λp P=>tu [(s "number" 383)]
def Qs:OF:=λp P=>tu [(s "number" 384)]
def Bw:OF:=λp P=>tu [(r 143),(r 144)]
def Bx:OF:=λp P=>tu [(s "number" 387)]
def By:OF:=λp P=>tu [(s "number" 388)]
def Bz:OF:=λp P=>tu [(r 146),(r 147)]
def BA:OF:=λp P=>tu [(s "number" 391)]
def BB:OF:=λp P=>tu [(s "number" 392)]
def BC:OF:=λp P=>tu [(r 149),(r 150)]
def BD:OF:=λp P=>tu [(s "number" 395)]
def BE:OF:=λp P=>tu [(s "number" 396)]
def C8:OF:=λp P=>tu [(r 152),(r 153)]
def C9:OF:=λp P=>tu [(s "number" 399)]
def Dc:OF:=λp P=>tu [(s "number" 400)]
def Dd:OF:=λp P=>tu [(r 155),(r 156)]
def De:OF:=λp P=>tu [(s "number" 403)]
def Df:OF:=λp P=>tu [(s "number" 404)]
def Dg:OF:=λp P=>tu [(r 158),(r 159)]
def Dh:OF:=λp P=>tu [(s "number" 409)]
def Di:OF:=λp P=>tu [(r 162)]
def Dj:OF:=λp P=>tu [(s "whole" 412),(.int 0 413)]
def Dk:OF:=λp P=>tu [(r 164)]
def Fe:OF:=λp P=>di [de P "toss" 417 (r 169),de P "say" 419 (r 171)] 2
def Dl:OF:=λp P=>tu [(s "number" 418)]
def Ff:OF:=λp P=>tu [(r 168)]
def Dm:OF:=λp P=>tu [(s "number" 420)]
def Dn:OF:=λp P=>tu [(r 170)]
def abF:OF:=λp P=>di (de P "__name__" 165 (s "stackwarden.frames" 493)::dq5_ P) 35
noncomputable def abG:OF:=λp P=>nf [(i 1),(i 0),(r 20),(i 5),(i 0),(r 27),(i 7),(i 0),(r 40),(i 9),(i 0),(r 52),(i 12),(i 0),(r 64),(i 18),(i 0),(r 71),(i 23),(i 0),(r 78),(i 25),(i 0),(r 85),(i 30),(i 0),(r 92),(i 32),(i 0),(r 99),(i 44),(i 0),(r 106),(i 54),(i 0),(r 114),(i 59),(i 0),(r 119),(i 61),(i 0),(r 126),(i 70),(i 0),(r 178),(i 80),(i 0),(r 185),(i 91),(i 0),(r 192),(i 93),(i 0),(r 199)]
noncomputable def Dp:OF:=λp P=>di [de P "store" 424 (.int 0 425),de P "dup" 426 (.int 2 427),de P "swap" 428 (.int 2 429),de P "drop" 430 (.int 0 431),de P "jump" 432 (.int 0 433),de P "zero" 434 (.int 0 435),de P "put" 436 (.int 0 437),de P "toss" 438 (.int 0 439),de P "say" 440 (.int 0 441),de P "give" 442 (.int 0 443)] 10
def Dq:OF:=λp P=>tu [(s "book" 458),(s "part" 459),(s "row" 460),(s "sign" 461),(s "parts" 462)]
def Fg:OF:=λp P=>no (eB 0 0 "asked" "asked" (tf p 27))
noncomputable def Dr:OF:=λp P=>co [(s "asked" 455),(s "asked" 456),(s cF 457),(i 70),(i 3),(i 0),(i 0),(i 3),(r 173),(.bool true),(i 181),(r 174),.none,(r 175),(r 176),(r 177),(i 463),(i 70),(s cF 464)]
def Ds:OF:=λp P=>fo (fn "asked" "asked" (tf p 27) .none .none .none (s "stackwarden.asks" 359) none (r 178) .none)
def Fh:OF:=λp P=>tu [(s "makes" 469),(s "row" 470),(s "sign" 471),(s "c" 472),(s "field" 473)]
def Ic:OF:=λp P=>no (eB 0 0 "asked_of_records" "asked_of_records" (tf p 28))
noncomputable def Fi:OF:=λp P=>co [(s "asked_of_records" 466),(s "asked_of_records" 467),(s cF 468),(i 80),(i 2),(i 0),(i 0),(i 3),(r 180),(.bool true),(i 181),(r 181),.none,(r 182),(r 183),(r 184),(i 474),(i 80),(s cF 475)]
noncomputable def Fj:OF:=λp P=>fo (fn "asked_of_records" "asked_of_records" (tf p 28) .none .none .none (s "stackwarden.asks" 359) none (r 185) .none)
def Fl:OF:=λp P=>tu [(s "row" 480)]
def Ie:OF:=λp P=>no (eB 0 0 "leaves" "leaves" (tf p 29))
noncomputable def Fn:OF:=λp P=>co [(s "leaves" 477),(s "leaves" 478),(s cF 479),(i 91),(i 1),(i 0),(i 0),(i 3),(r 187),(.bool true),(i 181),(r 188),.none,(r 189),(r 190),(r 191),(i 481),(i 91),(s cF 482)]
def Fo:OF:=λp P=>fo (fn "leaves" "leaves" (tf p 29) .none .none .none (s "stackwarden.asks" 359) none (r 192) .none)
def Dt:OF:=λp P=>tu [(s "stretches" 487),(s "at" 488),(s "stretch" 489)]
def Fp:OF:=λp P=>no (eB 0 0 "catcher" "catcher" (tf p 30))
noncomputable def Du:OF:=λp P=>co [(s "catcher" 484),(s "catcher" 485),(s cF 486),(i 93),(i 2),(i 0),(i 0),(i 3),(r 194),(.bool true),(i 181),(r 195),.none,(r 196),(r 197),(r 198),(i 490),(i 93),(s cF 491)]
def Dv:OF:=λp P=>fo (fn "catcher" "catcher" (tf p 30) .none .none .none (s "stackwarden.asks" 359) none (r 199) .none)
def abH:OF:=λp P=>di (de P "__name__" 165 (s "stackwarden.plain" 566)::dq6_ P) 42
noncomputable def abI:OF:=λp P=>nf [(i 1),(i 0),(r 20),(i 5),(i 0),(r 27),(i 7),(i 0),(r 40),(i 9),(i 0),(r 52),(i 12),(i 0),(r 64),(i 18),(i 0),(r 71),(i 23),(i 0),(r 78),(i 25),(i 0),(r 85),(i 30),(i 0),(r 92),(i 32),(i 0),(r 99),(i 44),(i 0),(r 106),(i 54),(i 0),(r 114),(i 59),(i 0),(r 119),(i 61),(i 0),(r 126),(i 70),(i 0),(r 178),(i 80),(i 0),(r 185),(i 91),(i 0),(r 192),(i 93),(i 0),(r 199),(i 100),(i 0),(r 206),(i 107),(i 0),(r 227),(i 109),(i 0),(r 232),(i 113),(i 0),(r 239),(i 121),(i 0),(r 246)]
noncomputable def Ig:OF:=λp P=>di [de P "__module__" 504 (s "stackwarden.frames" 493),de P "__qualname__" 506 (s "Frame" 505),de P "__firstlineno__" 508 (.int 100 507),de P "__init__" 517 (r 214),de P "__static_attributes__" 522 (r 215)] 5
def Ih:OF:=λp P=>nf [(i 102),(i 4),(r 213)]
noncomputable def Ii:OF:=λp P=>co [(s "Frame" 499),(s "Frame" 500),(s cF 501),(i 100),(i 0),(i 0),(i 0),(i 0),(r 204),(.bool false),(i 181),(r 205),.none,.none,.none,.none,(i 502),(i 100),(s cF 503)]
def Ij:OF:=λp P=>fm [(some (r 206)),(some (r 3)),(some (r 203)),none,(some (s "stackwarden.frames" 493)),none,(some (r 0))]
def Fq:OF:=λp P=>tu [(s "self" 512),(s "part" 513),(s "boxes" 514)]
def Ik:OF:=λp P=>no (eB 0 0 "__init__" "Frame.__init__" (iC (tf p 33) 0))
noncomputable def Fs:OF:=λp P=>co [(s "__init__" 509),(s "Frame.__init__" 510),(s cF 511),(i 102),(i 3),(i 0),(i 0),(i 3),(r 208),(.bool true),(i 181),(r 209),.none,(r 210),(r 211),(r 212),(i 515),(i 102),(s cF 516)]
noncomputable def Ft:OF:=λp P=>fo (fn "__init__" "Frame.__init__" (iC (tf p 33) 0) .none .none .none (s "stackwarden.frames" 493) none (r 213) .none)
def Fu:OF:=λp P=>tu [(s "at" 518),(s "boxes" 519),(s "part" 520),(s "stack" 521)]
noncomputable def Fv:OF:=λp P=>di [de P "__module__" 504 (s "stackwarden.frames" 493),de P "__firstlineno__" 508 (.int 100 507),de P "__init__" 517 (r 214),de P "__static_attributes__" 522 (r 215),de P "__dict__" 524 (r 218),de P "__weakref__" 526 (r 219),de P "__doc__" 527 .none] 4
noncomputable def Fw:OF:=λp P=>⟨(.type "type"),none,(.cls {name:="Frame",bases:=[(.type "object")],mro:=[(r 217),(.type "object")],ns:=216,qualname:="Frame"}),#[none,none,(some (s "Frame" 497)),(some (s "Frame" 505)),(some (.builtin "object.__new__")),(some (.bool true))]⟩
noncomputable def Il:OF:=λp P=>⟨(.type "getset_descriptor"),none,(.fields #[(s "__dict__" 523),(r 217),(.builtin "function.__dict__"),(.builtin "function.__dict__#set")]),#[]⟩
noncomputable def Im:OF:=λp P=>⟨(.type "getset_descriptor"),none,(.fields #[(s "__weakref__" 525),(r 217),(.builtin "ExceptionGroup.__weakref__"),.none]),#[]⟩
def L8:OF:=λp P=>⟨(.type "super"),none,(.fields #[(r 217),(r 217),(r 217)]),#[]⟩
def L9:OF:=λp P=>⟨(.type "builtin_function_or_method"),none,(.fields #[(.builtin "object.__init_subclass__"),(r 217)]),#[]⟩
def Io:OF:=λp P=>tu [(s "parts" 533),(s "part" 534),(s "values" 535),(s "nothing" 536)]
def Ma:OF:=λp P=>no (eB 0 0 "started" "started" (tf p 34))
noncomputable def Ip:OF:=λp P=>co [(s "started" 530),(s "started" 531),(s cF 532),(i 107),(i 4),(i 0),(i 0),(i 3),(r 222),(.bool true),(i 181),(r 223),.none,(r 224),(r 225),(r 226),(i 537),(i 107),(s cF 538)]
def Iq:OF:=λp P=>fo (fn "started" "started" (tf p 34) .none .none .none (s "stackwarden.frames" 493) none (r 227) .none)
def Mb:OF:=λp P=>no (eB 0 0 "taken" "taken" (tf p 35))
noncomputable def Ir:OF:=λp P=>co [(s "taken" 540),(s "taken" 541),(s cF 542),(i 109),(i 2),(i 0),(i 0),(i 3),(r 229),(.bool true),(i 181),(r 230),.none,.none,.none,(r 231),(i 543),(i 109),(s cF 544)]
def Iu:OF:=λp P=>fo (fn "taken" "taken" (tf p 35) .none .none .none (s "stackwarden.frames" 493) none (r 232) .none)
def Fx:OF:=λp P=>tu [(s "parts" 549),(s "live" 550),(s "at" 551)]
def Iw:OF:=λp P=>no (eB 0 0 "caught_at" "caught_at" (tf p 36))
noncomputable def Fy:OF:=λp P=>co [(s "caught_at" 546),(s "caught_at" 547),(s cF 548),(i 113),(i 2),(i 0),(i 0),(i 3),(r 234),(.bool true),(i 181),(r 235),.none,(r 236),(r 237),(r 238),(i 552),(i 113),(s cF 553)]
def Fz:OF:=λp P=>fo (fn "caught_at" "caught_at" (tf p 36) .none .none .none (s "stackwarden.frames" 493) none (r 239) .none)
def FA:OF:=λp P=>tu [(s "some" 560),(s "spot" 561),(s "thing" 562)]
def Md:OF:=λp P=>no (eB 0 0 "replaced" "replaced" (tf p 38))
noncomputable def Iy:OF:=λp P=>co [(s "replaced" 557),(s "replaced" 558),(s cF 559),(i 121),(i 3),(i 0),(i 0),(i 3),(r 241),(.bool true),(i 181),(r 242),.none,(r 243),(r 244),(r 245),(i 563),(i 121),(s cF 564)]
def Iz:OF:=λp P=>fo (fn "replaced" "replaced" (tf p 38) .none .none .none (s "stackwarden.spots" 555) none (r 246) .none)
def abJ:OF:=λp P=>di (de P "__name__" 165 (s "stackwarden.plain" 566)::dq7_ P) 43
noncomputable def abK:OF:=λp P=>nf [(i 1),(i 0),(r 20),(i 5),(i 0),(r 27),(i 7),(i 0),(r 40),(i 9),(i 0),(r 52),(i 12),(i 0),(r 64),(i 18),(i 0),(r 71),(i 23),(i 0),(r 78),(i 25),(i 0),(r 85),(i 30),(i 0),(r 92),(i 32),(i 0),(r 99),(i 44),(i 0),(r 106),(i 54),(i 0),(r 114),(i 59),(i 0),(r 119),(i 61),(i 0),(r 126),(i 70),(i 0),(r 178),(i 80),(i 0),(r 185),(i 91),(i 0),(r 192),(i 93),(i 0),(r 199),(i 100),(i 0),(r 206),(i 107),(i 0),(r 227),(i 109),(i 0),(r 232),(i 113),(i 0),(r 239),(i 121),(i 0),(r 246),(i 126),(i 0),(r 253)]
noncomputable def Qt:OF:=λp P=>di [de P "__module__" 579 (s "stackwarden.plain" 566),de P "__qualname__" 581 (s "Plain" 580),de P "__firstlineno__" 583 (.int 126 582),de P "__init__" 589 (r 259),de P "told" 596 (r 266),de P "frames" 603 (r 273),de P "heap" 610 (r 280),de P "step" 620 (r 287),de P "do_row" 630 (r 294),de P "do_straight" 642 (r 301),de P "do_of_records" 655 (r 308),de P "do_reckoning" 661 (r 313),de P "do_going" 670 (r 320),de P "goes" 680 (r 327),de P "go_on" 689 (r 334),de P "spend" 696 (r 341),de P "add_frame" 705 (r 348),de P "do_call" 714 (r 355),de P "do_give" 724 (r 362),de P "fault" 734 (r 369),de P "nothing" 741 (r 376),de P "tagged" 750 (r 383),de P "bare" 758 (r 390),de P "new_record" 766 (r 397),de P "with_field" 776 (r 404),de P "as_begun" 784 (r 411),de P "looked" 793 (r 418),de P "__static_attributes__" 800 (r 419)] 28
noncomputable def Qu:OF:=λp P=>nf [(i 128),(i 4),(r 258),(i 138),(i 4),(r 265),(i 141),(i 4),(r 272),(i 144),(i 4),(r 279),(i 147),(i 4),(r 286),(i 158),(i 4),(r 293),(i 177),(i 4),(r 300),(i 196),(i 4),(r 307),(i 214),(i 4),(r 312),(i 224),(i 4),(r 319),(i 230),(i 4),(r 326),(i 238),(i 4),(r 333),(i 242),(i 4),(r 340),(i 249),(i 4),(r 347),(i 252),(i 4),(r 354),(i 260),(i 4),(r 361),(i 270),(i 4),(r 368),(i 279),(i 4),(r 375),(i 282),(i 4),(r 382),(i 285),(i 4),(r 389),(i 288),(i 4),(r 396),(i 291),(i 4),(r 403),(i 294),(i 4),(r 410),(i 297),(i 4),(r 417)]
noncomputable def Qv:OF:=λp P=>co [(s "Plain" 574),(s "Plain" 575),(s cF 576),(i 126),(i 0),(i 0),(i 0),(i 0),(r 251),(.bool false),(i 181),(r 252),.none,.none,.none,.none,(i 577),(i 126),(s cF 578)]
def Qw:OF:=λp P=>fm [(some (r 253)),(some (r 3)),(some (r 250)),none,(some (s "stackwarden.plain" 566)),none,(some (r 0))]
def Qx:OF:=λp P=>no (eB 0 0 "__init__" "Plain.__init__" (iC (tf p 42) 0))
noncomputable def IA:OF:=λp P=>co [(s "__init__" 584),(s "Plain.__init__" 585),(s cF 586),(i 128),(i 5),(i 0),(i 0),(i 3),(r 255),(.bool true),(i 181),(r 256),.none,.none,.none,(r 257),(i 587),(i 128),(s cF 588)]
noncomputable def IC:OF:=λp P=>fo (fn "__init__" "Plain.__init__" (iC (tf p 42) 0) .none .none .none (s "stackwarden.plain" 566) none (r 258) .none)
def ID:OF:=λp P=>tu [(s "self" 593)]
def Me:OF:=λp P=>no (eB 0 0 "told" "Plain.told" (iC (tf p 42) 1))
noncomputable def IE:OF:=λp P=>co [(s "told" 590),(s "Plain.told" 591),(s cF 592),(i 138),(i 1),(i 0),(i 0),(i 3),(r 260),(.bool true),(i 181),(r 261),.none,(r 262),(r 263),(r 264),(i 594),(i 138),(s cF 595)]
def IF:OF:=λp P=>fo (fn "told" "Plain.told" (iC (tf p 42) 1) .none .none .none (s "stackwarden.plain" 566) none (r 265) .none)
def IG:OF:=λp P=>tu [(s "self" 600)]
def Mf:OF:=λp P=>no (eB 0 0 "frames" "Plain.frames" (iC (tf p 42) 2))
noncomputable def IH:OF:=λp P=>co [(s "frames" 597),(s "Plain.frames" 598),(s cF 599),(i 141),(i 1),(i 0),(i 0),(i 3),(r 267),(.bool true),(i 181),(r 268),.none,(r 269),(r 270),(r 271),(i 601),(i 141),(s cF 602)]
def II:OF:=λp P=>fo (fn "frames" "Plain.frames" (iC (tf p 42) 2) .none .none .none (s "stackwarden.plain" 566) none (r 272) .none)
def IJ:OF:=λp P=>tu [(s "self" 607)]
def Mg:OF:=λp P=>no (eB 0 0 "heap" "Plain.heap" (iC (tf p 42) 3))
noncomputable def IK:OF:=λp P=>co [(s "heap" 604),(s "Plain.heap" 605),(s cF 606),(i 144),(i 1),(i 0),(i 0),(i 3),(r 274),(.bool true),(i 181),(r 275),.none,(r 276),(r 277),(r 278),(i 608),(i 144),(s cF 609)]
def IL:OF:=λp P=>fo (fn "heap" "Plain.heap" (iC (tf p 42) 3) .none .none .none (s "stackwarden.plain" 566) none (r 279) .none)
def Mh:OF:=λp P=>tu [(s "self" 614),(s "frame" 615),(s "row" 616),(s "word" 617)]
def Qy:OF:=λp P=>no (eB 0 0 "step" "Plain.step" (iC (tf p 42) 4))
noncomputable def Mi:OF:=λp P=>co [(s "step" 611),(s "Plain.step" 612),(s cF 613),(i 147),(i 1),(i 0),(i 0),(i 3),(r 281),(.bool true),(i 181),(r 282),.none,(r 283),(r 284),(r 285),(i 618),(i 147),(s cF 619)]
def Mj:OF:=λp P=>fo (fn "step" "Plain.step" (iC (tf p 42) 4) .none .none .none (s "stackwarden.plain" 566) none (r 286) .none)
def Ml:OF:=λp P=>tu [(s "self" 624),(s "frame" 625),(s "row" 626),(s "sign" 627)]
def Qz:OF:=λp P=>no (eB 0 0 "do_row" "Plain.do_row" (iC (tf p 42) 5))
noncomputable def Mm:OF:=λp P=>co [(s "do_row" 621),(s "Plain.do_row" 622),(s cF 623),(i 158),(i 3),(i 0),(i 0),(i 3),(r 288),(.bool true),(i 181),(r 289),.none,(r 290),(r 291),(r 292),(i 628),(i 158),(s cF 629)]
def Mn:OF:=λp P=>fo (fn "do_row" "Plain.do_row" (iC (tf p 42) 5) .none .none .none (s "stackwarden.plain" 566) none (r 293) .none)
def Mo:OF:=λp P=>tu [(s "self" 634),(s "frame" 635),(s "row" 636),(s "sign" 637),(s "stack" 638),(s "pair" 639)]
def Mp:OF:=λp P=>no (eB 0 0 "do_straight" "Plain.do_straight" (iC (tf p 42) 6))
noncomputable def IM:OF:=λp P=>co [(s "do_straight" 631),(s "Plain.do_straight" 632),(s cF 633),(i 177),(i 3),(i 0),(i 0),(i 3),(r 295),(.bool true),(i 181),(r 296),.none,(r 297),(r 298),(r 299),(i 640),(i 177),(s cF 641)]
noncomputable def IP:OF:=λp P=>fo (fn "do_straight" "Plain.do_straight" (iC (tf p 42) 6) .none .none .none (s "stackwarden.plain" 566) none (r 300) .none)
def IQ:OF:=λp P=>tu [(s "self" 646),(s "stack" 647),(s "row" 648),(s "sign" 649),(s "number" 650),(s "record" 651),(s "value" 652)]
def Mq:OF:=λp P=>no (eB 0 0 "do_of_records" "Plain.do_of_records" (iC (tf p 42) 7))
noncomputable def IS:OF:=λp P=>co [(s "do_of_records" 643),(s "Plain.do_of_records" 644),(s cF 645),(i 196),(i 3),(i 0),(i 0),(i 3),(r 302),(.bool true),(i 181),(r 303),.none,(r 304),(r 305),(r 306),(i 653),(i 196),(s cF 654)]
noncomputable def IT:OF:=λp P=>fo (fn "do_of_records" "Plain.do_of_records" (iC (tf p 42) 7) .none .none .none (s "stackwarden.plain" 566) none (r 307) .none)
def QA:OF:=λp P=>no (eB 0 0 "do_reckoning" "Plain.do_reckoning" (iC (tf p 42) 8))
noncomputable def Mr:OF:=λp P=>co [(s "do_reckoning" 656),(s "Plain.do_reckoning" 657),(s cF 658),(i 214),(i 3),(i 0),(i 0),(i 3),(r 309),(.bool true),(i 181),(r 310),.none,.none,.none,(r 311),(i 659),(i 214),(s cF 660)]
noncomputable def Ms:OF:=λp P=>fo (fn "do_reckoning" "Plain.do_reckoning" (iC (tf p 42) 8) .none .none .none (s "stackwarden.plain" 566) none (r 312) .none)
def Mt:OF:=λp P=>tu [(s "self" 665),(s "frame" 666),(s "row" 667)]
def QB:OF:=λp P=>no (eB 0 0 "do_going" "Plain.do_going" (iC (tf p 42) 9))
noncomputable def Mu:OF:=λp P=>co [(s "do_going" 662),(s "Plain.do_going" 663),(s cF 664),(i 224),(i 3),(i 0),(i 0),(i 3),(r 314),(.bool true),(i 181),(r 315),.none,(r 316),(r 317),(r 318),(i 668),(i 224),(s cF 669)]
noncomputable def Mv:OF:=λp P=>fo (fn "do_going" "Plain.do_going" (iC (tf p 42) 9) .none .none .none (s "stackwarden.plain" 566) none (r 319) .none)
def IU:OF:=λp P=>tu [(s "self" 674),(s "stack" 675),(s "row" 676),(s "record" 677)]
def Mw:OF:=λp P=>no (eB 0 0 "goes" "Plain.goes" (iC (tf p 42) 10))
noncomputable def IV:OF:=λp P=>co [(s "goes" 671),(s "Plain.goes" 672),(s cF 673),(i 230),(i 3),(i 0),(i 0),(i 3),(r 321),(.bool true),(i 181),(r 322),.none,(r 323),(r 324),(r 325),(i 678),(i 230),(s cF 679)]
def IW:OF:=λp P=>fo (fn "goes" "Plain.goes" (iC (tf p 42) 10) .none .none .none (s "stackwarden.plain" 566) none (r 326) .none)
def IX:OF:=λp P=>tu [(s "self" 684),(s "frame" 685),(s "at" 686)]
def Mx:OF:=λp P=>no (eB 0 0 "go_on" "Plain.go_on" (iC (tf p 42) 11))
noncomputable def IY:OF:=λp P=>co [(s "go_on" 681),(s "Plain.go_on" 682),(s cF 683),(i 238),(i 3),(i 0),(i 0),(i 3),(r 328),(.bool true),(i 181),(r 329),.none,(r 330),(r 331),(r 332),(i 687),(i 238),(s cF 688)]
def IZ:OF:=λp P=>fo (fn "go_on" "Plain.go_on" (iC (tf p 42) 11) .none .none .none (s "stackwarden.plain" 566) none (r 333) .none)
def I0:OF:=λp P=>tu [(s "self" 693)]
def My:OF:=λp P=>no (eB 0 0 "spend" "Plain.spend" (iC (tf p 42) 12))
noncomputable def Ja:OF:=λp P=>co [(s "spend" 690),(s "Plain.spend" 691),(s cF 692),(i 242),(i 1),(i 0),(i 0),(i 3),(r 335),(.bool true),(i 181),(r 336),.none,(r 337),(r 338),(r 339),(i 694),(i 242),(s cF 695)]
def Jb:OF:=λp P=>fo (fn "spend" "Plain.spend" (iC (tf p 42) 12) .none .none .none (s "stackwarden.plain" 566) none (r 340) .none)
def Jc:OF:=λp P=>tu [(s "self" 700),(s "part" 701),(s "values" 702)]
def QC:OF:=λp P=>no (eB 0 0 "add_frame" "Plain.add_frame" (iC (tf p 42) 13))
noncomputable def Mz:OF:=λp P=>co [(s "add_frame" 697),(s "Plain.add_frame" 698),(s cF 699),(i 249),(i 3),(i 0),(i 0),(i 3),(r 342),(.bool true),(i 181),(r 343),.none,(r 344),(r 345),(r 346),(i 703),(i 249),(s cF 704)]
noncomputable def MA:OF:=λp P=>fo (fn "add_frame" "Plain.add_frame" (iC (tf p 42) 13) .none .none .none (s "stackwarden.plain" 566) none (r 347) .none)
def MB:OF:=λp P=>tu [(s "self" 709),(s "frame" 710),(s "part" 711)]
def QD:OF:=λp P=>no (eB 0 0 "do_call" "Plain.do_call" (iC (tf p 42) 14))
noncomputable def MC:OF:=λp P=>co [(s "do_call" 706),(s "Plain.do_call" 707),(s cF 708),(i 252),(i 3),(i 0),(i 0),(i 3),(r 349),(.bool true),(i 181),(r 350),.none,(r 351),(r 352),(r 353),(i 712),(i 252),(s cF 713)]
noncomputable def MD:OF:=λp P=>fo (fn "do_call" "Plain.do_call" (iC (tf p 42) 14) .none .none .none (s "stackwarden.plain" 566) none (r 354) .none)
def ME:OF:=λp P=>tu [(s "self" 718),(s "frame" 719),(s "value" 720),(s "beneath" 721)]
def QE:OF:=λp P=>no (eB 0 0 "do_give" "Plain.do_give" (iC (tf p 42) 15))
noncomputable def MF:OF:=λp P=>co [(s "do_give" 715),(s "Plain.do_give" 716),(s cF 717),(i 260),(i 2),(i 0),(i 0),(i 3),(r 356),(.bool true),(i 181),(r 357),.none,(r 358),(r 359),(r 360),(i 722),(i 260),(s cF 723)]
noncomputable def Jd:OF:=λp P=>fo (fn "do_give" "Plain.do_give" (iC (tf p 42) 15) .none .none .none (s "stackwarden.plain" 566) none (r 361) .none)
def Je:OF:=λp P=>tu [(s "self" 728),(s "number" 729),(s "at" 730),(s "frame" 731)]
def MG:OF:=λp P=>no (eB 0 0 "fault" "Plain.fault" (iC (tf p 42) 16))
noncomputable def Jf:OF:=λp P=>co [(s "fault" 725),(s "Plain.fault" 726),(s cF 727),(i 270),(i 2),(i 0),(i 0),(i 3),(r 363),(.bool true),(i 181),(r 364),.none,(r 365),(r 366),(r 367),(i 732),(i 270),(s cF 733)]
def Jg:OF:=λp P=>fo (fn "fault" "Plain.fault" (iC (tf p 42) 16) .none .none .none (s "stackwarden.plain" 566) none (r 368) .none)
def Jh:OF:=λp P=>tu [(s "self" 738)]
def QF:OF:=λp P=>no (eB 0 0 "nothing" "Plain.nothing" (iC (tf p 42) 17))
noncomputable def MI:OF:=λp P=>co [(s "nothing" 735),(s "Plain.nothing" 736),(s cF 737),(i 279),(i 1),(i 0),(i 0),(i 3),(r 370),(.bool true),(i 181),(r 371),.none,(r 372),(r 373),(r 374),(i 739),(i 279),(s cF 740)]
def MJ:OF:=λp P=>fo (fn "nothing" "Plain.nothing" (iC (tf p 42) 17) .none .none .none (s "stackwarden.plain" 566) none (r 375) .none)
def MK:OF:=λp P=>tu [(s "self" 745),(s "tag" 746),(s "number" 747)]
def QG:OF:=λp P=>no (eB 0 0 "tagged" "Plain.tagged" (iC (tf p 42) 18))
noncomputable def ML:OF:=λp P=>co [(s "tagged" 742),(s "Plain.tagged" 743),(s cF 744),(i 282),(i 3),(i 0),(i 0),(i 3),(r 377),(.bool true),(i 181),(r 378),.none,(r 379),(r 380),(r 381),(i 748),(i 282),(s cF 749)]
def MM:OF:=λp P=>fo (fn "tagged" "Plain.tagged" (iC (tf p 42) 18) .none .none .none (s "stackwarden.plain" 566) none (r 382) .none)
def Ji:OF:=λp P=>tu [(s "self" 754),(s "value" 755)]
def MN:OF:=λp P=>no (eB 0 0 "bare" "Plain.bare" (iC (tf p 42) 19))
noncomputable def Jj:OF:=λp P=>co [(s "bare" 751),(s "Plain.bare" 752),(s cF 753),(i 285),(i 2),(i 0),(i 0),(i 3),(r 384),(.bool true),(i 181),(r 385),.none,(r 386),(r 387),(r 388),(i 756),(i 285),(s cF 757)]
def Jk:OF:=λp P=>fo (fn "bare" "Plain.bare" (iC (tf p 42) 19) .none .none .none (s "stackwarden.plain" 566) none (r 389) .none)
def Jl:OF:=λp P=>tu [(s "self" 762),(s "c" 763)]
def MO:OF:=λp P=>no (eB 0 0 "new_record" "Plain.new_record" (iC (tf p 42) 20))
noncomputable def Jm:OF:=λp P=>co [(s "new_record" 759),(s "Plain.new_record" 760),(s cF 761),(i 288),(i 2),(i 0),(i 0),(i 3),(r 391),(.bool true),(i 181),(r 392),.none,(r 393),(r 394),(r 395),(i 764),(i 288),(s cF 765)]
noncomputable def Jn:OF:=λp P=>fo (fn "new_record" "Plain.new_record" (iC (tf p 42) 20) .none .none .none (s "stackwarden.plain" 566) none (r 396) .none)
def Jo:OF:=λp P=>tu [(s "self" 770),(s "record" 771),(s "f" 772),(s "value" 773)]
def MP:OF:=λp P=>no (eB 0 0 "with_field" "Plain.with_field" (iC (tf p 42) 21))
noncomputable def Jp:OF:=λp P=>co [(s "with_field" 767),(s "Plain.with_field" 768),(s cF 769),(i 291),(i 4),(i 0),(i 0),(i 3),(r 398),(.bool true),(i 181),(r 399),.none,(r 400),(r 401),(r 402),(i 774),(i 291),(s cF 775)]
noncomputable def Jq:OF:=λp P=>fo (fn "with_field" "Plain.with_field" (iC (tf p 42) 21) .none .none .none (s "stackwarden.plain" 566) none (r 403) .none)
def Jr:OF:=λp P=>tu [(s "self" 780),(s "record" 781)]
def MQ:OF:=λp P=>no (eB 0 0 "as_begun" "Plain.as_begun" (iC (tf p 42) 22))
noncomputable def MR:OF:=λp P=>co [(s "as_begun" 777),(s "Plain.as_begun" 778),(s cF 779),(i 294),(i 2),(i 0),(i 0),(i 3),(r 405),(.bool true),(i 181),(r 406),.none,(r 407),(r 408),(r 409),(i 782),(i 294),(s cF 783)]
noncomputable def MS:OF:=λp P=>fo (fn "as_begun" "Plain.as_begun" (iC (tf p 42) 22) .none .none .none (s "stackwarden.plain" 566) none (r 410) .none)
def MT:OF:=λp P=>tu [(s "self" 788),(s "frame" 789),(s "row" 790)]
def QH:OF:=λp P=>no (eB 0 0 "looked" "Plain.looked" (iC (tf p 42) 23))
noncomputable def MU:OF:=λp P=>co [(s "looked" 785),(s "Plain.looked" 786),(s cF 787),(i 297),(i 3),(i 0),(i 0),(i 3),(r 412),(.bool true),(i 181),(r 413),.none,(r 414),(r 415),(r 416),(i 791),(i 297),(s cF 792)]
def MV:OF:=λp P=>fo (fn "looked" "Plain.looked" (iC (tf p 42) 23) .none .none .none (s "stackwarden.plain" 566) none (r 417) .none)
def MW:OF:=λp P=>tu [(s "book" 794),(s "end" 795),(s "left" 796),(s "live" 797),(s "records" 798),(s "said" 799)]
noncomputable def MX:OF:=λp P=>di [de P "__module__" 579 (s "stackwarden.plain" 566),de P "__firstlineno__" 583 (.int 126 582),de P "__init__" 589 (r 259),de P "told" 596 (r 266),de P "frames" 603 (r 273),de P "heap" 610 (r 280),de P "step" 620 (r 287),de P "do_row" 630 (r 294),de P "do_straight" 642 (r 301),de P "do_of_records" 655 (r 308),de P "do_reckoning" 661 (r 313),de P "do_going" 670 (r 320),de P "goes" 680 (r 327),de P "go_on" 689 (r 334),de P "spend" 696 (r 341),de P "add_frame" 705 (r 348),de P "do_call" 714 (r 355),de P "do_give" 724 (r 362),de P "fault" 734 (r 369),de P "nothing" 741 (r 376),de P "tagged" 750 (r 383),de P "bare" 758 (r 390),de P "new_record" 766 (r 397),de P "with_field" 776 (r 404),de P "as_begun" 784 (r 411),de P "looked" 793 (r 418),de P "__static_attributes__" 800 (r 419),de P "__dict__" 802 (r 422),de P "__weakref__" 804 (r 423),de P "__doc__" 805 .none] 4
noncomputable def abL:OF:=λp P=>⟨(.type "type"),none,(.cls {name:="Plain",bases:=[(.type "object")],mro:=[(r 421),(.type "object")],ns:=420,qualname:="Plain"}),#[none,none,(some (s "Plain" 572)),(some (s "Plain" 580)),(some (.builtin "object.__new__")),(some (.bool true))]⟩
noncomputable def MY:OF:=λp P=>⟨(.type "getset_descriptor"),none,(.fields #[(s "__dict__" 801),(r 421),(.builtin "function.__dict__"),(.builtin "function.__dict__#set")]),#[]⟩
noncomputable def MZ:OF:=λp P=>⟨(.type "getset_descriptor"),none,(.fields #[(s "__weakref__" 803),(r 421),(.builtin "ExceptionGroup.__weakref__"),.none]),#[]⟩
def QI:OF:=λp P=>⟨(.type "super"),none,(.fields #[(r 421),(r 421),(r 421)]),#[]⟩
def QJ:OF:=λp P=>⟨(.type "builtin_function_or_method"),none,(.fields #[(.builtin "object.__init_subclass__"),(r 421)]),#[]⟩
def abM:OF:=λp P=>di (de P "__name__" 165 (s "stackwarden.watched" 829)::dq8_ P) 45
noncomputable def abN:OF:=λp P=>nf [(i 1),(i 0),(r 20),(i 5),(i 0),(r 27),(i 7),(i 0),(r 40),(i 9),(i 0),(r 52),(i 12),(i 0),(r 64),(i 18),(i 0),(r 71),(i 23),(i 0),(r 78),(i 25),(i 0),(r 85),(i 30),(i 0),(r 92),(i 32),(i 0),(r 99),(i 44),(i 0),(r 106),(i 54),(i 0),(r 114),(i 59),(i 0),(r 119),(i 61),(i 0),(r 126),(i 70),(i 0),(r 178),(i 80),(i 0),(r 185),(i 91),(i 0),(r 192),(i 93),(i 0),(r 199),(i 100),(i 0),(r 206),(i 107),(i 0),(r 227),(i 109),(i 0),(r 232),(i 113),(i 0),(r 239),(i 121),(i 0),(r 246),(i 126),(i 0),(r 253),(i 300),(i 0),(r 431),(i 308),(i 0),(r 438)]
def M6:OF:=λp P=>tu [(s "makes" 813),(s "heap" 814),(s "value" 815),(s "kind" 816)]
def QK:OF:=λp P=>no (eB 0 0 "has_kind" "has_kind" (tf p 44))
noncomputable def M7:OF:=λp P=>co [(s "has_kind" 810),(s "has_kind" 811),(s cF 812),(i 300),(i 4),(i 0),(i 0),(i 3),(r 426),(.bool true),(i 181),(r 427),.none,(r 428),(r 429),(r 430),(i 817),(i 300),(s cF 818)]
def Na:OF:=λp P=>fo (fn "has_kind" "has_kind" (tf p 44) .none .none .none (s "stackwarden.values" 808) none (r 431) .none)
def Nb:OF:=λp P=>tu [(s "makes" 823),(s "record" 824),(s "kind" 825)]
def Ur:OF:=λp P=>no (eB 0 0 "record_has_kind" "record_has_kind" (tf p 45))
noncomputable def QL:OF:=λp P=>co [(s "record_has_kind" 820),(s "record_has_kind" 821),(s cF 822),(i 308),(i 3),(i 0),(i 0),(i 3),(r 433),(.bool true),(i 181),(r 434),.none,(r 435),(r 436),(r 437),(i 826),(i 308),(s cF 827)]
noncomputable def QM:OF:=λp P=>fo (fn "record_has_kind" "record_has_kind" (tf p 45) .none .none .none (s "stackwarden.values" 808) none (r 438) .none)
def abO:OF:=λp P=>di (de P "__name__" 165 (s "stackwarden.watched" 829)::dq9_ P) 46
noncomputable def abP:OF:=λp P=>nf [(i 1),(i 0),(r 20),(i 5),(i 0),(r 27),(i 7),(i 0),(r 40),(i 9),(i 0),(r 52),(i 12),(i 0),(r 64),(i 18),(i 0),(r 71),(i 23),(i 0),(r 78),(i 25),(i 0),(r 85),(i 30),(i 0),(r 92),(i 32),(i 0),(r 99),(i 44),(i 0),(r 106),(i 54),(i 0),(r 114),(i 59),(i 0),(r 119),(i 61),(i 0),(r 126),(i 70),(i 0),(r 178),(i 80),(i 0),(r 185),(i 91),(i 0),(r 192),(i 93),(i 0),(r 199),(i 100),(i 0),(r 206),(i 107),(i 0),(r 227),(i 109),(i 0),(r 232),(i 113),(i 0),(r 239),(i 121),(i 0),(r 246),(i 126),(i 0),(r 253),(i 300),(i 0),(r 431),(i 308),(i 0),(r 438),(i 313),(i 0),(r 445)]
noncomputable def QN:OF:=λp P=>⟨(.type "type"),none,(.cls {name:="Plain",bases:=[(.type "object")],mro:=[(r 421),(.type "object")],ns:=420,qualname:="Plain",subclasses:=[(r 498)]}),#[none,none,(some (s "Plain" 572)),(some (s "Plain" 580)),(some (.builtin "object.__new__")),(some (.bool true))]⟩
def QO:OF:=λp P=>tu [(r 421)]
noncomputable def Us:OF:=λp P=>di [de P "__module__" 838 (s "stackwarden.watched" 829),de P "__qualname__" 840 (s "Watched" 839),de P "__firstlineno__" 842 (.int 313 841),de P "nothing" 849 (r 453),de P "tagged" 858 (r 460),de P "bare" 866 (r 467),de P "new_record" 874 (r 474),de P "with_field" 884 (r 481),de P "as_begun" 892 (r 488),de P "looked" 905 (r 495),de P "__static_attributes__" 906 (r 496)] 11
noncomputable def Ut:OF:=λp P=>nf [(i 315),(i 4),(r 452),(i 318),(i 4),(r 459),(i 321),(i 4),(r 466),(i 324),(i 4),(r 473),(i 327),(i 4),(r 480),(i 330),(i 4),(r 487),(i 333),(i 4),(r 494)]
noncomputable def Uu:OF:=λp P=>co [(s "Watched" 833),(s "Watched" 834),(s cF 835),(i 313),(i 0),(i 0),(i 0),(i 0),(r 443),(.bool false),(i 181),(r 444),.none,.none,.none,.none,(i 836),(i 313),(s cF 837)]
def Uv:OF:=λp P=>fm [(some (r 445)),(some (r 3)),(some (r 442)),none,(some (s "stackwarden.watched" 829)),none,(some (r 0))]
def QP:OF:=λp P=>tu [(s "self" 846)]
def QQ:OF:=λp P=>no (eB 0 0 "nothing" "Watched.nothing" (iC (tf p 47) 0))
noncomputable def Nc:OF:=λp P=>co [(s "nothing" 843),(s "Watched.nothing" 844),(s cF 845),(i 315),(i 1),(i 0),(i 0),(i 3),(r 447),(.bool true),(i 181),(r 448),.none,(r 449),(r 450),(r 451),(i 847),(i 315),(s cF 848)]
noncomputable def Nd:OF:=λp P=>fo (fn "nothing" "Watched.nothing" (iC (tf p 47) 0) .none .none .none (s "stackwarden.watched" 829) none (r 452) .none)
def Nf:OF:=λp P=>tu [(s "self" 853),(s "tag" 854),(s "number" 855)]
def QR:OF:=λp P=>no (eB 0 0 "tagged" "Watched.tagged" (iC (tf p 47) 1))
noncomputable def Ng:OF:=λp P=>co [(s "tagged" 850),(s "Watched.tagged" 851),(s cF 852),(i 318),(i 3),(i 0),(i 0),(i 3),(r 454),(.bool true),(i 181),(r 455),.none,(r 456),(r 457),(r 458),(i 856),(i 318),(s cF 857)]
noncomputable def Nh:OF:=λp P=>fo (fn "tagged" "Watched.tagged" (iC (tf p 47) 1) .none .none .none (s "stackwarden.watched" 829) none (r 459) .none)
def Ni:OF:=λp P=>tu [(s "self" 862),(s "value" 863)]
def QS:OF:=λp P=>no (eB 0 0 "bare" "Watched.bare" (iC (tf p 47) 2))
noncomputable def Nj:OF:=λp P=>co [(s "bare" 859),(s "Watched.bare" 860),(s cF 861),(i 321),(i 2),(i 0),(i 0),(i 3),(r 461),(.bool true),(i 181),(r 462),.none,(r 463),(r 464),(r 465),(i 864),(i 321),(s cF 865)]
def Nk:OF:=λp P=>fo (fn "bare" "Watched.bare" (iC (tf p 47) 2) .none .none .none (s "stackwarden.watched" 829) none (r 466) .none)
def Nl:OF:=λp P=>tu [(s "self" 870),(s "c" 871)]
def QT:OF:=λp P=>no (eB 0 0 "new_record" "Watched.new_record" (iC (tf p 47) 3))
noncomputable def Nm:OF:=λp P=>co [(s "new_record" 867),(s "Watched.new_record" 868),(s cF 869),(i 324),(i 2),(i 0),(i 0),(i 3),(r 468),(.bool true),(i 181),(r 469),.none,(r 470),(r 471),(r 472),(i 872),(i 324),(s cF 873)]
noncomputable def QU:OF:=λp P=>fo (fn "new_record" "Watched.new_record" (iC (tf p 47) 3) .none .none .none (s "stackwarden.watched" 829) none (r 473) .none)
def QV:OF:=λp P=>tu [(s "self" 878),(s "record" 879),(s "f" 880),(s "value" 881)]
def Uw:OF:=λp P=>no (eB 0 0 "with_field" "Watched.with_field" (iC (tf p 47) 4))
noncomputable def QW:OF:=λp P=>co [(s "with_field" 875),(s "Watched.with_field" 876),(s cF 877),(i 327),(i 4),(i 0),(i 0),(i 3),(r 475),(.bool true),(i 181),(r 476),.none,(r 477),(r 478),(r 479),(i 882),(i 327),(s cF 883)]
noncomputable def QX:OF:=λp P=>fo (fn "with_field" "Watched.with_field" (iC (tf p 47) 4) .none .none .none (s "stackwarden.watched" 829) none (r 480) .none)
def QY:OF:=λp P=>tu [(s "self" 888),(s "record" 889)]
def Ux:OF:=λp P=>no (eB 0 0 "as_begun" "Watched.as_begun" (iC (tf p 47) 5))
noncomputable def QZ:OF:=λp P=>co [(s "as_begun" 885),(s "Watched.as_begun" 886),(s cF 887),(i 330),(i 2),(i 0),(i 0),(i 3),(r 482),(.bool true),(i 181),(r 483),.none,(r 484),(r 485),(r 486),(i 890),(i 330),(s cF 891)]
noncomputable def Q0:OF:=λp P=>fo (fn "as_begun" "Watched.as_begun" (iC (tf p 47) 5) .none .none .none (s "stackwarden.watched" 829) none (r 487) .none)
def Q3:OF:=λp P=>tu [(s "self" 896),(s "frame" 897),(s "row" 898),(s "wanted" 899),(s "under" 900),(s "value" 901),(s "kind" 902)]
def Uy:OF:=λp P=>no (eB 0 0 "looked" "Watched.looked" (iC (tf p 47) 6))
noncomputable def Q4:OF:=λp P=>co [(s "looked" 893),(s "Watched.looked" 894),(s cF 895),(i 333),(i 3),(i 0),(i 0),(i 3),(r 489),(.bool true),(i 181),(r 490),.none,(r 491),(r 492),(r 493),(i 903),(i 333),(s cF 904)]
noncomputable def Q5:OF:=λp P=>fo (fn "looked" "Watched.looked" (iC (tf p 47) 6) .none .none .none (s "stackwarden.watched" 829) none (r 494) .none)
noncomputable def Q6:OF:=λp P=>di [de P "__module__" 838 (s "stackwarden.watched" 829),de P "__firstlineno__" 842 (.int 313 841),de P "nothing" 849 (r 453),de P "tagged" 858 (r 460),de P "bare" 866 (r 467),de P "new_record" 874 (r 474),de P "with_field" 884 (r 481),de P "as_begun" 892 (r 488),de P "looked" 905 (r 495),de P "__static_attributes__" 906 (r 496),de P "__doc__" 907 .none] 2
noncomputable def Q7:OF:=λp P=>⟨(.type "type"),none,(.cls {name:="Watched",bases:=[(r 421)],mro:=[(r 498),(r 421),(.type "object")],ns:=497,qualname:="Watched"}),#[(some (r 440)),none,(some (s "Watched" 831)),(some (s "Watched" 839)),(some (.builtin "object.__new__")),(some (.bool true))]⟩
def Uz:OF:=λp P=>⟨(.type "super"),none,(.fields #[(r 498),(r 498),(r 498)]),#[]⟩
def UA:OF:=λp P=>⟨(.type "builtin_function_or_method"),none,(.fields #[(.builtin "object.__init_subclass__"),(r 498)]),#[]⟩
def abQ:OF:=λp P=>di (de P "__name__" 165 (s "law_stackwarden_k34_goings_on_and_budget" 939)::dq10_ P) 57
noncomputable def abR:OF:=λp P=>nf [(i 1),(i 0),(r 20),(i 5),(i 0),(r 27),(i 7),(i 0),(r 40),(i 9),(i 0),(r 52),(i 12),(i 0),(r 64),(i 18),(i 0),(r 71),(i 23),(i 0),(r 78),(i 25),(i 0),(r 85),(i 30),(i 0),(r 92),(i 32),(i 0),(r 99),(i 44),(i 0),(r 106),(i 54),(i 0),(r 114),(i 59),(i 0),(r 119),(i 61),(i 0),(r 126),(i 70),(i 0),(r 178),(i 80),(i 0),(r 185),(i 91),(i 0),(r 192),(i 93),(i 0),(r 199),(i 100),(i 0),(r 206),(i 107),(i 0),(r 227),(i 109),(i 0),(r 232),(i 113),(i 0),(r 239),(i 121),(i 0),(r 246),(i 126),(i 0),(r 253),(i 300),(i 0),(r 431),(i 308),(i 0),(r 438),(i 313),(i 0),(r 445),(i 345),(i 0),(r 506),(i 349),(i 0),(r 513),(i 351),(i 0),(r 520),(i 354),(i 0),(r 527),(i 361),(i 0),(r 534),(i 370),(i 0),(r 541),(i 372),(i 0),(r 548),(i 390),(i 0),(r 555),(i 401),(i 0),(r 562),(i 422),(i 0),(r 569),(i 428),(i 0),(r 576)]
def UB:OF:=λp P=>tu [(s "machine" 915)]
def W5:OF:=λp P=>no (eB 0 0 "finished" "finished" (tf p 49))
noncomputable def UC:OF:=λp P=>co [(s "finished" 912),(s "finished" 913),(s cF 914),(i 345),(i 1),(i 0),(i 0),(i 3),(r 501),(.bool true),(i 181),(r 502),.none,(r 503),(r 504),(r 505),(i 916),(i 345),(s cF 917)]
def UD:OF:=λp P=>fo (fn "finished" "finished" (tf p 49) .none .none .none (s "stackwarden.runs" 910) none (r 506) .none)
def UE:OF:=λp P=>tu [(s "book" 922),(s "part" 923),(s "inputs" 924),(s "budget" 925)]
def W6:OF:=λp P=>no (eB 0 0 "run" "run" (tf p 50))
noncomputable def UG:OF:=λp P=>co [(s "run" 919),(s "run" 920),(s cF 921),(i 349),(i 4),(i 0),(i 0),(i 3),(r 508),(.bool true),(i 181),(r 509),.none,(r 510),(r 511),(r 512),(i 926),(i 349),(s cF 927)]
def Q8:OF:=λp P=>fo (fn "run" "run" (tf p 50) .none .none .none (s "stackwarden.runs" 910) none (r 513) .none)
def Q9:OF:=λp P=>tu [(s "book" 932),(s "part" 933),(s "inputs" 934),(s "budget" 935)]
def UH:OF:=λp P=>no (eB 0 0 "run_watched" "run_watched" (tf p 51))
noncomputable def Ra:OF:=λp P=>co [(s "run_watched" 929),(s "run_watched" 930),(s cF 931),(i 351),(i 4),(i 0),(i 0),(i 3),(r 515),(.bool true),(i 181),(r 516),.none,(r 517),(r 518),(r 519),(i 936),(i 351),(s cF 937)]
def Rb:OF:=λp P=>fo (fn "run_watched" "run_watched" (tf p 51) .none .none .none (s "stackwarden.runs" 910) none (r 520) .none)
def Rc:OF:=λp P=>tu [(s "_law_script" 944),(s "_law_k" 945),(s "_law_far" 946),(s "_law_cell_here" 947)]
def UI:OF:=λp P=>no (eB 0 0 "_law_cell" "_law_cell" (tf p 53))
noncomputable def Rf:OF:=λp P=>co [(s "_law_cell" 941),(s "_law_cell" 942),(s cF 943),(i 354),(i 2),(i 0),(i 0),(i 3),(r 522),(.bool true),(i 181),(r 523),.none,(r 524),(r 525),(r 526),(i 948),(i 354),(s cF 949)]
noncomputable def Rg:OF:=λp P=>fo (fn "_law_cell" "_law_cell" (tf p 53) .none .none .none (s "law_stackwarden_k34_goings_on_and_budget" 939) none (r 527) .none)
def Rh:OF:=λp P=>tu [(s "_law_cell_here" 954),(s "_law_edge" 955)]
def UJ:OF:=λp P=>no (eB 0 0 "_law_word" "_law_word" (tf p 54))
noncomputable def Ri:OF:=λp P=>co [(s "_law_word" 951),(s "_law_word" 952),(s cF 953),(i 361),(i 1),(i 0),(i 0),(i 3),(r 529),(.bool true),(i 181),(r 530),.none,(r 531),(r 532),(r 533),(i 956),(i 361),(s cF 957)]
noncomputable def Rj:OF:=λp P=>fo (fn "_law_word" "_law_word" (tf p 54) .none .none .none (s "law_stackwarden_k34_goings_on_and_budget" 939) none (r 534) .none)
def UK:OF:=λp P=>tu [(s "_law_number" 962)]
def W7:OF:=λp P=>no (eB 0 0 "_law_wrapped" "_law_wrapped" (tf p 55))
noncomputable def UL:OF:=λp P=>co [(s "_law_wrapped" 959),(s "_law_wrapped" 960),(s cF 961),(i 370),(i 1),(i 0),(i 0),(i 3),(r 536),(.bool true),(i 181),(r 537),.none,(r 538),(r 539),(r 540),(i 963),(i 370),(s cF 964)]
noncomputable def UM:OF:=λp P=>fo (fn "_law_wrapped" "_law_wrapped" (tf p 55) .none .none .none (s "law_stackwarden_k34_goings_on_and_budget" 939) none (r 541) .none)
noncomputable def UN:OF:=λp P=>tu [(s "_law_cell_here" 969),(s "_law_other" 970),(s "_law_many" 971),(s "_law_box" 972),(s "_law_goal" 973),(s "_law_by" 974),(s "_law_sign" 975)]
def W8:OF:=λp P=>no (eB 0 0 "_law_block" "_law_block" (tf p 56))
noncomputable def UO:OF:=λp P=>co [(s "_law_block" 966),(s "_law_block" 967),(s cF 968),(i 372),(i 3),(i 0),(i 0),(i 3),(r 543),(.bool true),(i 181),(r 544),.none,(r 545),(r 546),(r 547),(i 976),(i 372),(s cF 977)]
noncomputable def UP:OF:=λp P=>fo (fn "_law_block" "_law_block" (tf p 56) .none .none .none (s "law_stackwarden_k34_goings_on_and_budget" 939) none (r 548) .none)
noncomputable def UQ:OF:=λp P=>tu [(s "_law_script" 982),(s "_law_at" 983),(s "_law_cells" 984),(s "_law_records" 985),(s "_law_blocks_here" 986),(s "_law_k" 987)]
def W9:OF:=λp P=>no (eB 0 0 "_law_blocks" "_law_blocks" (tf p 57))
noncomputable def UR:OF:=λp P=>co [(s "_law_blocks" 979),(s "_law_blocks" 980),(s cF 981),(i 390),(i 2),(i 0),(i 0),(i 3),(r 550),(.bool true),(i 181),(r 551),.none,(r 552),(r 553),(r 554),(i 988),(i 390),(s cF 989)]
noncomputable def US:OF:=λp P=>fo (fn "_law_blocks" "_law_blocks" (tf p 57) .none .none .none (s "law_stackwarden_k34_goings_on_and_budget" 939) none (r 555) .none)
noncomputable def UT:OF:=λp P=>tu [(s "_law_script" 994),(s "_law_at" 995),(s "_law_blocks_here" 996),(s "_law_starts" 997),(s "_law_droppers" 998),(s "_law_many" 999),(s "_law_block_here" 1000),(s "_law_rows" 1001),(s "_law_row" 1002)]
def Xa:OF:=λp P=>no (eB 0 0 "_law_code" "_law_code" (tf p 58))
noncomputable def UU:OF:=λp P=>co [(s "_law_code" 991),(s "_law_code" 992),(s cF 993),(i 401),(i 2),(i 0),(i 0),(i 3),(r 557),(.bool true),(i 181),(r 558),.none,(r 559),(r 560),(r 561),(i 1003),(i 401),(s cF 1004)]
noncomputable def UW:OF:=λp P=>fo (fn "_law_code" "_law_code" (tf p 58) .none .none .none (s "law_stackwarden_k34_goings_on_and_budget" 939) none (r 562) .none)
def UX:OF:=λp P=>tu [(s "_law_sign" 1009),(s "_law_one" 1010),(s "_law_other" 1011)]
def Xb:OF:=λp P=>no (eB 0 0 "_law_two" "_law_two" (tf p 59))
noncomputable def UY:OF:=λp P=>co [(s "_law_two" 1006),(s "_law_two" 1007),(s cF 1008),(i 422),(i 3),(i 0),(i 0),(i 3),(r 564),(.bool true),(i 181),(r 565),.none,(r 566),(r 567),(r 568),(i 1012),(i 422),(s cF 1013)]
noncomputable def UZ:OF:=λp P=>fo (fn "_law_two" "_law_two" (tf p 59) .none .none .none (s "law_stackwarden_k34_goings_on_and_budget" 939) none (r 569) .none)
def U0:OF:=λp P=>tu [(s "_law_elders" 1018),(s "_law_c" 1019),(s "_law_other" 1020)]
def Xc:OF:=λp P=>no (eB 0 0 "_law_under" "_law_under" (tf p 60))
noncomputable def U1:OF:=λp P=>co [(s "_law_under" 1015),(s "_law_under" 1016),(s cF 1017),(i 428),(i 3),(i 0),(i 0),(i 3),(r 571),(.bool true),(i 181),(r 572),.none,(r 573),(r 574),(r 575),(i 1021),(i 428),(s cF 1022)]
noncomputable def U4:OF:=λp P=>fo (fn "_law_under" "_law_under" (tf p 60) .none .none .none (s "law_stackwarden_k34_goings_on_and_budget" 939) none (r 576) .none)
def U5:OF:=λp P=>di (de P "__name__" 165 (s "law_stackwarden_k34_goings_on_and_budget" 939)::dq11_ P) 61
noncomputable def Xd:OF:=λp P=>nf [(i 1),(i 0),(r 20),(i 5),(i 0),(r 27),(i 7),(i 0),(r 40),(i 9),(i 0),(r 52),(i 12),(i 0),(r 64),(i 18),(i 0),(r 71),(i 23),(i 0),(r 78),(i 25),(i 0),(r 85),(i 30),(i 0),(r 92),(i 32),(i 0),(r 99),(i 44),(i 0),(r 106),(i 54),(i 0),(r 114),(i 59),(i 0),(r 119),(i 61),(i 0),(r 126),(i 70),(i 0),(r 178),(i 80),(i 0),(r 185),(i 91),(i 0),(r 192),(i 93),(i 0),(r 199),(i 100),(i 0),(r 206),(i 107),(i 0),(r 227),(i 109),(i 0),(r 232),(i 113),(i 0),(r 239),(i 121),(i 0),(r 246),(i 126),(i 0),(r 253),(i 300),(i 0),(r 431),(i 308),(i 0),(r 438),(i 313),(i 0),(r 445),(i 345),(i 0),(r 506),(i 349),(i 0),(r 513),(i 351),(i 0),(r 520),(i 354),(i 0),(r 527),(i 361),(i 0),(r 534),(i 370),(i 0),(r 541),(i 372),(i 0),(r 548),(i 390),(i 0),(r 555),(i 401),(i 0),(r 562),(i 422),(i 0),(r 569),(i 428),(i 0),(r 576),(i 432),(i 0),(r 583),(i 446),(i 0),(r 590),(i 465),(i 0),(r 595),(i 468),(i 0),(r 600)]
def U6:OF:=λp P=>tu [(s "_law_row" 1027),(s "_law_stack" 1028),(s "_law_boxes" 1029),(s "_law_said" 1030),(s "_law_other" 1031)]
def Xe:OF:=λp P=>no (eB 0 0 "_law_done" "_law_done" (tf p 61))
noncomputable def U7:OF:=λp P=>co [(s "_law_done" 1024),(s "_law_done" 1025),(s cF 1026),(i 432),(i 4),(i 0),(i 0),(i 3),(r 578),(.bool true),(i 181),(r 579),.none,(r 580),(r 581),(r 582),(i 1032),(i 432),(s cF 1033)]
noncomputable def U8:OF:=λp P=>fo (fn "_law_done" "_law_done" (tf p 61) .none .none .none (s "law_stackwarden_k34_goings_on_and_budget" 939) none (r 583) .none)
noncomputable def U9:OF:=λp P=>tu [(s "_law_rows" 1038),(s "_law_elders" 1039),(s "_law_inputs" 1040),(s "_law_budget" 1041),(s "_law_boxes" 1042),(s "_law_stack" 1043),(s "_law_said" 1044),(s "_law_at" 1045),(s "_law_row" 1046),(s "_law_goal" 1047)]
def Xf:OF:=λp P=>no (eB 0 0 "_law_walked" "_law_walked" (tf p 62))
noncomputable def Va:OF:=λp P=>co [(s "_law_walked" 1035),(s "_law_walked" 1036),(s cF 1037),(i 446),(i 4),(i 0),(i 0),(i 3),(r 585),(.bool true),(i 181),(r 586),.none,(r 587),(r 588),(r 589),(i 1048),(i 446),(s cF 1049)]
noncomputable def Vb:OF:=λp P=>fo (fn "_law_walked" "_law_walked" (tf p 62) .none .none .none (s "law_stackwarden_k34_goings_on_and_budget" 939) none (r 590) .none)
def Xg:OF:=λp P=>no (eB 0 0 "_law_book" "_law_book" (tf p 63))
noncomputable def Vc:OF:=λp P=>co [(s "_law_book" 1051),(s "_law_book" 1052),(s cF 1053),(i 465),(i 2),(i 0),(i 0),(i 3),(r 592),(.bool true),(i 181),(r 593),.none,.none,.none,(r 594),(i 1054),(i 465),(s cF 1055)]
noncomputable def Vd:OF:=λp P=>fo (fn "_law_book" "_law_book" (tf p 63) .none .none .none (s "law_stackwarden_k34_goings_on_and_budget" 939) none (r 595) .none)
def Xh:OF:=λp P=>no (eB 0 0 "law" "law" (tf p 64))
noncomputable def Ve:OF:=λp P=>co [(s "law" 1057),(s "law" 1058),(s cF 1059),(i 468),(i 1),(i 0),(i 0),(i 3),(r 597),(.bool true),(i 181),(r 598),.none,.none,.none,(r 599),(i 1060),(i 468),(s cF 1061)]
noncomputable def Vf:OF:=λp P=>fo (fn "law" "law" (tf p 64) .none .none .none (s "law_stackwarden_k34_goings_on_and_budget" 939) none (r 600) .none)
noncomputable def T0:TF:=(aa HN (aa HP (aa b3_ (af HV) (af o0)) (aa HS (af HY) (af o2))) (aa HQ (aa HR (af HW) (af o1)) (aa HU (af uP) (af o3))))
noncomputable def T1:TF:=(aa HN (aa HP (aa o4 (aa HV (aa o0 (af o16) aw) (af jc)) (aa o0 (af o7) (af HZ))) (aa HS (aa HY (aa o6 (af LQ) aw) (af o0)) (aa o2 (af o9) (af o0)))) (aa HQ (aa HR (aa HW (aa o1 (af JB) aw) (af DE)) (aa o5 (af o8) (af Ia))) (aa HU (aa uP (aa o0 (af JC) aw) (af o1)) (aa o3 (af GO) (af GP)))))
noncomputable def T2:TF:=(aa HN (aa HP (aa o20 (aa HV (aa o0 (af o22) aw) (aa jc (af o1) aw)) (aa o0 (aa o7 (af wW) aw) (aa HZ (af JD) aw))) (aa HS (aa HY (aa o6 (af LQ) aw) (aa o0 (af NG) aw)) (aa o2 (aa o9 (af LR) aw) (aa o0 (af JE) aw)))) (aa HQ (aa HR (aa HW (aa o1 (af JB) aw) (aa DE (af LS) aw)) (aa o21 (aa o8 (af jc) aw) (aa Ia (af Ib) aw))) (aa HU (aa uP (aa o0 (af JC) aw) (aa o1 (af o0) aw)) (aa o3 (aa GO (af o0) aw) (aa GP (af JF) aw)))))
noncomputable def T3:TF:=(aa HN (aa HP (aa o31 (aa HV (aa o0 (aa NH (af P0) aw) (aa wW (af L4) aw)) (aa jc (aa o1 (af LZ) aw) (af JG))) (aa o0 (aa o7 (aa wW (af o1) aw) (aa o1 (af o0) aw)) (aa HZ (aa JD (af NN) aw) (af o0)))) (aa HS (aa HY (aa o6 (aa LQ (af NL) aw) (aa LU (af o1) aw)) (aa o0 (aa NG (af o0) aw) (af NI))) (aa o2 (aa o9 (aa LR (af o0) aw) (aa LW (af L6) aw)) (aa o0 (aa JE (af NO) aw) (af NJ))))) (aa HQ (aa HR (aa HW (aa o1 (aa JB (af NK) aw) (aa jc (af o0) aw)) (aa DE (aa LS (af L0) aw) (af LX))) (aa o32 (aa o8 (aa jc (af LY) aw) (aa LV (af NP) aw)) (aa Ia (aa Ib (af o0) aw) (af o1)))) (aa HU (aa uP (aa o0 (aa JC (af o0) aw) (aa o0 (af L5) aw)) (aa o1 (aa o0 (af o1) aw) (af PZ))) (aa o3 (aa GO (aa o0 (af NM) aw) (aa o0 (af L7) aw)) (aa GP (aa JF (af L3) aw) (af o0))))))
noncomputable def T4:TF:=(aa HN (aa HP (aa o57 (aa HV (aa o0 (aa NH (aa P0 (af Qh) aw) (af o1)) (aa wW (af L4) (af o0))) (aa jc (aa o1 (af LZ) (af P9)) (aa JG (af o0) (af Qd)))) (aa o0 (aa o7 (aa wW (af o1) (af P7)) (aa o1 (af o0) (af NV))) (aa HZ (aa JD (af NN) (af Qb)) (aa o0 (af R3) (af Qf))))) (aa HS (aa HY (aa o6 (aa LQ (af NL) (af o0)) (aa LU (af o1) (af Qc))) (aa o0 (aa NG (af o0) (af Uq)) (aa NI (af NQ) (af o0)))) (aa o2 (aa o9 (aa LR (af o0) (af o0)) (aa LW (af L6) (af o1))) (aa o0 (aa JE (af NO) (af NS)) (aa NJ (af P2) (af R6)))))) (aa HQ (aa HR (aa HW (aa o1 (aa JB (af NK) (af P4)) (aa jc (af o0) (af o1))) (aa DE (aa LS (af L0) (af o0)) (aa LX (af o1) (af Qe)))) (aa o58 (aa o8 (aa jc (af LY) (af P8)) (aa LV (af NP) (af o0))) (aa Ia (aa Ib (af o0) (af NR)) (aa o1 (af P1) (af o0))))) (aa HU (aa uP (aa o0 (aa JC (af o0) (af R4)) (aa o0 (af L5) (af NU))) (aa o1 (aa o0 (af o1) (af Qa)) (aa PZ (af o0) (af o1)))) (aa o3 (aa GO (aa o0 (af NM) (af o1)) (aa o0 (af L7) (af R5))) (aa GP (aa JF (af L3) (af NT)) (aa o0 (af o0) (af Qg)))))))
noncomputable def u0:TF:=(aa JD (aa NN (af Sa) aw) (aa Qb (af Dn) aw))
noncomputable def u1:TF:=(aa NG (aa o0 (af R8) aw) (aa Uq (af Ff) aw))
noncomputable def u2:TF:=(aa o0 (aa o1 (af R9) aw) (aa Qa (af Dm) aw))
noncomputable def T5:TF:=(aa HN (aa HP (aa o84 (aa HV (aa o0 (aa NH (aa P0 (af Qh) aw) (aa o1 (af Df) aw)) (aa wW (aa L4 (af Qr) aw) (af o0))) (aa jc (aa o1 (aa LZ (af Qm) aw) (aa P9 (af Fe) aw)) (aa JG (aa o0 (af BC) aw) (af Qd)))) (aa o0 (aa o7 (aa wW (aa o1 (af Qi) aw) (aa P7 (af Di) aw)) (aa o1 (aa o0 (af By) aw) (af NV))) (aa HZ u0 (aa o0 (aa R3 (af C9) aw) (af Qf))))) (aa HS (aa HY (aa o6 (aa LQ (aa NL (af o0) aw) (aa o0 (af o0) aw)) (aa LU (aa o1 (af Bw) aw) (af Qc))) (aa o0 u1 (aa NI (aa NQ (af BE) aw) (af o0)))) (aa o2 (aa o9 (aa LR (aa o0 (af Qk) aw) (aa o0 (af Dk) aw)) (aa LW (aa L6 (af BA) aw) (af o1))) (aa o0 (aa JE (aa NO (af Qp) aw) (af NS)) (aa NJ (aa P2 (af Dd) aw) (af R6)))))) (aa HQ (aa HR (aa HW (aa o1 (aa JB (aa NK (af R7) aw) (aa P4 (af Dg) aw)) (aa jc (aa o0 (af Qs) aw) (af o1))) (aa DE (aa LS (aa L0 (af Qn) aw) (aa o0 (af Dl) aw)) (aa LX (aa o1 (af BD) aw) (af Qe)))) (aa o58 (aa o8 (aa jc (aa LY (af Qj) aw) (aa P8 (af Dj) aw)) (aa LV (aa NP (af Bz) aw) (af o0))) (aa Ia (aa Ib (aa o0 (af Qo) aw) (af NR)) (aa o1 (aa P1 (af Dc) aw) (af o0))))) (aa HU (aa uP (aa o0 (aa JC (aa o0 (af o0) aw) (aa R4 (af Dh) aw)) (aa o0 (aa L5 (af Bx) aw) (af NU))) (aa o1 u2 (aa PZ (aa o0 (af C8) aw) (af o1)))) (aa o3 (aa GO (aa o0 (aa NM (af Ql) aw) (aa o1 (af o0) aw)) (aa o0 (aa L7 (af BB) aw) (af R5))) (aa GP (aa JF (aa L3 (af Qq) aw) (af NT)) (aa o0 (aa o0 (af De) aw) (af Qg)))))))
noncomputable def T6:TF:=(aa HN (aa HP (aa abF (aa HV (aa o0 (aa NH (aa P0 (af Qh) (af Ie)) (aa o1 (af Df) aw)) (aa wW (aa L4 (af Qr) aw) (aa o0 (af Dq) aw))) (aa jc (aa o1 (aa LZ (af Qm) (af Du)) (aa P9 (af Fe) aw)) (aa JG (aa o0 (af BC) aw) (aa Qd (af o0) aw)))) (aa o0 (aa o7 (aa wW (aa o1 (af Qi) (af o1)) (aa P7 (af Di) aw)) (aa o1 (aa o0 (af By) aw) (aa NV (af Ds) aw))) (aa HZ u0 (aa o0 (aa R3 (af C9) aw) (aa Qf (af o0) aw))))) (aa HS (aa HY (aa o6 (aa LQ (aa NL (af o0) (af Fo)) (aa o0 (af o0) aw)) (aa LU (aa o1 (af Bw) aw) (aa Qc (af Fg) aw))) (aa o0 u1 (aa NI (aa NQ (af BE) aw) (aa o0 (af Fi) aw)))) (aa o2 (aa o9 (aa LR (aa o0 (af Qk) (af o0)) (aa o0 (af Dk) aw)) (aa LW (aa L6 (af BA) aw) (aa o1 (af o1) aw))) (aa o0 (aa JE (aa NO (af Qp) aw) (aa NS (af o0) aw)) (aa NJ (aa P2 (af Dd) aw) (aa R6 (af Fl) aw)))))) (aa HQ (aa HR (aa HW (aa o1 (aa JB (aa NK (af R7) (af Fn)) (aa P4 (af Dg) aw)) (aa jc (aa o0 (af Qs) aw) (aa o1 (af o0) aw))) (aa DE (aa LS (aa L0 (af Qn) (af Dv)) (aa o0 (af Dl) aw)) (aa LX (aa o1 (af BD) aw) (aa Qe (af Ic) aw)))) (aa abG (aa o8 (aa jc (aa LY (af Qj) (af Dt)) (aa P8 (af Dj) aw)) (aa LV (aa NP (af Bz) aw) (aa o0 (af o0) aw))) (aa Ia (aa Ib (aa o0 (af Qo) aw) (aa NR (af Dp) aw)) (aa o1 (aa P1 (af Dc) aw) (aa o0 (af o1) aw))))) (aa HU (aa uP (aa o0 (aa JC (aa o0 (af o0) (af o0)) (aa R4 (af Dh) aw)) (aa o0 (aa L5 (af Bx) aw) (aa NU (af Dr) aw))) (aa o1 u2 (aa PZ (aa o0 (af C8) aw) (aa o1 (af Fj) aw)))) (aa o3 (aa GO (aa o0 (aa NM (af Ql) (af Fp)) (aa o1 (af o0) aw)) (aa o0 (aa L7 (af BB) aw) (aa R5 (af Fh) aw))) (aa GP (aa JF (aa L3 (af Qq) aw) (aa NT (af o1) aw)) (aa o0 (aa o0 (af De) aw) (aa Qg (af o0) aw)))))))
noncomputable def T7:TF:=(aa HN (aa HP (aa abH (aa HV (aa o0 (aa NH (aa P0 (af Qh) (af Ie)) (aa o1 (af Df) (af o1))) (aa wW (aa L4 (af Qr) (af Ij)) (aa o0 (af Dq) (af Fy)))) (aa jc (aa o1 (aa LZ (af Qm) (af Du)) (aa P9 (af Fe) (af Mb))) (aa JG (aa o0 (af BC) (af Fu)) (aa Qd (af o0) (af Iz))))) (aa o0 (aa o7 (aa wW (aa o1 (af Qi) (af o1)) (aa P7 (af Di) (af Ip))) (aa o1 (aa o0 (af By) (af o0)) (aa NV (af Ds) (af FA)))) (aa HZ (aa JD (aa NN (af Sa) (af Ig)) (aa Qb (af Dn) (af o1))) (aa o0 (aa R3 (af C9) (af Im)) (aa Qf (af o0) aw))))) (aa HS (aa HY (aa o6 (aa LQ (aa NL (af o0) (af Fo)) (aa o0 (af o0) (af o0))) (aa LU (aa o1 (af Bw) (af o1)) (aa Qc (af Fg) (af o0)))) (aa o0 (aa NG (aa o0 (af R8) (af o0)) (aa Uq (af Ff) (af Iu))) (aa NI (aa NQ (af BE) (af Fw)) (aa o0 (af Fi) aw)))) (aa o2 (aa o9 (aa LR (aa o0 (af Qk) (af o0)) (aa o0 (af Dk) (af o0))) (aa LW (aa L6 (af BA) (af Fs)) (aa o1 (af o1) (af Md)))) (aa o0 (aa JE (aa NO (af Qp) (af Ih)) (aa NS (af o0) (af o0))) (aa NJ (aa P2 (af Dd) (af L9)) (aa R6 (af Fl) aw)))))) (aa HQ (aa HR (aa HW (aa o1 (aa JB (aa NK (af R7) (af Fn)) (aa P4 (af Dg) (af Io))) (aa jc (aa o0 (af Qs) (af o0)) (aa o1 (af o0) (af Fz)))) (aa DE (aa LS (aa L0 (af Qn) (af Dv)) (aa o0 (af Dl) (af Ir))) (aa LX (aa o1 (af BD) (af Fv)) (aa Qe (af Ic) aw)))) (aa abI (aa o8 (aa jc (aa LY (af Qj) (af Dt)) (aa P8 (af Dj) (af Iq))) (aa LV (aa NP (af Bz) (af Ik)) (aa o0 (af o0) (af o0)))) (aa Ia (aa Ib (aa o0 (af Qo) (af o0)) (aa NR (af Dp) (af Fx))) (aa o1 (aa P1 (af Dc) (af L8)) (aa o0 (af o1) aw))))) (aa HU (aa uP (aa o0 (aa JC (aa o0 (af o0) (af o0)) (aa R4 (af Dh) (af Ma))) (aa o0 (aa L5 (af Bx) (af Fq)) (aa NU (af Dr) (af o1)))) (aa o1 (aa o0 (aa o1 (af R9) (af jc)) (aa Qa (af Dm) (af o0))) (aa PZ (aa o0 (af C8) (af Il)) (aa o1 (af Fj) aw)))) (aa o3 (aa GO (aa o0 (aa NM (af Ql) (af Fp)) (aa o1 (af o0) (af o1))) (aa o0 (aa L7 (af BB) (af Ft)) (aa R5 (af Fh) (af Iy)))) (aa GP (aa JF (aa L3 (af Qq) (af Ii)) (aa NT (af o1) (af Iw))) (aa o0 (aa o0 (af De) (af o0)) (aa Qg (af o0) aw)))))))
noncomputable def u3:TF:=(aa P0 (aa Qh (af o0) (af MM)) (aa Ie (af Mu) aw))
noncomputable def u4:TF:=(aa o1 (aa Df (af Mj) (af o0)) (aa o1 (af MB) aw))
noncomputable def u5:TF:=(aa NH u3 u4)
noncomputable def u6:TF:=(aa L4 (aa Qr (af Mf) (af o1)) (aa Ij (af o0) aw))
noncomputable def u7:TF:=(aa LZ (aa Qm (af o0) (af o0)) (aa Du (af IW) aw))
noncomputable def u8:TF:=(aa P9 (aa Fe (af o0) (af MZ)) (aa Mb (af o0) aw))
noncomputable def u9:TF:=(aa o1 u7 u8)
noncomputable def u10:TF:=(aa o0 (aa BC (af IK) (af Jr)) (aa Fu (af o1) aw))
noncomputable def u11:TF:=(aa o1 (aa Qi (af IC) (af o0)) (aa o1 (af IU) aw))
noncomputable def u12:TF:=(aa P7 (aa Di (af o0) (af MW)) (aa Ip (af MD) aw))
noncomputable def u13:TF:=(aa wW u11 u12)
noncomputable def u14:TF:=(aa o0 (aa By (af o1) (af Jp)) (aa o0 (af My) aw))
noncomputable def u15:TF:=(aa NN (aa Sa (af o0) (af MO)) (aa Ig (af o0) aw))
noncomputable def u16:TF:=(aa R3 (aa C9 (af Mh) (af MS)) (aa Im (af Mz) aw))
noncomputable def u17:TF:=(aa Qf (aa o0 (af o1) aw) (aa o0 (af MK) aw))
noncomputable def u18:TF:=(aa o0 u16 u17)
noncomputable def u19:TF:=(aa NL (aa o0 (af Qx) (af o1)) (aa Fo (af o0) aw))
noncomputable def u20:TF:=(aa o0 (aa o0 (af o1) (af MU)) (aa o0 (af QD) aw))
noncomputable def u21:TF:=(aa LQ u19 u20)
noncomputable def u22:TF:=(aa o1 (aa Bw (af II) (af o0)) (aa o1 (af I0) aw))
noncomputable def u23:TF:=(aa o0 (aa R8 (af IE) (af Jl)) (aa o0 (af o1) aw))
noncomputable def u24:TF:=(aa Uq (aa Ff (af Mo) (af QJ)) (aa Iu (af MF) aw))
noncomputable def u25:TF:=(aa NG u23 u24)
noncomputable def u26:TF:=(aa NQ (aa BE (af o0) (af MQ)) (aa Fw (af o0) aw))
noncomputable def u27:TF:=(aa o0 (aa Fi (af Ms) aw) (aa jc (af o0) aw))
noncomputable def u28:TF:=(aa NI u26 u27)
noncomputable def u29:TF:=(aa o0 u25 u28)
noncomputable def u30:TF:=(aa o0 (aa Qk (af o1) (af Jj)) (aa o0 (af Mw) aw))
noncomputable def u31:TF:=(aa o0 (aa Dk (af Mm) (af abL)) (aa o0 (af o1) aw))
noncomputable def u32:TF:=(aa LR u30 u31)
noncomputable def u33:TF:=(aa L6 (aa BA (af o0) (af o0)) (aa Fs (af Jb) aw))
noncomputable def u34:TF:=(aa NO (aa Qp (af IG) (af Jn)) (aa Ih (af IY) aw))
noncomputable def u35:TF:=(aa P2 (aa Dd (af Qy) (af o1)) (aa L9 (af o0) aw))
noncomputable def u36:TF:=(aa R6 (aa Fl (af o0) aw) (aa Qv (af QG) aw))
noncomputable def u37:TF:=(aa NJ u35 u36)
noncomputable def u38:TF:=(aa NK (aa R7 (af o1) (af o0)) (aa Fn (af Mv) aw))
noncomputable def u39:TF:=(aa P4 (aa Dg (af o0) (af QH)) (aa Io (af o0) aw))
noncomputable def u40:TF:=(aa JB u38 u39)
noncomputable def u41:TF:=(aa o0 (aa Qs (af IH) (af Jo)) (aa o0 (af o1) aw))
noncomputable def u42:TF:=(aa L0 (aa Qn (af Me) (af o1)) (aa Dv (af o0) aw))
noncomputable def u43:TF:=(aa o0 (aa Dl (af o1) (af QI)) (aa Ir (af QE) aw))
noncomputable def u44:TF:=(aa LS u42 u43)
noncomputable def u45:TF:=(aa o1 (aa BD (af IL) (af o0)) (aa Fv (af Jc) aw))
noncomputable def u46:TF:=(aa Qe (aa Ic (af Mr) aw) (aa o0 (af MJ) aw))
noncomputable def u47:TF:=(aa LX u45 u46)
noncomputable def u48:TF:=(aa DE u44 u47)
noncomputable def u49:TF:=(aa LY (aa Qj (af o0) (af MN)) (aa Dt (af o0) aw))
noncomputable def u50:TF:=(aa P8 (aa Dj (af Qz) (af MX)) (aa Iq (af o0) aw))
noncomputable def u51:TF:=(aa jc u49 u50)
noncomputable def u52:TF:=(aa NP (aa Bz (af IJ) (af Jq)) (aa Ik (af Ja) aw))
noncomputable def u53:TF:=(aa o0 (aa Qo (af o1) (af Jm)) (aa o0 (af Mx) aw))
noncomputable def u54:TF:=(aa P1 (aa Dc (af o0) (af o0)) (aa L8 (af MA) aw))
noncomputable def u55:TF:=(aa o0 (aa o1 (af Mt) aw) (aa Qu (af o0) aw))
noncomputable def u56:TF:=(aa o1 u54 u55)
noncomputable def u57:TF:=(aa o0 (aa o0 (af IA) (af Ji)) (aa o0 (af o1) aw))
noncomputable def u58:TF:=(aa R4 (aa Dh (af Ml) (af MV)) (aa Ma (af MC) aw))
noncomputable def u59:TF:=(aa JC u57 u58)
noncomputable def u60:TF:=(aa L5 (aa Bx (af o0) (af MP)) (aa Fq (af o0) aw))
noncomputable def u61:TF:=(aa o1 (aa R9 (af IF) (af o0)) (aa jc (af IX) aw))
noncomputable def u62:TF:=(aa o0 (aa C8 (af o1) (af MR)) (aa Il (af QC) aw))
noncomputable def u63:TF:=(aa o1 (aa Fj (af o0) aw) (aa Qt (af o1) aw))
noncomputable def u64:TF:=(aa PZ u62 u63)
noncomputable def u65:TF:=(aa NM (aa Ql (af ID) (af Jk)) (aa Fp (af IV) aw))
noncomputable def u66:TF:=(aa o1 (aa o0 (af Mn) (af MY)) (aa o1 (af ME) aw))
noncomputable def u67:TF:=(aa o0 u65 u66)
noncomputable def u68:TF:=(aa L7 (aa BB (af Mg) (af o1)) (aa Ft (af o0) aw))
noncomputable def u69:TF:=(aa L3 (aa Qq (af o0) (af o0)) (aa Ii (af IZ) aw))
noncomputable def u70:TF:=(aa o0 (aa De (af Mi) (af MT)) (aa o0 (af o1) aw))
noncomputable def u71:TF:=(aa Qg (aa o0 (af QB) aw) (aa Qw (af ML) aw))
noncomputable def u72:TF:=(aa o0 u70 u71)
noncomputable def T8:TF:=(aa HN (aa HP (aa abJ (aa HV (aa o0 u5 (aa wW u6 (aa o0 (aa Dq (af o1) aw) (aa Fy (af MG) aw)))) (aa jc u9 (aa JG u10 (aa Qd (aa o0 (af QA) aw) (aa Iz (af MI) aw))))) (aa o0 (aa o7 u13 (aa o1 u14 (aa NV (aa Ds (af IS) aw) (aa FA (af o1) aw)))) (aa HZ (aa JD u15 (aa Qb (aa Dn (af Mp) aw) (aa o1 (af o0) aw))) u18))) (aa HS (aa HY (aa o6 u21 (aa LU u22 (aa Qc (aa Fg (af o0) aw) (aa o0 (af Jg) aw)))) u29) (aa o2 (aa o9 u32 (aa LW u33 (aa o1 (aa o1 (af o0) aw) (aa Md (af o0) aw)))) (aa o0 (aa JE u34 (aa NS (aa o0 (af IP) aw) (aa o0 (af Je) aw))) u37)))) (aa HQ (aa HR (aa HW (aa o1 u40 (aa jc u41 (aa o1 (aa o0 (af IQ) aw) (aa Fz (af Jf) aw)))) u48) (aa abK (aa o8 u51 (aa LV u52 (aa o0 (aa o0 (af IT) aw) (aa o0 (af Jh) aw)))) (aa Ia (aa Ib u53 (aa NR (aa Dp (af IM) aw) (aa Fx (af o1) aw))) u56))) (aa HU (aa uP (aa o0 u59 (aa o0 u60 (aa NU (aa Dr (af Mq) aw) (aa o1 (af o0) aw)))) (aa o1 (aa o0 u61 (aa Qa (aa Dm (af o0) aw) (aa o0 (af Jd) aw))) u64)) (aa o3 (aa GO u67 (aa o0 u68 (aa R5 (aa Fh (af o1) aw) (aa Iy (af QF) aw)))) (aa GP (aa JF u69 (aa NT (aa o1 (af o0) aw) (aa Iw (af o0) aw))) u72)))))
noncomputable def u73:TF:=(aa Qd (aa o0 (af QA) (af QM)) (aa Iz (af MI) aw))
noncomputable def u74:TF:=(aa o1 (aa o1 (af o0) (af Ur)) (aa Md (af o0) aw))
noncomputable def u75:TF:=(aa R5 (aa Fh (af o1) (af QL)) (aa Iy (af QF) aw))
noncomputable def T9:TF:=(aa HN (aa HP (aa abM (aa HV (aa o0 u5 (aa wW u6 (aa o0 (aa Dq (af o1) (af M7)) (aa Fy (af MG) aw)))) (aa jc u9 (aa JG u10 u73))) (aa o0 (aa o7 u13 (aa o1 u14 (aa NV (aa Ds (af IS) (af Nb)) (aa FA (af o1) aw)))) (aa HZ (aa JD u15 (aa Qb (aa Dn (af Mp) (af o1)) (aa o1 (af o0) aw))) u18))) (aa HS (aa HY (aa o6 u21 (aa LU u22 (aa Qc (aa Fg (af o0) (af o0)) (aa o0 (af Jg) aw)))) u29) (aa o2 (aa o9 u32 (aa LW u33 u74)) (aa o0 (aa JE u34 (aa NS (aa o0 (af IP) (af o0)) (aa o0 (af Je) aw))) u37)))) (aa HQ (aa HR (aa HW (aa o1 u40 (aa jc u41 (aa o1 (aa o0 (af IQ) (af Na)) (aa Fz (af Jf) aw)))) u48) (aa abN (aa o8 u51 (aa LV u52 (aa o0 (aa o0 (af IT) (af o0)) (aa o0 (af Jh) aw)))) (aa Ia (aa Ib u53 (aa NR (aa Dp (af IM) (af M6)) (aa Fx (af o1) aw))) u56))) (aa HU (aa uP (aa o0 u59 (aa o0 u60 (aa NU (aa Dr (af Mq) (af o1)) (aa o1 (af o0) aw)))) (aa o1 (aa o0 u61 (aa Qa (aa Dm (af o0) (af o0)) (aa o0 (af Jd) aw))) u64)) (aa o3 (aa GO u67 (aa o0 u68 u75)) (aa GP (aa JF u69 (aa NT (aa o1 (af o0) (af QK)) (aa Iw (af o0) aw))) u72)))))
noncomputable def T10:TF:=(aa HN (aa HP (aa abO (aa HV (aa o0 (aa NH (aa P0 (aa Qh (af o0) (af MM)) (aa Ie (af Mu) (af o0))) (aa o1 (aa Df (af Mj) (af o0)) (aa o1 (af MB) (af Uw)))) (aa wW (aa L4 (aa Qr (af Mf) (af o1)) (aa Ij (af o0) (af Ni))) (aa o0 (aa Dq (af o1) (af M7)) (aa Fy (af MG) (af Q5))))) (aa jc (aa o1 (aa LZ (aa Qm (af o0) (af o0)) (aa Du (af IW) (af o1))) (aa P9 (aa Fe (af o0) (af MZ)) (aa Mb (af o0) (af QZ)))) (aa JG (aa o0 (aa BC (af IK) (af Jr)) (aa Fu (af o1) (af o0))) u73))) (aa o0 (aa o7 (aa wW (aa o1 (aa Qi (af IC) (af o0)) (aa o1 (af IU) (af QQ))) (aa P7 (aa Di (af o0) (af MW)) (aa Ip (af MD) (af o1)))) (aa o1 (aa o0 (aa By (af o1) (af Jp)) (aa o0 (af My) (af Nk))) (aa NV (aa Ds (af IS) (af Nb)) (aa FA (af o1) (af Uz))))) (aa HZ (aa JD (aa NN (aa Sa (af o0) (af MO)) (aa Ig (af o0) (af Ng))) (aa Qb (aa Dn (af Mp) (af o1)) (aa o1 (af o0) (af Q3)))) (aa o0 (aa R3 (aa C9 (af Mh) (af MS)) (aa Im (af Mz) (af o0))) (aa Qf (aa o0 (af o1) (af o0)) (aa o0 (af MK) aw)))))) (aa HS (aa HY (aa o6 (aa LQ (aa NL (aa o0 (af Qx) (af o1)) (aa Fo (af o0) (af QP))) (aa o0 (aa o0 (af o1) (af MU)) (aa o0 (af QD) (af QX)))) (aa LU (aa o1 (aa Bw (af II) (af o0)) (aa o1 (af I0) (af QS))) (aa Qc (aa Fg (af o0) (af o0)) (aa o0 (af Jg) (af Q6))))) (aa o0 (aa NG (aa o0 (aa R8 (af IE) (af Jl)) (aa o0 (af o1) (af o0))) (aa Uq (aa Ff (af Mo) (af QJ)) (aa Iu (af MF) (af o0)))) (aa NI (aa NQ (aa BE (af o0) (af MQ)) (aa Fw (af o0) (af Nm))) (aa o0 (aa Fi (af Ms) (af jc)) (aa jc (af o0) aw))))) (aa o2 (aa o9 (aa LR (aa o0 (aa Qk (af o1) (af Jj)) (aa o0 (af Mw) (af Nd))) (aa o0 (aa Dk (af Mm) (af QN)) (aa o0 (af o1) (af o0)))) (aa LW (aa L6 (aa BA (af o0) (af o0)) (aa Fs (af Jb) (af o1))) u74)) (aa o0 (aa JE (aa NO (aa Qp (af IG) (af Jn)) (aa Ih (af IY) (af o0))) (aa NS (aa o0 (af IP) (af o0)) (aa o0 (af Je) (af Uy)))) (aa NJ (aa P2 (aa Dd (af Qy) (af o1)) (aa L9 (af o0) (af QV))) (aa R6 (aa Fl (af o0) (af Uu)) (aa Qv (af QG) aw))))))) (aa HQ (aa HR (aa HW (aa o1 (aa JB (aa NK (aa R7 (af o1) (af o0)) (aa Fn (af Mv) (af o1))) (aa P4 (aa Dg (af o0) (af QH)) (aa Io (af o0) (af QW)))) (aa jc (aa o0 (aa Qs (af IH) (af Jo)) (aa o0 (af o1) (af o0))) (aa o1 (aa o0 (af IQ) (af Na)) (aa Fz (af Jf) (af o0))))) (aa DE (aa LS (aa L0 (aa Qn (af Me) (af o1)) (aa Dv (af o0) (af Nf))) (aa o0 (aa Dl (af o1) (af QI)) (aa Ir (af QE) (af Q0)))) (aa LX (aa o1 (aa BD (af IL) (af o0)) (aa Fv (af Jc) (af QT))) (aa Qe (aa Ic (af Mr) (af QO)) (aa o0 (af MJ) aw))))) (aa abP (aa o8 (aa jc (aa LY (aa Qj (af o0) (af MN)) (aa Dt (af o0) (af Nc))) (aa P8 (aa Dj (af Qz) (af MX)) (aa Iq (af o0) (af QY)))) (aa LV (aa NP (aa Bz (af IJ) (af Jq)) (aa Ik (af Ja) (af o0))) (aa o0 (aa o0 (af IT) (af o0)) (aa o0 (af Jh) (af UA))))) (aa Ia (aa Ib (aa o0 (aa Qo (af o1) (af Jm)) (aa o0 (af Mx) (af Nh))) (aa NR (aa Dp (af IM) (af M6)) (aa Fx (af o1) (af o0)))) (aa o1 (aa P1 (aa Dc (af o0) (af o0)) (aa L8 (af MA) (af o1))) (aa o0 (aa o1 (af Mt) (af Ut)) (aa Qu (af o0) aw)))))) (aa HU (aa uP (aa o0 (aa JC (aa o0 (aa o0 (af IA) (af Ji)) (aa o0 (af o1) (af o0))) (aa R4 (aa Dh (af Ml) (af MV)) (aa Ma (af MC) (af o0)))) (aa o0 (aa L5 (aa Bx (af o0) (af MP)) (aa Fq (af o0) (af Nj))) (aa NU (aa Dr (af Mq) (af o1)) (aa o1 (af o0) (af Q7))))) (aa o1 (aa o0 (aa o1 (aa R9 (af IF) (af o0)) (aa jc (af IX) (af QR))) (aa Qa (aa Dm (af o0) (af o0)) (aa o0 (af Jd) (af o1)))) (aa PZ (aa o0 (aa C8 (af o1) (af MR)) (aa Il (af QC) (af QU))) (aa o1 (aa Fj (af o0) (af Us)) (aa Qt (af o1) aw))))) (aa o3 (aa GO (aa o0 (aa NM (aa Ql (af ID) (af Jk)) (aa Fp (af IV) (af o0))) (aa o1 (aa o0 (af Mn) (af MY)) (aa o1 (af ME) (af Ux)))) (aa o0 (aa L7 (aa BB (af Mg) (af o1)) (aa Ft (af o0) (af Nl))) u75)) (aa GP (aa JF (aa L3 (aa Qq (af o0) (af o0)) (aa Ii (af IZ) (af o1))) (aa NT (aa o1 (af o0) (af QK)) (aa Iw (af o0) (af Q4)))) (aa o0 (aa o0 (aa De (af Mi) (af MT)) (aa o0 (af o1) (af o0))) (aa Qg (aa o0 (af QB) (af Uv)) (aa Qw (af ML) aw))))))))
noncomputable def u76:TF:=(aa P0 (aa Qh (aa o0 (af o0) aw) (af MM)) (aa Ie (aa Mu (af Xc) aw) (af o0)))
noncomputable def u77:TF:=(aa o1 (aa Df (aa Mj (af o0) aw) (af o0)) (aa o1 (af MB) (af Uw)))
noncomputable def u78:TF:=(aa NH u76 u77)
noncomputable def u79:TF:=(aa o0 (aa Dq (aa o1 (af UT) aw) (af M7)) (aa Fy (af MG) (af Q5)))
noncomputable def u80:TF:=(aa P9 (aa Fe (aa o0 (af o1) aw) (af MZ)) (aa Mb (af o0) (af QZ)))
noncomputable def u81:TF:=(aa Qd (aa o0 (aa QA (af o0) aw) (af QM)) (aa Iz (af MI) (af UB)))
noncomputable def u82:TF:=(aa P7 (aa Di (aa o0 (af W8) aw) (af MW)) (aa Ip (af MD) (af o1)))
noncomputable def u83:TF:=(aa NV (aa Ds (aa IS (af UW) aw) (af Nb)) (aa FA (af o1) (af Uz)))
noncomputable def u84:TF:=(aa Qb (aa Dn (aa Mp (af UR) aw) (af o1)) (aa o1 (af o0) (af Q3)))
noncomputable def u85:TF:=(aa R3 (aa C9 (aa Mh (af o0) aw) (af MS)) (aa Im (af Mz) (af o0)))
noncomputable def u86:TF:=(aa Qf (aa o0 (aa o1 (af o0) aw) (af o0)) (aa o0 (af MK) (af UD)))
noncomputable def u87:TF:=(aa o0 u85 u86)
noncomputable def u88:TF:=(aa NL (aa o0 (aa Qx (af UG) aw) (af o1)) (aa Fo (aa o0 (af U4) aw) (af QP)))
noncomputable def u89:TF:=(aa o0 (aa o0 (aa o1 (af UN) aw) (af MU)) (aa o0 (af QD) (af QX)))
noncomputable def u90:TF:=(aa LQ u88 u89)
noncomputable def u91:TF:=(aa Qc (aa Fg (aa o0 (af Xa) aw) (af o0)) (aa o0 (af Jg) (af Q6)))
noncomputable def u92:TF:=(aa Uq (aa Ff (aa Mo (af o0) aw) (af QJ)) (aa Iu (af MF) (af o0)))
noncomputable def u93:TF:=(aa o0 (aa Fi (aa Ms (af UY) aw) (af jc)) (aa jc (af o0) (af W5)))
noncomputable def u94:TF:=(aa o0 (aa Dk (aa Mm (af UP) aw) (af QN)) (aa o0 (af o1) (af o0)))
noncomputable def u95:TF:=(aa o1 (aa o1 (aa o0 (af o1) aw) (af Ur)) (aa Md (af o0) (af o0)))
noncomputable def u96:TF:=(aa NS (aa o0 (aa IP (af o0) aw) (af o0)) (aa o0 (af Je) (af Uy)))
noncomputable def u97:TF:=(aa P2 (aa Dd (aa Qy (af UL) aw) (af o1)) (aa L9 (af o0) (af QV)))
noncomputable def u98:TF:=(aa R6 (aa Fl (aa o0 (af U0) aw) (af Uu)) (aa Qv (af QG) (af o1)))
noncomputable def u99:TF:=(aa NJ u97 u98)
noncomputable def abS:TF:=(aa NK (aa R7 (aa o1 (af W6) aw) (af o0)) (aa Fn (aa Mv (af U1) aw) (af o1)))
noncomputable def abT:TF:=(aa P4 (aa Dg (aa o0 (af o1) aw) (af QH)) (aa Io (af o0) (af QW)))
noncomputable def Xi:TF:=(aa JB abS abT)
noncomputable def Xj:TF:=(aa o1 (aa o0 (aa IQ (af o0) aw) (af Na)) (aa Fz (af Jf) (af o0)))
noncomputable def Xk:TF:=(aa o0 (aa Dl (aa o1 (af UQ) aw) (af QI)) (aa Ir (af QE) (af Q0)))
noncomputable def Xl:TF:=(aa Qe (aa Ic (aa Mr (af Xb) aw) (af QO)) (aa o0 (af MJ) (af o0)))
noncomputable def Xm:TF:=(aa P8 (aa Dj (aa Qz (af UO) aw) (af MX)) (aa Iq (af o0) (af QY)))
noncomputable def Xn:TF:=(aa o0 (aa o0 (aa IT (af o0) aw) (af o0)) (aa o0 (af Jh) (af UA)))
noncomputable def Xo:TF:=(aa NR (aa Dp (aa IM (af US) aw) (af M6)) (aa Fx (af o1) (af o0)))
noncomputable def abU:TF:=(aa P1 (aa Dc (aa o0 (af W7) aw) (af o0)) (aa L8 (af MA) (af o1)))
noncomputable def abV:TF:=(aa o0 (aa o1 (aa Mt (af o1) aw) (af Ut)) (aa Qu (af o0) (af o0)))
noncomputable def Xp:TF:=(aa o1 abU abV)
noncomputable def Xq:TF:=(aa R4 (aa Dh (aa Ml (af o0) aw) (af MV)) (aa Ma (af MC) (af o0)))
noncomputable def Xr:TF:=(aa NU (aa Dr (aa Mq (af UU) aw) (af o1)) (aa o1 (af o0) (af Q7)))
noncomputable def Xs:TF:=(aa Qa (aa Dm (aa o0 (af W9) aw) (af o0)) (aa o0 (af Jd) (af o1)))
noncomputable def abW:TF:=(aa o0 (aa C8 (aa o1 (af UK) aw) (af MR)) (aa Il (af QC) (af QU)))
noncomputable def abX:TF:=(aa o1 (aa Fj (aa o0 (af UZ) aw) (af Us)) (aa Qt (af o1) (af UC)))
noncomputable def Xu:TF:=(aa PZ abW abX)
noncomputable def Xv:TF:=(aa o1 (aa o0 (aa Mn (af o0) aw) (af MY)) (aa o1 (af ME) (af Ux)))
noncomputable def Xw:TF:=(aa R5 (aa Fh (aa o1 (af UX) aw) (af QL)) (aa Iy (af QF) (af o1)))
noncomputable def Xx:TF:=(aa NT (aa o1 (aa o0 (af o1) aw) (af QK)) (aa Iw (af o0) (af Q4)))
noncomputable def abY:TF:=(aa o0 (aa De (aa Mi (af UM) aw) (af MT)) (aa o0 (af o1) (af o0)))
noncomputable def abZ:TF:=(aa Qg (aa o0 (aa QB (af o0) aw) (af Uv)) (aa Qw (af ML) (af UE)))
noncomputable def Xy:TF:=(aa o0 abY abZ)
noncomputable def T11:TF:=(aa HN (aa HP (aa abQ (aa HV (aa o0 u78 (aa wW (aa L4 (aa Qr (aa Mf (af Rf) aw) (af o1)) (aa Ij (af o0) (af Ni))) u79)) (aa jc (aa o1 (aa LZ (aa Qm (aa o0 (af UH) aw) (af o0)) (aa Du (af IW) (af o1))) u80) (aa JG (aa o0 (aa BC (aa IK (af Rj) aw) (af Jr)) (aa Fu (af o1) (af o0))) u81))) (aa o0 (aa o7 (aa wW (aa o1 (aa Qi (aa IC (af o0) aw) (af o0)) (aa o1 (af IU) (af QQ))) u82) (aa o1 (aa o0 (aa By (aa o1 (af Rh) aw) (af Jp)) (aa o0 (af My) (af Nk))) u83)) (aa HZ (aa JD (aa NN (aa Sa (aa o0 (af o1) aw) (af MO)) (aa Ig (af o0) (af Ng))) u84) u87))) (aa HS (aa HY (aa o6 u90 (aa LU (aa o1 (aa Bw (aa II (af o0) aw) (af o0)) (aa o1 (af I0) (af QS))) u91)) (aa o0 (aa NG (aa o0 (aa R8 (aa IE (af Rb) aw) (af Jl)) (aa o0 (af o1) (af o0))) u92) (aa NI (aa NQ (aa BE (aa o0 (af o1) aw) (af MQ)) (aa Fw (af o0) (af Nm))) u93))) (aa o2 (aa o9 (aa LR (aa o0 (aa Qk (aa o1 (af Q9) aw) (af Jj)) (aa o0 (af Mw) (af Nd))) u94) (aa LW (aa L6 (aa BA (aa o0 (af UJ) aw) (af o0)) (aa Fs (af Jb) (af o1))) u95)) (aa o0 (aa JE (aa NO (aa Qp (aa IG (af o0) aw) (af Jn)) (aa Ih (af IY) (af o0))) u96) u99)))) (aa HQ (aa HR (aa HW (aa o1 Xi (aa jc (aa o0 (aa Qs (aa IH (af Rg) aw) (af Jo)) (aa o0 (af o1) (af o0))) Xj)) (aa DE (aa LS (aa L0 (aa Qn (aa Me (af Ra) aw) (af o1)) (aa Dv (af o0) (af Nf))) Xk) (aa LX (aa o1 (aa BD (aa IL (af o0) aw) (af o0)) (aa Fv (af Jc) (af QT))) Xl))) (aa abR (aa o8 (aa jc (aa LY (aa Qj (aa o0 (af o1) aw) (af MN)) (aa Dt (af o0) (af Nc))) Xm) (aa LV (aa NP (aa Bz (aa IJ (af o0) aw) (af Jq)) (aa Ik (af Ja) (af o0))) Xn)) (aa Ia (aa Ib (aa o0 (aa Qo (aa o1 (af Rc) aw) (af Jm)) (aa o0 (af Mx) (af Nh))) Xo) Xp))) (aa HU (aa uP (aa o0 (aa JC (aa o0 (aa o0 (aa IA (af Q8) aw) (af Ji)) (aa o0 (af o1) (af o0))) Xq) (aa o0 (aa L5 (aa Bx (aa o0 (af o1) aw) (af MP)) (aa Fq (af o0) (af Nj))) Xr)) (aa o1 (aa o0 (aa o1 (aa R9 (aa IF (af o0) aw) (af o0)) (aa jc (af IX) (af QR))) Xs) Xu)) (aa o3 (aa GO (aa o0 (aa NM (aa Ql (aa ID (af o0) aw) (af Jk)) (aa Fp (af IV) (af o0))) Xv) (aa o0 (aa L7 (aa BB (aa Mg (af Ri) aw) (af o1)) (aa Ft (af o0) (af Nl))) Xw)) (aa GP (aa JF (aa L3 (aa Qq (aa o0 (af UI) aw) (af o0)) (aa Ii (af IZ) (af o1))) Xx) Xy)))))
noncomputable def T12:TF:=(aa HN (aa HP (aa U5 (aa HV (aa o0 u78 (aa wW (aa L4 (aa Qr (aa Mf (af Rf) aw) (af o1)) (aa Ij (aa o0 (af Vb) aw) (af Ni))) u79)) (aa jc (aa o1 (aa LZ (aa Qm (aa o0 (af UH) aw) (af o0)) (aa Du (aa IW (af U7) aw) (af o1))) u80) (aa JG (aa o0 (aa BC (aa IK (af Rj) aw) (af Jr)) (aa Fu (aa o1 (af Xh) aw) (af o0))) u81))) (aa o0 (aa o7 (aa wW (aa o1 (aa Qi (aa IC (af o0) aw) (af o0)) (aa o1 (aa IU (af o1) aw) (af QQ))) u82) (aa o1 (aa o0 (aa By (aa o1 (af Rh) aw) (af Jp)) (aa o0 (aa My (af Vc) aw) (af Nk))) u83)) (aa HZ (aa JD (aa NN (aa Sa (aa o0 (af o1) aw) (af MO)) (aa Ig (aa o0 (af U9) aw) (af Ng))) u84) u87))) (aa HS (aa HY (aa o6 u90 (aa LU (aa o1 (aa Bw (aa II (af o0) aw) (af o0)) (aa o1 (aa I0 (af o1) aw) (af QS))) u91)) (aa o0 (aa NG (aa o0 (aa R8 (aa IE (af Rb) aw) (af Jl)) (aa o0 (aa o1 (af o0) aw) (af o0))) u92) (aa NI (aa NQ (aa BE (aa o0 (af o1) aw) (af MQ)) (aa Fw (aa o0 (af Vf) aw) (af Nm))) u93))) (aa o2 (aa o9 (aa LR (aa o0 (aa Qk (aa o1 (af Q9) aw) (af Jj)) (aa o0 (aa Mw (af o0) aw) (af Nd))) u94) (aa LW (aa L6 (aa BA (aa o0 (af UJ) aw) (af o0)) (aa Fs (aa Jb (af o0) aw) (af o1))) u95)) (aa o0 (aa JE (aa NO (aa Qp (aa IG (af o0) aw) (af Jn)) (aa Ih (aa IY (af Xf) aw) (af o0))) u96) u99)))) (aa HQ (aa HR (aa HW (aa o1 Xi (aa jc (aa o0 (aa Qs (aa IH (af Rg) aw) (af Jo)) (aa o0 (aa o1 (af o0) aw) (af o0))) Xj)) (aa DE (aa LS (aa L0 (aa Qn (aa Me (af Ra) aw) (af o1)) (aa Dv (aa o0 (af U8) aw) (af Nf))) Xk) (aa LX (aa o1 (aa BD (aa IL (af o0) aw) (af o0)) (aa Fv (aa Jc (af Ve) aw) (af QT))) Xl))) (aa Xd (aa o8 (aa jc (aa LY (aa Qj (aa o0 (af o1) aw) (af MN)) (aa Dt (aa o0 (af U6) aw) (af Nc))) Xm) (aa LV (aa NP (aa Bz (aa IJ (af o0) aw) (af Jq)) (aa Ik (aa Ja (af Vd) aw) (af o0))) Xn)) (aa Ia (aa Ib (aa o0 (aa Qo (aa o1 (af Rc) aw) (af Jm)) (aa o0 (aa Mx (af o0) aw) (af Nh))) Xo) Xp))) (aa HU (aa uP (aa o0 (aa JC (aa o0 (aa o0 (aa IA (af Q8) aw) (af Ji)) (aa o0 (aa o1 (af o0) aw) (af o0))) Xq) (aa o0 (aa L5 (aa Bx (aa o0 (af o1) aw) (af MP)) (aa Fq (aa o0 (af Xg) aw) (af Nj))) Xr)) (aa o1 (aa o0 (aa o1 (aa R9 (aa IF (af o0) aw) (af o0)) (aa jc (aa IX (af o1) aw) (af QR))) Xs) Xu)) (aa o3 (aa GO (aa o0 (aa NM (aa Ql (aa ID (af o0) aw) (af Jk)) (aa Fp (aa IV (af Xe) aw) (af o0))) Xv) (aa o0 (aa L7 (aa BB (aa Mg (af Ri) aw) (af o1)) (aa Ft (aa o0 (af o1) aw) (af Nl))) Xw)) (aa GP (aa JF (aa L3 (aa Qq (aa o0 (af UI) aw) (af o0)) (aa Ii (aa IZ (af Va) aw) (af o1))) Xx) Xy)))))
noncomputable def HF(p:Program)(P:Params):Heap:=⟨Array.mk [boot_o_0 P,boot_o_1 P,boot_o_2 P,U5 p P,boot_o_4 P,boot_o_5 P,boot_o_6 P,boot_o_7 P,boot_o_8 P,boot_o_9 P,boot_o_10 P,o0 p P,Xd p P,o2 p P,o3 p P,o0 p P,o1 p P,o6 p P,o0 p P,o7 p P,o8 p P,o9 p P,GO p P,jc p P,DE p P,o0 p P,o1 p P,HZ p P,Ia p P,o0 p P,GP p P,NH p P,JB p P,LQ p P,JC p P,wW p P,jc p P,LR p P,o0 p P,o1 p P,LS p P,NG p P,o0 p P,JD p P,Ib p P,JE p P,JF p P,wW p P,jc p P,LU p P,o0 p P,o1 p P,LV p P,LW p P,o0 p P,JG p P,LX p P,NI p P,PZ p P,o0 p P,o1 p P,NJ p P,o0 p P,P0 p P,NK p P,NL p P,o0 p P,o1 p P,LY p P,o0 p P,NM p P,LZ p P,L0 p P,o0 p P,o1 p P,NN p P,o0 p P,NO p P,L3 p P,L4 p P,o0 p P,o1 p P,L5 p P,o0 p P,NP p P,L6 p P,L7 p P,o0 p P,o1 p P,NQ p P,o0 p P,R3 p P,P1 p P,P2 p P,o0 p P,o1 p P,P4 p P,o0 p P,R4 p P,P7 p P,P8 p P,o0 p P,o1 p P,P9 p P,o0 p P,Uq p P,Qa p P,Qb p P,NR p P,NS p P,NT p P,o0 p P,o1 p P,Qc p P,NU p P,NV p P,o0 p P,o1 p P,R5 p P,Qd p P,Qe p P,o0 p P,o1 p P,Qf p P,o0 p P,R6 p P,Qg p P,Qh p P,R7 p P,o0 p P,o0 p P,Qi p P,Qj p P,Qk p P,Ql p P,Qm p P,Qn p P,R8 p P,R9 p P,Sa p P,Qo p P,Qp p P,Qq p P,Qr p P,Qs p P,Bw p P,Bx p P,By p P,Bz p P,BA p P,BB p P,BC p P,BD p P,BE p P,C8 p P,C9 p P,Dc p P,Dd p P,De p P,Df p P,Dg p P,o0 p P,Dh p P,Di p P,Dj p P,Dk p P,o0 p P,Fe p P,Dl p P,Ff p P,Dm p P,Dn p P,Dp p P,o0 p P,o1 p P,Dq p P,o0 p P,Fg p P,Dr p P,Ds p P,o0 p P,o1 p P,Fh p P,o0 p P,Ic p P,Fi p P,Fj p P,o0 p P,o1 p P,Fl p P,o0 p P,Ie p P,Fn p P,Fo p P,o0 p P,o1 p P,Dt p P,o0 p P,Fp p P,Du p P,Dv p P,o0 p P,jc p P,Ig p P,o0 p P,Ih p P,Ii p P,Ij p P,o0 p P,o1 p P,Fq p P,o0 p P,Ik p P,Fs p P,Ft p P,Fu p P,Fv p P,Fw p P,Il p P,Im p P,L8 p P,L9 p P,o0 p P,o1 p P,Io p P,o0 p P,Ma p P,Ip p P,Iq p P,o0 p P,o1 p P,Mb p P,Ir p P,Iu p P,o0 p P,o1 p P,Fx p P,o0 p P,Iw p P,Fy p P,Fz p P,o0 p P,o1 p P,FA p P,o0 p P,Md p P,Iy p P,Iz p P,o0 p P,jc p P,Qt p P,o0 p P,Qu p P,Qv p P,Qw p P,o0 p P,o1 p P,Qx p P,IA p P,IC p P,o0 p P,o1 p P,ID p P,o0 p P,Me p P,IE p P,IF p P,o0 p P,o1 p P,IG p P,o0 p P,Mf p P,IH p P,II p P,o0 p P,o1 p P,IJ p P,o0 p P,Mg p P,IK p P,IL p P,o0 p P,o1 p P,Mh p P,o0 p P,Qy p P,Mi p P,Mj p P,o0 p P,o1 p P,Ml p P,o0 p P,Qz p P,Mm p P,Mn p P,o0 p P,o1 p P,Mo p P,o0 p P,Mp p P,IM p P,IP p P,o0 p P,o1 p P,IQ p P,o0 p P,Mq p P,IS p P,IT p P,o0 p P,o1 p P,QA p P,Mr p P,Ms p P,o0 p P,o1 p P,Mt p P,o0 p P,QB p P,Mu p P,Mv p P,o0 p P,o1 p P,IU p P,o0 p P,Mw p P,IV p P,IW p P,o0 p P,o1 p P,IX p P,o0 p P,Mx p P,IY p P,IZ p P,o0 p P,o1 p P,I0 p P,o0 p P,My p P,Ja p P,Jb p P,o0 p P,o1 p P,Jc p P,o0 p P,QC p P,Mz p P,MA p P,o0 p P,o1 p P,MB p P,o0 p P,QD p P,MC p P,MD p P,o0 p P,o1 p P,ME p P,o0 p P,QE p P,MF p P,Jd p P,o0 p P,o1 p P,Je p P,o0 p P,MG p P,Jf p P,Jg p P,o0 p P,o1 p P,Jh p P,o0 p P,QF p P,MI p P,MJ p P,o0 p P,o1 p P,MK p P,o0 p P,QG p P,ML p P,MM p P,o0 p P,o1 p P,Ji p P,o0 p P,MN p P,Jj p P,Jk p P,o0 p P,o1 p P,Jl p P,o0 p P,MO p P,Jm p P,Jn p P,o0 p P,o1 p P,Jo p P,o0 p P,MP p P,Jp p P,Jq p P,o0 p P,o1 p P,Jr p P,o0 p P,MQ p P,MR p P,MS p P,o0 p P,o1 p P,MT p P,o0 p P,QH p P,MU p P,MV p P,MW p P,MX p P,QN p P,MY p P,MZ p P,QI p P,QJ p P,o0 p P,o1 p P,M6 p P,o0 p P,QK p P,M7 p P,Na p P,o0 p P,o1 p P,Nb p P,o0 p P,Ur p P,QL p P,QM p P,QO p P,jc p P,Us p P,o0 p P,Ut p P,Uu p P,Uv p P,o0 p P,o1 p P,QP p P,o0 p P,QQ p P,Nc p P,Nd p P,o0 p P,o1 p P,Nf p P,o0 p P,QR p P,Ng p P,Nh p P,o0 p P,o1 p P,Ni p P,o0 p P,QS p P,Nj p P,Nk p P,o0 p P,o1 p P,Nl p P,o0 p P,QT p P,Nm p P,QU p P,o0 p P,o1 p P,QV p P,o0 p P,Uw p P,QW p P,QX p P,o0 p P,o1 p P,QY p P,o0 p P,Ux p P,QZ p P,Q0 p P,o0 p P,o1 p P,Q3 p P,o0 p P,Uy p P,Q4 p P,Q5 p P,o0 p P,Q6 p P,Q7 p P,Uz p P,UA p P,o0 p P,o1 p P,UB p P,o0 p P,W5 p P,UC p P,UD p P,o0 p P,o1 p P,UE p P,o0 p P,W6 p P,UG p P,Q8 p P,o0 p P,o1 p P,Q9 p P,o0 p P,UH p P,Ra p P,Rb p P,o0 p P,o1 p P,Rc p P,o0 p P,UI p P,Rf p P,Rg p P,o0 p P,o1 p P,Rh p P,o0 p P,UJ p P,Ri p P,Rj p P,o0 p P,o1 p P,UK p P,o0 p P,W7 p P,UL p P,UM p P,o0 p P,o1 p P,UN p P,o0 p P,W8 p P,UO p P,UP p P,o0 p P,o1 p P,UQ p P,o0 p P,W9 p P,UR p P,US p P,o0 p P,o1 p P,UT p P,o0 p P,Xa p P,UU p P,UW p P,o0 p P,o1 p P,UX p P,o0 p P,Xb p P,UY p P,UZ p P,o0 p P,o1 p P,U0 p P,o0 p P,Xc p P,U1 p P,U4 p P,o0 p P,o1 p P,U6 p P,o0 p P,Xe p P,U7 p P,U8 p P,o0 p P,o1 p P,U9 p P,o0 p P,Xf p P,Va p P,Vb p P,o0 p P,o1 p P,Xg p P,Vc p P,Vd p P,o0 p P,o1 p P,Xh p P,Ve p P,Vf p P],{}⟩
noncomputable def K(P:Params):PySem.W.Frag:=(nat_lit 2,boot_o_2 P)::(nat_lit 3,U5 pw P)::(nat_lit 15,o0 pw P)::(nat_lit 17,o6 pw P)::(nat_lit 18,o0 pw P)::(nat_lit 20,o8 pw P)::(nat_lit 21,o9 pw P)::(nat_lit 22,GO pw P)::(nat_lit 29,o0 pw P)::(nat_lit 30,GP pw P)::(nat_lit 31,NH pw P)::(nat_lit 32,JB pw P)::(nat_lit 35,wW pw P)::(nat_lit 42,o0 pw P)::(nat_lit 43,JD pw P)::(nat_lit 44,Ib pw P)::(nat_lit 47,wW pw P)::(nat_lit 54,o0 pw P)::(nat_lit 55,JG pw P)::(nat_lit 56,LX pw P)::(nat_lit 59,o0 pw P)::(nat_lit 61,NJ pw P)::(nat_lit 62,o0 pw P)::(nat_lit 64,NK pw P)::(nat_lit 65,NL pw P)::(nat_lit 66,o0 pw P)::(nat_lit 68,LY pw P)::(nat_lit 69,o0 pw P)::(nat_lit 71,LZ pw P)::(nat_lit 72,L0 pw P)::(nat_lit 73,o0 pw P)::(nat_lit 75,NN pw P)::(nat_lit 76,o0 pw P)::(nat_lit 78,L3 pw P)::(nat_lit 79,L4 pw P)::(nat_lit 80,o0 pw P)::(nat_lit 82,L5 pw P)::(nat_lit 83,o0 pw P)::(nat_lit 85,L6 pw P)::(nat_lit 86,L7 pw P)::(nat_lit 87,o0 pw P)::(nat_lit 89,NQ pw P)::(nat_lit 90,o0 pw P)::(nat_lit 92,P1 pw P)::(nat_lit 93,P2 pw P)::(nat_lit 94,o0 pw P)::(nat_lit 96,P4 pw P)::(nat_lit 97,o0 pw P)::(nat_lit 99,P7 pw P)::(nat_lit 100,P8 pw P)::(nat_lit 101,o0 pw P)::(nat_lit 103,P9 pw P)::(nat_lit 104,o0 pw P)::(nat_lit 106,Qa pw P)::(nat_lit 107,Qb pw P)::(nat_lit 108,NR pw P)::(nat_lit 109,NS pw P)::(nat_lit 110,NT pw P)::(nat_lit 111,o0 pw P)::(nat_lit 114,NU pw P)::(nat_lit 115,NV pw P)::(nat_lit 116,o0 pw P)::(nat_lit 119,Qd pw P)::(nat_lit 120,Qe pw P)::(nat_lit 121,o0 pw P)::(nat_lit 123,Qf pw P)::(nat_lit 124,o0 pw P)::(nat_lit 126,Qg pw P)::(nat_lit 127,Qh pw P)::(nat_lit 128,R7 pw P)::(nat_lit 129,o0 pw P)::(nat_lit 130,o0 pw P)::(nat_lit 131,Qi pw P)::(nat_lit 132,Qj pw P)::(nat_lit 133,Qk pw P)::(nat_lit 134,Ql pw P)::(nat_lit 135,Qm pw P)::(nat_lit 136,Qn pw P)::(nat_lit 137,R8 pw P)::(nat_lit 138,R9 pw P)::(nat_lit 139,Sa pw P)::(nat_lit 140,Qo pw P)::(nat_lit 141,Qp pw P)::(nat_lit 142,Qq pw P)::(nat_lit 143,Qr pw P)::(nat_lit 144,Qs pw P)::(nat_lit 145,Bw pw P)::(nat_lit 146,Bx pw P)::(nat_lit 147,By pw P)::(nat_lit 148,Bz pw P)::(nat_lit 149,BA pw P)::(nat_lit 150,BB pw P)::(nat_lit 151,BC pw P)::(nat_lit 152,BD pw P)::(nat_lit 153,BE pw P)::(nat_lit 154,C8 pw P)::(nat_lit 155,C9 pw P)::(nat_lit 156,Dc pw P)::(nat_lit 157,Dd pw P)::(nat_lit 158,De pw P)::(nat_lit 159,Df pw P)::(nat_lit 160,Dg pw P)::(nat_lit 161,o0 pw P)::(nat_lit 162,Dh pw P)::(nat_lit 163,Di pw P)::(nat_lit 164,Dj pw P)::(nat_lit 165,Dk pw P)::(nat_lit 166,o0 pw P)::(nat_lit 168,Dl pw P)::(nat_lit 169,Ff pw P)::(nat_lit 170,Dm pw P)::(nat_lit 171,Dn pw P)::(nat_lit 172,Dp pw P)::(nat_lit 173,o0 pw P)::(nat_lit 175,Dq pw P)::(nat_lit 176,o0 pw P)::(nat_lit 178,Dr pw P)::(nat_lit 179,Ds pw P)::(nat_lit 180,o0 pw P)::(nat_lit 182,Fh pw P)::(nat_lit 183,o0 pw P)::(nat_lit 185,Fi pw P)::(nat_lit 186,Fj pw P)::(nat_lit 187,o0 pw P)::(nat_lit 189,Fl pw P)::(nat_lit 190,o0 pw P)::(nat_lit 192,Fn pw P)::(nat_lit 193,Fo pw P)::(nat_lit 194,o0 pw P)::(nat_lit 196,Dt pw P)::(nat_lit 197,o0 pw P)::(nat_lit 199,Du pw P)::(nat_lit 200,Dv pw P)::(nat_lit 208,o0 pw P)::(nat_lit 210,Fq pw P)::(nat_lit 211,o0 pw P)::(nat_lit 213,Fs pw P)::(nat_lit 214,Ft pw P)::(nat_lit 215,Fu pw P)::(nat_lit 216,Fv pw P)::(nat_lit 217,Fw pw P)::(nat_lit 218,Il pw P)::(nat_lit 219,Im pw P)::(nat_lit 222,o0 pw P)::(nat_lit 224,Io pw P)::(nat_lit 225,o0 pw P)::(nat_lit 227,Ip pw P)::(nat_lit 228,Iq pw P)::(nat_lit 229,o0 pw P)::(nat_lit 232,Ir pw P)::(nat_lit 233,Iu pw P)::(nat_lit 234,o0 pw P)::(nat_lit 236,Fx pw P)::(nat_lit 237,o0 pw P)::(nat_lit 239,Fy pw P)::(nat_lit 240,Fz pw P)::(nat_lit 241,o0 pw P)::(nat_lit 243,FA pw P)::(nat_lit 244,o0 pw P)::(nat_lit 246,Iy pw P)::(nat_lit 247,Iz pw P)::(nat_lit 255,o0 pw P)::(nat_lit 258,IA pw P)::(nat_lit 259,IC pw P)::(nat_lit 260,o0 pw P)::(nat_lit 262,ID pw P)::(nat_lit 263,o0 pw P)::(nat_lit 265,IE pw P)::(nat_lit 266,IF pw P)::(nat_lit 267,o0 pw P)::(nat_lit 269,IG pw P)::(nat_lit 270,o0 pw P)::(nat_lit 272,IH pw P)::(nat_lit 273,II pw P)::(nat_lit 274,o0 pw P)::(nat_lit 276,IJ pw P)::(nat_lit 277,o0 pw P)::(nat_lit 279,IK pw P)::(nat_lit 280,IL pw P)::(nat_lit 281,o0 pw P)::(nat_lit 283,Mh pw P)::(nat_lit 284,o0 pw P)::(nat_lit 286,Mi pw P)::(nat_lit 287,Mj pw P)::(nat_lit 288,o0 pw P)::(nat_lit 290,Ml pw P)::(nat_lit 291,o0 pw P)::(nat_lit 293,Mm pw P)::(nat_lit 294,Mn pw P)::(nat_lit 295,o0 pw P)::(nat_lit 297,Mo pw P)::(nat_lit 298,o0 pw P)::(nat_lit 300,IM pw P)::(nat_lit 301,IP pw P)::(nat_lit 302,o0 pw P)::(nat_lit 304,IQ pw P)::(nat_lit 305,o0 pw P)::(nat_lit 307,IS pw P)::(nat_lit 308,IT pw P)::(nat_lit 309,o0 pw P)::(nat_lit 312,Mr pw P)::(nat_lit 313,Ms pw P)::(nat_lit 314,o0 pw P)::(nat_lit 316,Mt pw P)::(nat_lit 317,o0 pw P)::(nat_lit 319,Mu pw P)::(nat_lit 320,Mv pw P)::(nat_lit 321,o0 pw P)::(nat_lit 323,IU pw P)::(nat_lit 324,o0 pw P)::(nat_lit 326,IV pw P)::(nat_lit 327,IW pw P)::(nat_lit 328,o0 pw P)::(nat_lit 330,IX pw P)::(nat_lit 331,o0 pw P)::(nat_lit 333,IY pw P)::(nat_lit 334,IZ pw P)::(nat_lit 335,o0 pw P)::(nat_lit 337,I0 pw P)::(nat_lit 338,o0 pw P)::(nat_lit 340,Ja pw P)::(nat_lit 341,Jb pw P)::(nat_lit 342,o0 pw P)::(nat_lit 344,Jc pw P)::(nat_lit 345,o0 pw P)::(nat_lit 347,Mz pw P)::(nat_lit 348,MA pw P)::(nat_lit 349,o0 pw P)::(nat_lit 351,MB pw P)::(nat_lit 352,o0 pw P)::(nat_lit 354,MC pw P)::(nat_lit 355,MD pw P)::(nat_lit 356,o0 pw P)::(nat_lit 358,ME pw P)::(nat_lit 359,o0 pw P)::(nat_lit 361,MF pw P)::(nat_lit 362,Jd pw P)::(nat_lit 363,o0 pw P)::(nat_lit 365,Je pw P)::(nat_lit 366,o0 pw P)::(nat_lit 368,Jf pw P)::(nat_lit 369,Jg pw P)::(nat_lit 370,o0 pw P)::(nat_lit 372,Jh pw P)::(nat_lit 373,o0 pw P)::(nat_lit 375,MI pw P)::(nat_lit 376,MJ pw P)::(nat_lit 377,o0 pw P)::(nat_lit 379,MK pw P)::(nat_lit 380,o0 pw P)::(nat_lit 382,ML pw P)::(nat_lit 383,MM pw P)::(nat_lit 384,o0 pw P)::(nat_lit 386,Ji pw P)::(nat_lit 387,o0 pw P)::(nat_lit 389,Jj pw P)::(nat_lit 390,Jk pw P)::(nat_lit 391,o0 pw P)::(nat_lit 393,Jl pw P)::(nat_lit 394,o0 pw P)::(nat_lit 396,Jm pw P)::(nat_lit 397,Jn pw P)::(nat_lit 398,o0 pw P)::(nat_lit 400,Jo pw P)::(nat_lit 401,o0 pw P)::(nat_lit 403,Jp pw P)::(nat_lit 404,Jq pw P)::(nat_lit 405,o0 pw P)::(nat_lit 407,Jr pw P)::(nat_lit 408,o0 pw P)::(nat_lit 410,MR pw P)::(nat_lit 411,MS pw P)::(nat_lit 412,o0 pw P)::(nat_lit 414,MT pw P)::(nat_lit 415,o0 pw P)::(nat_lit 417,MU pw P)::(nat_lit 418,MV pw P)::(nat_lit 419,MW pw P)::(nat_lit 420,MX pw P)::(nat_lit 421,QN pw P)::(nat_lit 422,MY pw P)::(nat_lit 423,MZ pw P)::(nat_lit 426,o0 pw P)::(nat_lit 428,M6 pw P)::(nat_lit 429,o0 pw P)::(nat_lit 431,M7 pw P)::(nat_lit 432,Na pw P)::(nat_lit 433,o0 pw P)::(nat_lit 435,Nb pw P)::(nat_lit 436,o0 pw P)::(nat_lit 438,QL pw P)::(nat_lit 439,QM pw P)::(nat_lit 440,QO pw P)::(nat_lit 447,o0 pw P)::(nat_lit 449,QP pw P)::(nat_lit 450,o0 pw P)::(nat_lit 452,Nc pw P)::(nat_lit 453,Nd pw P)::(nat_lit 454,o0 pw P)::(nat_lit 456,Nf pw P)::(nat_lit 457,o0 pw P)::(nat_lit 459,Ng pw P)::(nat_lit 460,Nh pw P)::(nat_lit 461,o0 pw P)::(nat_lit 463,Ni pw P)::(nat_lit 464,o0 pw P)::(nat_lit 466,Nj pw P)::(nat_lit 467,Nk pw P)::(nat_lit 468,o0 pw P)::(nat_lit 470,Nl pw P)::(nat_lit 471,o0 pw P)::(nat_lit 473,Nm pw P)::(nat_lit 474,QU pw P)::(nat_lit 475,o0 pw P)::(nat_lit 477,QV pw P)::(nat_lit 478,o0 pw P)::(nat_lit 480,QW pw P)::(nat_lit 481,QX pw P)::(nat_lit 482,o0 pw P)::(nat_lit 484,QY pw P)::(nat_lit 485,o0 pw P)::(nat_lit 487,QZ pw P)::(nat_lit 488,Q0 pw P)::(nat_lit 489,o0 pw P)::(nat_lit 491,Q3 pw P)::(nat_lit 492,o0 pw P)::(nat_lit 494,Q4 pw P)::(nat_lit 495,Q5 pw P)::(nat_lit 496,o0 pw P)::(nat_lit 497,Q6 pw P)::(nat_lit 498,Q7 pw P)::(nat_lit 501,o0 pw P)::(nat_lit 503,UB pw P)::(nat_lit 504,o0 pw P)::(nat_lit 506,UC pw P)::(nat_lit 507,UD pw P)::(nat_lit 508,o0 pw P)::(nat_lit 510,UE pw P)::(nat_lit 511,o0 pw P)::(nat_lit 513,UG pw P)::(nat_lit 514,Q8 pw P)::(nat_lit 515,o0 pw P)::(nat_lit 517,Q9 pw P)::(nat_lit 518,o0 pw P)::(nat_lit 520,Ra pw P)::(nat_lit 521,Rb pw P)::(nat_lit 522,o0 pw P)::(nat_lit 524,Rc pw P)::(nat_lit 525,o0 pw P)::(nat_lit 527,Rf pw P)::(nat_lit 528,Rg pw P)::(nat_lit 529,o0 pw P)::(nat_lit 531,Rh pw P)::(nat_lit 532,o0 pw P)::(nat_lit 534,Ri pw P)::(nat_lit 535,Rj pw P)::(nat_lit 536,o0 pw P)::(nat_lit 538,UK pw P)::(nat_lit 539,o0 pw P)::(nat_lit 541,UL pw P)::(nat_lit 542,UM pw P)::(nat_lit 543,o0 pw P)::(nat_lit 545,UN pw P)::(nat_lit 546,o0 pw P)::(nat_lit 548,UO pw P)::(nat_lit 549,UP pw P)::(nat_lit 550,o0 pw P)::(nat_lit 552,UQ pw P)::(nat_lit 553,o0 pw P)::(nat_lit 555,UR pw P)::(nat_lit 556,US pw P)::(nat_lit 557,o0 pw P)::(nat_lit 559,UT pw P)::(nat_lit 560,o0 pw P)::(nat_lit 562,UU pw P)::(nat_lit 563,UW pw P)::(nat_lit 564,o0 pw P)::(nat_lit 566,UX pw P)::(nat_lit 567,o0 pw P)::(nat_lit 569,UY pw P)::(nat_lit 570,UZ pw P)::(nat_lit 571,o0 pw P)::(nat_lit 573,U0 pw P)::(nat_lit 574,o0 pw P)::(nat_lit 576,U1 pw P)::(nat_lit 577,U4 pw P)::(nat_lit 578,o0 pw P)::(nat_lit 580,U6 pw P)::(nat_lit 581,o0 pw P)::(nat_lit 583,U7 pw P)::(nat_lit 584,U8 pw P)::(nat_lit 585,o0 pw P)::(nat_lit 587,U9 pw P)::(nat_lit 588,o0 pw P)::(nat_lit 590,Va pw P)::(nat_lit 591,Vb pw P)::(nat_lit 592,o0 pw P)::(nat_lit 595,Vc pw P)::(nat_lit 596,Vd pw P)::(nat_lit 597,o0 pw P)::(nat_lit 600,Ve pw P)::(nat_lit 601,Vf pw P)::[]
abbrev Sb:List Addr:=[2,3,15,17,18,20,21,22,29,30,31,32,35,42,43,44,47,54,55,56,59,61,62,64,65,66,68,69,71,72,73,75,76,78,79,80,82,83,85,86,87,89,90,92,93,94,96,97,99,100,101,103,104,106,107,108,109,110,111,114,115,116,119,120,121,123,124,126,127,128,129,130,131,132,133,134,135,136,137,138,139,140,141,142,143,144,145,146,147,148,149,150,151,152,153,154,155,156,157,158,159,160,161,162,163,164,165,166,168,169,170,171,172,173,175,176,178,179,180,182,183,185,186,187,189,190,192,193,194,196,197,199,200,208,210,211,213,214,215,216,217,218,219,222,224,225,227,228,229,232,233,234,236,237,239,240,241,243,244,246,247,255,258,259,260,262,263,265,266,267,269,270,272,273,274,276,277,279,280,281,283,284,286,287,288,290,291,293,294,295,297,298,300,301,302,304,305,307,308,309,312,313,314,316,317,319,320,321,323,324,326,327,328,330,331,333,334,335,337,338,340,341,342,344,345,347,348,349,351,352,354,355,356,358,359,361,362,363,365,366,368,369,370,372,373,375,376,377,379,380,382,383,384,386,387,389,390,391,393,394,396,397,398,400,401,403,404,405,407,408,410,411,412,414,415,417,418,419,420,421,422,423,426,428,429,431,432,433,435,436,438,439,440,447,449,450,452,453,454,456,457,459,460,461,463,464,466,467,468,470,471,473,474,475,477,478,480,481,482,484,485,487,488,489,491,492,494,495,496,497,498,501,503,504,506,507,508,510,511,513,514,515,517,518,520,521,522,524,525,527,528,529,531,532,534,535,536,538,539,541,542,543,545,546,548,549,550,552,553,555,556,557,559,560,562,563,564,566,567,569,570,571,573,574,576,577,578,580,581,583,584,585,587,588,590,591,592,595,596,597,600,601]
theorem uQ:∀P,Sb=(K P).map (·.1):=λ_=>by kernel_rfl
abbrev hK:Hook:=kHook K Sb uQ
theorem ab0(w:World):(λos=>topGo treeTable pw w 11 (some (.ref 6)) 12 ⟨boot_heap w.params,Array.mk [],boot_drawn,boot_toks,os⟩ (topStub pw))=λos=>some (SH (H0 pw w.params) 187 os,(⟨denote treeTable (ba pw),ba pw,⟨0,0,0,0⟩,BF⟩:Thread)):=by
 walk_at "qk"
theorem Vg(w:World):(λos=>segRun treeTable pw w 11 (some (.ref 6)) 1 1 (SH (H0 pw w.params) 187 os) (blockOf (behindTheImports pw) (pd pw) (ba pw) ⟨0,0,0,0⟩ BF))=λos=>some (.next,(ST (T0 pw w.params) 15 187 os).abs,ba pw,⟨0,0,0,0⟩):=by
 walk_at "qk"
theorem ab1(w:World):(λos=>segRunT treeTable pw w 11 (some (.ref 6)) 1 225 (ST (T0 pw w.params) 15 187 os) (piecesOf (df pw 0 3) (pd pw) (ba pw) ⟨0,0,0,0⟩ BF))=λos=>some (.next,ST (T1 pw w.params) 35 214 os,ba pw,⟨5,0,6,8⟩):=by
 walk_at "qk"
theorem ab2(w:World):(λos=>segRunT treeTable pw w 11 (some (.ref 6)) 1 214 (ST (T1 pw w.params) 35 214 os) (piecesOf (df pw 3 1) (pd pw) (ba pw) ⟨5,0,6,8⟩ BF))=λos=>some (.next,ST (T2 pw w.params) 47 230 os,ba pw,⟨7,0,8,8⟩):=by
 walk_at "qk"
theorem ab3(w:World):(λos=>segRunT treeTable pw w 11 (some (.ref 6)) 1 374 (ST (T2 pw w.params) 47 230 os) (piecesOf (df pw 4 9) (pd pw) (ba pw) ⟨7,0,8,8⟩ BF))=λos=>some (.next,ST (T3 pw w.params) 87 290 os,ba pw,⟨29,0,29,4⟩):=by
 walk_at "qk"
theorem ab4(w:World):(λos=>segRunT treeTable pw w 11 (some (.ref 6)) 1 248 (ST (T3 pw w.params) 87 290 os) (piecesOf (df pw 13 12) (pd pw) (ba pw) ⟨29,0,29,4⟩ BF))=λos=>some (.next,ST (T4 pw w.params) 128 361 os,ba pw,⟨67,0,67,8⟩):=by
 walk_at "qk"
theorem ab5(w:World):(λos=>segRunT treeTable pw w 11 (some (.ref 6)) 1 404 (ST (T4 pw w.params) 128 361 os) (piecesOf (df pw 25 1) (pd pw) (ba pw) ⟨67,0,67,8⟩ BF))=λos=>some (.next,ST (T5 pw w.params) 172 424 os,ba pw,⟨68,0,68,6⟩):=by
 refine byRow2 "special-get-raises" (P:=λw=>(λos=>segRunT treeTable pw w 11 (some (.ref 6)) 1 404 (ST (T4 pw w.params) 128 361 os) (piecesOf (df pw 25 1) (pd pw) (ba pw) ⟨67,0,67,8⟩ BF))=λos=>some (.next,ST (T5 pw w.params) 172 424 os,ba pw,⟨68,0,68,6⟩)) (λw=>?_) (λw=>?_) w<;>(show _=_;walk_at "qk")
theorem ab6(w:World):(λos=>segRunT treeTable pw w 11 (some (.ref 6)) 1 305 (ST (T5 pw w.params) 172 424 os) (piecesOf (df pw 26 7) (pd pw) (ba pw) ⟨68,0,68,6⟩ BF))=λos=>some (.next,ST (T6 pw w.params) 201 497 os,ba pw,⟨99,0,99,11⟩):=by
 refine byRow2 "special-get-raises" (P:=λw=>(λos=>segRunT treeTable pw w 11 (some (.ref 6)) 1 305 (ST (T5 pw w.params) 172 424 os) (piecesOf (df pw 26 7) (pd pw) (ba pw) ⟨68,0,68,6⟩ BF))=λos=>some (.next,ST (T6 pw w.params) 201 497 os,ba pw,⟨99,0,99,11⟩)) (λw=>?_) (λw=>?_) w<;>(show _=_;walk_at "qk")
theorem ab7(w:World):(λos=>segRunT treeTable pw w 11 (some (.ref 6)) 1 383 (ST (T6 pw w.params) 201 497 os) (piecesOf (df pw 33 9) (pd pw) (ba pw) ⟨99,0,99,11⟩ BF))=λos=>some (.next,ST (T7 pw w.params) 248 572 os,ba pw,⟨125,0,125,8⟩):=by
 walk_at "qk"
theorem ab8(w:World):(λos=>segRunT treeTable pw w 11 (some (.ref 6)) 1 978 (ST (T7 pw w.params) 248 572 os) (piecesOf (df pw 42 1) (pd pw) (ba pw) ⟨125,0,125,8⟩ BF))=λos=>some (.next,ST (T8 pw w.params) 426 808 os,ba pw,⟨126,0,298,19⟩):=by
 walk_at "qk"
theorem ab9(w:World):(λos=>segRunT treeTable pw w 11 (some (.ref 6)) 1 82 (ST (T8 pw w.params) 426 808 os) (piecesOf (df pw 43 4) (pd pw) (ba pw) ⟨126,0,298,19⟩ BF))=λos=>some (.next,ST (T9 pw w.params) 440 831 os,ba pw,⟨312,0,312,8⟩):=by
 walk_at "qk"
theorem Xz(w:World):(λos=>segRunT treeTable pw w 11 (some (.ref 6)) 1 444 (ST (T9 pw w.params) 440 831 os) (piecesOf (df pw 47 1) (pd pw) (ba pw) ⟨312,0,312,8⟩ BF))=λos=>some (.next,ST (T10 pw w.params) 501 910 os,ba pw,⟨313,0,343,19⟩):=by
 walk_at "qk"
theorem XA(w:World):(λos=>segRunT treeTable pw w 11 (some (.ref 6)) 1 371 (ST (T10 pw w.params) 501 910 os) (piecesOf (df pw 48 13) (pd pw) (ba pw) ⟨313,0,343,19⟩ BF))=λos=>some (.next,ST (T11 pw w.params) 578 1024 os,ba pw,⟨428,0,431,29⟩):=by
 walk_at "qk"
theorem XB(w:World):(λos=>segRunT treeTable pw w 11 (some (.ref 6)) 1 124 (ST (T11 pw w.params) 578 1024 os) (piecesOf (df pw 61 4) (pd pw) (ba pw) ⟨428,0,431,29⟩ BF))=λos=>some (.next,ST (T12 pw w.params) 602 1063 os,ba pw,⟨468,0,489,122⟩):=by
 walk_at "qk"
theorem aca(w:World):(λos=>topRun treeTable pw w 11 (some (.ref 6)) 2 (ST (T12 pw w.params) 602 1063 os).abs ⟨doneF .next,ba pw,⟨468,0,489,122⟩,BF⟩)=λos=>some (SH (HF pw w.params) 1063 os):=by
 walk_at "qk"
theorem XC:behindTheImports pw=df pw 0 3++(df pw 3 1++(df pw 4 9++(df pw 13 12++(df pw 25 1++(df pw 26 7++(df pw 33 9++(df pw 42 1++(df pw 43 4++(df pw 47 1++(df pw 48 13++(df pw 61 4++([])))))))))))):=by
 kernel_rfl
theorem acb(w:World)(os:OsState):topRun treeTable pw w 11 (some (.ref 6)) (12 + (1 + (225 + (214 + (374 + (248 + (404 + (305 + (383 + (978 + (82 + (444 + (371 + (124 + 2)))))))))))))) ⟨boot_heap w.params,Array.mk [],boot_drawn,boot_toks,os⟩ (topStub pw)=some (SH (HF pw w.params) 1063 os):=by
 have k:topRun treeTable pw w 11 (some (.ref 6)) (225 + (214 + (374 + (248 + (404 + (305 + (383 + (978 + (82 + (444 + (371 + (124 + 2)))))))))))) (ST (T0 pw w.params) 15 187 os).abs (restOf (df pw 0 3++(df pw 3 1++(df pw 4 9++(df pw 13 12++(df pw 25 1++(df pw 26 7++(df pw 33 9++(df pw 42 1++(df pw 43 4++(df pw 47 1++(df pw 48 13++(df pw 61 4++([]))))))))))))) (pd pw) (ba pw) ⟨0,0,0,0⟩ BF)=some (SH (HF pw w.params) 1063 os):=piece_app (segRun_of (congrFun (ab1 w) os)) (piece_app (segRun_of (congrFun (ab2 w) os)) (piece_app (segRun_of (congrFun (ab3 w) os)) (piece_app (segRun_of (congrFun (ab4 w) os)) (piece_app (segRun_of (congrFun (ab5 w) os)) (piece_app (segRun_of (congrFun (ab6 w) os)) (piece_app (segRun_of (congrFun (ab7 w) os)) (piece_app (segRun_of (congrFun (ab8 w) os)) (piece_app (segRun_of (congrFun (ab9 w) os)) (piece_app (segRun_of (congrFun (Xz w) os)) (piece_app (segRun_of (congrFun (XA w) os)) (piece_app (segRun_of (congrFun (XB w) os)) (congrFun (aca w) os))))))))))))
 rw[← XC]at k
 exact go_top (congrFun (ab0 w) os) (piece_block (congrFun (Vg w) os) k)
theorem l0(w:World):(λos=>staticsOk (importedModules pw.main.body) (boot_heap w.params) (HF pw w.params)&&namesBound pw (HF pw w.params)&&gensDone (SH (HF pw w.params) 1063 os)&&laidKept (boot_heap w.params) (HF pw w.params))=λ_=>true:=by
 walk_at "qk"
theorem l1(w:World):(λos=>PyProof.Rows.seen ((PyProof.Rows.recsOf (cI pw)).map (·.name)) (PyProof.Rows.ownsOf (cI pw)) [] {(SH (HF pw w.params) 1063 os)with gens:=#[]})=λ_=>PyProof.Rows.expectedOf (cI pw):=by
 walk_at "qk"
theorem l2(w:World):(λos=>(SH (HF pw w.params) 1063 os).heap.bltView)=λ_=>bltViewBooted:=by
 walk_at "qk"
theorem l3(w:World):(λos=>(SH (HF pw w.params) 1063 os).heap.keysOk (looseW (cI pw) ["ALWAYS","LEFT"]) ((PyProof.Rows.recsOf (cI pw)).map (·.name)) ((PyProof.Rows.litsOf (cI pw)).map (·.1)) ((PyProof.Rows.clssOf (cI pw) (looseW (cI pw) ["ALWAYS","LEFT"])).map (·.name))&&(SH (HF pw w.params) 1063 os).heap.accountedOkI (importedModules pw.main.body)&&(SH (HF pw w.params) 1063 os).heap.isNs mainGlobals&&(SH (HF pw w.params) 1063 os).heap.isNs builtinsNs&&PyProof.Rows.tablesOk (cI pw) (SH (HF pw w.params) 1063 os).heap&&(λs=>xlAt (cI pw) [] s&&recOk (RowW.records (OpenRow.toRowW PySem.Challenge.rw_stackwarden_k34_goings_on_and_budget.row)) s) (SH (HF pw w.params) 1063 os)&&(if true then(SH (HF pw w.params) 1063 os).gens.size == 0 else !leftWithCleanup (SH (HF pw w.params) 1063 os).gens))=λ_=>true:=by
 walk_at "qk"
theorem l4(w:World):(λos=>PyProof.Rows.tabsOk (cI pw) (SH (HF pw w.params) 1063 os))=λ_=>true:=by
 walk_at "qk"
theorem l5(w:World):(λos=>pinSeenD (cI pw) (PyProof.Rows.drecsOf (cI pw)) (SH (HF pw w.params) 1063 os))=λ_=>pinGoodD (PyProof.Rows.drecsOf (cI pw)):=by
 walk_at "qk"
theorem l6(w:World):(λos=>PyProof.Rows.plainSeenE (cI pw) (looseW (cI pw) ["ALWAYS","LEFT"]) (SH (HF pw w.params) 1063 os))=λ_=>PyProof.Rows.plainGoodE (cI pw) (looseW (cI pw) ["ALWAYS","LEFT"]):=by
 walk_at "qk"
theorem l7(w:World):(λos=>PyProof.Rows.plainSeenD (cI pw) ["ALWAYS","LEFT"] (SH (HF pw w.params) 1063 os))=λ_=>PyProof.Rows.plainGoodD (cI pw) ["ALWAYS","LEFT"]:=by
 walk_at "qk"
theorem l8(w:World):(λos=>wideSeen (cI pw) (SH (HF pw w.params) 1063 os))=λ_=>wideGood (cI pw):=by
 walk_at "qk"
theorem l9(w:World):(λos=>clsSeenW (cI pw) ["ALWAYS","LEFT"] (SH (HF pw w.params) 1063 os))=λ_=>clsGoodW (cI pw) ["ALWAYS","LEFT"]:=by
 walk_at "qk"
theorem lY(w:World):(λos=>hK.obs (SH (HF pw w.params) 1063 os))=λ_=>hK.val w:=by
 show(λos=>Sb.map (SH (HF pw w.params) 1063 os).heap.get?)=λ_=>(K w.params).map λp=>some p.2
 unfold K
 walk_at "qk"
theorem hl:LeftO pw (cI pw) ["ALWAYS","LEFT"] (λs=>xlAt (cI pw) [] s&&recOk (RowW.records (OpenRow.toRowW PySem.Challenge.rw_stackwarden_k34_goings_on_and_budget.row)) s) hK.obs hK.val 8406:=by
 refine LeftO.of_pieces (m₀:=11) (ann:=(some (.ref 6))) (M:=(12 + (1 + (225 + (214 + (374 + (248 + (404 + (305 + (383 + (978 + (82 + (444 + (371 + (124 + 2))))))))))))))) (boot_open (by kernel_rfl) (by decide) (λs=>by kernel_rfl)) (λw=>?_) acb (by decide) (λw=>?_)
 ·walk_at "qk"
 ·funext os
  exact looks_pair (congrFun (l0 w) os) (looks_pair (looks_pair (congrFun (l1 w) os) (looks_pair (congrFun (l2 w) os) (looks_pair (congrFun (l3 w) os) (looks_pair (congrFun (l4 w) os) (looks_pair (congrFun (l5 w) os) (looks_pair (congrFun (l6 w) os) (looks_pair (congrFun (l7 w) os) (looks_pair (congrFun (l8 w) os) (congrFun (l9 w) os))))))))) (congrFun (lY w) os))
end MH
end
open PySem PySem.W PyProof.Rows
local macro_rules | `(tactic| walk_at "dk") => `(tactic| (refine' ⟨_, _, ?w, L2.Ea ?x ?y ?z⟩; (case w => k_is); (case x => k_is); (case y => k_is); (case z => k_is)))
local macro_rules | `(tactic| walk_at "mk") => `(tactic| (refine' ⟨⟨_, L2.Ea ?x ?y ?z⟩, ?w⟩; (case x => k_is); (case y => k_is); (case z => k_is); (case w => k_is)))
set_option maxRecDepth 100000 in
set_option maxHeartbeats 0 in
theorem PySem.Challenge.cw_stackwarden_k34_goings_on_and_budget_holds : PySem.Challenge.rw_stackwarden_k34_goings_on_and_budget.Holds := by
  w_on; o_law
  refine PySem.W.holds_open (q := (MH.cI PySem.Challenge.pw_stackwarden_k34_goings_on_and_budget)) (loose := ["ALWAYS", "LEFT"]) (Xt := (fun s => xlAt (MH.cI PySem.Challenge.pw_stackwarden_k34_goings_on_and_budget) [] s && recOk (RowW.records (OpenRow.toRowW PySem.Challenge.rw_stackwarden_k34_goings_on_and_budget.row)) s)) (XP := XL (MH.cI PySem.Challenge.pw_stackwarden_k34_goings_on_and_budget) []) (Yf := Hook.obs (kHook MH.K MH.Sb MH.uQ)) (Ya := Hook.val (kHook MH.K MH.Sb MH.uQ)) (YP := Hook.says (kHook MH.K MH.Sb MH.uQ)) (N := 8406) MH.hl (Hook.of (kHook MH.K MH.Sb MH.uQ)) (Hook.keeps (kHook MH.K MH.Sb MH.uQ)) (fun s e => xl_of s (Bool.and_eq_true_iff.mp e).1) XL.keeps (by rfl) (by rfl) (by rfl) (fun s e => recFacts_of (Bool.and_eq_true_iff.mp e).2) (by rfl) (by first | assumption | decide +kernel) (by decide +kernel) ⟨rfl, rfl, rfl, rfl, rfl, by decide +kernel⟩ ?hw ?hc
  case hw => w_witness2
  k_fill
  refine Mine.walk (l := PySem.Challenge.rw_stackwarden_k34_goings_on_and_budget) rfl rfl (fun w h Y => PySem.W.kIn_of Y) ?F
  case F =>
    intro w mg fa h KX G hmg
    refine' Mine.all_mk KX G hmg ?ye ?yf ?yg ?yh ?yi ?yj ?yk ?j8 ?og ?jy ?jz ?gr ?ym ?yn ?yo ?yp ?yq ?yr ?yt ?j9 ?kb ?g8 ?kc ?ke ?lS ?kf ?hJ ?jA ?jB ?kg ?gu ?gw ?eI ?iN ?eJ ?cZ ?dq ?dQ ?iO ?iP ?kh ?ki ?hZ ?fw ?gx ?rm ?rn ?rp ?rq ?rz ?rA ?rB ?iQ ?iR ?fz ?iS ?iT ?jC ?iU ?fA ?ia ?ib ?iV ?eK ?eL ?dr ?gy ?du ?cK ?cS ?c0 ?gz ?gA ?iW ?iX ?fB ?dR ?eM ?d0 ?d1 ?d2 ?d3 ?d4 ?d5 ?d6 ?d7 ?d8 ?d9 ?d10 ?l11 ?l12 ?l13 ?l14 ?l15 ?d16 ?d17 ?l18 ?l19 ?l20 ?l21 ?d22 ?l23 ?l24 ?l25 ?l26 ?d27 ?l28 ?l29 ?l30 ?d31 ?d32 ?d33 ?d34 ?l35 ?l36 ?l37 ?l38 ?d39 ?d40 ?d41 ?d42 ?d43 ?d44 ?l45 ?l46 ?l47 ?d48 ?d49 ?d50 ?d51 ?l52 ?d53 ?l54 ?l55 ?l56 ?l57 ?d58 ?d59 ?a60 ?l60 ?c60 ?k60 ?uC ?xU ?tE ?tF ?m9 ?kC ?lT ?lU ?lV ?lW ?lX ?lZ ?md ?me ?mf ?mh ?mi ?oh ?oi ?om ?oo ?oq ?ou ?ow ?ox ?oy ?oz ?oA ?oB ?oC ?oE ?oF ?oG ?oH ?oJ ?oK ?oM ?oN ?oO ?oP ?oQ ?oR ?oS ?oT ?oU ?oV ?oW ?oX ?rC ?rD ?sZ ?kD ?xX ?uI ?uJ ?gp ?dU ?iG ?eV ?CQ ?x9 ?cY ?bX ?cq ?Ct ?Cu ?ja ?tD ?CO
    (case ye => k_is)
    (case yf => k_is)
    (case yg => k_is)
    (case yh => k_is)
    (case yi => k_is)
    (case yj => k_is)
    (case yk => k_is)
    (case j8 => k_is)
    (case og => k_is)
    (case jy => k_is)
    (case jz => k_is)
    (case gr => k_is)
    (case ym => k_is)
    (case yn => k_is)
    (case yo => k_is)
    (case yp => k_is)
    (case yq => k_is)
    (case yr => k_is)
    (case yt => k_is)
    (case j9 => k_is)
    (case kb => k_is)
    (case g8 => k_is)
    (case kc => k_is)
    (case ke => k_is)
    (case lS => k_is)
    (case kf => k_is)
    (case hJ => k_is)
    (case jA => k_is)
    (case jB => k_is)
    (case kg => k_is)
    (case gu => k_is)
    (case gw => k_is)
    (case eI => k_is)
    (case iN => k_is)
    (case eJ => k_is)
    (case cZ => k_is)
    (case dq => k_is)
    (case dQ => k_is)
    (case iO => k_is)
    (case iP => k_is)
    (case kh => k_is)
    (case ki => k_is)
    (case hZ => k_is)
    (case fw => k_is)
    (case gx => k_is)
    (case rm => k_is)
    (case rn => k_is)
    (case rp => k_is)
    (case rq => k_is)
    (case rz => k_is)
    (case rA => k_is)
    (case rB => k_is)
    (case iQ => k_is)
    (case iR => k_is)
    (case fz => k_is)
    (case iS => k_is)
    (case iT => k_is)
    (case jC => k_is)
    (case iU => k_is)
    (case fA => k_is)
    (case ia => k_is)
    (case ib => k_is)
    (case iV => k_is)
    (case eK => k_is)
    (case eL => k_is)
    (case dr => k_is)
    (case gy => k_is)
    (case du => k_is)
    (case cK => k_is)
    (case cS => k_is)
    (case c0 => k_is)
    (case gz => k_is)
    (case gA => k_is)
    (case iW => k_is)
    (case iX => k_is)
    (case fB => k_is)
    (case dR => k_is)
    (case eM => k_is)
    (case d0 => walk_at "dk")
    (case d1 => walk_at "dk")
    (case d2 => walk_at "dk")
    (case d3 => walk_at "dk")
    (case d4 => walk_at "dk")
    (case d5 => walk_at "dk")
    (case d6 => walk_at "dk")
    (case d7 => walk_at "dk")
    (case d8 => walk_at "dk")
    (case d9 => walk_at "dk")
    (case d10 => walk_at "dk")
    (case l11 => walk_at "mk")
    (case l12 => walk_at "mk")
    (case l13 => walk_at "mk")
    (case l14 => walk_at "mk")
    (case l15 => walk_at "mk")
    (case d16 => walk_at "dk")
    (case d17 => walk_at "dk")
    (case l18 => walk_at "mk")
    (case l19 => walk_at "mk")
    (case l20 => walk_at "mk")
    (case l21 => walk_at "mk")
    (case d22 => walk_at "dk")
    (case l23 => walk_at "mk")
    (case l24 => walk_at "mk")
    (case l25 => walk_at "mk")
    (case l26 => walk_at "mk")
    (case d27 => walk_at "dk")
    (case l28 => walk_at "mk")
    (case l29 => walk_at "mk")
    (case l30 => walk_at "mk")
    (case d31 => walk_at "dk")
    (case d32 => walk_at "dk")
    (case d33 => walk_at "dk")
    (case d34 => walk_at "dk")
    (case l35 => walk_at "mk")
    (case l36 => walk_at "mk")
    (case l37 => walk_at "mk")
    (case l38 => walk_at "mk")
    (case d39 => walk_at "dk")
    (case d40 => walk_at "dk")
    (case d41 => walk_at "dk")
    (case d42 => walk_at "dk")
    (case d43 => walk_at "dk")
    (case d44 => walk_at "dk")
    (case l45 => walk_at "mk")
    (case l46 => walk_at "mk")
    (case l47 => walk_at "mk")
    (case d48 => walk_at "dk")
    (case d49 => walk_at "dk")
    (case d50 => walk_at "dk")
    (case d51 => walk_at "dk")
    (case l52 => walk_at "mk")
    (case d53 => walk_at "dk")
    (case l54 => walk_at "mk")
    (case l55 => walk_at "mk")
    (case l56 => walk_at "mk")
    (case l57 => walk_at "mk")
    (case d58 => walk_at "dk")
    (case d59 => walk_at "dk")
    (case a60 => k_is)
    (case l60 => k_is)
    (case c60 => k_is)
    (case k60 => k_is)
    (case uC => k_is)
    (case xU => k_is)
    (case tE => refine L2.El ?_ ?_ ?_ ?_ ?_ ?_ <;> first | (show _ = some true; kit_is) | (show _ = some false; kit_is))
    (case tF => refine L2.El ?_ ?_ ?_ ?_ ?_ ?_ <;> first | (show _ = some true; kit_is) | (show _ = some false; kit_is))
    (case m9 => refine L2.El ?_ ?_ ?_ ?_ ?_ ?_ <;> first | (show _ = some true; kit_is) | (show _ = some false; kit_is))
    (case kC => k_is)
    (case lT => first | rfl | decide | k_is)
    (case lU => k_is)
    (case lV => k_is)
    (case lW => k_is)
    (case lX => k_is)
    (case lZ => k_is)
    (case md => k_is)
    (case me => k_is)
    (case mf => k_is)
    (case mh => k_is)
    (case mi => k_is)
    (case oh => k_is)
    (case oi => k_is)
    (case om => k_is)
    (case oo => k_is)
    (case oq => k_is)
    (case ou => k_is)
    (case ow => k_is)
    (case ox => k_is)
    (case oy => k_is)
    (case oz => k_is)
    (case oA => k_is)
    (case oB => k_is)
    (case oC => k_is)
    (case oE => k_is)
    (case oF => k_is)
    (case oG => k_is)
    (case oH => k_is)
    (case oJ => k_is)
    (case oK => k_is)
    (case oM => k_is)
    (case oN => k_is)
    (case oO => k_is)
    (case oP => k_is)
    (case oQ => k_is)
    (case oR => k_is)
    (case oS => k_is)
    (case oT => k_is)
    (case oU => k_is)
    (case oV => k_is)
    (case oW => k_is)
    (case oX => k_is)
    (case rC => k_is)
    (case rD => k_is)
    (case sZ => k_is)
    (case kD => k_is)
    (case xX => k_is)
    (case uI => first | rfl | decide | k_is)
    (case uJ => k_is)
    (case gp => k_is)
    (case dU => k_is)
    (case iG => k_is)
    (case eV => k_is)
    (case CQ => k_is)
    (case x9 => k_is)
    (case cY => k_is)
    (case bX => k_is)
    (case cq => k_is)
    (case Ct => k_is)
    (case Cu => k_is)
    (case ja => k_is)
    (case tD => k_is)
    (case CO => k_is)
#print axioms PySem.Challenge.cw_stackwarden_k34_goings_on_and_budget_holds
